/-
  The calls of a mapping that ask no list: formed, hasWindows, relates, Check, distances.
-/
import Derived.Test.YtomhiganfmoceaaDoorWMath
import Derived.Test.YtomhiganfmoceaaDoorJLaw
namespace Go.Proofs.YtomhiganfmoceaaDoor
open Go.RowKit Go.Sort CM JM WM

/-- A mapping as a value. -/
abbrev vM (k n : Int) : Value := .agg #[.int .i64 k, .int .i64 n]
abbrev mBox (w : World) (k n : Int) : World := w.alloc (.cells #[.int .i64 k, .int .i64 n] 23)
abbrev sBox (w : World) (k a z : Int) : World := w.alloc (.cells #[.int .i64 k, .int .i64 a, .int .i64 z] 25)
theorem mbox_below (w : World) (k n : Int) : Below w.heap.size w (mBox w k n) := (Below.refl _ _).alloc (Nat.le_refl _) _
set_option maxHeartbeats 2000000 in
theorem formed_any (k n : Int) (w : World) : Calls Tryd.prog 22 #[vM k n] w fun e w' => e = .returned (.bool (formB k n)) ∧ Below w.heap.size w w' := by
  have HB0 := hide (mbox_below w k n)
  by_cases h1 : k = 1
  · subst h1
    have HE : Hid (∀ b : Bool, (b = true ↔ n = 0) → b = formB 1 n) := hide fun b h => by rw [Bool.eq_iff_iff, h, formB_iff]; omega
    go_enter Tryd.func22, Tryd.ntmps22
    go_wp2_with fail
    go_ret
    exact ⟨ret_bool (HE.out _ (by simp)), HB0.out⟩
  by_cases h4 : k = 4
  · subst h4
    have HE : Hid (∀ b : Bool, (b = true ↔ n = 0) → b = formB 4 n) := hide fun b h => by rw [Bool.eq_iff_iff, h, formB_iff]; omega
    clear h1
    go_enter Tryd.func22, Tryd.ntmps22
    go_wp2_with fail
    go_ret
    exact ⟨ret_bool (HE.out _ (by simp)), HB0.out⟩
  by_cases h5 : k = 5
  · subst h5
    have HE : Hid (∀ b : Bool, (b = true ↔ n = 0) → b = formB 5 n) := hide fun b h => by rw [Bool.eq_iff_iff, h, formB_iff]; omega
    clear h1 h4
    go_enter Tryd.func22, Tryd.ntmps22
    go_wp2_with fail
    go_ret
    exact ⟨ret_bool (HE.out _ (by simp)), HB0.out⟩
  by_cases h2 : k = 2
  · subst h2
    clear h1 h4 h5
    have HE : Hid (∀ b : Bool, (b = true ↔ 1 ≤ n ∧ n ≤ 512) → b = formB 2 n) := hide fun b h => by rw [Bool.eq_iff_iff, h, formB_iff]; omega
    by_cases g1 : 1 ≤ n
    · go_enter Tryd.func22, Tryd.ntmps22
      go_wp2_with fail
      go_ret
      exact ⟨ret_bool (HE.out _ (by simp; try omega)), HB0.out⟩
    · go_enter Tryd.func22, Tryd.ntmps22
      go_wp2_with fail
      go_ret
      exact ⟨ret_bool (HE.out _ (by simp; try omega)), HB0.out⟩
  by_cases h3 : k = 3
  · subst h3
    clear h1 h4 h5 h2
    have HE : Hid (∀ b : Bool, (b = true ↔ -512 ≤ n ∧ n ≤ 512 ∧ n ≠ 0) → b = formB 3 n) := hide fun b h => by rw [Bool.eq_iff_iff, h, formB_iff]; omega
    by_cases g1 : -512 ≤ n
    · by_cases g2 : n ≤ 512
      · go_enter Tryd.func22, Tryd.ntmps22
        go_wp2_with fail
        go_ret
        exact ⟨ret_bool (HE.out _ (by simp; try omega)), HB0.out⟩
      · go_enter Tryd.func22, Tryd.ntmps22
        go_wp2_with fail
        go_ret
        exact ⟨ret_bool (HE.out _ (by simp; try omega)), HB0.out⟩
    · go_enter Tryd.func22, Tryd.ntmps22
      go_wp2_with fail
      go_ret
      exact ⟨ret_bool (HE.out _ (by simp; try omega)), HB0.out⟩
  · have HE : Hid (false = formB k n) := hide (by
      have h : ¬ (formB k n = true) := by rw [formB_iff]; omega
      cases hf : formB k n
      · rfl
      · exact absurd hf h)
    go_enter Tryd.func22, Tryd.ntmps22
    go_wp2_with fail
    go_ret
    exact ⟨ret_bool HE.out, HB0.out⟩
theorem hasWindows_any (k a z : Int) (w : World) (hM : Mon w) (hz : z ≤ 9223372036854775807) (hok : okS k a z = true) : Calls Tryd.prog 40 #[vS k a z] w fun e w' => e = .returned (.bool (decide (k ≠ 5))) ∧ Below w.heap.size w w' := by
  have hh : hasB k a z a = true := hasB_iff.2 ⟨hok, Int.le_refl _, (okS_iff.1 hok).2.1⟩
  have HB0 := hide (box_below w k a z)
  have HW := window_any k a z a (sBox w k a z) (hM.on HB0.out) hz
  by_cases h5 : k = 5
  · rw [winV_5 hh h5] at HW
    have H := hide HW
    have HE : Hid (false = decide (k ≠ 5)) := hide (by simp [h5])
    clear hM hok hh h5 HW
    go_enter Tryd.func40, Tryd.ntmps40
    go_wp2_with fail
    refine H.out.mono ?_
    rintro e w1 ⟨rfl, hb⟩
    have HB := hide (HB0.out.trans (hb.mono HB0.out.size))
    clear hb
    go_wp2_with fail
    go_ret
    exact ⟨ret_bool HE.out, HB.out⟩
  · rw [winV_yes hh h5] at HW
    have H := hide HW
    have HE : Hid (true = decide (k ≠ 5)) := hide (by simp [h5])
    clear hM hok hh h5 HW
    generalize bg k a = P at *
    generalize bg k (a + 1) = Q at *
    go_enter Tryd.func40, Tryd.ntmps40
    go_wp2_with fail
    refine H.out.mono ?_
    rintro e w1 ⟨rfl, hb⟩
    have HB := hide (HB0.out.trans (hb.mono HB0.out.size))
    clear hb
    go_wp2_with fail
    go_ret
    exact ⟨ret_bool HE.out, HB.out⟩
theorem distances_any (k n : Int) (w : World) (_ : -512 ≤ n) (_ : n ≤ 512) : Calls Tryd.prog 30 #[vM k n] w fun e w' => e = .returned (.tuple #[.int .i64 (distL k n), .int .i64 (distM k n)]) ∧ Below w.heap.size w w' := by
  have HB0 := hide (mbox_below w k n)
  have q0 : (mBox w k n).cell? ⟨w.heap.size, 0, none⟩ = some (.int .i64 k) ∧ (mBox w k n).cell? ⟨w.heap.size, 1, none⟩ = some (.int .i64 n) := by constructor <;> simp
  have r1 := fun dn os => cell_regrown q0.2 dn os
  have HQ := hide q0
  clear q0
  by_cases h2 : k = 2
  · subst h2
    clear r1
    go_enter Tryd.func30, Tryd.ntmps30
    go_wp2_with fail
    go_ret2
    exact ⟨rfl, HB0.out⟩
  by_cases h3 : k = 3
  · subst h3
    clear h2
    go_enter Tryd.func30, Tryd.ntmps30
    go_wp2_with fail
    refine wp_region_quiet_below (by kernel_rfl) (by kernel_rfl) ?_
    repeat (go_big_quiet_step (fail))
    refine wpQuiet_nil ?_
    intro _ hw'
    obtain ⟨⟨dq, osq⟩, hw''⟩ := hw'
    subst hw''
    have HF := hide (HB0.out.trans ((below_regrown _ dq osq).mono HB0.out.size))
    clear r1
    go_wp2_with fail
    go_ret2
    exact ⟨rfl, HF.out⟩
  · have HE : Hid (distL k n = 0 ∧ distM k n = 0) := hide (by unfold distL distM; rw [if_neg h2, if_neg h3]; exact ⟨rfl, rfl⟩)
    clear r1
    go_enter Tryd.func30, Tryd.ntmps30
    go_wp2_with fail
    go_ret2
    exact ⟨by rw [HE.out.1, HE.out.2]; rfl, HB0.out⟩
end Go.Proofs.YtomhiganfmoceaaDoor
