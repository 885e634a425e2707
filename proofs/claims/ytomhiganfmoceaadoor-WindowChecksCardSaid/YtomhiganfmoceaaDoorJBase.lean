/-
  The calls of a scheme that search nothing: greatest, begin, Check, Count, Has, Window.
-/
import Derived.Test.YtomhiganfmoceaaDoorJMath
import Derived.Test.YtomhiganfmoceaaDoorCMonth
import Derived.Lib.QuietBelow
namespace Go.Proofs.YtomhiganfmoceaaDoor
open Go.RowKit Go.Sort CM JM

/-- A scheme as a value. -/
abbrev vS (k a z : Int) : Value := .agg #[.int .i64 k, .int .i64 a, .int .i64 z]
theorem box_cells (w : World) (k a z : Int) : (w.alloc (.cells #[.int .i64 k, .int .i64 a, .int .i64 z] 25)).cell? ⟨w.heap.size, 0, none⟩ = some (.int .i64 k) ∧ (w.alloc (.cells #[.int .i64 k, .int .i64 a, .int .i64 z] 25)).cell? ⟨w.heap.size, 1, none⟩ = some (.int .i64 a) ∧ (w.alloc (.cells #[.int .i64 k, .int .i64 a, .int .i64 z] 25)).cell? ⟨w.heap.size, 2, none⟩ = some (.int .i64 z) := by
  refine ⟨?_, ?_, ?_⟩ <;> simp
theorem box_below (w : World) (k a z : Int) : Below w.heap.size w (w.alloc (.cells #[.int .i64 k, .int .i64 a, .int .i64 z] 25)) := (Below.refl _ _).alloc (Nat.le_refl _) _

theorem greatest_any (k : Int) (w : World) (hM : Mon w) : Calls Tryd.prog 39 #[.int .i64 k] w fun e w' => e = .returned (.int .i64 (grt k)) ∧ Below w.heap.size w w' := by
  have HB0 := hide (Below.refl w.heap.size w)
  have HMo := month_yes 2147483647 w (by omega) (by omega) hM
  rw [mth_last] at HMo
  have H := hide HMo
  clear hM HMo
  by_cases h1 : k = 1
  · subst h1
    go_enter Tryd.func39, Tryd.ntmps39
    go_wp2_with fail
    go_ret
    exact ⟨rfl, HB0.out⟩
  by_cases h2 : k = 2
  · subst h2
    go_enter Tryd.func39, Tryd.ntmps39
    go_wp2_with fail
    go_ret
    exact ⟨rfl, HB0.out⟩
  by_cases h3 : k = 3
  · subst h3
    go_enter Tryd.func39, Tryd.ntmps39
    go_wp2_with fail
    go_ret
    exact ⟨rfl, HB0.out⟩
  by_cases h4 : k = 4
  · subst h4
    go_enter Tryd.func39, Tryd.ntmps39
    go_wp2_with fail
    refine H.out.mono ?_
    rintro e w1 ⟨rfl, hb⟩
    have HB := hide hb
    clear hb
    go_wp2_with fail
    go_ret
    exact ⟨rfl, HB.out⟩
  by_cases h5 : k = 5
  · subst h5
    go_enter Tryd.func39, Tryd.ntmps39
    go_wp2_with fail
    go_ret
    exact ⟨rfl, HB0.out⟩
  · have HG : Hid (grt k = -1) := hide (by unfold grt; rw [if_neg h1, if_neg h2, if_neg h3, if_neg h4, if_neg h5])
    go_enter Tryd.func39, Tryd.ntmps39
    go_wp2_with fail
    go_ret
    exact ⟨ret_int HG.out.symm, HB0.out⟩
theorem begin_any (k i : Int) (w : World) (hM : Mon w) (h0 : 0 ≤ i) (hi : i ≤ grt k + 1) : Calls Tryd.prog 42 #[.int .i64 k, .int .i64 i] w fun e w' => e = .returned (.int .i64 (bg k i)) ∧ Below w.heap.size w w' := by
  have HB0 := hide (Below.refl w.heap.size w)
  have hh := grt_hi k
  have hi2 : i ≤ 40000000 := by omega
  have HMs : Hid (k = 4 → Calls Tryd.prog 53 #[.int .i64 i] w fun e w' => e = .returned (.int .i64 (mst i)) ∧ Below w.heap.size w w') := hide (by
    rintro rfl
    have e : grt 4 = 48995 := rfl
    exact mst_yes i w h0 (by omega) hM)
  clear hM hi hh
  by_cases h1 : k = 1
  · subst h1
    clear HMs
    go_enter Tryd.func42, Tryd.ntmps42
    go_wp2_with fail
    go_ret
    exact ⟨ret_int (by show _ = 60 * i; omega), HB0.out⟩
  by_cases h2 : k = 2
  · subst h2
    clear HMs
    go_enter Tryd.func42, Tryd.ntmps42
    go_wp2_with fail
    go_ret
    exact ⟨ret_int (by show _ = 1440 * i; omega), HB0.out⟩
  by_cases h3 : k = 3
  · subst h3
    clear HMs
    go_enter Tryd.func42, Tryd.ntmps42
    go_wp2_with fail
    go_ret
    exact ⟨ret_int (by show _ = 2880 + 10080 * i; omega), HB0.out⟩
  by_cases h4 : k = 4
  · subst h4
    have H := hide (HMs.out rfl)
    clear HMs
    go_enter Tryd.func42, Tryd.ntmps42
    go_wp2_with fail
    refine H.out.mono ?_
    rintro e w1 ⟨rfl, hb⟩
    have HB := hide hb
    clear hb
    go_wp2_with fail
    go_ret
    exact ⟨rfl, HB.out⟩
  · have HG : Hid (bg k i = 0) := hide (by unfold bg; rw [if_neg h1, if_neg h2, if_neg h3, if_neg h4])
    clear HMs
    go_enter Tryd.func42, Tryd.ntmps42
    go_wp2_with fail
    go_ret
    exact ⟨ret_int HG.out.symm, HB0.out⟩
/-- What Check tells. -/
def chE (k a z : Int) : Int := if okS k a z = true then 0 else 54
theorem chE_yes {k a z : Int} (h : okS k a z = true) : chE k a z = 0 := if_pos h
theorem chE_no {k a z : Int} (h : okS k a z = false) : chE k a z = 54 := if_neg (by rw [h]; simp)
set_option maxHeartbeats 4000000 in
set_option maxRecDepth 100000 in
theorem check_neg (k a z g : Int) (w : World) (hM : Mon w) (_ : z ≤ 9223372036854775807) (hG : ∀ w, Mon w → Calls Tryd.prog 39 #[.int .i64 k] w fun e w' => e = .returned (.int .i64 g) ∧ Below w.heap.size w w')
    (h0 : a < 0) : Calls Tryd.prog 23 #[vS k a z] w fun e w' => e = .returned (.int .i64 54) ∧ Below w.heap.size w w' := by
  have HG := hide hG
  have HMb : Hid (∀ dn os, Mon (grow (redrawn (w.alloc (.cells #[.int .i64 k, .int .i64 a, .int .i64 z] 25)) dn) os)) := hide fun dn os => hM.on ((box_below w k a z).trans ((below_regrown _ dn os).mono (box_below w k a z).size))
  have HB0 := hide (box_below w k a z)
  have r0 := fun dn os => cell_regrown (box_cells w k a z).1 dn os
  have r1 := fun dn os => cell_regrown (box_cells w k a z).2.1 dn os
  have r2 := fun dn os => cell_regrown (box_cells w k a z).2.2 dn os
  have k0 : decide (a < 0) = true := by simp; omega
  clear hM hG
  go_enter Tryd.func23, Tryd.ntmps23
  go_wp2_with fail
  refine wp_region_quiet_below (by kernel_rfl) (by kernel_rfl) ?_
  repeat (go_big_quiet_step (first
      | (go_at_call 39; with_reducible exact Calls.regrown_of (HG.out _ (HMb.out _ _)))))
  refine wpQuiet_nil ?_
  intro _ hw'
  obtain ⟨⟨dq, osq⟩, hw''⟩ := hw'
  subst hw''
  have HF := hide (HB0.out.trans ((below_regrown _ dq osq).mono HB0.out.size))
  clear r0 r1 r2
  go_wp2_with fail
  go_ret
  exact ⟨rfl, HF.out⟩
set_option maxHeartbeats 4000000 in
set_option maxRecDepth 100000 in
theorem check_turn (k a z g : Int) (w : World) (hM : Mon w) (_ : z ≤ 9223372036854775807) (hG : ∀ w, Mon w → Calls Tryd.prog 39 #[.int .i64 k] w fun e w' => e = .returned (.int .i64 g) ∧ Below w.heap.size w w')
    (h0 : 0 ≤ a) (h1 : z < a) : Calls Tryd.prog 23 #[vS k a z] w fun e w' => e = .returned (.int .i64 54) ∧ Below w.heap.size w w' := by
  have HG := hide hG
  have HMb : Hid (∀ dn os, Mon (grow (redrawn (w.alloc (.cells #[.int .i64 k, .int .i64 a, .int .i64 z] 25)) dn) os)) := hide fun dn os => hM.on ((box_below w k a z).trans ((below_regrown _ dn os).mono (box_below w k a z).size))
  have HB0 := hide (box_below w k a z)
  have r0 := fun dn os => cell_regrown (box_cells w k a z).1 dn os
  have r1 := fun dn os => cell_regrown (box_cells w k a z).2.1 dn os
  have r2 := fun dn os => cell_regrown (box_cells w k a z).2.2 dn os
  have k0 : decide (a < 0) = false := by simp; omega
  have k1 : decide (z < a) = true := by simp; omega
  clear hM hG
  go_enter Tryd.func23, Tryd.ntmps23
  go_wp2_with fail
  refine wp_region_quiet_below (by kernel_rfl) (by kernel_rfl) ?_
  repeat (go_big_quiet_step (first
      | (go_at_call 39; with_reducible exact Calls.regrown_of (HG.out _ (HMb.out _ _)))))
  refine wpQuiet_nil ?_
  intro _ hw'
  obtain ⟨⟨dq, osq⟩, hw''⟩ := hw'
  subst hw''
  have HF := hide (HB0.out.trans ((below_regrown _ dq osq).mono HB0.out.size))
  clear r0 r1 r2
  go_wp2_with fail
  go_ret
  exact ⟨rfl, HF.out⟩
set_option maxHeartbeats 4000000 in
set_option maxRecDepth 100000 in
theorem check_many (k a z g : Int) (w : World) (hM : Mon w) (_ : z ≤ 9223372036854775807) (hG : ∀ w, Mon w → Calls Tryd.prog 39 #[.int .i64 k] w fun e w' => e = .returned (.int .i64 g) ∧ Below w.heap.size w w')
    (h0 : 0 ≤ a) (h1 : a ≤ z) (h2 : 512 ≤ z - a) : Calls Tryd.prog 23 #[vS k a z] w fun e w' => e = .returned (.int .i64 54) ∧ Below w.heap.size w w' := by
  have HG := hide hG
  have HMb : Hid (∀ dn os, Mon (grow (redrawn (w.alloc (.cells #[.int .i64 k, .int .i64 a, .int .i64 z] 25)) dn) os)) := hide fun dn os => hM.on ((box_below w k a z).trans ((below_regrown _ dn os).mono (box_below w k a z).size))
  have HB0 := hide (box_below w k a z)
  have r0 := fun dn os => cell_regrown (box_cells w k a z).1 dn os
  have r1 := fun dn os => cell_regrown (box_cells w k a z).2.1 dn os
  have r2 := fun dn os => cell_regrown (box_cells w k a z).2.2 dn os
  have k0 : decide (a < 0) = false := by simp; omega
  have k1 : decide (z < a) = false := by simp; omega
  have k2 : decide (512 ≤ z - a) = true := by simp; omega
  clear hM hG
  go_enter Tryd.func23, Tryd.ntmps23
  go_wp2_with fail
  refine wp_region_quiet_below (by kernel_rfl) (by kernel_rfl) ?_
  repeat (go_big_quiet_step (first
      | (go_at_call 39; with_reducible exact Calls.regrown_of (HG.out _ (HMb.out _ _)))))
  refine wpQuiet_nil ?_
  intro _ hw'
  obtain ⟨⟨dq, osq⟩, hw''⟩ := hw'
  subst hw''
  have HF := hide (HB0.out.trans ((below_regrown _ dq osq).mono HB0.out.size))
  clear r0 r1 r2
  go_wp2_with fail
  go_ret
  exact ⟨rfl, HF.out⟩
set_option maxHeartbeats 4000000 in
set_option maxRecDepth 100000 in
theorem check_far (k a z g : Int) (w : World) (hM : Mon w) (_ : z ≤ 9223372036854775807) (hG : ∀ w, Mon w → Calls Tryd.prog 39 #[.int .i64 k] w fun e w' => e = .returned (.int .i64 g) ∧ Below w.heap.size w w')
    (h0 : 0 ≤ a) (h1 : a ≤ z) (h2 : z - a < 512) (h3 : g < z) : Calls Tryd.prog 23 #[vS k a z] w fun e w' => e = .returned (.int .i64 54) ∧ Below w.heap.size w w' := by
  have HG := hide hG
  have HMb : Hid (∀ dn os, Mon (grow (redrawn (w.alloc (.cells #[.int .i64 k, .int .i64 a, .int .i64 z] 25)) dn) os)) := hide fun dn os => hM.on ((box_below w k a z).trans ((below_regrown _ dn os).mono (box_below w k a z).size))
  have HB0 := hide (box_below w k a z)
  have r0 := fun dn os => cell_regrown (box_cells w k a z).1 dn os
  have r1 := fun dn os => cell_regrown (box_cells w k a z).2.1 dn os
  have r2 := fun dn os => cell_regrown (box_cells w k a z).2.2 dn os
  have k0 : decide (a < 0) = false := by simp; omega
  have k1 : decide (z < a) = false := by simp; omega
  have k2 : decide (512 ≤ z - a) = false := by simp; omega
  have k3 : decide (g < z) = true := by simp; omega
  clear hM hG
  go_enter Tryd.func23, Tryd.ntmps23
  go_wp2_with fail
  refine wp_region_quiet_below (by kernel_rfl) (by kernel_rfl) ?_
  repeat (go_big_quiet_step (first
      | (go_at_call 39; with_reducible exact Calls.regrown_of (HG.out _ (HMb.out _ _)))))
  refine wpQuiet_nil ?_
  intro _ hw'
  obtain ⟨⟨dq, osq⟩, hw''⟩ := hw'
  subst hw''
  have HF := hide (HB0.out.trans ((below_regrown _ dq osq).mono HB0.out.size))
  clear r0 r1 r2
  go_wp2_with fail
  go_ret
  exact ⟨rfl, HF.out⟩
set_option maxHeartbeats 4000000 in
set_option maxRecDepth 100000 in
theorem check_ok (k a z g : Int) (w : World) (hM : Mon w) (_ : z ≤ 9223372036854775807) (hG : ∀ w, Mon w → Calls Tryd.prog 39 #[.int .i64 k] w fun e w' => e = .returned (.int .i64 g) ∧ Below w.heap.size w w')
    (h0 : 0 ≤ a) (h1 : a ≤ z) (h2 : z - a < 512) (h3 : z ≤ g) : Calls Tryd.prog 23 #[vS k a z] w fun e w' => e = .returned (.int .i64 0) ∧ Below w.heap.size w w' := by
  have HG := hide hG
  have HMb : Hid (∀ dn os, Mon (grow (redrawn (w.alloc (.cells #[.int .i64 k, .int .i64 a, .int .i64 z] 25)) dn) os)) := hide fun dn os => hM.on ((box_below w k a z).trans ((below_regrown _ dn os).mono (box_below w k a z).size))
  have HB0 := hide (box_below w k a z)
  have r0 := fun dn os => cell_regrown (box_cells w k a z).1 dn os
  have r1 := fun dn os => cell_regrown (box_cells w k a z).2.1 dn os
  have r2 := fun dn os => cell_regrown (box_cells w k a z).2.2 dn os
  have k0 : decide (a < 0) = false := by simp; omega
  have k1 : decide (z < a) = false := by simp; omega
  have k2 : decide (512 ≤ z - a) = false := by simp; omega
  have k3 : decide (g < z) = false := by simp; omega
  clear hM hG
  go_enter Tryd.func23, Tryd.ntmps23
  go_wp2_with fail
  refine wp_region_quiet_below (by kernel_rfl) (by kernel_rfl) ?_
  repeat (go_big_quiet_step (first
      | (go_at_call 39; with_reducible exact Calls.regrown_of (HG.out _ (HMb.out _ _)))))
  refine wpQuiet_nil ?_
  intro _ hw'
  obtain ⟨⟨dq, osq⟩, hw''⟩ := hw'
  subst hw''
  have HF := hide (HB0.out.trans ((below_regrown _ dq osq).mono HB0.out.size))
  clear r0 r1 r2
  go_wp2_with fail
  go_ret
  exact ⟨rfl, HF.out⟩
theorem check_any (k a z : Int) (w : World) (hM : Mon w) (hz : z ≤ 9223372036854775807) : Calls Tryd.prog 23 #[vS k a z] w fun e w' => e = .returned (.int .i64 (chE k a z)) ∧ Below w.heap.size w w' := by
  have hG := fun w (h : Mon w) => greatest_any k w h
  have no : (¬ (0 ≤ a ∧ a ≤ z ∧ z - a ≤ 511 ∧ z ≤ grt k)) → chE k a z = 54 := fun h => chE_no (by rw [← Bool.not_eq_true, okS_iff]; exact h)
  by_cases h0 : a < 0
  · rw [no (by omega)]; exact check_neg k a z _ w hM hz hG h0
  by_cases h1 : z < a
  · rw [no (by omega)]; exact check_turn k a z _ w hM hz hG (by omega) h1
  by_cases h2 : 512 ≤ z - a
  · rw [no (by omega)]; exact check_many k a z _ w hM hz hG (by omega) (by omega) h2
  by_cases h3 : grt k < z
  · rw [no (by omega)]; exact check_far k a z _ w hM hz hG (by omega) (by omega) (by omega) h3
  · rw [chE_yes (okS_iff.2 (by omega))]; exact check_ok k a z _ w hM hz hG (by omega) (by omega) (by omega) (by omega)
/-- How many partitions there are. -/
def cntS (k a z : Int) : Int := if okS k a z = true then z - a + 1 else 0
theorem box_stays {w w1 : World} {k a z : Int} (hb : Below (w.alloc (.cells #[.int .i64 k, .int .i64 a, .int .i64 z] 25)).heap.size (w.alloc (.cells #[.int .i64 k, .int .i64 a, .int .i64 z] 25)) w1) : (w1.cell? ⟨w.heap.size, 0, none⟩ = some (.int .i64 k) ∧ w1.cell? ⟨w.heap.size, 1, none⟩ = some (.int .i64 a) ∧ w1.cell? ⟨w.heap.size, 2, none⟩ = some (.int .i64 z)) ∧ w.heap.size < w1.heap.size := by
  have hs : w.heap.size < w1.heap.size := by have := hb.size; simp at this; omega
  obtain ⟨c0, c1, c2⟩ := box_cells w k a z
  exact ⟨⟨(hb.cell (p := ⟨w.heap.size, 0, none⟩) (by simp)).trans c0, (hb.cell (p := ⟨w.heap.size, 1, none⟩) (by simp)).trans c1, (hb.cell (p := ⟨w.heap.size, 2, none⟩) (by simp)).trans c2⟩, hs⟩
set_option maxHeartbeats 1000000 in
theorem count_any (k a z : Int) (w : World) (hM : Mon w) (hz : z ≤ 9223372036854775807) : Calls Tryd.prog 33 #[vS k a z] w fun e w' => e = .returned (.int .i64 (cntS k a z)) ∧ Below w.heap.size w w' := by
  have HC := hide (check_any k a z (w.alloc (.cells #[.int .i64 k, .int .i64 a, .int .i64 z] 25)) (hM.on (box_below w k a z)) hz)
  have HB0 := hide (box_below w k a z)
  clear hM
  go_enter Tryd.func33, Tryd.ntmps33
  go_wp2_with fail
  refine HC.out.mono ?_
  rintro e w1 ⟨rfl, hb⟩
  obtain ⟨⟨c0, c1, c2⟩, hs⟩ := box_stays hb
  have HB := hide (HB0.out.trans (hb.mono HB0.out.size))
  clear hb
  cases hq : okS k a z
  · have HR : Hid (cntS k a z = 0) := hide (if_neg (by rw [hq]; simp))
    rw [chE_no hq]
    clear hq
    go_wp2_with fail
    go_ret
    exact ⟨ret_int HR.out.symm, HB.out⟩
  · have HR : Hid (cntS k a z = z - a + 1) := hide (if_pos hq)
    have hbd := ok_bd hq
    rw [chE_yes hq]
    clear hq
    obtain ⟨b0, b1, b2, b3⟩ := hbd
    go_wp2_with fail
    go_ret
    exact ⟨ret_int HR.out.symm, HB.out⟩
/-- Is it a partition? -/
def hasB (k a z i : Int) : Bool := okS k a z && decide (a ≤ i) && decide (i ≤ z)
theorem hasB_iff {k a z i : Int} : hasB k a z i = true ↔ okS k a z = true ∧ a ≤ i ∧ i ≤ z := by unfold hasB; simp [and_assoc]
set_option maxHeartbeats 1000000 in
theorem has_any' (k a z i : Int) (w : World) (hM : Mon w) (hz : z ≤ 9223372036854775807) : Calls Tryd.prog 17 #[vS k a z, .int .i64 i] w fun e w' => e = .returned (.bool (hasB k a z i)) ∧ Below w.heap.size w w' := by
  have HC := hide (check_any k a z (w.alloc (.cells #[.int .i64 k, .int .i64 a, .int .i64 z] 25)) (hM.on (box_below w k a z)) hz)
  have HB0 := hide (box_below w k a z)
  clear hM
  go_enter Tryd.func17, Tryd.ntmps17
  go_wp2_with fail
  refine HC.out.mono ?_
  rintro e w1 ⟨rfl, hb⟩
  obtain ⟨⟨c0, c1, c2⟩, hs⟩ := box_stays hb
  have HB := hide (HB0.out.trans (hb.mono HB0.out.size))
  clear hb
  cases hq : okS k a z
  · have HR : Hid (hasB k a z i = false) := hide (by unfold hasB; rw [hq]; rfl)
    rw [chE_no hq]
    clear hq
    go_wp2_with fail
    go_ret
    exact ⟨ret_bool HR.out.symm, HB.out⟩
  · rw [chE_yes hq]
    by_cases h1 : a ≤ i
    · have HR : Hid (hasB k a z i = decide (i ≤ z)) := hide (by unfold hasB; rw [hq, decide_eq_true h1]; rfl)
      clear hq
      by_cases h2 : i ≤ z
      · go_wp2_with fail
        go_ret
        exact ⟨ret_bool (by rw [HR.out, decide_eq_true h2]), HB.out⟩
      · go_wp2_with fail
        go_ret
        exact ⟨ret_bool (by rw [HR.out, decide_eq_false (Int.not_le.2 h2)]), HB.out⟩
    · have HR : Hid (hasB k a z i = false) := hide (by unfold hasB; rw [decide_eq_false h1]; simp)
      clear hq
      go_wp2_with fail
      go_ret
      exact ⟨ret_bool HR.out.symm, HB.out⟩
end Go.Proofs.YtomhiganfmoceaaDoor
