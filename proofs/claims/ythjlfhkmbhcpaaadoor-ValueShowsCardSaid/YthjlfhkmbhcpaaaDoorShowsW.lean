/-
  The walk of ValueShows.
-/
import Derived.Test.YthjlfhkmbhcpaaaDoorOps
import Derived.Test.YthjlfhkmbhcpaaaDoorParse
namespace Go.Proofs.YthjlfhkmbhcpaaaDoor.valueShows
open Go.RowKit

abbrev Done (k n : Int) (s : ByteArray) (w : World) : Prop :=
  Calls Tryd.prog 4 #[vVal k n s] w fun e w' => e = .returned (.bool true) ∧ Below w.heap.size w w'

theorem long (k n : Int) (s : ByteArray) (w : World) (ht : Tab w) (h : 200 < (s.size : Int)) : Done k n s w := by
  have HT := Lib.hid ht; clear ht
  go_enter Tryd.func4, Tryd.ntmps4
  go_wp2_with fail
  refine (awake_any _ (HT.out.stays (Joins.below_alloc1 w _) (Nat.le_refl _))).mono ?_
  rintro e wa ⟨rfl, hba⟩
  have qa : Below w.heap.size w wa := (Joins.below_alloc1 w _).trans (hba.mono (Joins.below_alloc1 w _).size)
  clear hba
  go_wp2_with fail
  go_ret
  exact ⟨rfl, qa⟩

set_option maxRecDepth 100000 in
set_option maxHeartbeats 2000000 in
theorem wrong (k n : Int) (s : ByteArray) (w : World) (ht : Tab w) (h : ¬ 200 < (s.size : Int)) (hn : I64 n) (hr : rightV k n s = false) : Done k n s w := by
  have e0 : showV k n s = [] := by unfold showV; rw [hr]; rfl
  have HSh : Hid (∀ w, Tab w → Calls Tryd.prog 20 #[vVal k n s] w fun e w' => e = .returned (.string ⟨#[]⟩) ∧ Below w.heap.size w w') := Lib.hid fun w ht => by
    have h := show_any k n s w (by unfold maxLen; omega) hn ht
    rw [e0] at h; exact h
  have HS := Lib.hid (show s.size ≤ maxLen by unfold maxLen; omega)
  have HT := Lib.hid ht; have HR := Lib.hid hr
  clear ht hr e0 hn
  go_enter Tryd.func4, Tryd.ntmps4
  go_wp2_with fail
  refine (HSh.out _ (HT.out.stays (Joins.below_alloc1 w _) (Nat.le_refl _))).mono ?_
  rintro e w1 ⟨rfl, hb1⟩
  obtain ⟨hc1, hf1⟩ := bcell hb1
  have q1 : Below w.heap.size w w1 := (Joins.below_alloc1 w _).trans (hb1.mono (by simp))
  have z1 : w.heap.size < w1.heap.size := by have := hb1.size; simp at this; omega
  clear hb1
  go_wp2_with fail
  refine (lawRight_any k n s _ HS.out).mono ?_
  rintro e w2 ⟨rfl, hb2⟩
  rw [HR.out]
  have q2 : Below w.heap.size w w2 := q1.trans (hb2.mono q1.size)
  clear hb2
  go_wp2_with fail
  refine (awake_any _ (HT.out.stays q2 (Nat.le_refl _))).mono ?_
  rintro e wa ⟨rfl, hba⟩
  have qa : Below w.heap.size w wa := q2.trans (hba.mono q2.size)
  clear hba
  go_wp2_with fail
  go_ret
  exact ⟨rfl, qa⟩

set_option maxRecDepth 100000 in
set_option maxHeartbeats 4000000 in
theorem valid (k n : Int) (s b : ByteArray) (w : World) (ht : Tab w) (h : ¬ 200 < (s.size : Int)) (hr : rightV k n s = true)
    (hSh : ∀ w, Tab w → Calls Tryd.prog 20 #[vVal k n s] w fun e w' => e = .returned (.string b) ∧ Below w.heap.size w w')
    (hPa : ∀ w, Tab w → Calls Tryd.prog 21 #[.string b] w fun e w' => e = .returned (.tuple #[vVal k n s, .int .i64 0]) ∧ Below w.heap.size w w')
    (hRs : ∀ w, Calls Tryd.prog 22 #[vVal k n s] w fun e w' => e = .returned (.string b) ∧ Below w.heap.size w w') : Done k n s w := by
  have HS := Lib.hid (show s.size ≤ maxLen by unfold maxLen; omega)
  have HT := Lib.hid ht; have HR := Lib.hid hr; have HSh := Lib.hid hSh; have HPa := Lib.hid hPa; have HRs := Lib.hid hRs
  clear ht hr hSh hPa hRs
  go_enter Tryd.func4, Tryd.ntmps4
  go_wp2_with fail
  refine (HSh.out _ (HT.out.stays (Joins.below_alloc1 w _) (Nat.le_refl _))).mono ?_
  rintro e w1 ⟨rfl, hb1⟩
  obtain ⟨hc1, hf1⟩ := bcell hb1
  have q1 : Below w.heap.size w w1 := (Joins.below_alloc1 w _).trans (hb1.mono (by simp))
  have z1 : w.heap.size < w1.heap.size := by have := hb1.size; simp at this; omega
  clear hb1
  go_wp2_with fail
  refine (lawRight_any k n s _ HS.out).mono ?_
  rintro e w2 ⟨rfl, hb2⟩
  rw [HR.out]
  have q2 : Below w.heap.size w w2 := q1.trans (hb2.mono q1.size)
  obtain ⟨hc2, hf2⟩ := bcell hb2
  have z2 : w.heap.size < w2.heap.size := Nat.lt_of_lt_of_le z1 hb2.size
  clear hb2
  go_wp2_with fail
  refine (HPa.out _ (HT.out.stays q2 (Nat.le_refl _))).mono ?_
  rintro e w3 ⟨rfl, hb3⟩
  have q3 : Below w.heap.size w w3 := q2.trans (hb3.mono q2.size)
  obtain ⟨hc3, hf3⟩ := bcell hb3
  have z3 : w.heap.size < w3.heap.size := Nat.lt_of_lt_of_le z2 hb3.size
  clear hb3
  go_wp2_with fail
  refine (ref_any k n s _).mono ?_
  rintro e w4 ⟨rfl, hb4⟩
  have r4 := hb4
  obtain ⟨hc4, hf4⟩ := bcell hb4
  have q4 : Below w.heap.size w w4 := (q3.alloc q3.size _).trans (hb4.mono (q3.alloc q3.size _).size)
  have z4 : w3.heap.size < w4.heap.size := by have := hb4.size; simp at this; omega
  clear hb4
  go_wp2_with fail
  refine (HRs.out _).mono ?_
  rintro e w5 ⟨rfl, hb5⟩
  obtain ⟨hc5, hf5⟩ := bcell hb5
  have q5 : Below w.heap.size w w5 := q4.trans (hb5.mono q4.size)
  have r5 := r4.trans (hb5.mono r4.size)
  have z5 : w.heap.size < w5.heap.size := by have := hb5.size; omega
  have y0 := (r5.cell (p := ⟨w3.heap.size, 0, none⟩) (by simp)).trans (World.cell?_alloc_mark w3 _ _ (0, 0) 0)
  have y1 := (r5.cell (p := ⟨w3.heap.size, 1, none⟩) (by simp)).trans (World.cell?_alloc_mark w3 _ _ (0, 0) 1)
  have y2 := (r5.cell (p := ⟨w3.heap.size, 2, none⟩) (by simp)).trans (World.cell?_alloc_mark w3 _ _ (0, 0) 2)
  have b5 := fun o => (r5.cell (p := ⟨w.heap.size, o, none⟩) (by simp; omega)).trans (((Joins.below_alloc1 w3 _).cell (p := ⟨w.heap.size, o, none⟩) z3).trans ((hc3 _ _ z2).trans ((hc2 _ _ z1).trans (hc1 _ o (by simp)))))
  have x0 := b5 0; have x1 := b5 1; have x2 := b5 2
  simp at y0 y1 y2 x0 x1 x2
  clear hb5 r4 r5 b5 hc1 hc2 hc3 hc4 hc5 hf1 hf2 hf3 hf4 hf5
  go_wp2_with fail
  refine (awake_any _ (HT.out.stays q5 (Nat.le_refl _))).mono ?_
  rintro e wa ⟨rfl, hba⟩
  have qa : Below w.heap.size w wa := q5.trans (hba.mono q5.size)
  clear hba
  go_wp2_with fail
  go_ret
  exact ⟨rfl, qa⟩

theorem valueShows_walk (k n : Int) (s : ByteArray) (w : World) (_ : I64 k) (hn : I64 n) (_ : s.size ≤ maxLen) (ht : Tab w) (_ : Errs w) : Done k n s w := by
  by_cases h : 200 < (s.size : Int)
  · exact long k n s w ht h
  cases hr : rightV k n s
  · exact wrong k n s w ht h hn hr
  · exact valid k n s ⟨(showV k n s).toArray⟩ w ht h hr (fun w ht => show_any k n s w (by unfold maxLen; omega) hn ht) (fun w ht => parse_right k n s w hr hn ht) (fun w => refShow_any k n s w hn hr)
end Go.Proofs.YthjlfhkmbhcpaaaDoor.valueShows
