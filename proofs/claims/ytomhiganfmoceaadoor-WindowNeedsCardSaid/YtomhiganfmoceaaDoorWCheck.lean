/-
  A mapping and two schemes in their boxes; relates and Check.
-/
import Derived.Test.YtomhiganfmoceaaDoorWBase
namespace Go.Proofs.YtomhiganfmoceaaDoor
open Go.RowKit Go.Sort CM JM WM

abbrev W3 (w : World) (k n lk la lz uk ua uz : Int) : World := sBox (sBox (mBox w k n) lk la lz) uk ua uz
/-- The three boxes, from block b on. -/
def Box3 (w1 : World) (b : Nat) (k n lk la lz uk ua uz : Int) : Prop :=
  ((w1.cell? ⟨b, 0, none⟩ = some (.int .i64 k) ∧ w1.cell? ⟨b, 1, none⟩ = some (.int .i64 n)) ∧
  (w1.cell? ⟨b + 1, 0, none⟩ = some (.int .i64 lk) ∧ w1.cell? ⟨b + 1, 1, none⟩ = some (.int .i64 la) ∧ w1.cell? ⟨b + 1, 2, none⟩ = some (.int .i64 lz)) ∧
  (w1.cell? ⟨b + 1 + 1, 0, none⟩ = some (.int .i64 uk) ∧ w1.cell? ⟨b + 1 + 1, 1, none⟩ = some (.int .i64 ua) ∧ w1.cell? ⟨b + 1 + 1, 2, none⟩ = some (.int .i64 uz))) ∧ b + 1 + 1 < w1.heap.size
theorem Box3.on {w1 w2 : World} {b : Nat} {k n lk la lz uk ua uz : Int} (h : Box3 w1 b k n lk la lz uk ua uz) (hb : Below w1.heap.size w1 w2) : Box3 w2 b k n lk la lz uk ua uz := by
  obtain ⟨⟨⟨a0, a1⟩, ⟨b0, b1, b2⟩, c0, c1, c2⟩, hs⟩ := h
  have c : ∀ j i u, j < w1.heap.size → w1.cell? ⟨j, i, none⟩ = some u → w2.cell? ⟨j, i, none⟩ = some u := fun j i u hj hu => (hb.cell (p := ⟨j, i, none⟩) hj).trans hu
  exact ⟨⟨⟨c _ _ _ (by omega) a0, c _ _ _ (by omega) a1⟩, ⟨c _ _ _ (by omega) b0, c _ _ _ (by omega) b1, c _ _ _ (by omega) b2⟩, c _ _ _ hs c0, c _ _ _ hs c1, c _ _ _ hs c2⟩, Nat.lt_of_lt_of_le hs hb.size⟩
theorem W3_size (w : World) (k n lk la lz uk ua uz : Int) : (W3 w k n lk la lz uk ua uz).heap.size = w.heap.size + 1 + 1 + 1 := by simp
theorem W3_below (w : World) (k n lk la lz uk ua uz : Int) : Below w.heap.size w (W3 w k n lk la lz uk ua uz) :=
  (((mbox_below w k n).alloc (mbox_below w k n).size (.cells #[.int .i64 lk, .int .i64 la, .int .i64 lz] 25)).alloc ((mbox_below w k n).alloc (mbox_below w k n).size (.cells #[.int .i64 lk, .int .i64 la, .int .i64 lz] 25)).size _)
theorem W3_box (w : World) (k n lk la lz uk ua uz : Int) : Box3 (W3 w k n lk la lz uk ua uz) w.heap.size k n lk la lz uk ua uz := by
  have e1 : (mBox w k n).heap.size = w.heap.size + 1 := by simp
  have e2 : (sBox (mBox w k n) lk la lz).heap.size = w.heap.size + 1 + 1 := by simp
  have h1 : (mBox w k n).cell? ⟨w.heap.size, 0, none⟩ = some (.int .i64 k) ∧ (mBox w k n).cell? ⟨w.heap.size, 1, none⟩ = some (.int .i64 n) := by constructor <;> simp
  have h2 := box_cells (mBox w k n) lk la lz
  have h3 := box_cells (sBox (mBox w k n) lk la lz) uk ua uz
  rw [e1] at h2
  rw [e2] at h3
  have q1 := (Below.refl (mBox w k n).heap.size (mBox w k n)).alloc (Nat.le_refl _) (.cells #[.int .i64 lk, .int .i64 la, .int .i64 lz] 25)
  have q2 := (Below.refl (sBox (mBox w k n) lk la lz).heap.size (sBox (mBox w k n) lk la lz)).alloc (Nat.le_refl _) (.cells #[.int .i64 uk, .int .i64 ua, .int .i64 uz] 25)
  have c1 : ∀ i u, (mBox w k n).cell? ⟨w.heap.size, i, none⟩ = some u → (W3 w k n lk la lz uk ua uz).cell? ⟨w.heap.size, i, none⟩ = some u := fun i u hu =>
    (q2.cell (p := ⟨w.heap.size, i, none⟩) (by show w.heap.size < _; omega)).trans ((q1.cell (p := ⟨w.heap.size, i, none⟩) (by show w.heap.size < _; omega)).trans hu)
  have c2 : ∀ i u, (sBox (mBox w k n) lk la lz).cell? ⟨w.heap.size + 1, i, none⟩ = some u → (W3 w k n lk la lz uk ua uz).cell? ⟨w.heap.size + 1, i, none⟩ = some u := fun i u hu =>
    (q2.cell (p := ⟨w.heap.size + 1, i, none⟩) (by show w.heap.size + 1 < _; omega)).trans hu
  exact ⟨⟨⟨c1 _ _ h1.1, c1 _ _ h1.2⟩, ⟨c2 _ _ h2.1, c2 _ _ h2.2.1, c2 _ _ h2.2.2⟩, h3⟩, by rw [W3_size]; omega⟩

set_option maxHeartbeats 4000000 in
set_option maxRecDepth 100000 in
theorem rel4_no (n lk la lz uk ua uz : Int) (w : World)
    (hl : Gv (W3 w 4 n lk la lz uk ua uz) 40 #[vS lk la lz] (.bool false)) : Calls Tryd.prog 24 #[vM 4 n, vS lk la lz, vS uk ua uz] w fun e w' => e = .returned (.bool false) ∧ Below w.heap.size w w' := by
  have Hhl := hide hl
  have HO := hide (W3_below w 4 n lk la lz uk ua uz)
  have HB0 := hide (Below.refl (W3 w 4 n lk la lz uk ua uz).heap.size (W3 w 4 n lk la lz uk ua uz))
  have HX0 := hide (W3_box w 4 n lk la lz uk ua uz)
  clear hl
  go_enter Tryd.func24, Tryd.ntmps24
  go_wp2_with fail
  refine (Hhl.out _ HB0.out).mono ?_
  rintro e w1 ⟨rfl, hb⟩
  have HB1 := hide (HB0.out.trans (hb.mono HB0.out.size))
  have HX1 := hide (HX0.out.on hb)
  clear hb
  obtain ⟨⟨⟨k0, k1⟩, ⟨l0, l1, l2⟩, u0, u1, u2⟩, hs⟩ := HX1.out
  go_wp2_with fail
  go_ret
  exact ⟨rfl, HO.out.trans (HB1.out.mono HO.out.size)⟩

set_option maxHeartbeats 4000000 in
set_option maxRecDepth 100000 in
theorem rel4_nu (n lk la lz uk ua uz : Int) (w : World)
    (hl : Gv (W3 w 4 n lk la lz uk ua uz) 40 #[vS lk la lz] (.bool true))
    (hu : Gv (W3 w 4 n lk la lz uk ua uz) 40 #[vS uk ua uz] (.bool false)) : Calls Tryd.prog 24 #[vM 4 n, vS lk la lz, vS uk ua uz] w fun e w' => e = .returned (.bool false) ∧ Below w.heap.size w w' := by
  have Hhl := hide hl
  have Hhu := hide hu
  have HO := hide (W3_below w 4 n lk la lz uk ua uz)
  have HB0 := hide (Below.refl (W3 w 4 n lk la lz uk ua uz).heap.size (W3 w 4 n lk la lz uk ua uz))
  have HX0 := hide (W3_box w 4 n lk la lz uk ua uz)
  clear hl hu
  go_enter Tryd.func24, Tryd.ntmps24
  go_wp2_with fail
  refine (Hhl.out _ HB0.out).mono ?_
  rintro e w1 ⟨rfl, hb⟩
  have HB1 := hide (HB0.out.trans (hb.mono HB0.out.size))
  have HX1 := hide (HX0.out.on hb)
  clear hb
  obtain ⟨⟨⟨k0, k1⟩, ⟨l0, l1, l2⟩, u0, u1, u2⟩, hs⟩ := HX1.out
  go_wp2_with fail
  refine (Hhu.out _ HB1.out).mono ?_
  rintro e w2 ⟨rfl, hb⟩
  have HB2 := hide (HB1.out.trans (hb.mono HB1.out.size))
  have HX2 := hide (HX1.out.on hb)
  clear k0 k1 l0 l1 l2 u0 u1 u2 hs hb
  obtain ⟨⟨⟨k0, k1⟩, ⟨l0, l1, l2⟩, u0, u1, u2⟩, hs⟩ := HX2.out
  go_wp2_with fail
  go_ret
  exact ⟨rfl, HO.out.trans (HB2.out.mono HO.out.size)⟩

set_option maxHeartbeats 4000000 in
set_option maxRecDepth 100000 in
theorem rel4_yes (n lk la lz uk ua uz : Int) (w : World)
    (hl : Gv (W3 w 4 n lk la lz uk ua uz) 40 #[vS lk la lz] (.bool true))
    (hu : Gv (W3 w 4 n lk la lz uk ua uz) 40 #[vS uk ua uz] (.bool true)) : Calls Tryd.prog 24 #[vM 4 n, vS lk la lz, vS uk ua uz] w fun e w' => e = .returned (.bool true) ∧ Below w.heap.size w w' := by
  have Hhl := hide hl
  have Hhu := hide hu
  have HO := hide (W3_below w 4 n lk la lz uk ua uz)
  have HB0 := hide (Below.refl (W3 w 4 n lk la lz uk ua uz).heap.size (W3 w 4 n lk la lz uk ua uz))
  have HX0 := hide (W3_box w 4 n lk la lz uk ua uz)
  clear hl hu
  go_enter Tryd.func24, Tryd.ntmps24
  go_wp2_with fail
  refine (Hhl.out _ HB0.out).mono ?_
  rintro e w1 ⟨rfl, hb⟩
  have HB1 := hide (HB0.out.trans (hb.mono HB0.out.size))
  have HX1 := hide (HX0.out.on hb)
  clear hb
  obtain ⟨⟨⟨k0, k1⟩, ⟨l0, l1, l2⟩, u0, u1, u2⟩, hs⟩ := HX1.out
  go_wp2_with fail
  refine (Hhu.out _ HB1.out).mono ?_
  rintro e w2 ⟨rfl, hb⟩
  have HB2 := hide (HB1.out.trans (hb.mono HB1.out.size))
  have HX2 := hide (HX1.out.on hb)
  clear k0 k1 l0 l1 l2 u0 u1 u2 hs hb
  obtain ⟨⟨⟨k0, k1⟩, ⟨l0, l1, l2⟩, u0, u1, u2⟩, hs⟩ := HX2.out
  go_wp2_with fail
  go_ret
  exact ⟨rfl, HO.out.trans (HB2.out.mono HO.out.size)⟩

set_option maxHeartbeats 4000000 in
set_option maxRecDepth 100000 in
theorem rel5 (n lk la lz uk ua uz : Int) (w : World)
     : Calls Tryd.prog 24 #[vM 5 n, vS lk la lz, vS uk ua uz] w fun e w' => e = .returned (.bool true) ∧ Below w.heap.size w w' := by
  have HO := hide (W3_below w 5 n lk la lz uk ua uz)
  have HB0 := hide (Below.refl (W3 w 5 n lk la lz uk ua uz).heap.size (W3 w 5 n lk la lz uk ua uz))
  have HX0 := hide (W3_box w 5 n lk la lz uk ua uz)
  go_enter Tryd.func24, Tryd.ntmps24
  go_wp2_with fail
  go_ret
  exact ⟨rfl, HO.out⟩

set_option maxHeartbeats 4000000 in
set_option maxRecDepth 100000 in
theorem rel_oth (k n lk la lz uk ua uz : Int) (w : World)
    (h4 : ¬ k = 4)
    (h5 : ¬ k = 5) : Calls Tryd.prog 24 #[vM k n, vS lk la lz, vS uk ua uz] w fun e w' => e = .returned (.bool (relB k lk uk)) ∧ Below w.heap.size w w' := by
  have HE : Hid (∀ b : Bool, (b = true ↔ lk = uk) → b = relB k lk uk) := hide fun b h => by unfold relB; rw [if_neg h4, if_neg h5, Bool.eq_iff_iff, h]; simp
  have HO := hide (W3_below w k n lk la lz uk ua uz)
  have HB0 := hide (Below.refl (W3 w k n lk la lz uk ua uz).heap.size (W3 w k n lk la lz uk ua uz))
  have HX0 := hide (W3_box w k n lk la lz uk ua uz)
  go_enter Tryd.func24, Tryd.ntmps24
  go_wp2_with fail
  go_ret
  exact ⟨ret_bool (HE.out _ (by simp)), HO.out⟩

theorem relates_any (k n lk la lz uk ua uz : Int) (w : World) (hM : Mon w) (h1 : lz ≤ 9223372036854775807) (h2 : uz ≤ 9223372036854775807) (o1 : okS lk la lz = true) (o2 : okS uk ua uz = true) : Calls Tryd.prog 24 #[vM k n, vS lk la lz, vS uk ua uz] w fun e w' => e = .returned (.bool (relB k lk uk)) ∧ Below w.heap.size w w' := by
  by_cases h4 : k = 4
  · subst h4
    have hMw := fun (w1 : World) (hb : Below (W3 w 4 n lk la lz uk ua uz).heap.size (W3 w 4 n lk la lz uk ua uz) w1) => hM.on ((W3_below w 4 n lk la lz uk ua uz).trans (hb.mono (W3_below w 4 n lk la lz uk ua uz).size))
    have hl : Gv (W3 w 4 n lk la lz uk ua uz) 40 #[vS lk la lz] (.bool (decide (lk ≠ 5))) := fun w1 hb => hasWindows_any lk la lz w1 (hMw w1 hb) h1 o1
    have hu : Gv (W3 w 4 n lk la lz uk ua uz) 40 #[vS uk ua uz] (.bool (decide (uk ≠ 5))) := fun w1 hb => hasWindows_any uk ua uz w1 (hMw w1 hb) h2 o2
    have e : relB 4 lk uk = (decide (lk ≠ 5) && decide (uk ≠ 5)) := rfl
    rw [e]
    cases ha : decide (lk ≠ 5)
    · rw [ha] at hl
      exact rel4_no n lk la lz uk ua uz w hl
    · rw [ha] at hl
      cases hb : decide (uk ≠ 5)
      · rw [hb] at hu
        exact rel4_nu n lk la lz uk ua uz w hl hu
      · rw [hb] at hu
        exact rel4_yes n lk la lz uk ua uz w hl hu
  by_cases h5 : k = 5
  · subst h5
    exact rel5 n lk la lz uk ua uz w
  · exact rel_oth k n lk la lz uk ua uz w h4 h5

set_option maxHeartbeats 4000000 in
set_option maxRecDepth 100000 in
theorem chk_form (k n lk la lz uk ua uz : Int) (w : World)
    (hf : Gv (W3 w k n lk la lz uk ua uz) 22 #[vM k n] (.bool false)) : Calls Tryd.prog 9 #[vM k n, vS lk la lz, vS uk ua uz] w fun e w' => e = .returned (.int .i64 20) ∧ Below w.heap.size w w' := by
  have Hhf := hide hf
  have HO := hide (W3_below w k n lk la lz uk ua uz)
  have HB0 := hide (Below.refl (W3 w k n lk la lz uk ua uz).heap.size (W3 w k n lk la lz uk ua uz))
  have HX0 := hide (W3_box w k n lk la lz uk ua uz)
  clear hf
  go_enter Tryd.func9, Tryd.ntmps9
  go_wp2_with fail
  refine (Hhf.out _ HB0.out).mono ?_
  rintro e w1 ⟨rfl, hb⟩
  have HB1 := hide (HB0.out.trans (hb.mono HB0.out.size))
  have HX1 := hide (HX0.out.on hb)
  clear hb
  obtain ⟨⟨⟨k0, k1⟩, ⟨l0, l1, l2⟩, u0, u1, u2⟩, hs⟩ := HX1.out
  go_wp2_with fail
  go_ret
  exact ⟨rfl, HO.out.trans (HB1.out.mono HO.out.size)⟩

set_option maxHeartbeats 4000000 in
set_option maxRecDepth 100000 in
theorem chk_low (k n lk la lz uk ua uz : Int) (w : World)
    (hf : Gv (W3 w k n lk la lz uk ua uz) 22 #[vM k n] (.bool true))
    (hl : Gv (W3 w k n lk la lz uk ua uz) 23 #[vS lk la lz] (.int .i64 54)) : Calls Tryd.prog 9 #[vM k n, vS lk la lz, vS uk ua uz] w fun e w' => e = .returned (.int .i64 54) ∧ Below w.heap.size w w' := by
  have Hhf := hide hf
  have Hhl := hide hl
  have HO := hide (W3_below w k n lk la lz uk ua uz)
  have HB0 := hide (Below.refl (W3 w k n lk la lz uk ua uz).heap.size (W3 w k n lk la lz uk ua uz))
  have HX0 := hide (W3_box w k n lk la lz uk ua uz)
  clear hf hl
  go_enter Tryd.func9, Tryd.ntmps9
  go_wp2_with fail
  refine (Hhf.out _ HB0.out).mono ?_
  rintro e w1 ⟨rfl, hb⟩
  have HB1 := hide (HB0.out.trans (hb.mono HB0.out.size))
  have HX1 := hide (HX0.out.on hb)
  clear hb
  obtain ⟨⟨⟨k0, k1⟩, ⟨l0, l1, l2⟩, u0, u1, u2⟩, hs⟩ := HX1.out
  go_wp2_with fail
  refine (Hhl.out _ HB1.out).mono ?_
  rintro e w2 ⟨rfl, hb⟩
  have HB2 := hide (HB1.out.trans (hb.mono HB1.out.size))
  have HX2 := hide (HX1.out.on hb)
  clear k0 k1 l0 l1 l2 u0 u1 u2 hs hb
  obtain ⟨⟨⟨k0, k1⟩, ⟨l0, l1, l2⟩, u0, u1, u2⟩, hs⟩ := HX2.out
  go_wp2_with fail
  go_ret
  exact ⟨rfl, HO.out.trans (HB2.out.mono HO.out.size)⟩

set_option maxHeartbeats 4000000 in
set_option maxRecDepth 100000 in
theorem chk_up (k n lk la lz uk ua uz : Int) (w : World)
    (hf : Gv (W3 w k n lk la lz uk ua uz) 22 #[vM k n] (.bool true))
    (hl : Gv (W3 w k n lk la lz uk ua uz) 23 #[vS lk la lz] (.int .i64 0))
    (hu : Gv (W3 w k n lk la lz uk ua uz) 23 #[vS uk ua uz] (.int .i64 54)) : Calls Tryd.prog 9 #[vM k n, vS lk la lz, vS uk ua uz] w fun e w' => e = .returned (.int .i64 54) ∧ Below w.heap.size w w' := by
  have Hhf := hide hf
  have Hhl := hide hl
  have Hhu := hide hu
  have HO := hide (W3_below w k n lk la lz uk ua uz)
  have HB0 := hide (Below.refl (W3 w k n lk la lz uk ua uz).heap.size (W3 w k n lk la lz uk ua uz))
  have HX0 := hide (W3_box w k n lk la lz uk ua uz)
  clear hf hl hu
  go_enter Tryd.func9, Tryd.ntmps9
  go_wp2_with fail
  refine (Hhf.out _ HB0.out).mono ?_
  rintro e w1 ⟨rfl, hb⟩
  have HB1 := hide (HB0.out.trans (hb.mono HB0.out.size))
  have HX1 := hide (HX0.out.on hb)
  clear hb
  obtain ⟨⟨⟨k0, k1⟩, ⟨l0, l1, l2⟩, u0, u1, u2⟩, hs⟩ := HX1.out
  go_wp2_with fail
  refine (Hhl.out _ HB1.out).mono ?_
  rintro e w2 ⟨rfl, hb⟩
  have HB2 := hide (HB1.out.trans (hb.mono HB1.out.size))
  have HX2 := hide (HX1.out.on hb)
  clear k0 k1 l0 l1 l2 u0 u1 u2 hs hb
  obtain ⟨⟨⟨k0, k1⟩, ⟨l0, l1, l2⟩, u0, u1, u2⟩, hs⟩ := HX2.out
  go_wp2_with fail
  refine (Hhu.out _ HB2.out).mono ?_
  rintro e w3 ⟨rfl, hb⟩
  have HB3 := hide (HB2.out.trans (hb.mono HB2.out.size))
  have HX3 := hide (HX2.out.on hb)
  clear k0 k1 l0 l1 l2 u0 u1 u2 hs hb
  obtain ⟨⟨⟨k0, k1⟩, ⟨l0, l1, l2⟩, u0, u1, u2⟩, hs⟩ := HX3.out
  go_wp2_with fail
  go_ret
  exact ⟨rfl, HO.out.trans (HB3.out.mono HO.out.size)⟩

set_option maxHeartbeats 4000000 in
set_option maxRecDepth 100000 in
theorem chk_rel (k n lk la lz uk ua uz : Int) (w : World)
    (hf : Gv (W3 w k n lk la lz uk ua uz) 22 #[vM k n] (.bool true))
    (hl : Gv (W3 w k n lk la lz uk ua uz) 23 #[vS lk la lz] (.int .i64 0))
    (hu : Gv (W3 w k n lk la lz uk ua uz) 23 #[vS uk ua uz] (.int .i64 0))
    (hr : Gv (W3 w k n lk la lz uk ua uz) 24 #[vM k n, vS lk la lz, vS uk ua uz] (.bool false)) : Calls Tryd.prog 9 #[vM k n, vS lk la lz, vS uk ua uz] w fun e w' => e = .returned (.int .i64 54) ∧ Below w.heap.size w w' := by
  have Hhf := hide hf
  have Hhl := hide hl
  have Hhu := hide hu
  have Hhr := hide hr
  have HO := hide (W3_below w k n lk la lz uk ua uz)
  have HB0 := hide (Below.refl (W3 w k n lk la lz uk ua uz).heap.size (W3 w k n lk la lz uk ua uz))
  have HX0 := hide (W3_box w k n lk la lz uk ua uz)
  clear hf hl hu hr
  go_enter Tryd.func9, Tryd.ntmps9
  go_wp2_with fail
  refine (Hhf.out _ HB0.out).mono ?_
  rintro e w1 ⟨rfl, hb⟩
  have HB1 := hide (HB0.out.trans (hb.mono HB0.out.size))
  have HX1 := hide (HX0.out.on hb)
  clear hb
  obtain ⟨⟨⟨k0, k1⟩, ⟨l0, l1, l2⟩, u0, u1, u2⟩, hs⟩ := HX1.out
  go_wp2_with fail
  refine (Hhl.out _ HB1.out).mono ?_
  rintro e w2 ⟨rfl, hb⟩
  have HB2 := hide (HB1.out.trans (hb.mono HB1.out.size))
  have HX2 := hide (HX1.out.on hb)
  clear k0 k1 l0 l1 l2 u0 u1 u2 hs hb
  obtain ⟨⟨⟨k0, k1⟩, ⟨l0, l1, l2⟩, u0, u1, u2⟩, hs⟩ := HX2.out
  go_wp2_with fail
  refine (Hhu.out _ HB2.out).mono ?_
  rintro e w3 ⟨rfl, hb⟩
  have HB3 := hide (HB2.out.trans (hb.mono HB2.out.size))
  have HX3 := hide (HX2.out.on hb)
  clear k0 k1 l0 l1 l2 u0 u1 u2 hs hb
  obtain ⟨⟨⟨k0, k1⟩, ⟨l0, l1, l2⟩, u0, u1, u2⟩, hs⟩ := HX3.out
  go_wp2_with fail
  refine (Hhr.out _ HB3.out).mono ?_
  rintro e w4 ⟨rfl, hb⟩
  have HB4 := hide (HB3.out.trans (hb.mono HB3.out.size))
  have HX4 := hide (HX3.out.on hb)
  clear k0 k1 l0 l1 l2 u0 u1 u2 hs hb
  obtain ⟨⟨⟨k0, k1⟩, ⟨l0, l1, l2⟩, u0, u1, u2⟩, hs⟩ := HX4.out
  go_wp2_with fail
  go_ret
  exact ⟨rfl, HO.out.trans (HB4.out.mono HO.out.size)⟩

set_option maxHeartbeats 4000000 in
set_option maxRecDepth 100000 in
theorem chk_ok (k n lk la lz uk ua uz : Int) (w : World)
    (hf : Gv (W3 w k n lk la lz uk ua uz) 22 #[vM k n] (.bool true))
    (hl : Gv (W3 w k n lk la lz uk ua uz) 23 #[vS lk la lz] (.int .i64 0))
    (hu : Gv (W3 w k n lk la lz uk ua uz) 23 #[vS uk ua uz] (.int .i64 0))
    (hr : Gv (W3 w k n lk la lz uk ua uz) 24 #[vM k n, vS lk la lz, vS uk ua uz] (.bool true)) : Calls Tryd.prog 9 #[vM k n, vS lk la lz, vS uk ua uz] w fun e w' => e = .returned (.int .i64 0) ∧ Below w.heap.size w w' := by
  have Hhf := hide hf
  have Hhl := hide hl
  have Hhu := hide hu
  have Hhr := hide hr
  have HO := hide (W3_below w k n lk la lz uk ua uz)
  have HB0 := hide (Below.refl (W3 w k n lk la lz uk ua uz).heap.size (W3 w k n lk la lz uk ua uz))
  have HX0 := hide (W3_box w k n lk la lz uk ua uz)
  clear hf hl hu hr
  go_enter Tryd.func9, Tryd.ntmps9
  go_wp2_with fail
  refine (Hhf.out _ HB0.out).mono ?_
  rintro e w1 ⟨rfl, hb⟩
  have HB1 := hide (HB0.out.trans (hb.mono HB0.out.size))
  have HX1 := hide (HX0.out.on hb)
  clear hb
  obtain ⟨⟨⟨k0, k1⟩, ⟨l0, l1, l2⟩, u0, u1, u2⟩, hs⟩ := HX1.out
  go_wp2_with fail
  refine (Hhl.out _ HB1.out).mono ?_
  rintro e w2 ⟨rfl, hb⟩
  have HB2 := hide (HB1.out.trans (hb.mono HB1.out.size))
  have HX2 := hide (HX1.out.on hb)
  clear k0 k1 l0 l1 l2 u0 u1 u2 hs hb
  obtain ⟨⟨⟨k0, k1⟩, ⟨l0, l1, l2⟩, u0, u1, u2⟩, hs⟩ := HX2.out
  go_wp2_with fail
  refine (Hhu.out _ HB2.out).mono ?_
  rintro e w3 ⟨rfl, hb⟩
  have HB3 := hide (HB2.out.trans (hb.mono HB2.out.size))
  have HX3 := hide (HX2.out.on hb)
  clear k0 k1 l0 l1 l2 u0 u1 u2 hs hb
  obtain ⟨⟨⟨k0, k1⟩, ⟨l0, l1, l2⟩, u0, u1, u2⟩, hs⟩ := HX3.out
  go_wp2_with fail
  refine (Hhr.out _ HB3.out).mono ?_
  rintro e w4 ⟨rfl, hb⟩
  have HB4 := hide (HB3.out.trans (hb.mono HB3.out.size))
  have HX4 := hide (HX3.out.on hb)
  clear k0 k1 l0 l1 l2 u0 u1 u2 hs hb
  obtain ⟨⟨⟨k0, k1⟩, ⟨l0, l1, l2⟩, u0, u1, u2⟩, hs⟩ := HX4.out
  go_wp2_with fail
  go_ret
  exact ⟨rfl, HO.out.trans (HB4.out.mono HO.out.size)⟩

abbrev cA (k n lk la lz uk ua uz : Int) : Ca := ⟨k, n, lk, la, lz, uk, ua, uz⟩
theorem mcheck_any (k n lk la lz uk ua uz : Int) (w : World) (hM : Mon w) (h1 : lz ≤ 9223372036854775807) (h2 : uz ≤ 9223372036854775807) : Calls Tryd.prog 9 #[vM k n, vS lk la lz, vS uk ua uz] w fun e w' => e = .returned (.int .i64 (fitE (cA k n lk la lz uk ua uz))) ∧ Below w.heap.size w w' := by
  have hMw := fun (w1 : World) (hb : Below (W3 w k n lk la lz uk ua uz).heap.size (W3 w k n lk la lz uk ua uz) w1) => hM.on ((W3_below w k n lk la lz uk ua uz).trans (hb.mono (W3_below w k n lk la lz uk ua uz).size))
  have hf : Gv (W3 w k n lk la lz uk ua uz) 22 #[vM k n] (.bool (formB k n)) := fun w1 _ => formed_any k n w1
  have hl : Gv (W3 w k n lk la lz uk ua uz) 23 #[vS lk la lz] (.int .i64 (chE lk la lz)) := fun w1 hb => check_any lk la lz w1 (hMw w1 hb) h1
  have hu : Gv (W3 w k n lk la lz uk ua uz) 23 #[vS uk ua uz] (.int .i64 (chE uk ua uz)) := fun w1 hb => check_any uk ua uz w1 (hMw w1 hb) h2
  cases hq : formB k n
  · rw [hq] at hf
    rw [fitE_20 (c := cA k n lk la lz uk ua uz) hq]
    exact chk_form k n lk la lz uk ua uz w hf
  rw [hq] at hf
  cases ho : okS lk la lz
  · rw [chE_no ho] at hl
    rw [fitE_54 (c := cA k n lk la lz uk ua uz) hq (by simp [fitB, ho])]
    exact chk_low k n lk la lz uk ua uz w hf hl
  rw [chE_yes ho] at hl
  cases hp : okS uk ua uz
  · rw [chE_no hp] at hu
    rw [fitE_54 (c := cA k n lk la lz uk ua uz) hq (by simp [fitB, hp])]
    exact chk_up k n lk la lz uk ua uz w hf hl hu
  rw [chE_yes hp] at hu
  have hr : Gv (W3 w k n lk la lz uk ua uz) 24 #[vM k n, vS lk la lz, vS uk ua uz] (.bool (relB k lk uk)) := fun w1 hb => relates_any k n lk la lz uk ua uz w1 (hMw w1 hb) h1 h2 ho hp
  cases hc : relB k lk uk
  · rw [hc] at hr
    rw [fitE_54 (c := cA k n lk la lz uk ua uz) hq (by simp [fitB, hc])]
    exact chk_rel k n lk la lz uk ua uz w hf hl hu hr
  · rw [hc] at hr
    rw [fitE_ok (c := cA k n lk la lz uk ua uz) hq (by simp [fitB, ho, hp, hc])]
    exact chk_ok k n lk la lz uk ua uz w hf hl hu hr
end Go.Proofs.YtomhiganfmoceaaDoor
