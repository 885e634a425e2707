/-
  What the laws ask of a case: ref, fits, needs, far.
-/
import Derived.Test.YtomhiganfmoceaaDoorWRef
namespace Go.Proofs.YtomhiganfmoceaaDoor
open Go.RowKit Go.Sort CM JM WM

theorem lref_any (k a z : Int) (w : World) : Calls Tryd.prog 26 #[vS k a z] w fun e w' => e = .returned (vS k a z) ∧ Below w.heap.size w w' := by
  have q : ∀ t, Below w.heap.size w ((w.alloc (.cells #[.int .i64 k, .int .i64 a, .int .i64 z] 25)).alloc (.cells #[.int .i64 k, .int .i64 a, .int .i64 z] t)) := fun t => (box_below w k a z).alloc (box_below w k a z).size _
  have HB := hide (q 51)
  clear q
  go_enter Tryd.func26, Tryd.ntmps26
  go_wp2_with fail
  refine bodyPost_ret (v := vS k a z) (by simp [results, Tryd.results26, go_sem]) rfl ⟨rfl, by simpa using HB.out⟩
/-- A case as a value. -/
abbrev vC (k n lk la lz uk ua uz : Int) : Value := .agg #[.int .i64 k, .int .i64 n, .int .i64 lk, .int .i64 la, .int .i64 lz, .int .i64 uk, .int .i64 ua, .int .i64 uz]
def Box8 (w1 : World) (b : Nat) (k n lk la lz uk ua uz : Int) : Prop :=
  (w1.cell? ⟨b, 0, none⟩ = some (.int .i64 k) ∧ w1.cell? ⟨b, 1, none⟩ = some (.int .i64 n) ∧ w1.cell? ⟨b, 2, none⟩ = some (.int .i64 lk) ∧ w1.cell? ⟨b, 3, none⟩ = some (.int .i64 la) ∧ w1.cell? ⟨b, 4, none⟩ = some (.int .i64 lz) ∧ w1.cell? ⟨b, 5, none⟩ = some (.int .i64 uk) ∧ w1.cell? ⟨b, 6, none⟩ = some (.int .i64 ua) ∧ w1.cell? ⟨b, 7, none⟩ = some (.int .i64 uz)) ∧ b < w1.heap.size
theorem Box8.on {w1 w2 : World} {b : Nat} {k n lk la lz uk ua uz : Int} (h : Box8 w1 b k n lk la lz uk ua uz) (hb : Below w1.heap.size w1 w2) : Box8 w2 b k n lk la lz uk ua uz := by
  obtain ⟨⟨a0, a1, a2, a3, a4, a5, a6, a7⟩, hs⟩ := h
  have c : ∀ i u, w1.cell? ⟨b, i, none⟩ = some u → w2.cell? ⟨b, i, none⟩ = some u := fun i u hu => (hb.cell (p := ⟨b, i, none⟩) hs).trans hu
  exact ⟨⟨c _ _ a0, c _ _ a1, c _ _ a2, c _ _ a3, c _ _ a4, c _ _ a5, c _ _ a6, c _ _ a7⟩, Nat.lt_of_lt_of_le hs hb.size⟩
theorem C8_below (w : World) (k n lk la lz uk ua uz : Int) : Below w.heap.size w (w.alloc (.cells #[.int .i64 k, .int .i64 n, .int .i64 lk, .int .i64 la, .int .i64 lz, .int .i64 uk, .int .i64 ua, .int .i64 uz] 27)) := (Below.refl _ _).alloc (Nat.le_refl _) _
theorem C8_box (w : World) (k n lk la lz uk ua uz : Int) : Box8 (w.alloc (.cells #[.int .i64 k, .int .i64 n, .int .i64 lk, .int .i64 la, .int .i64 lz, .int .i64 uk, .int .i64 ua, .int .i64 uz] 27)) w.heap.size k n lk la lz uk ua uz := by
  refine ⟨⟨?_, ?_, ?_, ?_, ?_, ?_, ?_, ?_⟩, ?_⟩ <;> simp

set_option maxHeartbeats 4000000 in
set_option maxRecDepth 100000 in
theorem fit_form (k n lk la lz uk ua uz : Int) (w : World)
    (hf : ∀ w, Calls Tryd.prog 19 #[vM k n] w fun e w' => e = .returned (.bool false) ∧ Below w.heap.size w w') : Calls Tryd.prog 10 #[vC k n lk la lz uk ua uz] w fun e w' => e = .returned (.int .i64 20) ∧ Below w.heap.size w w' := by
  have Hhf := hide hf
  have hO : Below w.heap.size w ((w.alloc (.cells #[.int .i64 k, .int .i64 n, .int .i64 lk, .int .i64 la, .int .i64 lz, .int .i64 uk, .int .i64 ua, .int .i64 uz] 27)).alloc (.cells #[.int .i64 k, .int .i64 n] 40)) := (C8_below w k n lk la lz uk ua uz).alloc (C8_below w k n lk la lz uk ua uz).size _
  have HO := hide hO
  have HX0 := hide ((C8_box w k n lk la lz uk ua uz).on ((Below.refl _ _).alloc (Nat.le_refl _) (.cells #[.int .i64 k, .int .i64 n] 40)))
  have hm : (((w.alloc (.cells #[.int .i64 k, .int .i64 n, .int .i64 lk, .int .i64 la, .int .i64 lz, .int .i64 uk, .int .i64 ua, .int .i64 uz] 27)).alloc (.cells #[.int .i64 k, .int .i64 n] 40))).cell? ⟨w.heap.size + 1, 0, none⟩ = some (.int .i64 k) ∧ (((w.alloc (.cells #[.int .i64 k, .int .i64 n, .int .i64 lk, .int .i64 la, .int .i64 lz, .int .i64 uk, .int .i64 ua, .int .i64 uz] 27)).alloc (.cells #[.int .i64 k, .int .i64 n] 40))).cell? ⟨w.heap.size + 1, 1, none⟩ = some (.int .i64 n) ∧ w.heap.size + 1 < (((w.alloc (.cells #[.int .i64 k, .int .i64 n, .int .i64 lk, .int .i64 la, .int .i64 lz, .int .i64 uk, .int .i64 ua, .int .i64 uz] 27)).alloc (.cells #[.int .i64 k, .int .i64 n] 40))).heap.size := by
    have e : ((w.alloc (.cells #[.int .i64 k, .int .i64 n, .int .i64 lk, .int .i64 la, .int .i64 lz, .int .i64 uk, .int .i64 ua, .int .i64 uz] 27))).heap.size = w.heap.size + 1 := by simp
    rw [← e]
    refine ⟨?_, ?_, ?_⟩ <;> simp
  have HM := hide hm
  clear hO hm hf
  go_enter Tryd.func10, Tryd.ntmps10
  go_wp2_with fail
  refine (Hhf.out _).mono ?_
  rintro e w1 ⟨rfl, hb⟩
  have HB1 := hide (HO.out.trans (hb.mono HO.out.size))
  have HX1 := hide (HX0.out.on hb)
  have m0 := (hb.cell (p := ⟨w.heap.size + 1, 0, none⟩) HM.out.2.2).trans HM.out.1
  have m1 := (hb.cell (p := ⟨w.heap.size + 1, 1, none⟩) HM.out.2.2).trans HM.out.2.1
  clear hb
  obtain ⟨⟨k0, k1, k2, k3, k4, k5, k6, k7⟩, hs⟩ := HX1.out
  go_wp2_with fail
  go_ret
  exact ⟨rfl, HB1.out⟩

set_option maxHeartbeats 4000000 in
set_option maxRecDepth 100000 in
theorem fit_low (k n lk la lz uk ua uz : Int) (w : World)
    (hf : ∀ w, Calls Tryd.prog 19 #[vM k n] w fun e w' => e = .returned (.bool true) ∧ Below w.heap.size w w')
    (hr1 : ∀ w, Calls Tryd.prog 26 #[vS lk la lz] w fun e w' => e = .returned (vS lk la lz) ∧ Below w.heap.size w w')
    (hq1 : ∀ w, Calls Tryd.prog 25 #[vS lk la lz] w fun e w' => e = .returned (.bool false) ∧ Below w.heap.size w w') : Calls Tryd.prog 10 #[vC k n lk la lz uk ua uz] w fun e w' => e = .returned (.int .i64 54) ∧ Below w.heap.size w w' := by
  have Hhf := hide hf
  have Hhr1 := hide hr1
  have Hhq1 := hide hq1
  have hO : Below w.heap.size w ((w.alloc (.cells #[.int .i64 k, .int .i64 n, .int .i64 lk, .int .i64 la, .int .i64 lz, .int .i64 uk, .int .i64 ua, .int .i64 uz] 27)).alloc (.cells #[.int .i64 k, .int .i64 n] 40)) := (C8_below w k n lk la lz uk ua uz).alloc (C8_below w k n lk la lz uk ua uz).size _
  have HO := hide hO
  have HX0 := hide ((C8_box w k n lk la lz uk ua uz).on ((Below.refl _ _).alloc (Nat.le_refl _) (.cells #[.int .i64 k, .int .i64 n] 40)))
  have hm : (((w.alloc (.cells #[.int .i64 k, .int .i64 n, .int .i64 lk, .int .i64 la, .int .i64 lz, .int .i64 uk, .int .i64 ua, .int .i64 uz] 27)).alloc (.cells #[.int .i64 k, .int .i64 n] 40))).cell? ⟨w.heap.size + 1, 0, none⟩ = some (.int .i64 k) ∧ (((w.alloc (.cells #[.int .i64 k, .int .i64 n, .int .i64 lk, .int .i64 la, .int .i64 lz, .int .i64 uk, .int .i64 ua, .int .i64 uz] 27)).alloc (.cells #[.int .i64 k, .int .i64 n] 40))).cell? ⟨w.heap.size + 1, 1, none⟩ = some (.int .i64 n) ∧ w.heap.size + 1 < (((w.alloc (.cells #[.int .i64 k, .int .i64 n, .int .i64 lk, .int .i64 la, .int .i64 lz, .int .i64 uk, .int .i64 ua, .int .i64 uz] 27)).alloc (.cells #[.int .i64 k, .int .i64 n] 40))).heap.size := by
    have e : ((w.alloc (.cells #[.int .i64 k, .int .i64 n, .int .i64 lk, .int .i64 la, .int .i64 lz, .int .i64 uk, .int .i64 ua, .int .i64 uz] 27))).heap.size = w.heap.size + 1 := by simp
    rw [← e]
    refine ⟨?_, ?_, ?_⟩ <;> simp
  have HM := hide hm
  clear hO hm hf hr1 hq1
  go_enter Tryd.func10, Tryd.ntmps10
  go_wp2_with fail
  refine (Hhf.out _).mono ?_
  rintro e w1 ⟨rfl, hb⟩
  have HB1 := hide (HO.out.trans (hb.mono HO.out.size))
  have HX1 := hide (HX0.out.on hb)
  have m0 := (hb.cell (p := ⟨w.heap.size + 1, 0, none⟩) HM.out.2.2).trans HM.out.1
  have m1 := (hb.cell (p := ⟨w.heap.size + 1, 1, none⟩) HM.out.2.2).trans HM.out.2.1
  clear hb
  obtain ⟨⟨k0, k1, k2, k3, k4, k5, k6, k7⟩, hs⟩ := HX1.out
  go_wp2_with fail
  have r0 := fun dn os => cell_regrown k0 dn os
  have r1 := fun dn os => cell_regrown k1 dn os
  have r2 := fun dn os => cell_regrown k2 dn os
  have r3 := fun dn os => cell_regrown k3 dn os
  have r4 := fun dn os => cell_regrown k4 dn os
  have r5 := fun dn os => cell_regrown k5 dn os
  have r6 := fun dn os => cell_regrown k6 dn os
  have r7 := fun dn os => cell_regrown k7 dn os
  have s0 := fun dn os => cell_regrown m0 dn os
  have s1 := fun dn os => cell_regrown m1 dn os
  clear k0 k1 k2 k3 k4 k5 k6 k7 m0 m1 hs
  refine wp_region_quiet_below (by kernel_rfl) (by kernel_rfl) ?_
  repeat (go_big_quiet_step (first
      | (go_at_call 26; with_reducible exact Calls.regrown_of (Hhr1.out _))
      | (go_at_call 25; with_reducible exact Calls.regrown_of (Hhq1.out _))))
  refine wpQuiet_nil ?_
  intro _ hw'
  obtain ⟨⟨dq, osq⟩, hw''⟩ := hw'
  subst hw''
  have HF := hide (HB1.out.trans ((below_regrown _ dq osq).mono HB1.out.size))
  clear r0 r1 r2 r3 r4 r5 r6 r7 s0 s1
  go_wp2_with fail
  go_ret
  exact ⟨rfl, HF.out⟩

set_option maxHeartbeats 4000000 in
set_option maxRecDepth 100000 in
theorem fit_up (k n lk la lz uk ua uz : Int) (w : World)
    (hf : ∀ w, Calls Tryd.prog 19 #[vM k n] w fun e w' => e = .returned (.bool true) ∧ Below w.heap.size w w')
    (hr1 : ∀ w, Calls Tryd.prog 26 #[vS lk la lz] w fun e w' => e = .returned (vS lk la lz) ∧ Below w.heap.size w w')
    (hr2 : ∀ w, Calls Tryd.prog 26 #[vS uk ua uz] w fun e w' => e = .returned (vS uk ua uz) ∧ Below w.heap.size w w')
    (hq1 : ∀ w, Calls Tryd.prog 25 #[vS lk la lz] w fun e w' => e = .returned (.bool true) ∧ Below w.heap.size w w')
    (hq2 : ∀ w, Calls Tryd.prog 25 #[vS uk ua uz] w fun e w' => e = .returned (.bool false) ∧ Below w.heap.size w w') : Calls Tryd.prog 10 #[vC k n lk la lz uk ua uz] w fun e w' => e = .returned (.int .i64 54) ∧ Below w.heap.size w w' := by
  have Hhf := hide hf
  have Hhr1 := hide hr1
  have Hhr2 := hide hr2
  have Hhq1 := hide hq1
  have Hhq2 := hide hq2
  have hO : Below w.heap.size w ((w.alloc (.cells #[.int .i64 k, .int .i64 n, .int .i64 lk, .int .i64 la, .int .i64 lz, .int .i64 uk, .int .i64 ua, .int .i64 uz] 27)).alloc (.cells #[.int .i64 k, .int .i64 n] 40)) := (C8_below w k n lk la lz uk ua uz).alloc (C8_below w k n lk la lz uk ua uz).size _
  have HO := hide hO
  have HX0 := hide ((C8_box w k n lk la lz uk ua uz).on ((Below.refl _ _).alloc (Nat.le_refl _) (.cells #[.int .i64 k, .int .i64 n] 40)))
  have hm : (((w.alloc (.cells #[.int .i64 k, .int .i64 n, .int .i64 lk, .int .i64 la, .int .i64 lz, .int .i64 uk, .int .i64 ua, .int .i64 uz] 27)).alloc (.cells #[.int .i64 k, .int .i64 n] 40))).cell? ⟨w.heap.size + 1, 0, none⟩ = some (.int .i64 k) ∧ (((w.alloc (.cells #[.int .i64 k, .int .i64 n, .int .i64 lk, .int .i64 la, .int .i64 lz, .int .i64 uk, .int .i64 ua, .int .i64 uz] 27)).alloc (.cells #[.int .i64 k, .int .i64 n] 40))).cell? ⟨w.heap.size + 1, 1, none⟩ = some (.int .i64 n) ∧ w.heap.size + 1 < (((w.alloc (.cells #[.int .i64 k, .int .i64 n, .int .i64 lk, .int .i64 la, .int .i64 lz, .int .i64 uk, .int .i64 ua, .int .i64 uz] 27)).alloc (.cells #[.int .i64 k, .int .i64 n] 40))).heap.size := by
    have e : ((w.alloc (.cells #[.int .i64 k, .int .i64 n, .int .i64 lk, .int .i64 la, .int .i64 lz, .int .i64 uk, .int .i64 ua, .int .i64 uz] 27))).heap.size = w.heap.size + 1 := by simp
    rw [← e]
    refine ⟨?_, ?_, ?_⟩ <;> simp
  have HM := hide hm
  clear hO hm hf hr1 hr2 hq1 hq2
  go_enter Tryd.func10, Tryd.ntmps10
  go_wp2_with fail
  refine (Hhf.out _).mono ?_
  rintro e w1 ⟨rfl, hb⟩
  have HB1 := hide (HO.out.trans (hb.mono HO.out.size))
  have HX1 := hide (HX0.out.on hb)
  have m0 := (hb.cell (p := ⟨w.heap.size + 1, 0, none⟩) HM.out.2.2).trans HM.out.1
  have m1 := (hb.cell (p := ⟨w.heap.size + 1, 1, none⟩) HM.out.2.2).trans HM.out.2.1
  clear hb
  obtain ⟨⟨k0, k1, k2, k3, k4, k5, k6, k7⟩, hs⟩ := HX1.out
  go_wp2_with fail
  have r0 := fun dn os => cell_regrown k0 dn os
  have r1 := fun dn os => cell_regrown k1 dn os
  have r2 := fun dn os => cell_regrown k2 dn os
  have r3 := fun dn os => cell_regrown k3 dn os
  have r4 := fun dn os => cell_regrown k4 dn os
  have r5 := fun dn os => cell_regrown k5 dn os
  have r6 := fun dn os => cell_regrown k6 dn os
  have r7 := fun dn os => cell_regrown k7 dn os
  have s0 := fun dn os => cell_regrown m0 dn os
  have s1 := fun dn os => cell_regrown m1 dn os
  clear k0 k1 k2 k3 k4 k5 k6 k7 m0 m1 hs
  refine wp_region_quiet_below (by kernel_rfl) (by kernel_rfl) ?_
  repeat (go_big_quiet_step (first
      | (go_at_call 26; with_reducible exact Calls.regrown_of (Hhr1.out _))
      | (go_at_call 26; with_reducible exact Calls.regrown_of (Hhr2.out _))
      | (go_at_call 25; with_reducible exact Calls.regrown_of (Hhq1.out _))
      | (go_at_call 25; with_reducible exact Calls.regrown_of (Hhq2.out _))))
  refine wpQuiet_nil ?_
  intro _ hw'
  obtain ⟨⟨dq, osq⟩, hw''⟩ := hw'
  subst hw''
  have HF := hide (HB1.out.trans ((below_regrown _ dq osq).mono HB1.out.size))
  clear r0 r1 r2 r3 r4 r5 r6 r7 s0 s1
  go_wp2_with fail
  go_ret
  exact ⟨rfl, HF.out⟩

set_option maxHeartbeats 4000000 in
set_option maxRecDepth 100000 in
theorem fit_rel (k n lk la lz uk ua uz : Int) (w : World)
    (hf : ∀ w, Calls Tryd.prog 19 #[vM k n] w fun e w' => e = .returned (.bool true) ∧ Below w.heap.size w w')
    (hr1 : ∀ w, Calls Tryd.prog 26 #[vS lk la lz] w fun e w' => e = .returned (vS lk la lz) ∧ Below w.heap.size w w')
    (hr2 : ∀ w, Calls Tryd.prog 26 #[vS uk ua uz] w fun e w' => e = .returned (vS uk ua uz) ∧ Below w.heap.size w w')
    (hq1 : ∀ w, Calls Tryd.prog 25 #[vS lk la lz] w fun e w' => e = .returned (.bool true) ∧ Below w.heap.size w w')
    (hq2 : ∀ w, Calls Tryd.prog 25 #[vS uk ua uz] w fun e w' => e = .returned (.bool true) ∧ Below w.heap.size w w')
    (ht : ∀ w, Calls Tryd.prog 27 #[vM k n, vS lk la lz, vS uk ua uz] w fun e w' => e = .returned (.bool false) ∧ Below w.heap.size w w') : Calls Tryd.prog 10 #[vC k n lk la lz uk ua uz] w fun e w' => e = .returned (.int .i64 54) ∧ Below w.heap.size w w' := by
  have Hhf := hide hf
  have Hhr1 := hide hr1
  have Hhr2 := hide hr2
  have Hhq1 := hide hq1
  have Hhq2 := hide hq2
  have Hht := hide ht
  have hO : Below w.heap.size w ((w.alloc (.cells #[.int .i64 k, .int .i64 n, .int .i64 lk, .int .i64 la, .int .i64 lz, .int .i64 uk, .int .i64 ua, .int .i64 uz] 27)).alloc (.cells #[.int .i64 k, .int .i64 n] 40)) := (C8_below w k n lk la lz uk ua uz).alloc (C8_below w k n lk la lz uk ua uz).size _
  have HO := hide hO
  have HX0 := hide ((C8_box w k n lk la lz uk ua uz).on ((Below.refl _ _).alloc (Nat.le_refl _) (.cells #[.int .i64 k, .int .i64 n] 40)))
  have hm : (((w.alloc (.cells #[.int .i64 k, .int .i64 n, .int .i64 lk, .int .i64 la, .int .i64 lz, .int .i64 uk, .int .i64 ua, .int .i64 uz] 27)).alloc (.cells #[.int .i64 k, .int .i64 n] 40))).cell? ⟨w.heap.size + 1, 0, none⟩ = some (.int .i64 k) ∧ (((w.alloc (.cells #[.int .i64 k, .int .i64 n, .int .i64 lk, .int .i64 la, .int .i64 lz, .int .i64 uk, .int .i64 ua, .int .i64 uz] 27)).alloc (.cells #[.int .i64 k, .int .i64 n] 40))).cell? ⟨w.heap.size + 1, 1, none⟩ = some (.int .i64 n) ∧ w.heap.size + 1 < (((w.alloc (.cells #[.int .i64 k, .int .i64 n, .int .i64 lk, .int .i64 la, .int .i64 lz, .int .i64 uk, .int .i64 ua, .int .i64 uz] 27)).alloc (.cells #[.int .i64 k, .int .i64 n] 40))).heap.size := by
    have e : ((w.alloc (.cells #[.int .i64 k, .int .i64 n, .int .i64 lk, .int .i64 la, .int .i64 lz, .int .i64 uk, .int .i64 ua, .int .i64 uz] 27))).heap.size = w.heap.size + 1 := by simp
    rw [← e]
    refine ⟨?_, ?_, ?_⟩ <;> simp
  have HM := hide hm
  clear hO hm hf hr1 hr2 hq1 hq2 ht
  go_enter Tryd.func10, Tryd.ntmps10
  go_wp2_with fail
  refine (Hhf.out _).mono ?_
  rintro e w1 ⟨rfl, hb⟩
  have HB1 := hide (HO.out.trans (hb.mono HO.out.size))
  have HX1 := hide (HX0.out.on hb)
  have m0 := (hb.cell (p := ⟨w.heap.size + 1, 0, none⟩) HM.out.2.2).trans HM.out.1
  have m1 := (hb.cell (p := ⟨w.heap.size + 1, 1, none⟩) HM.out.2.2).trans HM.out.2.1
  clear hb
  obtain ⟨⟨k0, k1, k2, k3, k4, k5, k6, k7⟩, hs⟩ := HX1.out
  go_wp2_with fail
  have r0 := fun dn os => cell_regrown k0 dn os
  have r1 := fun dn os => cell_regrown k1 dn os
  have r2 := fun dn os => cell_regrown k2 dn os
  have r3 := fun dn os => cell_regrown k3 dn os
  have r4 := fun dn os => cell_regrown k4 dn os
  have r5 := fun dn os => cell_regrown k5 dn os
  have r6 := fun dn os => cell_regrown k6 dn os
  have r7 := fun dn os => cell_regrown k7 dn os
  have s0 := fun dn os => cell_regrown m0 dn os
  have s1 := fun dn os => cell_regrown m1 dn os
  clear k0 k1 k2 k3 k4 k5 k6 k7 m0 m1 hs
  refine wp_region_quiet_below (by kernel_rfl) (by kernel_rfl) ?_
  repeat (go_big_quiet_step (first
      | (go_at_call 26; with_reducible exact Calls.regrown_of (Hhr1.out _))
      | (go_at_call 26; with_reducible exact Calls.regrown_of (Hhr2.out _))
      | (go_at_call 25; with_reducible exact Calls.regrown_of (Hhq1.out _))
      | (go_at_call 25; with_reducible exact Calls.regrown_of (Hhq2.out _))
      | (go_at_call 27; with_reducible exact Calls.regrown_of (Hht.out _))))
  refine wpQuiet_nil ?_
  intro _ hw'
  obtain ⟨⟨dq, osq⟩, hw''⟩ := hw'
  subst hw''
  have HF := hide (HB1.out.trans ((below_regrown _ dq osq).mono HB1.out.size))
  clear r0 r1 r2 r3 r4 r5 r6 r7 s0 s1
  go_wp2_with fail
  go_ret
  exact ⟨rfl, HF.out⟩

set_option maxHeartbeats 4000000 in
set_option maxRecDepth 100000 in
theorem fit_ok (k n lk la lz uk ua uz : Int) (w : World)
    (hf : ∀ w, Calls Tryd.prog 19 #[vM k n] w fun e w' => e = .returned (.bool true) ∧ Below w.heap.size w w')
    (hr1 : ∀ w, Calls Tryd.prog 26 #[vS lk la lz] w fun e w' => e = .returned (vS lk la lz) ∧ Below w.heap.size w w')
    (hr2 : ∀ w, Calls Tryd.prog 26 #[vS uk ua uz] w fun e w' => e = .returned (vS uk ua uz) ∧ Below w.heap.size w w')
    (hq1 : ∀ w, Calls Tryd.prog 25 #[vS lk la lz] w fun e w' => e = .returned (.bool true) ∧ Below w.heap.size w w')
    (hq2 : ∀ w, Calls Tryd.prog 25 #[vS uk ua uz] w fun e w' => e = .returned (.bool true) ∧ Below w.heap.size w w')
    (ht : ∀ w, Calls Tryd.prog 27 #[vM k n, vS lk la lz, vS uk ua uz] w fun e w' => e = .returned (.bool true) ∧ Below w.heap.size w w') : Calls Tryd.prog 10 #[vC k n lk la lz uk ua uz] w fun e w' => e = .returned (.int .i64 0) ∧ Below w.heap.size w w' := by
  have Hhf := hide hf
  have Hhr1 := hide hr1
  have Hhr2 := hide hr2
  have Hhq1 := hide hq1
  have Hhq2 := hide hq2
  have Hht := hide ht
  have hO : Below w.heap.size w ((w.alloc (.cells #[.int .i64 k, .int .i64 n, .int .i64 lk, .int .i64 la, .int .i64 lz, .int .i64 uk, .int .i64 ua, .int .i64 uz] 27)).alloc (.cells #[.int .i64 k, .int .i64 n] 40)) := (C8_below w k n lk la lz uk ua uz).alloc (C8_below w k n lk la lz uk ua uz).size _
  have HO := hide hO
  have HX0 := hide ((C8_box w k n lk la lz uk ua uz).on ((Below.refl _ _).alloc (Nat.le_refl _) (.cells #[.int .i64 k, .int .i64 n] 40)))
  have hm : (((w.alloc (.cells #[.int .i64 k, .int .i64 n, .int .i64 lk, .int .i64 la, .int .i64 lz, .int .i64 uk, .int .i64 ua, .int .i64 uz] 27)).alloc (.cells #[.int .i64 k, .int .i64 n] 40))).cell? ⟨w.heap.size + 1, 0, none⟩ = some (.int .i64 k) ∧ (((w.alloc (.cells #[.int .i64 k, .int .i64 n, .int .i64 lk, .int .i64 la, .int .i64 lz, .int .i64 uk, .int .i64 ua, .int .i64 uz] 27)).alloc (.cells #[.int .i64 k, .int .i64 n] 40))).cell? ⟨w.heap.size + 1, 1, none⟩ = some (.int .i64 n) ∧ w.heap.size + 1 < (((w.alloc (.cells #[.int .i64 k, .int .i64 n, .int .i64 lk, .int .i64 la, .int .i64 lz, .int .i64 uk, .int .i64 ua, .int .i64 uz] 27)).alloc (.cells #[.int .i64 k, .int .i64 n] 40))).heap.size := by
    have e : ((w.alloc (.cells #[.int .i64 k, .int .i64 n, .int .i64 lk, .int .i64 la, .int .i64 lz, .int .i64 uk, .int .i64 ua, .int .i64 uz] 27))).heap.size = w.heap.size + 1 := by simp
    rw [← e]
    refine ⟨?_, ?_, ?_⟩ <;> simp
  have HM := hide hm
  clear hO hm hf hr1 hr2 hq1 hq2 ht
  go_enter Tryd.func10, Tryd.ntmps10
  go_wp2_with fail
  refine (Hhf.out _).mono ?_
  rintro e w1 ⟨rfl, hb⟩
  have HB1 := hide (HO.out.trans (hb.mono HO.out.size))
  have HX1 := hide (HX0.out.on hb)
  have m0 := (hb.cell (p := ⟨w.heap.size + 1, 0, none⟩) HM.out.2.2).trans HM.out.1
  have m1 := (hb.cell (p := ⟨w.heap.size + 1, 1, none⟩) HM.out.2.2).trans HM.out.2.1
  clear hb
  obtain ⟨⟨k0, k1, k2, k3, k4, k5, k6, k7⟩, hs⟩ := HX1.out
  go_wp2_with fail
  have r0 := fun dn os => cell_regrown k0 dn os
  have r1 := fun dn os => cell_regrown k1 dn os
  have r2 := fun dn os => cell_regrown k2 dn os
  have r3 := fun dn os => cell_regrown k3 dn os
  have r4 := fun dn os => cell_regrown k4 dn os
  have r5 := fun dn os => cell_regrown k5 dn os
  have r6 := fun dn os => cell_regrown k6 dn os
  have r7 := fun dn os => cell_regrown k7 dn os
  have s0 := fun dn os => cell_regrown m0 dn os
  have s1 := fun dn os => cell_regrown m1 dn os
  clear k0 k1 k2 k3 k4 k5 k6 k7 m0 m1 hs
  refine wp_region_quiet_below (by kernel_rfl) (by kernel_rfl) ?_
  repeat (go_big_quiet_step (first
      | (go_at_call 26; with_reducible exact Calls.regrown_of (Hhr1.out _))
      | (go_at_call 26; with_reducible exact Calls.regrown_of (Hhr2.out _))
      | (go_at_call 25; with_reducible exact Calls.regrown_of (Hhq1.out _))
      | (go_at_call 25; with_reducible exact Calls.regrown_of (Hhq2.out _))
      | (go_at_call 27; with_reducible exact Calls.regrown_of (Hht.out _))))
  refine wpQuiet_nil ?_
  intro _ hw'
  obtain ⟨⟨dq, osq⟩, hw''⟩ := hw'
  subst hw''
  have HF := hide (HB1.out.trans ((below_regrown _ dq osq).mono HB1.out.size))
  clear r0 r1 r2 r3 r4 r5 r6 r7 s0 s1
  go_wp2_with fail
  go_ret
  exact ⟨rfl, HF.out⟩

theorem fits_any (k n lk la lz uk ua uz : Int) (w : World) (h1 : lz ≤ 9223372036854775807) (h2 : uz ≤ 9223372036854775807) : Calls Tryd.prog 10 #[vC k n lk la lz uk ua uz] w fun e w' => e = .returned (.int .i64 (fitE (cA k n lk la lz uk ua uz))) ∧ Below w.heap.size w w' := by
  have hf := fun w => rform_any k n w
  have hr1 := fun w => lref_any lk la lz w
  have hr2 := fun w => lref_any uk ua uz w
  have hq1 := fun w => right_any' lk la lz w h1
  have hq2 := fun w => right_any' uk ua uz w h2
  cases hq : formB k n
  · rw [hq] at hf
    rw [fitE_20 (c := (cA k n lk la lz uk ua uz)) hq]
    exact fit_form k n lk la lz uk ua uz w hf
  have ht := fun w => rfits_any k n lk la lz uk ua uz w hq
  rw [hq] at hf
  cases ho : okS lk la lz
  · rw [ho] at hq1
    rw [fitE_54 (c := (cA k n lk la lz uk ua uz)) hq (by simp [fitB, ho])]
    exact fit_low k n lk la lz uk ua uz w hf hr1 hq1
  rw [ho] at hq1
  cases hp : okS uk ua uz
  · rw [hp] at hq2
    rw [fitE_54 (c := (cA k n lk la lz uk ua uz)) hq (by simp [fitB, hp])]
    exact fit_up k n lk la lz uk ua uz w hf hr1 hr2 hq1 hq2
  rw [hp] at hq2
  cases hc : relB k lk uk
  · rw [hc] at ht
    rw [fitE_54 (c := (cA k n lk la lz uk ua uz)) hq (by simp [fitB, hc])]
    exact fit_rel k n lk la lz uk ua uz w hf hr1 hr2 hq1 hq2 ht
  · rw [hc] at ht
    rw [fitE_ok (c := (cA k n lk la lz uk ua uz)) hq (by simp [fitB, ho, hp, hc])]
    exact fit_ok k n lk la lz uk ua uz w hf hr1 hr2 hq1 hq2 ht

set_option maxHeartbeats 4000000 in
set_option maxRecDepth 100000 in
theorem needs_in (k n lk la lz uk ua uz : Int) (i j : Int) (b : Bool) (w : World)
    (hr1 : ∀ w, Calls Tryd.prog 26 #[vS lk la lz] w fun e w' => e = .returned (vS lk la lz) ∧ Below w.heap.size w w')
    (hr2 : ∀ w, Calls Tryd.prog 26 #[vS uk ua uz] w fun e w' => e = .returned (vS uk ua uz) ∧ Below w.heap.size w w')
    (hn : ∀ w, Calls Tryd.prog 34 #[vM k n, vS lk la lz, vS uk ua uz, .int .i64 i, .int .i64 j] w fun e w' => e = .returned (.bool b) ∧ Below w.heap.size w w') : Calls Tryd.prog 15 #[vC k n lk la lz uk ua uz, .int .i64 i, .int .i64 j] w fun e w' => e = .returned (.bool b) ∧ Below w.heap.size w w' := by
  have Hhr1 := hide hr1
  have Hhr2 := hide hr2
  have Hhn := hide hn
  have HO := hide (C8_below w k n lk la lz uk ua uz)
  obtain ⟨⟨k0, k1, k2, k3, k4, k5, k6, k7⟩, hs⟩ := C8_box w k n lk la lz uk ua uz
  have r0 := fun dn os => cell_regrown k0 dn os
  have r1 := fun dn os => cell_regrown k1 dn os
  have r2 := fun dn os => cell_regrown k2 dn os
  have r3 := fun dn os => cell_regrown k3 dn os
  have r4 := fun dn os => cell_regrown k4 dn os
  have r5 := fun dn os => cell_regrown k5 dn os
  have r6 := fun dn os => cell_regrown k6 dn os
  have r7 := fun dn os => cell_regrown k7 dn os
  clear k0 k1 k2 k3 k4 k5 k6 k7 hs hr1 hr2 hn
  go_enter Tryd.func15, Tryd.ntmps15
  go_wp2_with fail
  refine wp_region_quiet_below (by kernel_rfl) (by kernel_rfl) ?_
  repeat (go_big_quiet_step (first
      | (go_at_call 26; with_reducible exact Calls.regrown_of (Hhr1.out _))
      | (go_at_call 26; with_reducible exact Calls.regrown_of (Hhr2.out _))
      | (go_at_call 34; with_reducible exact Calls.regrown_of (Hhn.out _))))
  refine wpQuiet_nil ?_
  intro _ hw'
  obtain ⟨⟨dq, osq⟩, hw''⟩ := hw'
  subst hw''
  have HF := hide (HO.out.trans ((below_regrown _ dq osq).mono HO.out.size))
  clear r0 r1 r2 r3 r4 r5 r6 r7
  go_wp2_with fail
  go_ret
  exact ⟨rfl, HF.out⟩
theorem needs_any (k n lk la lz uk ua uz : Int) (i j : Int) (w : World) (h : fitE (cA k n lk la lz uk ua uz) = 0) : Calls Tryd.prog 15 #[vC k n lk la lz uk ua uz, .int .i64 i, .int .i64 j] w fun e w' => e = .returned (.bool (needB (cA k n lk la lz uk ua uz) i j)) ∧ Below w.heap.size w w' := by
  obtain ⟨hf, ho, hp, hr⟩ : formB k n = true ∧ okS lk la lz = true ∧ okS uk ua uz = true ∧ relB k lk uk = true := fitE_0 h
  exact needs_in k n lk la lz uk ua uz i j _ w (fun w => lref_any lk la lz w) (fun w => lref_any uk ua uz w) fun w => rneeds_any k n lk la lz uk ua uz i j w hf ho hp hr

/-- Whether it takes long. -/
def farB (c : Ca) : Bool := decide (c.k = 4 ∧ (c.lk = 4 ∧ 2000 < c.lz ∨ c.uk = 4 ∧ 2000 < c.uz))
set_option maxHeartbeats 4000000 in
theorem far_any (k n lk la lz uk ua uz : Int) (w : World) : Calls Tryd.prog 12 #[vC k n lk la lz uk ua uz] w fun e w' => e = .returned (.bool (farB (cA k n lk la lz uk ua uz))) ∧ Below w.heap.size w w' := by
  have HE : Hid (∀ b : Bool, (b = true ↔ (k = 4 ∧ (lk = 4 ∧ 2000 < lz ∨ uk = 4 ∧ 2000 < uz))) → b = farB (cA k n lk la lz uk ua uz)) := hide fun b h => by rw [Bool.eq_iff_iff, h]; exact decide_eq_true_iff.symm
  have HO := hide (C8_below w k n lk la lz uk ua uz)
  by_cases h1 : k = 4
  · have e1 : (k == 4) = true := by simp [h1]
    by_cases h2 : lk = 4
    · have e2 : (lk == 4) = true := by simp [h2]
      by_cases h3 : 2000 < lz
      · have e3 : decide (lz > 2000) = true := by simp; omega
        have HE : Hid (true = farB (cA k n lk la lz uk ua uz)) := hide (HE.out true (by simp; omega))
        clear h1 h2 h3
        go_enter Tryd.func12, Tryd.ntmps12
        go_wp2_with fail
        go_ret
        exact ⟨ret_bool HE.out, HO.out⟩
      · have e3 : decide (lz > 2000) = false := by simp; omega
        by_cases h4 : uk = 4
        · have e4 : (uk == 4) = true := by simp [h4]
          have HE : Hid (∀ b : Bool, (b = true ↔ 2000 < uz) → b = farB (cA k n lk la lz uk ua uz)) := hide fun b h => HE.out b (by rw [h]; omega)
          clear h1 h2 h3 h4
          go_enter Tryd.func12, Tryd.ntmps12
          go_wp2_with fail
          go_ret
          exact ⟨ret_bool (HE.out _ (by simp)), HO.out⟩
        · have e4 : (uk == 4) = false := by simp [h4]
          have HE : Hid (false = farB (cA k n lk la lz uk ua uz)) := hide (HE.out false (by simp; omega))
          clear h1 h2 h3 h4
          go_enter Tryd.func12, Tryd.ntmps12
          go_wp2_with fail
          go_ret
          exact ⟨ret_bool HE.out, HO.out⟩
    · have e2 : (lk == 4) = false := by simp [h2]
      by_cases h4 : uk = 4
      · have e4 : (uk == 4) = true := by simp [h4]
        have HE : Hid (∀ b : Bool, (b = true ↔ 2000 < uz) → b = farB (cA k n lk la lz uk ua uz)) := hide fun b h => HE.out b (by rw [h]; omega)
        clear h1 h2 h4
        go_enter Tryd.func12, Tryd.ntmps12
        go_wp2_with fail
        go_ret
        exact ⟨ret_bool (HE.out _ (by simp)), HO.out⟩
      · have e4 : (uk == 4) = false := by simp [h4]
        have HE : Hid (false = farB (cA k n lk la lz uk ua uz)) := hide (HE.out false (by simp; omega))
        clear h1 h2 h4
        go_enter Tryd.func12, Tryd.ntmps12
        go_wp2_with fail
        go_ret
        exact ⟨ret_bool HE.out, HO.out⟩
  · have e1 : (k == 4) = false := by simp [h1]
    have HE : Hid (false = farB (cA k n lk la lz uk ua uz)) := hide (HE.out false (by simp; omega))
    clear h1
    go_enter Tryd.func12, Tryd.ntmps12
    go_wp2_with fail
    go_ret
    exact ⟨ret_bool HE.out, HO.out⟩

end Go.Proofs.YtomhiganfmoceaaDoor
