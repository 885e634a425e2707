/-
  The walk of CalendarMinutes: dates that are a minute's, and dates with a number that no date has.
-/
import Derived.Test.YtnopejobefkflaaDoorCAwake
import Derived.Test.YtnopejobefkflaaDoorCRef
import Derived.Lib.QuietBelow
namespace Go.Proofs.YtnopejobefkflaaDoor
open Go.RowKit Go.Sort CM

set_option maxHeartbeats 8000000 in
set_option maxRecDepth 100000 in
theorem mins_yes (y m d h mi wd n : Int) (w : World) (n0 : 0 ≤ n) (n1 : n < 2147483648)
    (hM : (∀ w', Below w.heap.size w w' → Calls Tryd.prog 12 #[vD y m d h mi wd] w' fun e w2 => e = .returned (.tuple #[.int .i64 n, .int .i64 0]) ∧ Below w'.heap.size w' w2))
    (hO : (∀ w', Below w.heap.size w w' → Calls Tryd.prog 14 #[.int .i64 n] w' fun e w2 => e = .returned (vD y m d h mi wd) ∧ Below w'.heap.size w' w2))
    (hR : (∀ w', Below w.heap.size w w' → Calls Tryd.prog 13 #[vD y m d h mi wd] w' fun e w2 => e = .returned (vD y m d h mi wd) ∧ Below w'.heap.size w' w2))
    (hA : (∀ w', Below w.heap.size w w' → Calls Tryd.prog 11 #[] w' fun e w2 => e = .returned (.bool true) ∧ Below w'.heap.size w' w2)) : Calls Tryd.prog 4 #[vD y m d h mi wd] w fun e w' => e = .returned (.bool true) ∧ Below w.heap.size w w' := by
  have HM := hide hM
  have HO := hide hO
  have HR := hide hR
  have HA := hide hA
  clear hM hO hR hA
  have HB0 := hide ((Below.refl w.heap.size w).alloc (Nat.le_refl _) (.cells #[.int .i64 y, .int .i64 m, .int .i64 d, .int .i64 h, .int .i64 mi, .int .i64 wd] 23))
  have HQ : Hid (∀ w, (binOp .eql 30 (vD y m d h mi wd) (vD y m d h mi wd)).run Tryd.prog w = .ok (.bool true) w) := hide fun w => by rw [run_eql_arr, (sameD_iff _ _ _ _ _ _ _ _ _ _ _ _).2 ⟨rfl, rfl, rfl, rfl, rfl, rfl⟩]
  have HU := hide (run_guard_arr y m d h mi wd y m d h mi wd)
  go_enter Tryd.func4, Tryd.ntmps4
  go_wp2_with fail
  refine (HM.out _ HB0.out).mono ?_
  rintro e w1 ⟨rfl, hb⟩
  obtain ⟨d0, d1, d2, d3, d4, d5⟩ := box_kept hb
  have z1 : w.heap.size < w1.heap.size := by have := hb.size; simp at this; omega
  have HB1 := hide (HB0.out.trans (hb.mono HB0.out.size))
  clear hb
  go_wp2_with fail
  have r0 := fun dn os => cell_regrown d0 dn os
  have r1 := fun dn os => cell_regrown d1 dn os
  have r2 := fun dn os => cell_regrown d2 dn os
  have r3 := fun dn os => cell_regrown d3 dn os
  have r4 := fun dn os => cell_regrown d4 dn os
  have r5 := fun dn os => cell_regrown d5 dn os
  have HG : Hid (∀ dn os, Below w.heap.size w (grow (redrawn w1 dn) os)) := hide fun dn os => HB1.out.trans ((below_regrown w1 dn os).mono HB1.out.size)
  have hq := HQ.out
  have hu := HU.out
  refine wp_region_quiet_below (by kernel_rfl) (by kernel_rfl) ?_
  repeat (go_big_quiet_step (first
      | (go_at_call 14; with_reducible exact Calls.regrown_of (HO.out _ (HG.out _ _)))
      | (go_at_call 13; with_reducible exact Calls.regrown_of (HR.out _ (HG.out _ _)))
      | (go_at_call 11; with_reducible exact Calls.regrown_of (HA.out _ (HG.out _ _)))))
  refine wpQuiet_nil ?_
  intro _ hw'
  obtain ⟨⟨dq, osq⟩, hw''⟩ := hw'
  subst hw''
  have HF := hide (HG.out dq osq)
  clear r0 r1 r2 r3 r4 r5 hq hu
  go_wp2_with fail
  go_ret
  exact ⟨rfl, HF.out⟩
set_option maxHeartbeats 8000000 in
set_option maxRecDepth 100000 in
theorem mins_out0 (y m d h mi wd : Int) (w : World)  (g0 : y < 2000)
    (hM : (∀ w', Below w.heap.size w w' → Calls Tryd.prog 12 #[vD y m d h mi wd] w' fun e w2 => e = .returned (.tuple #[.int .i64 0, .int .i64 30]) ∧ Below w'.heap.size w' w2))
    (hA : (∀ w', Below w.heap.size w w' → Calls Tryd.prog 11 #[] w' fun e w2 => e = .returned (.bool true) ∧ Below w'.heap.size w' w2)) : Calls Tryd.prog 4 #[vD y m d h mi wd] w fun e w' => e = .returned (.bool true) ∧ Below w.heap.size w w' := by
  have HM := hide hM
  have HA := hide hA
  clear hM hA
  have HB0 := hide ((Below.refl w.heap.size w).alloc (Nat.le_refl _) (.cells #[.int .i64 y, .int .i64 m, .int .i64 d, .int .i64 h, .int .i64 mi, .int .i64 wd] 23))
  have k0 : decide (y < 2000) = true := by simp; omega
  go_enter Tryd.func4, Tryd.ntmps4
  go_wp2_with fail
  refine (HM.out _ HB0.out).mono ?_
  rintro e w1 ⟨rfl, hb⟩
  obtain ⟨d0, d1, d2, d3, d4, d5⟩ := box_kept hb
  have z1 : w.heap.size < w1.heap.size := by have := hb.size; simp at this; omega
  have HB1 := hide (HB0.out.trans (hb.mono HB0.out.size))
  clear hb
  go_wp2_with fail
  have r0 := fun dn os => cell_regrown d0 dn os
  have r1 := fun dn os => cell_regrown d1 dn os
  have r2 := fun dn os => cell_regrown d2 dn os
  have r3 := fun dn os => cell_regrown d3 dn os
  have r4 := fun dn os => cell_regrown d4 dn os
  have r5 := fun dn os => cell_regrown d5 dn os
  have HG : Hid (∀ dn os, Below w.heap.size w (grow (redrawn w1 dn) os)) := hide fun dn os => HB1.out.trans ((below_regrown w1 dn os).mono HB1.out.size)
  refine wp_region_quiet_below (by kernel_rfl) (by kernel_rfl) ?_
  repeat (go_big_quiet_step (first
      | (go_at_call 15; with_reducible exact Calls.regrown_of (HA.out _ (HG.out _ _)))))
  refine wpQuiet_nil ?_
  intro _ hw'
  obtain ⟨⟨dq, osq⟩, hw''⟩ := hw'
  subst hw''
  have HF := hide (HG.out dq osq)
  clear r0 r1 r2 r3 r4 r5
  go_wp2_with fail
  refine (HA.out _ HF.out).mono ?_
  rintro e w2 ⟨rfl, hb⟩
  have HB2 := hide (HF.out.trans (hb.mono HF.out.size))
  clear hb
  go_wp2_with fail
  go_ret
  exact ⟨rfl, HB2.out⟩
set_option maxHeartbeats 8000000 in
set_option maxRecDepth 100000 in
theorem mins_out1 (y m d h mi wd : Int) (w : World) (g0 : 2000 ≤ y) (g1 : 6083 < y)
    (hM : (∀ w', Below w.heap.size w w' → Calls Tryd.prog 12 #[vD y m d h mi wd] w' fun e w2 => e = .returned (.tuple #[.int .i64 0, .int .i64 30]) ∧ Below w'.heap.size w' w2))
    (hA : (∀ w', Below w.heap.size w w' → Calls Tryd.prog 11 #[] w' fun e w2 => e = .returned (.bool true) ∧ Below w'.heap.size w' w2)) : Calls Tryd.prog 4 #[vD y m d h mi wd] w fun e w' => e = .returned (.bool true) ∧ Below w.heap.size w w' := by
  have HM := hide hM
  have HA := hide hA
  clear hM hA
  have HB0 := hide ((Below.refl w.heap.size w).alloc (Nat.le_refl _) (.cells #[.int .i64 y, .int .i64 m, .int .i64 d, .int .i64 h, .int .i64 mi, .int .i64 wd] 23))
  have k0 : decide (y < 2000) = false := by simp; omega
  have k1 : decide (6083 < y) = true := by simp; omega
  go_enter Tryd.func4, Tryd.ntmps4
  go_wp2_with fail
  refine (HM.out _ HB0.out).mono ?_
  rintro e w1 ⟨rfl, hb⟩
  obtain ⟨d0, d1, d2, d3, d4, d5⟩ := box_kept hb
  have z1 : w.heap.size < w1.heap.size := by have := hb.size; simp at this; omega
  have HB1 := hide (HB0.out.trans (hb.mono HB0.out.size))
  clear hb
  go_wp2_with fail
  have r0 := fun dn os => cell_regrown d0 dn os
  have r1 := fun dn os => cell_regrown d1 dn os
  have r2 := fun dn os => cell_regrown d2 dn os
  have r3 := fun dn os => cell_regrown d3 dn os
  have r4 := fun dn os => cell_regrown d4 dn os
  have r5 := fun dn os => cell_regrown d5 dn os
  have HG : Hid (∀ dn os, Below w.heap.size w (grow (redrawn w1 dn) os)) := hide fun dn os => HB1.out.trans ((below_regrown w1 dn os).mono HB1.out.size)
  refine wp_region_quiet_below (by kernel_rfl) (by kernel_rfl) ?_
  repeat (go_big_quiet_step (first
      | (go_at_call 15; with_reducible exact Calls.regrown_of (HA.out _ (HG.out _ _)))))
  refine wpQuiet_nil ?_
  intro _ hw'
  obtain ⟨⟨dq, osq⟩, hw''⟩ := hw'
  subst hw''
  have HF := hide (HG.out dq osq)
  clear r0 r1 r2 r3 r4 r5
  go_wp2_with fail
  refine (HA.out _ HF.out).mono ?_
  rintro e w2 ⟨rfl, hb⟩
  have HB2 := hide (HF.out.trans (hb.mono HF.out.size))
  clear hb
  go_wp2_with fail
  go_ret
  exact ⟨rfl, HB2.out⟩
set_option maxHeartbeats 8000000 in
set_option maxRecDepth 100000 in
theorem mins_out2 (y m d h mi wd : Int) (w : World) (g0 : 2000 ≤ y) (g1 : y ≤ 6083) (g2 : m < 1)
    (hM : (∀ w', Below w.heap.size w w' → Calls Tryd.prog 12 #[vD y m d h mi wd] w' fun e w2 => e = .returned (.tuple #[.int .i64 0, .int .i64 30]) ∧ Below w'.heap.size w' w2))
    (hA : (∀ w', Below w.heap.size w w' → Calls Tryd.prog 11 #[] w' fun e w2 => e = .returned (.bool true) ∧ Below w'.heap.size w' w2)) : Calls Tryd.prog 4 #[vD y m d h mi wd] w fun e w' => e = .returned (.bool true) ∧ Below w.heap.size w w' := by
  have HM := hide hM
  have HA := hide hA
  clear hM hA
  have HB0 := hide ((Below.refl w.heap.size w).alloc (Nat.le_refl _) (.cells #[.int .i64 y, .int .i64 m, .int .i64 d, .int .i64 h, .int .i64 mi, .int .i64 wd] 23))
  have k0 : decide (y < 2000) = false := by simp; omega
  have k1 : decide (6083 < y) = false := by simp; omega
  have k2 : decide (m < 1) = true := by simp; omega
  go_enter Tryd.func4, Tryd.ntmps4
  go_wp2_with fail
  refine (HM.out _ HB0.out).mono ?_
  rintro e w1 ⟨rfl, hb⟩
  obtain ⟨d0, d1, d2, d3, d4, d5⟩ := box_kept hb
  have z1 : w.heap.size < w1.heap.size := by have := hb.size; simp at this; omega
  have HB1 := hide (HB0.out.trans (hb.mono HB0.out.size))
  clear hb
  go_wp2_with fail
  have r0 := fun dn os => cell_regrown d0 dn os
  have r1 := fun dn os => cell_regrown d1 dn os
  have r2 := fun dn os => cell_regrown d2 dn os
  have r3 := fun dn os => cell_regrown d3 dn os
  have r4 := fun dn os => cell_regrown d4 dn os
  have r5 := fun dn os => cell_regrown d5 dn os
  have HG : Hid (∀ dn os, Below w.heap.size w (grow (redrawn w1 dn) os)) := hide fun dn os => HB1.out.trans ((below_regrown w1 dn os).mono HB1.out.size)
  refine wp_region_quiet_below (by kernel_rfl) (by kernel_rfl) ?_
  repeat (go_big_quiet_step (first
      | (go_at_call 15; with_reducible exact Calls.regrown_of (HA.out _ (HG.out _ _)))))
  refine wpQuiet_nil ?_
  intro _ hw'
  obtain ⟨⟨dq, osq⟩, hw''⟩ := hw'
  subst hw''
  have HF := hide (HG.out dq osq)
  clear r0 r1 r2 r3 r4 r5
  go_wp2_with fail
  refine (HA.out _ HF.out).mono ?_
  rintro e w2 ⟨rfl, hb⟩
  have HB2 := hide (HF.out.trans (hb.mono HF.out.size))
  clear hb
  go_wp2_with fail
  go_ret
  exact ⟨rfl, HB2.out⟩
set_option maxHeartbeats 8000000 in
set_option maxRecDepth 100000 in
theorem mins_out3 (y m d h mi wd : Int) (w : World) (g0 : 2000 ≤ y) (g1 : y ≤ 6083) (g2 : 1 ≤ m) (g3 : 12 < m)
    (hM : (∀ w', Below w.heap.size w w' → Calls Tryd.prog 12 #[vD y m d h mi wd] w' fun e w2 => e = .returned (.tuple #[.int .i64 0, .int .i64 30]) ∧ Below w'.heap.size w' w2))
    (hA : (∀ w', Below w.heap.size w w' → Calls Tryd.prog 11 #[] w' fun e w2 => e = .returned (.bool true) ∧ Below w'.heap.size w' w2)) : Calls Tryd.prog 4 #[vD y m d h mi wd] w fun e w' => e = .returned (.bool true) ∧ Below w.heap.size w w' := by
  have HM := hide hM
  have HA := hide hA
  clear hM hA
  have HB0 := hide ((Below.refl w.heap.size w).alloc (Nat.le_refl _) (.cells #[.int .i64 y, .int .i64 m, .int .i64 d, .int .i64 h, .int .i64 mi, .int .i64 wd] 23))
  have k0 : decide (y < 2000) = false := by simp; omega
  have k1 : decide (6083 < y) = false := by simp; omega
  have k2 : decide (m < 1) = false := by simp; omega
  have k3 : decide (12 < m) = true := by simp; omega
  go_enter Tryd.func4, Tryd.ntmps4
  go_wp2_with fail
  refine (HM.out _ HB0.out).mono ?_
  rintro e w1 ⟨rfl, hb⟩
  obtain ⟨d0, d1, d2, d3, d4, d5⟩ := box_kept hb
  have z1 : w.heap.size < w1.heap.size := by have := hb.size; simp at this; omega
  have HB1 := hide (HB0.out.trans (hb.mono HB0.out.size))
  clear hb
  go_wp2_with fail
  have r0 := fun dn os => cell_regrown d0 dn os
  have r1 := fun dn os => cell_regrown d1 dn os
  have r2 := fun dn os => cell_regrown d2 dn os
  have r3 := fun dn os => cell_regrown d3 dn os
  have r4 := fun dn os => cell_regrown d4 dn os
  have r5 := fun dn os => cell_regrown d5 dn os
  have HG : Hid (∀ dn os, Below w.heap.size w (grow (redrawn w1 dn) os)) := hide fun dn os => HB1.out.trans ((below_regrown w1 dn os).mono HB1.out.size)
  refine wp_region_quiet_below (by kernel_rfl) (by kernel_rfl) ?_
  repeat (go_big_quiet_step (first
      | (go_at_call 15; with_reducible exact Calls.regrown_of (HA.out _ (HG.out _ _)))))
  refine wpQuiet_nil ?_
  intro _ hw'
  obtain ⟨⟨dq, osq⟩, hw''⟩ := hw'
  subst hw''
  have HF := hide (HG.out dq osq)
  clear r0 r1 r2 r3 r4 r5
  go_wp2_with fail
  refine (HA.out _ HF.out).mono ?_
  rintro e w2 ⟨rfl, hb⟩
  have HB2 := hide (HF.out.trans (hb.mono HF.out.size))
  clear hb
  go_wp2_with fail
  go_ret
  exact ⟨rfl, HB2.out⟩
set_option maxHeartbeats 8000000 in
set_option maxRecDepth 100000 in
theorem mins_out4 (y m d h mi wd : Int) (w : World) (g0 : 2000 ≤ y) (g1 : y ≤ 6083) (g2 : 1 ≤ m) (g3 : m ≤ 12) (g4 : d < 1)
    (hM : (∀ w', Below w.heap.size w w' → Calls Tryd.prog 12 #[vD y m d h mi wd] w' fun e w2 => e = .returned (.tuple #[.int .i64 0, .int .i64 30]) ∧ Below w'.heap.size w' w2))
    (hA : (∀ w', Below w.heap.size w w' → Calls Tryd.prog 11 #[] w' fun e w2 => e = .returned (.bool true) ∧ Below w'.heap.size w' w2)) : Calls Tryd.prog 4 #[vD y m d h mi wd] w fun e w' => e = .returned (.bool true) ∧ Below w.heap.size w w' := by
  have HM := hide hM
  have HA := hide hA
  clear hM hA
  have HB0 := hide ((Below.refl w.heap.size w).alloc (Nat.le_refl _) (.cells #[.int .i64 y, .int .i64 m, .int .i64 d, .int .i64 h, .int .i64 mi, .int .i64 wd] 23))
  have k0 : decide (y < 2000) = false := by simp; omega
  have k1 : decide (6083 < y) = false := by simp; omega
  have k2 : decide (m < 1) = false := by simp; omega
  have k3 : decide (12 < m) = false := by simp; omega
  have k4 : decide (d < 1) = true := by simp; omega
  go_enter Tryd.func4, Tryd.ntmps4
  go_wp2_with fail
  refine (HM.out _ HB0.out).mono ?_
  rintro e w1 ⟨rfl, hb⟩
  obtain ⟨d0, d1, d2, d3, d4, d5⟩ := box_kept hb
  have z1 : w.heap.size < w1.heap.size := by have := hb.size; simp at this; omega
  have HB1 := hide (HB0.out.trans (hb.mono HB0.out.size))
  clear hb
  go_wp2_with fail
  have r0 := fun dn os => cell_regrown d0 dn os
  have r1 := fun dn os => cell_regrown d1 dn os
  have r2 := fun dn os => cell_regrown d2 dn os
  have r3 := fun dn os => cell_regrown d3 dn os
  have r4 := fun dn os => cell_regrown d4 dn os
  have r5 := fun dn os => cell_regrown d5 dn os
  have HG : Hid (∀ dn os, Below w.heap.size w (grow (redrawn w1 dn) os)) := hide fun dn os => HB1.out.trans ((below_regrown w1 dn os).mono HB1.out.size)
  refine wp_region_quiet_below (by kernel_rfl) (by kernel_rfl) ?_
  repeat (go_big_quiet_step (first
      | (go_at_call 15; with_reducible exact Calls.regrown_of (HA.out _ (HG.out _ _)))))
  refine wpQuiet_nil ?_
  intro _ hw'
  obtain ⟨⟨dq, osq⟩, hw''⟩ := hw'
  subst hw''
  have HF := hide (HG.out dq osq)
  clear r0 r1 r2 r3 r4 r5
  go_wp2_with fail
  refine (HA.out _ HF.out).mono ?_
  rintro e w2 ⟨rfl, hb⟩
  have HB2 := hide (HF.out.trans (hb.mono HF.out.size))
  clear hb
  go_wp2_with fail
  go_ret
  exact ⟨rfl, HB2.out⟩
set_option maxHeartbeats 8000000 in
set_option maxRecDepth 100000 in
theorem mins_out5 (y m d h mi wd dd : Int) (w : World) (g0 : 2000 ≤ y) (g1 : y ≤ 6083) (g2 : 1 ≤ m) (g3 : m ≤ 12) (g4 : 1 ≤ d) (g5 : dd < d)
    (hM : (∀ w', Below w.heap.size w w' → Calls Tryd.prog 12 #[vD y m d h mi wd] w' fun e w2 => e = .returned (.tuple #[.int .i64 0, .int .i64 30]) ∧ Below w'.heap.size w' w2))
    (hD : (∀ w', Below w.heap.size w w' → Calls Tryd.prog 15 #[.int .i64 y, .int .i64 m] w' fun e w2 => e = .returned (.int .i64 dd) ∧ Below w'.heap.size w' w2))
    (hA : (∀ w', Below w.heap.size w w' → Calls Tryd.prog 11 #[] w' fun e w2 => e = .returned (.bool true) ∧ Below w'.heap.size w' w2)) : Calls Tryd.prog 4 #[vD y m d h mi wd] w fun e w' => e = .returned (.bool true) ∧ Below w.heap.size w w' := by
  have HM := hide hM
  have HD := hide hD
  have HA := hide hA
  clear hM hD hA
  have HB0 := hide ((Below.refl w.heap.size w).alloc (Nat.le_refl _) (.cells #[.int .i64 y, .int .i64 m, .int .i64 d, .int .i64 h, .int .i64 mi, .int .i64 wd] 23))
  have k0 : decide (y < 2000) = false := by simp; omega
  have k1 : decide (6083 < y) = false := by simp; omega
  have k2 : decide (m < 1) = false := by simp; omega
  have k3 : decide (12 < m) = false := by simp; omega
  have k4 : decide (d < 1) = false := by simp; omega
  have k5 : decide (dd < d) = true := by simp; omega
  go_enter Tryd.func4, Tryd.ntmps4
  go_wp2_with fail
  refine (HM.out _ HB0.out).mono ?_
  rintro e w1 ⟨rfl, hb⟩
  obtain ⟨d0, d1, d2, d3, d4, d5⟩ := box_kept hb
  have z1 : w.heap.size < w1.heap.size := by have := hb.size; simp at this; omega
  have HB1 := hide (HB0.out.trans (hb.mono HB0.out.size))
  clear hb
  go_wp2_with fail
  have r0 := fun dn os => cell_regrown d0 dn os
  have r1 := fun dn os => cell_regrown d1 dn os
  have r2 := fun dn os => cell_regrown d2 dn os
  have r3 := fun dn os => cell_regrown d3 dn os
  have r4 := fun dn os => cell_regrown d4 dn os
  have r5 := fun dn os => cell_regrown d5 dn os
  have HG : Hid (∀ dn os, Below w.heap.size w (grow (redrawn w1 dn) os)) := hide fun dn os => HB1.out.trans ((below_regrown w1 dn os).mono HB1.out.size)
  refine wp_region_quiet_below (by kernel_rfl) (by kernel_rfl) ?_
  repeat (go_big_quiet_step (first
      | (go_at_call 15; with_reducible exact Calls.regrown_of (HD.out _ (HG.out _ _)))))
  refine wpQuiet_nil ?_
  intro _ hw'
  obtain ⟨⟨dq, osq⟩, hw''⟩ := hw'
  subst hw''
  have HF := hide (HG.out dq osq)
  clear r0 r1 r2 r3 r4 r5
  go_wp2_with fail
  refine (HA.out _ HF.out).mono ?_
  rintro e w2 ⟨rfl, hb⟩
  have HB2 := hide (HF.out.trans (hb.mono HF.out.size))
  clear hb
  go_wp2_with fail
  go_ret
  exact ⟨rfl, HB2.out⟩
set_option maxHeartbeats 8000000 in
set_option maxRecDepth 100000 in
theorem mins_out6 (y m d h mi wd dd : Int) (w : World) (g0 : 2000 ≤ y) (g1 : y ≤ 6083) (g2 : 1 ≤ m) (g3 : m ≤ 12) (g4 : 1 ≤ d) (g5 : d ≤ dd) (g6 : h < 0)
    (hM : (∀ w', Below w.heap.size w w' → Calls Tryd.prog 12 #[vD y m d h mi wd] w' fun e w2 => e = .returned (.tuple #[.int .i64 0, .int .i64 30]) ∧ Below w'.heap.size w' w2))
    (hD : (∀ w', Below w.heap.size w w' → Calls Tryd.prog 15 #[.int .i64 y, .int .i64 m] w' fun e w2 => e = .returned (.int .i64 dd) ∧ Below w'.heap.size w' w2))
    (hA : (∀ w', Below w.heap.size w w' → Calls Tryd.prog 11 #[] w' fun e w2 => e = .returned (.bool true) ∧ Below w'.heap.size w' w2)) : Calls Tryd.prog 4 #[vD y m d h mi wd] w fun e w' => e = .returned (.bool true) ∧ Below w.heap.size w w' := by
  have HM := hide hM
  have HD := hide hD
  have HA := hide hA
  clear hM hD hA
  have HB0 := hide ((Below.refl w.heap.size w).alloc (Nat.le_refl _) (.cells #[.int .i64 y, .int .i64 m, .int .i64 d, .int .i64 h, .int .i64 mi, .int .i64 wd] 23))
  have k0 : decide (y < 2000) = false := by simp; omega
  have k1 : decide (6083 < y) = false := by simp; omega
  have k2 : decide (m < 1) = false := by simp; omega
  have k3 : decide (12 < m) = false := by simp; omega
  have k4 : decide (d < 1) = false := by simp; omega
  have k5 : decide (dd < d) = false := by simp; omega
  have k6 : decide (h < 0) = true := by simp; omega
  go_enter Tryd.func4, Tryd.ntmps4
  go_wp2_with fail
  refine (HM.out _ HB0.out).mono ?_
  rintro e w1 ⟨rfl, hb⟩
  obtain ⟨d0, d1, d2, d3, d4, d5⟩ := box_kept hb
  have z1 : w.heap.size < w1.heap.size := by have := hb.size; simp at this; omega
  have HB1 := hide (HB0.out.trans (hb.mono HB0.out.size))
  clear hb
  go_wp2_with fail
  have r0 := fun dn os => cell_regrown d0 dn os
  have r1 := fun dn os => cell_regrown d1 dn os
  have r2 := fun dn os => cell_regrown d2 dn os
  have r3 := fun dn os => cell_regrown d3 dn os
  have r4 := fun dn os => cell_regrown d4 dn os
  have r5 := fun dn os => cell_regrown d5 dn os
  have HG : Hid (∀ dn os, Below w.heap.size w (grow (redrawn w1 dn) os)) := hide fun dn os => HB1.out.trans ((below_regrown w1 dn os).mono HB1.out.size)
  refine wp_region_quiet_below (by kernel_rfl) (by kernel_rfl) ?_
  repeat (go_big_quiet_step (first
      | (go_at_call 15; with_reducible exact Calls.regrown_of (HD.out _ (HG.out _ _)))))
  refine wpQuiet_nil ?_
  intro _ hw'
  obtain ⟨⟨dq, osq⟩, hw''⟩ := hw'
  subst hw''
  have HF := hide (HG.out dq osq)
  clear r0 r1 r2 r3 r4 r5
  go_wp2_with fail
  refine (HA.out _ HF.out).mono ?_
  rintro e w2 ⟨rfl, hb⟩
  have HB2 := hide (HF.out.trans (hb.mono HF.out.size))
  clear hb
  go_wp2_with fail
  go_ret
  exact ⟨rfl, HB2.out⟩
set_option maxHeartbeats 8000000 in
set_option maxRecDepth 100000 in
theorem mins_out7 (y m d h mi wd dd : Int) (w : World) (g0 : 2000 ≤ y) (g1 : y ≤ 6083) (g2 : 1 ≤ m) (g3 : m ≤ 12) (g4 : 1 ≤ d) (g5 : d ≤ dd) (g6 : 0 ≤ h) (g7 : 23 < h)
    (hM : (∀ w', Below w.heap.size w w' → Calls Tryd.prog 12 #[vD y m d h mi wd] w' fun e w2 => e = .returned (.tuple #[.int .i64 0, .int .i64 30]) ∧ Below w'.heap.size w' w2))
    (hD : (∀ w', Below w.heap.size w w' → Calls Tryd.prog 15 #[.int .i64 y, .int .i64 m] w' fun e w2 => e = .returned (.int .i64 dd) ∧ Below w'.heap.size w' w2))
    (hA : (∀ w', Below w.heap.size w w' → Calls Tryd.prog 11 #[] w' fun e w2 => e = .returned (.bool true) ∧ Below w'.heap.size w' w2)) : Calls Tryd.prog 4 #[vD y m d h mi wd] w fun e w' => e = .returned (.bool true) ∧ Below w.heap.size w w' := by
  have HM := hide hM
  have HD := hide hD
  have HA := hide hA
  clear hM hD hA
  have HB0 := hide ((Below.refl w.heap.size w).alloc (Nat.le_refl _) (.cells #[.int .i64 y, .int .i64 m, .int .i64 d, .int .i64 h, .int .i64 mi, .int .i64 wd] 23))
  have k0 : decide (y < 2000) = false := by simp; omega
  have k1 : decide (6083 < y) = false := by simp; omega
  have k2 : decide (m < 1) = false := by simp; omega
  have k3 : decide (12 < m) = false := by simp; omega
  have k4 : decide (d < 1) = false := by simp; omega
  have k5 : decide (dd < d) = false := by simp; omega
  have k6 : decide (h < 0) = false := by simp; omega
  have k7 : decide (23 < h) = true := by simp; omega
  go_enter Tryd.func4, Tryd.ntmps4
  go_wp2_with fail
  refine (HM.out _ HB0.out).mono ?_
  rintro e w1 ⟨rfl, hb⟩
  obtain ⟨d0, d1, d2, d3, d4, d5⟩ := box_kept hb
  have z1 : w.heap.size < w1.heap.size := by have := hb.size; simp at this; omega
  have HB1 := hide (HB0.out.trans (hb.mono HB0.out.size))
  clear hb
  go_wp2_with fail
  have r0 := fun dn os => cell_regrown d0 dn os
  have r1 := fun dn os => cell_regrown d1 dn os
  have r2 := fun dn os => cell_regrown d2 dn os
  have r3 := fun dn os => cell_regrown d3 dn os
  have r4 := fun dn os => cell_regrown d4 dn os
  have r5 := fun dn os => cell_regrown d5 dn os
  have HG : Hid (∀ dn os, Below w.heap.size w (grow (redrawn w1 dn) os)) := hide fun dn os => HB1.out.trans ((below_regrown w1 dn os).mono HB1.out.size)
  refine wp_region_quiet_below (by kernel_rfl) (by kernel_rfl) ?_
  repeat (go_big_quiet_step (first
      | (go_at_call 15; with_reducible exact Calls.regrown_of (HD.out _ (HG.out _ _)))))
  refine wpQuiet_nil ?_
  intro _ hw'
  obtain ⟨⟨dq, osq⟩, hw''⟩ := hw'
  subst hw''
  have HF := hide (HG.out dq osq)
  clear r0 r1 r2 r3 r4 r5
  go_wp2_with fail
  refine (HA.out _ HF.out).mono ?_
  rintro e w2 ⟨rfl, hb⟩
  have HB2 := hide (HF.out.trans (hb.mono HF.out.size))
  clear hb
  go_wp2_with fail
  go_ret
  exact ⟨rfl, HB2.out⟩
set_option maxHeartbeats 8000000 in
set_option maxRecDepth 100000 in
theorem mins_out8 (y m d h mi wd dd : Int) (w : World) (g0 : 2000 ≤ y) (g1 : y ≤ 6083) (g2 : 1 ≤ m) (g3 : m ≤ 12) (g4 : 1 ≤ d) (g5 : d ≤ dd) (g6 : 0 ≤ h) (g7 : h ≤ 23) (g8 : mi < 0)
    (hM : (∀ w', Below w.heap.size w w' → Calls Tryd.prog 12 #[vD y m d h mi wd] w' fun e w2 => e = .returned (.tuple #[.int .i64 0, .int .i64 30]) ∧ Below w'.heap.size w' w2))
    (hD : (∀ w', Below w.heap.size w w' → Calls Tryd.prog 15 #[.int .i64 y, .int .i64 m] w' fun e w2 => e = .returned (.int .i64 dd) ∧ Below w'.heap.size w' w2))
    (hA : (∀ w', Below w.heap.size w w' → Calls Tryd.prog 11 #[] w' fun e w2 => e = .returned (.bool true) ∧ Below w'.heap.size w' w2)) : Calls Tryd.prog 4 #[vD y m d h mi wd] w fun e w' => e = .returned (.bool true) ∧ Below w.heap.size w w' := by
  have HM := hide hM
  have HD := hide hD
  have HA := hide hA
  clear hM hD hA
  have HB0 := hide ((Below.refl w.heap.size w).alloc (Nat.le_refl _) (.cells #[.int .i64 y, .int .i64 m, .int .i64 d, .int .i64 h, .int .i64 mi, .int .i64 wd] 23))
  have k0 : decide (y < 2000) = false := by simp; omega
  have k1 : decide (6083 < y) = false := by simp; omega
  have k2 : decide (m < 1) = false := by simp; omega
  have k3 : decide (12 < m) = false := by simp; omega
  have k4 : decide (d < 1) = false := by simp; omega
  have k5 : decide (dd < d) = false := by simp; omega
  have k6 : decide (h < 0) = false := by simp; omega
  have k7 : decide (23 < h) = false := by simp; omega
  have k8 : decide (mi < 0) = true := by simp; omega
  go_enter Tryd.func4, Tryd.ntmps4
  go_wp2_with fail
  refine (HM.out _ HB0.out).mono ?_
  rintro e w1 ⟨rfl, hb⟩
  obtain ⟨d0, d1, d2, d3, d4, d5⟩ := box_kept hb
  have z1 : w.heap.size < w1.heap.size := by have := hb.size; simp at this; omega
  have HB1 := hide (HB0.out.trans (hb.mono HB0.out.size))
  clear hb
  go_wp2_with fail
  have r0 := fun dn os => cell_regrown d0 dn os
  have r1 := fun dn os => cell_regrown d1 dn os
  have r2 := fun dn os => cell_regrown d2 dn os
  have r3 := fun dn os => cell_regrown d3 dn os
  have r4 := fun dn os => cell_regrown d4 dn os
  have r5 := fun dn os => cell_regrown d5 dn os
  have HG : Hid (∀ dn os, Below w.heap.size w (grow (redrawn w1 dn) os)) := hide fun dn os => HB1.out.trans ((below_regrown w1 dn os).mono HB1.out.size)
  refine wp_region_quiet_below (by kernel_rfl) (by kernel_rfl) ?_
  repeat (go_big_quiet_step (first
      | (go_at_call 15; with_reducible exact Calls.regrown_of (HD.out _ (HG.out _ _)))))
  refine wpQuiet_nil ?_
  intro _ hw'
  obtain ⟨⟨dq, osq⟩, hw''⟩ := hw'
  subst hw''
  have HF := hide (HG.out dq osq)
  clear r0 r1 r2 r3 r4 r5
  go_wp2_with fail
  refine (HA.out _ HF.out).mono ?_
  rintro e w2 ⟨rfl, hb⟩
  have HB2 := hide (HF.out.trans (hb.mono HF.out.size))
  clear hb
  go_wp2_with fail
  go_ret
  exact ⟨rfl, HB2.out⟩
set_option maxHeartbeats 8000000 in
set_option maxRecDepth 100000 in
theorem mins_out9 (y m d h mi wd dd : Int) (w : World) (g0 : 2000 ≤ y) (g1 : y ≤ 6083) (g2 : 1 ≤ m) (g3 : m ≤ 12) (g4 : 1 ≤ d) (g5 : d ≤ dd) (g6 : 0 ≤ h) (g7 : h ≤ 23) (g8 : 0 ≤ mi) (g9 : 59 < mi)
    (hM : (∀ w', Below w.heap.size w w' → Calls Tryd.prog 12 #[vD y m d h mi wd] w' fun e w2 => e = .returned (.tuple #[.int .i64 0, .int .i64 30]) ∧ Below w'.heap.size w' w2))
    (hD : (∀ w', Below w.heap.size w w' → Calls Tryd.prog 15 #[.int .i64 y, .int .i64 m] w' fun e w2 => e = .returned (.int .i64 dd) ∧ Below w'.heap.size w' w2))
    (hA : (∀ w', Below w.heap.size w w' → Calls Tryd.prog 11 #[] w' fun e w2 => e = .returned (.bool true) ∧ Below w'.heap.size w' w2)) : Calls Tryd.prog 4 #[vD y m d h mi wd] w fun e w' => e = .returned (.bool true) ∧ Below w.heap.size w w' := by
  have HM := hide hM
  have HD := hide hD
  have HA := hide hA
  clear hM hD hA
  have HB0 := hide ((Below.refl w.heap.size w).alloc (Nat.le_refl _) (.cells #[.int .i64 y, .int .i64 m, .int .i64 d, .int .i64 h, .int .i64 mi, .int .i64 wd] 23))
  have k0 : decide (y < 2000) = false := by simp; omega
  have k1 : decide (6083 < y) = false := by simp; omega
  have k2 : decide (m < 1) = false := by simp; omega
  have k3 : decide (12 < m) = false := by simp; omega
  have k4 : decide (d < 1) = false := by simp; omega
  have k5 : decide (dd < d) = false := by simp; omega
  have k6 : decide (h < 0) = false := by simp; omega
  have k7 : decide (23 < h) = false := by simp; omega
  have k8 : decide (mi < 0) = false := by simp; omega
  have k9 : decide (59 < mi) = true := by simp; omega
  go_enter Tryd.func4, Tryd.ntmps4
  go_wp2_with fail
  refine (HM.out _ HB0.out).mono ?_
  rintro e w1 ⟨rfl, hb⟩
  obtain ⟨d0, d1, d2, d3, d4, d5⟩ := box_kept hb
  have z1 : w.heap.size < w1.heap.size := by have := hb.size; simp at this; omega
  have HB1 := hide (HB0.out.trans (hb.mono HB0.out.size))
  clear hb
  go_wp2_with fail
  have r0 := fun dn os => cell_regrown d0 dn os
  have r1 := fun dn os => cell_regrown d1 dn os
  have r2 := fun dn os => cell_regrown d2 dn os
  have r3 := fun dn os => cell_regrown d3 dn os
  have r4 := fun dn os => cell_regrown d4 dn os
  have r5 := fun dn os => cell_regrown d5 dn os
  have HG : Hid (∀ dn os, Below w.heap.size w (grow (redrawn w1 dn) os)) := hide fun dn os => HB1.out.trans ((below_regrown w1 dn os).mono HB1.out.size)
  refine wp_region_quiet_below (by kernel_rfl) (by kernel_rfl) ?_
  repeat (go_big_quiet_step (first
      | (go_at_call 15; with_reducible exact Calls.regrown_of (HD.out _ (HG.out _ _)))))
  refine wpQuiet_nil ?_
  intro _ hw'
  obtain ⟨⟨dq, osq⟩, hw''⟩ := hw'
  subst hw''
  have HF := hide (HG.out dq osq)
  clear r0 r1 r2 r3 r4 r5
  go_wp2_with fail
  refine (HA.out _ HF.out).mono ?_
  rintro e w2 ⟨rfl, hb⟩
  have HB2 := hide (HF.out.trans (hb.mono HF.out.size))
  clear hb
  go_wp2_with fail
  go_ret
  exact ⟨rfl, HB2.out⟩
end Go.Proofs.YtnopejobefkflaaDoor
