/-
  The walk of CalendarMonths.
-/
import Derived.Test.YtnopejobefkflaaDoorCAwake
import Derived.Test.YtnopejobefkflaaDoorCRef
import Derived.Lib.QuietBelow
namespace Go.Proofs.YtnopejobefkflaaDoor
open Go.RowKit Go.Sort CM

theorem months_out1 (n : Int) (w : World) (h : n < 0)
    (hO : (∀ w', Below w.heap.size w w' → Calls Tryd.prog 20 #[.int .i64 n] w' fun e w2 => e = .returned (.int .i64 0) ∧ Below w'.heap.size w' w2))
    (hD : (∀ w', Below w.heap.size w w' → Calls Tryd.prog 21 #[.int .i64 n] w' fun e w2 => e = .returned (.int .i64 0) ∧ Below w'.heap.size w' w2))
    (hA : (∀ w', Below w.heap.size w w' → Calls Tryd.prog 11 #[] w' fun e w2 => e = .returned (.bool true) ∧ Below w'.heap.size w' w2)) : Calls Tryd.prog 7 #[.int .i64 n] w fun e w' => e = .returned (.bool true) ∧ Below w.heap.size w w' := by
  have HO := hide hO
  have HD := hide hD
  have HA := hide hA
  clear hO hD hA
  have HB0 := hide (Below.refl w.heap.size w)
  go_enter Tryd.func7, Tryd.ntmps7
  go_wp2_with fail
  refine (HO.out _ HB0.out).mono ?_
  rintro e w1 ⟨rfl, hb⟩
  have HB1 := hide (HB0.out.trans (hb.mono HB0.out.size))
  clear hb
  go_wp2_with fail
  refine (HD.out _ HB1.out).mono ?_
  rintro e w2 ⟨rfl, hb⟩
  have HB2 := hide (HB1.out.trans (hb.mono HB1.out.size))
  clear hb
  go_wp2_with fail
  refine (HA.out _ HB2.out).mono ?_
  rintro e w3 ⟨rfl, hb⟩
  have HB3 := hide (HB2.out.trans (hb.mono HB2.out.size))
  clear hb
  go_wp2_with fail
  go_ret
  exact ⟨rfl, HB3.out⟩
theorem months_out2 (n : Int) (w : World) (h : 2147483648 ≤ n)
    (hO : (∀ w', Below w.heap.size w w' → Calls Tryd.prog 20 #[.int .i64 n] w' fun e w2 => e = .returned (.int .i64 0) ∧ Below w'.heap.size w' w2))
    (hD : (∀ w', Below w.heap.size w w' → Calls Tryd.prog 21 #[.int .i64 n] w' fun e w2 => e = .returned (.int .i64 0) ∧ Below w'.heap.size w' w2))
    (hA : (∀ w', Below w.heap.size w w' → Calls Tryd.prog 11 #[] w' fun e w2 => e = .returned (.bool true) ∧ Below w'.heap.size w' w2)) : Calls Tryd.prog 7 #[.int .i64 n] w fun e w' => e = .returned (.bool true) ∧ Below w.heap.size w w' := by
  have HO := hide hO
  have HD := hide hD
  have HA := hide hA
  clear hO hD hA
  have HB0 := hide (Below.refl w.heap.size w)
  have h' : ¬ n < 0 := by omega
  go_enter Tryd.func7, Tryd.ntmps7
  go_wp2_with fail
  refine (HO.out _ HB0.out).mono ?_
  rintro e w1 ⟨rfl, hb⟩
  have HB1 := hide (HB0.out.trans (hb.mono HB0.out.size))
  clear hb
  go_wp2_with fail
  refine (HD.out _ HB1.out).mono ?_
  rintro e w2 ⟨rfl, hb⟩
  have HB2 := hide (HB1.out.trans (hb.mono HB1.out.size))
  clear hb
  go_wp2_with fail
  refine (HA.out _ HB2.out).mono ?_
  rintro e w3 ⟨rfl, hb⟩
  have HB3 := hide (HB2.out.trans (hb.mono HB2.out.size))
  clear hb
  go_wp2_with fail
  go_ret
  exact ⟨rfl, HB3.out⟩
theorem arr_kept {w w' : World} {a b c f g k : Int} (hb : Below (w.alloc (.cells #[.int .i64 a, .int .i64 b, .int .i64 c, .int .i64 f, .int .i64 g, .int .i64 k] 30)).heap.size (w.alloc (.cells #[.int .i64 a, .int .i64 b, .int .i64 c, .int .i64 f, .int .i64 g, .int .i64 k] 30)) w') :
    w'.cell? ⟨w.heap.size, 0, none⟩ = some (.int .i64 a) ∧ w'.cell? ⟨w.heap.size, 1, none⟩ = some (.int .i64 b) ∧ w'.cell? ⟨w.heap.size, 2, none⟩ = some (.int .i64 c) ∧ w'.cell? ⟨w.heap.size, 3, none⟩ = some (.int .i64 f) ∧ w'.cell? ⟨w.heap.size, 4, none⟩ = some (.int .i64 g) ∧ w'.cell? ⟨w.heap.size, 5, none⟩ = some (.int .i64 k) := by
  refine ⟨?_, ?_, ?_, ?_, ?_, ?_⟩
  all_goals
    rw [hb.cell (p := ⟨w.heap.size, _, none⟩) (by simp)]
    simp
set_option maxHeartbeats 4000000 in
set_option maxRecDepth 100000 in
theorem months_in1 (n y m d h mi wd nx st we : Int) (w : World) (n0 : 0 ≤ n) (n1 : n < 2147483648) (y0 : 2000 ≤ y) (y1 : y ≤ 6083) (m0 : 1 ≤ m) (m1 : m ≤ 12) (s0 : 0 ≤ st) (s1 : st ≤ n) (x0 : 0 ≤ nx) (x1 : n < nx)
    (hR : (∀ w', Below w.heap.size w w' → Calls Tryd.prog 14 #[.int .i64 n] w' fun e w2 => e = .returned (vD y m d h mi wd) ∧ Below w'.heap.size w' w2))
    (hO : (∀ w', Below w.heap.size w w' → Calls Tryd.prog 20 #[.int .i64 n] w' fun e w2 => e = .returned (.int .i64 ((y - 2000) * 12 + m - 1)) ∧ Below w'.heap.size w' w2))
    (hN : (∀ w', Below w.heap.size w w' → Calls Tryd.prog 22 #[.int .i64 ((y - 2000) * 12 + m)] w' fun e w2 => e = .returned (.int .i64 nx) ∧ Below w'.heap.size w' w2))
    (hS : (∀ w', Below w.heap.size w w' → Calls Tryd.prog 22 #[.int .i64 ((y - 2000) * 12 + m - 1)] w' fun e w2 => e = .returned (.int .i64 st) ∧ Below w'.heap.size w' w2))
    (hT : (∀ w', Below w.heap.size w w' → Calls Tryd.prog 14 #[.int .i64 st] w' fun e w2 => e = .returned (vD y m 1 0 0 we) ∧ Below w'.heap.size w' w2))
    (hD : (∀ w', Below w.heap.size w w' → Calls Tryd.prog 21 #[.int .i64 n] w' fun e w2 => e = .returned (.int .i64 (n / 1440)) ∧ Below w'.heap.size w' w2))
    (hA : (∀ w', Below w.heap.size w w' → Calls Tryd.prog 11 #[] w' fun e w2 => e = .returned (.bool true) ∧ Below w'.heap.size w' w2)) : Calls Tryd.prog 7 #[.int .i64 n] w fun e w' => e = .returned (.bool true) ∧ Below w.heap.size w w' := by
  have HR := hide hR
  have HO := hide hO
  have HN := hide hN
  have HS := hide hS
  have HT := hide hT
  have HD := hide hD
  have HA := hide hA
  clear hR hO hN hS hT hD hA
  have HB0 := hide (Below.refl w.heap.size w)
  have HQ : Hid (∀ w, (binOp .eql 30 (vD y m 1 0 0 we) (vD y m 1 0 0 we)).run Tryd.prog w = .ok (.bool true) w) := hide fun w => by rw [run_eql_arr, (sameD_iff _ _ _ _ _ _ _ _ _ _ _ _).2 ⟨rfl, rfl, rfl, rfl, rfl, rfl⟩]
  have HU := hide (run_guard_arr y m 1 0 0 we y m 1 0 0 we)
  have HI : Hid (∀ w, (Instr.index 30 (vD y m 1 0 0 we) (.int .i64 5)).run Tryd.prog w = .ok (.int .i64 we) w) := hide fun w => by kernel_rfl
  go_enter Tryd.func7, Tryd.ntmps7
  go_wp2_with fail
  refine (HR.out _ HB0.out).mono ?_
  rintro e w1 ⟨rfl, hb⟩
  have HB1 := hide ((HB0.out.trans hb).alloc (HB0.out.trans hb).size (.cells #[.int .i64 y, .int .i64 m, .int .i64 d, .int .i64 h, .int .i64 mi, .int .i64 wd] 30))
  clear hb
  go_wp2_with fail
  refine (HO.out _ HB1.out).mono ?_
  rintro e w2 ⟨rfl, hb⟩
  obtain ⟨d0, d1, d2, d3, d4, d5⟩ := arr_kept hb
  have z2 : w1.heap.size < w2.heap.size := by have := hb.size; simp at this; omega
  have HB2 := hide (HB1.out.trans (hb.mono HB1.out.size))
  clear hb d2 d3 d4 d5
  go_wp2_with fail
  refine (HN.out _ HB2.out).mono ?_
  rintro e w3 ⟨rfl, hb⟩
  have c0 := (hb.cell (p := ⟨w1.heap.size, 0, none⟩) z2).trans d0
  have c1 := (hb.cell (p := ⟨w1.heap.size, 1, none⟩) z2).trans d1
  have z3 := Nat.lt_of_lt_of_le z2 hb.size
  have HB3 := hide (HB2.out.trans (hb.mono HB2.out.size))
  clear hb d0 d1 z2
  go_wp2_with fail
  refine (HS.out _ HB3.out).mono ?_
  rintro e w4 ⟨rfl, hb⟩
  have e0 := (hb.cell (p := ⟨w1.heap.size, 0, none⟩) z3).trans c0
  have e1 := (hb.cell (p := ⟨w1.heap.size, 1, none⟩) z3).trans c1
  have HB4 := hide (HB3.out.trans (hb.mono HB3.out.size))
  clear hb c0 c1 z3
  go_wp2_with fail
  have r0 := fun dn os => cell_regrown e0 dn os
  have r1 := fun dn os => cell_regrown e1 dn os
  have HG : Hid (∀ dn os, Below w.heap.size w (grow (redrawn w4 dn) os)) := hide fun dn os => HB4.out.trans ((below_regrown w4 dn os).mono HB4.out.size)
  have hq := HQ.out
  have hu := HU.out
  have hi := HI.out
  refine wp_region_quiet_below (by kernel_rfl) (by kernel_rfl) ?_
  repeat (go_big_quiet_step (first
      | (go_at_call 14; with_reducible exact Calls.regrown_of (HT.out _ (HG.out _ _)))
      | (go_at_call 21; with_reducible exact Calls.regrown_of (HD.out _ (HG.out _ _)))
      | (go_at_call 11; with_reducible exact Calls.regrown_of (HA.out _ (HG.out _ _)))))
  refine wpQuiet_nil ?_
  intro _ hw'
  obtain ⟨⟨dq, osq⟩, hw''⟩ := hw'
  subst hw''
  have HF := hide (HG.out dq osq)
  clear r0 r1 hq hu hi
  go_wp2_with fail
  go_ret
  exact ⟨rfl, HF.out⟩
set_option maxHeartbeats 4000000 in
set_option maxRecDepth 100000 in
theorem months_in2 (n y m d h mi wd nx st we : Int) (w : World) (n0 : 0 ≤ n) (n1 : n < 2147483648) (y0 : 2000 ≤ y) (y1 : y ≤ 6083) (m0 : 1 ≤ m) (m1 : m ≤ 12) (s0 : 0 ≤ st) (s1 : st ≤ n) (x0 : nx < 0) (x1 : 2147439008 ≤ n)
    (hR : (∀ w', Below w.heap.size w w' → Calls Tryd.prog 14 #[.int .i64 n] w' fun e w2 => e = .returned (vD y m d h mi wd) ∧ Below w'.heap.size w' w2))
    (hO : (∀ w', Below w.heap.size w w' → Calls Tryd.prog 20 #[.int .i64 n] w' fun e w2 => e = .returned (.int .i64 ((y - 2000) * 12 + m - 1)) ∧ Below w'.heap.size w' w2))
    (hN : (∀ w', Below w.heap.size w w' → Calls Tryd.prog 22 #[.int .i64 ((y - 2000) * 12 + m)] w' fun e w2 => e = .returned (.int .i64 nx) ∧ Below w'.heap.size w' w2))
    (hS : (∀ w', Below w.heap.size w w' → Calls Tryd.prog 22 #[.int .i64 ((y - 2000) * 12 + m - 1)] w' fun e w2 => e = .returned (.int .i64 st) ∧ Below w'.heap.size w' w2))
    (hT : (∀ w', Below w.heap.size w w' → Calls Tryd.prog 14 #[.int .i64 st] w' fun e w2 => e = .returned (vD y m 1 0 0 we) ∧ Below w'.heap.size w' w2))
    (hD : (∀ w', Below w.heap.size w w' → Calls Tryd.prog 21 #[.int .i64 n] w' fun e w2 => e = .returned (.int .i64 (n / 1440)) ∧ Below w'.heap.size w' w2))
    (hA : (∀ w', Below w.heap.size w w' → Calls Tryd.prog 11 #[] w' fun e w2 => e = .returned (.bool true) ∧ Below w'.heap.size w' w2)) : Calls Tryd.prog 7 #[.int .i64 n] w fun e w' => e = .returned (.bool true) ∧ Below w.heap.size w w' := by
  have HR := hide hR
  have HO := hide hO
  have HN := hide hN
  have HS := hide hS
  have HT := hide hT
  have HD := hide hD
  have HA := hide hA
  clear hR hO hN hS hT hD hA
  have HB0 := hide (Below.refl w.heap.size w)
  have HQ : Hid (∀ w, (binOp .eql 30 (vD y m 1 0 0 we) (vD y m 1 0 0 we)).run Tryd.prog w = .ok (.bool true) w) := hide fun w => by rw [run_eql_arr, (sameD_iff _ _ _ _ _ _ _ _ _ _ _ _).2 ⟨rfl, rfl, rfl, rfl, rfl, rfl⟩]
  have HU := hide (run_guard_arr y m 1 0 0 we y m 1 0 0 we)
  have HI : Hid (∀ w, (Instr.index 30 (vD y m 1 0 0 we) (.int .i64 5)).run Tryd.prog w = .ok (.int .i64 we) w) := hide fun w => by kernel_rfl
  go_enter Tryd.func7, Tryd.ntmps7
  go_wp2_with fail
  refine (HR.out _ HB0.out).mono ?_
  rintro e w1 ⟨rfl, hb⟩
  have HB1 := hide ((HB0.out.trans hb).alloc (HB0.out.trans hb).size (.cells #[.int .i64 y, .int .i64 m, .int .i64 d, .int .i64 h, .int .i64 mi, .int .i64 wd] 30))
  clear hb
  go_wp2_with fail
  refine (HO.out _ HB1.out).mono ?_
  rintro e w2 ⟨rfl, hb⟩
  obtain ⟨d0, d1, d2, d3, d4, d5⟩ := arr_kept hb
  have z2 : w1.heap.size < w2.heap.size := by have := hb.size; simp at this; omega
  have HB2 := hide (HB1.out.trans (hb.mono HB1.out.size))
  clear hb d2 d3 d4 d5
  go_wp2_with fail
  refine (HN.out _ HB2.out).mono ?_
  rintro e w3 ⟨rfl, hb⟩
  have c0 := (hb.cell (p := ⟨w1.heap.size, 0, none⟩) z2).trans d0
  have c1 := (hb.cell (p := ⟨w1.heap.size, 1, none⟩) z2).trans d1
  have z3 := Nat.lt_of_lt_of_le z2 hb.size
  have HB3 := hide (HB2.out.trans (hb.mono HB2.out.size))
  clear hb d0 d1 z2
  go_wp2_with fail
  refine (HS.out _ HB3.out).mono ?_
  rintro e w4 ⟨rfl, hb⟩
  have e0 := (hb.cell (p := ⟨w1.heap.size, 0, none⟩) z3).trans c0
  have e1 := (hb.cell (p := ⟨w1.heap.size, 1, none⟩) z3).trans c1
  have HB4 := hide (HB3.out.trans (hb.mono HB3.out.size))
  clear hb c0 c1 z3
  go_wp2_with fail
  have r0 := fun dn os => cell_regrown e0 dn os
  have r1 := fun dn os => cell_regrown e1 dn os
  have HG : Hid (∀ dn os, Below w.heap.size w (grow (redrawn w4 dn) os)) := hide fun dn os => HB4.out.trans ((below_regrown w4 dn os).mono HB4.out.size)
  have hq := HQ.out
  have hu := HU.out
  have hi := HI.out
  refine wp_region_quiet_below (by kernel_rfl) (by kernel_rfl) ?_
  repeat (go_big_quiet_step (first
      | (go_at_call 14; with_reducible exact Calls.regrown_of (HT.out _ (HG.out _ _)))
      | (go_at_call 21; with_reducible exact Calls.regrown_of (HD.out _ (HG.out _ _)))
      | (go_at_call 11; with_reducible exact Calls.regrown_of (HA.out _ (HG.out _ _)))))
  refine wpQuiet_nil ?_
  intro _ hw'
  obtain ⟨⟨dq, osq⟩, hw''⟩ := hw'
  subst hw''
  have HF := hide (HG.out dq osq)
  clear r0 r1 hq hu hi
  go_wp2_with fail
  go_ret
  exact ⟨rfl, HF.out⟩
theorem calendarMonths_walk (n : Int) (w : World) (_ : -9223372036854775808 ≤ n) (_ : n ≤ 9223372036854775807) (ht : Tab w) (hM : Mon w) : Calls Tryd.prog 7 #[.int .i64 n] w fun e w' => e = .returned (.bool true) ∧ Below w.heap.size w w' := by
  have hA := fun w' (hb : Below w.heap.size w w') => awake_any w' (ht.on hb) (hM.on hb)
  by_cases hn : 0 ≤ n ∧ n < 2147483648
  · obtain ⟨h0, h1⟩ := hn
    have hk := (K_spec h0).1
    have hy0 := Y_lo h0
    have hy1 := Y_hi h0 h1
    have a := mth_bd h0
    have b := mth_max h0 h1
    have c := mst_le h0
    have e : (Y n - 2000) * 12 + ((K n : Int) + 1) - 1 = mth n := by unfold mth; omega
    have e' : (Y n - 2000) * 12 + ((K n : Int) + 1) = mth n + 1 := by omega
    obtain ⟨p0, p1, p2, p3, p4, p5, p6⟩ := mst_parts a
    have q1 : Y (mst (mth n)) = Y n := by rw [p1]; unfold mth; omega
    have q2 : K (mst (mth n)) = K n := by rw [p2]; unfold mth; omega
    have hR : (∀ w', Below w.heap.size w w' → Calls Tryd.prog 14 #[.int .i64 n] w' fun e w2 => e = .returned (vD (Y n) ((K n : Int) + 1) (D n) (n / 60 % 24) (n % 60) ((6 + n / 1440) % 7)) ∧ Below w'.heap.size w' w2) := fun w' _ => rof_any n w' h0 h1
    have hO : (∀ w', Below w.heap.size w w' → Calls Tryd.prog 20 #[.int .i64 n] w' fun e w2 => e = .returned (.int .i64 ((Y n - 2000) * 12 + ((K n : Int) + 1) - 1)) ∧ Below w'.heap.size w' w2) := fun w' hb => by rw [e]; exact month_yes n w' h0 h1 (hM.on hb)
    have hN : (∀ w', Below w.heap.size w w' → Calls Tryd.prog 22 #[.int .i64 ((Y n - 2000) * 12 + ((K n : Int) + 1))] w' fun e w2 => e = .returned (.int .i64 (msV (mth n + 1))) ∧ Below w'.heap.size w' w2) := fun w' hb => by rw [e']; exact mst_any _ w' (hM.on hb)
    have hS : (∀ w', Below w.heap.size w w' → Calls Tryd.prog 22 #[.int .i64 ((Y n - 2000) * 12 + ((K n : Int) + 1) - 1)] w' fun e w2 => e = .returned (.int .i64 (mst (mth n))) ∧ Below w'.heap.size w' w2) := fun w' hb => by rw [e]; exact mst_yes _ w' a b (hM.on hb)
    have hT : (∀ w', Below w.heap.size w w' → Calls Tryd.prog 14 #[.int .i64 (mst (mth n))] w' fun e w2 => e = .returned (vD (Y n) ((K n : Int) + 1) 1 0 0 ((6 + mst (mth n) / 1440) % 7)) ∧ Below w'.heap.size w' w2) := fun w' _ => by
      have := rof_any (mst (mth n)) w' p0 (by omega)
      rw [show vDate (mst (mth n)) = vD (Y (mst (mth n))) ((K (mst (mth n)) : Int) + 1) (D (mst (mth n))) (mst (mth n) / 60 % 24) (mst (mth n) % 60) ((6 + mst (mth n) / 1440) % 7) from rfl, q1, q2, p3, p4, p5] at this
      exact this
    have hD : (∀ w', Below w.heap.size w w' → Calls Tryd.prog 21 #[.int .i64 n] w' fun e w2 => e = .returned (.int .i64 (n / 1440)) ∧ Below w'.heap.size w' w2) := fun w' _ => (day_yes n w' h0 h1).mono fun e w2 hh => ⟨hh.1, hh.2 ▸ Below.refl _ _⟩
    by_cases hx : mth n + 1 ≤ 48996
    · have ex : msV (mth n + 1) = mst (mth n + 1) := if_pos ⟨by omega, hx⟩
      have := (mst_parts (m := mth n + 1) (by omega)).1
      exact months_in1 n _ _ _ _ _ _ _ _ _ w h0 h1 hy0 hy1 (by omega) (by omega) p0 c.1 (by rw [ex]; exact this) (by rw [ex]; exact c.2) hR hO hN hS hT hD hA
    · have ex : msV (mth n + 1) = -1 := if_neg (by omega)
      have em : mth n = 48996 := by omega
      have := mst_last.1
      rw [em] at c
      exact months_in2 n _ _ _ _ _ _ _ _ _ w h0 h1 hy0 hy1 (by omega) (by omega) p0 (by rw [em]; exact c.1) (by rw [ex]; decide) (by omega) hR hO hN hS hT hD hA
  · have hO : (∀ w', Below w.heap.size w w' → Calls Tryd.prog 20 #[.int .i64 n] w' fun e w2 => e = .returned (.int .i64 0) ∧ Below w'.heap.size w' w2) := fun w' _ => month_no n w' (by omega)
    have hD : (∀ w', Below w.heap.size w w' → Calls Tryd.prog 21 #[.int .i64 n] w' fun e w2 => e = .returned (.int .i64 0) ∧ Below w'.heap.size w' w2) := fun w' _ => (day_no n w' (by omega)).mono fun e w2 hh => ⟨hh.1, hh.2 ▸ Below.refl _ _⟩
    by_cases h0 : n < 0
    · exact months_out1 n w h0 hO hD hA
    · exact months_out2 n w (by omega) hO hD hA
end Go.Proofs.YtnopejobefkflaaDoor
