/-
  The walk of CalendarDates.
-/
import Derived.Test.YtnopejobefkflaaDoorCAwake
import Derived.Test.YtnopejobefkflaaDoorCRef
namespace Go.Proofs.YtnopejobefkflaaDoor
open Go.RowKit Go.Sort CM

set_option maxHeartbeats 2000000 in
theorem dates_in (n y m d h mi wd : Int) (w : World) (n0 : 0 ≤ n) (n1 : n < 2147483648)
    (hO : (∀ w', Below w.heap.size w w' → Calls Tryd.prog 10 #[.int .i64 n] w' fun e w2 => e = .returned (.tuple #[vD y m d h mi wd, .int .i64 0]) ∧ Below w'.heap.size w' w2))
    (hM : (∀ w', Below w.heap.size w w' → Calls Tryd.prog 12 #[vD y m d h mi wd] w' fun e w2 => e = .returned (.tuple #[.int .i64 n, .int .i64 0]) ∧ Below w'.heap.size w' w2))
    (hR : (∀ w', Below w.heap.size w w' → Calls Tryd.prog 13 #[vD y m d h mi wd] w' fun e w2 => e = .returned (vD y m d h mi wd) ∧ Below w'.heap.size w' w2))
    (hP : (∀ w', Below w.heap.size w w' → Calls Tryd.prog 14 #[.int .i64 n] w' fun e w2 => e = .returned (vD y m d h mi wd) ∧ Below w'.heap.size w' w2))
    (hA : (∀ w', Below w.heap.size w w' → Calls Tryd.prog 11 #[] w' fun e w2 => e = .returned (.bool true) ∧ Below w'.heap.size w' w2)) : Calls Tryd.prog 3 #[.int .i64 n] w fun e w' => e = .returned (.bool true) ∧ Below w.heap.size w w' := by
  have HO := hide hO
  have HM := hide hM
  have HR := hide hR
  have HP := hide hP
  have HA := hide hA
  clear hO hM hR hP hA
  have HB0 := hide (Below.refl w.heap.size w)
  have HQ : Hid (∀ w, (binOp .eql 30 (vD y m d h mi wd) (vD y m d h mi wd)).run Tryd.prog w = .ok (.bool true) w) := hide fun w => by rw [run_eql_arr, (sameD_iff _ _ _ _ _ _ _ _ _ _ _ _).2 ⟨rfl, rfl, rfl, rfl, rfl, rfl⟩]
  have HU := hide (run_guard_arr y m d h mi wd y m d h mi wd)
  go_enter Tryd.func3, Tryd.ntmps3
  go_wp2_with fail
  refine (HO.out _ HB0.out).mono ?_
  rintro e w1 ⟨rfl, hb⟩
  have HB1 := hide ((HB0.out.trans hb).alloc (HB0.out.trans hb).size (.cells #[.int .i64 y, .int .i64 m, .int .i64 d, .int .i64 h, .int .i64 mi, .int .i64 wd] 23))
  clear hb
  go_wp2_with fail
  refine (HM.out _ HB1.out).mono ?_
  rintro e w2 ⟨rfl, hb⟩
  obtain ⟨d0, d1, d2, d3, d4, d5⟩ := box_kept hb
  have HB2 := hide (HB1.out.trans (hb.mono HB1.out.size))
  clear hb
  go_wp2_with fail
  refine (HR.out _ HB2.out).mono ?_
  rintro e w3 ⟨rfl, hb⟩
  have HB3 := hide (HB2.out.trans (hb.mono HB2.out.size))
  clear hb
  go_wp2_with fail
  refine (HP.out _ HB3.out).mono ?_
  rintro e w4 ⟨rfl, hb⟩
  have HB4 := hide (HB3.out.trans (hb.mono HB3.out.size))
  clear hb
  have hq := HQ.out
  have hu := HU.out
  go_wp2_with fail
  refine (HA.out _ HB4.out).mono ?_
  rintro e w5 ⟨rfl, hb⟩
  have HB5 := hide (HB4.out.trans (hb.mono HB4.out.size))
  clear hb
  clear hq hu
  go_wp2_with fail
  go_ret
  exact ⟨rfl, HB5.out⟩
theorem dates_out (n : Int) (w : World) (hn : n < 0 ∨ 2147483648 ≤ n)
    (hO : (∀ w', Below w.heap.size w w' → Calls Tryd.prog 10 #[.int .i64 n] w' fun e w2 => e = .returned (.tuple #[vD 0 0 0 0 0 0, .int .i64 30]) ∧ Below w'.heap.size w' w2))
    (hA : (∀ w', Below w.heap.size w w' → Calls Tryd.prog 11 #[] w' fun e w2 => e = .returned (.bool true) ∧ Below w'.heap.size w' w2)) : Calls Tryd.prog 3 #[.int .i64 n] w fun e w' => e = .returned (.bool true) ∧ Below w.heap.size w w' := by
  have HO := hide hO
  have HA := hide hA
  clear hO hA
  have HB0 := hide (Below.refl w.heap.size w)
  have HQ : Hid (∀ w, (binOp .eql 23 (vD 0 0 0 0 0 0) (vD 0 0 0 0 0 0)).run Tryd.prog w = .ok (.bool true) w) := hide fun w => by rw [run_eql_date, (sameD_iff _ _ _ _ _ _ _ _ _ _ _ _).2 ⟨rfl, rfl, rfl, rfl, rfl, rfl⟩]
  have HU := hide (run_guard_date 0 0 0 0 0 0 0 0 0 0 0 0)
  by_cases h0 : n < 0
  · clear hn
    go_enter Tryd.func3, Tryd.ntmps3
    go_wp2_with fail
    refine (HO.out _ HB0.out).mono ?_
    rintro e w1 ⟨rfl, hb⟩
    have HB1 := hide ((HB0.out.trans hb).alloc (HB0.out.trans hb).size (.cells #[.int .i64 0, .int .i64 0, .int .i64 0, .int .i64 0, .int .i64 0, .int .i64 0] 23))
    clear hb
    have hq := HQ.out
    have hu := HU.out
    go_wp2_with fail
    refine (HA.out _ HB1.out).mono ?_
    rintro e w2 ⟨rfl, hb⟩
    have HB2 := hide (HB1.out.trans (hb.mono HB1.out.size))
    clear hb
    clear hq hu
    go_wp2_with fail
    go_ret
    exact ⟨rfl, HB2.out⟩
  · have h1 : 2147483648 ≤ n := by omega
    clear hn
    go_enter Tryd.func3, Tryd.ntmps3
    go_wp2_with fail
    refine (HO.out _ HB0.out).mono ?_
    rintro e w1 ⟨rfl, hb⟩
    have HB1 := hide ((HB0.out.trans hb).alloc (HB0.out.trans hb).size (.cells #[.int .i64 0, .int .i64 0, .int .i64 0, .int .i64 0, .int .i64 0, .int .i64 0] 23))
    clear hb
    have hq := HQ.out
    have hu := HU.out
    go_wp2_with fail
    refine (HA.out _ HB1.out).mono ?_
    rintro e w2 ⟨rfl, hb⟩
    have HB2 := hide (HB1.out.trans (hb.mono HB1.out.size))
    clear hb
    clear hq hu
    go_wp2_with fail
    go_ret
    exact ⟨rfl, HB2.out⟩
theorem calendarDates_walk (n : Int) (w : World) (_ : -9223372036854775808 ≤ n) (_ : n ≤ 9223372036854775807) (ht : Tab w) (hM : Mon w) : Calls Tryd.prog 3 #[.int .i64 n] w fun e w' => e = .returned (.bool true) ∧ Below w.heap.size w w' := by
  have hA := fun w' (hb : Below w.heap.size w w') => awake_any w' (ht.on hb) (hM.on hb)
  by_cases hn : 0 ≤ n ∧ n < 2147483648
  · exact dates_in n _ _ _ _ _ _ w hn.1 hn.2 (fun w' hb => of_yes n w' hn.1 hn.2 (hM.on hb)) (fun w' hb => min_yes w' (hM.on hb) hn.1 hn.2) (fun w' _ => ref_any _ _ _ _ _ _ w') (fun w' _ => rof_any n w' hn.1 hn.2) hA
  · exact dates_out n w (by omega) (fun w' _ => of_no n w' (by omega)) hA
end Go.Proofs.YtnopejobefkflaaDoor
