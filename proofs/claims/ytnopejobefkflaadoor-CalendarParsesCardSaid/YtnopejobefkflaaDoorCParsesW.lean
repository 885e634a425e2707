/-
  The walk of CalendarParses.
-/
import Derived.Test.YtnopejobefkflaaDoorCTextsW
import Derived.Lib.QuietBelow
namespace Go.Proofs.YtnopejobefkflaaDoor
open Go.RowKit Go.Sort CM

set_option maxHeartbeats 1000000 in
theorem parses_long (s : ByteArray) (w : World) (h : 100 < s.size) (hA : (∀ w', Below w.heap.size w w' → Calls Tryd.prog 11 #[] w' fun e w2 => e = .returned (.bool true) ∧ Below w'.heap.size w' w2)) : Calls Tryd.prog 6 #[.string s] w fun e w' => e = .returned (.bool true) ∧ Below w.heap.size w w' := by
  have h' : (100 : Int) < s.size := by omega
  have HA := hide hA
  clear hA
  have HB0 := hide (Below.refl w.heap.size w)
  go_enter Tryd.func6, Tryd.ntmps6
  go_wp2_with fail
  refine (HA.out _ HB0.out).mono ?_
  rintro e w1 ⟨rfl, hb⟩
  have HB1 := hide (HB0.out.trans (hb.mono HB0.out.size))
  clear hb
  go_wp2_with fail
  go_ret
  exact ⟨rfl, HB1.out⟩
set_option maxHeartbeats 2000000 in
theorem parses_no (s : ByteArray) (w : World) (h : s.size ≤ 100) (hP : (∀ w', Below w.heap.size w w' → Calls Tryd.prog 18 #[.string s] w' fun e w2 => e = .returned (.tuple #[vD 0 0 0 0 0 0, .int .i64 20]) ∧ Below w'.heap.size w' w2)) (hA : (∀ w', Below w.heap.size w w' → Calls Tryd.prog 11 #[] w' fun e w2 => e = .returned (.bool true) ∧ Below w'.heap.size w' w2)) : Calls Tryd.prog 6 #[.string s] w fun e w' => e = .returned (.bool true) ∧ Below w.heap.size w w' := by
  have h' : (s.size : Int) ≤ 100 := by omega
  have HP := hide hP
  have HA := hide hA
  clear hP hA
  have HB0 := hide (Below.refl w.heap.size w)
  have HQ : Hid (∀ w, (binOp .eql 23 (vD 0 0 0 0 0 0) (vD 0 0 0 0 0 0)).run Tryd.prog w = .ok (.bool true) w) := hide fun w => by rw [run_eql_date, (sameD_iff _ _ _ _ _ _ _ _ _ _ _ _).2 ⟨rfl, rfl, rfl, rfl, rfl, rfl⟩]
  have HU := hide (run_guard_date 0 0 0 0 0 0 0 0 0 0 0 0)
  go_enter Tryd.func6, Tryd.ntmps6
  go_wp2_with fail
  refine (HP.out _ HB0.out).mono ?_
  rintro e w1 ⟨rfl, hb⟩
  have HB1 := hide ((HB0.out.trans (hb.mono HB0.out.size)).alloc (HB0.out.trans (hb.mono HB0.out.size)).size (.cells #[.int .i64 0, .int .i64 0, .int .i64 0, .int .i64 0, .int .i64 0, .int .i64 0] 23))
  clear hb
  have hq := HQ.out
  have hu := HU.out
  go_wp2_with fail
  refine (HA.out _ HB1.out).mono ?_
  rintro e w2 ⟨rfl, hb⟩
  have HB2 := hide (HB1.out.trans (hb.mono HB1.out.size))
  clear hb
  clear hq hu
  go_wp2_with fail
  go_ret
  exact ⟨rfl, HB2.out⟩
set_option maxHeartbeats 4000000 in
set_option maxRecDepth 100000 in
theorem parses_yes (s : ByteArray) (n y m d h mi wd : Int) (w : World) (hs : s.size ≤ 100)
    (hP : (∀ w', Below w.heap.size w w' → Calls Tryd.prog 18 #[.string s] w' fun e w2 => e = .returned (.tuple #[vD y m d h mi wd, .int .i64 0]) ∧ Below w'.heap.size w' w2))
    (hM : (∀ w', Below w.heap.size w w' → Calls Tryd.prog 12 #[vD y m d h mi wd] w' fun e w2 => e = .returned (.tuple #[.int .i64 n, .int .i64 0]) ∧ Below w'.heap.size w' w2))
    (hO : (∀ w', Below w.heap.size w w' → Calls Tryd.prog 14 #[.int .i64 n] w' fun e w2 => e = .returned (vD y m d h mi wd) ∧ Below w'.heap.size w' w2))
    (hW : (∀ w', Below w.heap.size w w' → Calls Tryd.prog 19 #[vD y m d h mi wd] w' fun e w2 => e = .returned (.string s) ∧ Below w'.heap.size w' w2))
    (hR : (∀ w', Below w.heap.size w w' → Calls Tryd.prog 13 #[vD y m d h mi wd] w' fun e w2 => e = .returned (vD y m d h mi wd) ∧ Below w'.heap.size w' w2))
    (hA : (∀ w', Below w.heap.size w w' → Calls Tryd.prog 11 #[] w' fun e w2 => e = .returned (.bool true) ∧ Below w'.heap.size w' w2)) : Calls Tryd.prog 6 #[.string s] w fun e w' => e = .returned (.bool true) ∧ Below w.heap.size w w' := by
  have h' : (s.size : Int) ≤ 100 := by omega
  have HP := hide hP
  have HM := hide hM
  have HO := hide hO
  have HW := hide hW
  have HR := hide hR
  have HA := hide hA
  clear hP hM hO hW hR hA
  have HB0 := hide (Below.refl w.heap.size w)
  have HQ : Hid (∀ w, (binOp .eql 30 (vD y m d h mi wd) (vD y m d h mi wd)).run Tryd.prog w = .ok (.bool true) w) := hide fun w => by rw [run_eql_arr, (sameD_iff _ _ _ _ _ _ _ _ _ _ _ _).2 ⟨rfl, rfl, rfl, rfl, rfl, rfl⟩]
  have HU := hide (run_guard_arr y m d h mi wd y m d h mi wd)
  go_enter Tryd.func6, Tryd.ntmps6
  go_wp2_with fail
  refine (HP.out _ HB0.out).mono ?_
  rintro e w1 ⟨rfl, hb⟩
  have HB1 := hide ((HB0.out.trans (hb.mono HB0.out.size)).alloc (HB0.out.trans (hb.mono HB0.out.size)).size (.cells #[.int .i64 y, .int .i64 m, .int .i64 d, .int .i64 h, .int .i64 mi, .int .i64 wd] 23))
  clear hb
  go_wp2_with fail
  refine (HM.out _ HB1.out).mono ?_
  rintro e w2 ⟨rfl, hb⟩
  obtain ⟨d0, d1, d2, d3, d4, d5⟩ := box_kept hb
  have HB2 := hide (HB1.out.trans (hb.mono HB1.out.size))
  clear hb
  go_wp2_with fail
  have r0 := fun dn os => cell_regrown d0 dn os
  have r1 := fun dn os => cell_regrown d1 dn os
  have r2 := fun dn os => cell_regrown d2 dn os
  have r3 := fun dn os => cell_regrown d3 dn os
  have r4 := fun dn os => cell_regrown d4 dn os
  have r5 := fun dn os => cell_regrown d5 dn os
  have HG : Hid (∀ dn os, Below w.heap.size w (grow (redrawn w2 dn) os)) := hide fun dn os => HB2.out.trans ((below_regrown w2 dn os).mono HB2.out.size)
  have hq := HQ.out
  have hu := HU.out
  refine wp_region_quiet_below (by kernel_rfl) (by kernel_rfl) ?_
  repeat (go_big_quiet_step (first
      | (go_at_call 14; with_reducible exact Calls.regrown_of (HO.out _ (HG.out _ _)))
      | (go_at_call 19; with_reducible exact Calls.regrown_of (HW.out _ (HG.out _ _)))
      | (go_at_call 13; with_reducible exact Calls.regrown_of (HR.out _ (HG.out _ _)))
      | (go_at_call 11; with_reducible exact Calls.regrown_of (HA.out _ (HG.out _ _)))))
  refine wpQuiet_nil ?_
  intro _ hw'
  obtain ⟨⟨dq, osq⟩, hw''⟩ := hw'
  subst hw''
  have HF := hide (HG.out dq osq)
  clear r0 r1 r2 r3 r4 r5 hq hu
  go_wp2_with fail
  go_ret
  exact ⟨rfl, HF.out⟩
theorem calendarParses_walk (s : ByteArray) (w : World) (_ : s.size ≤ maxLen) (ht : Tab w) (hM : Mon w) (hE : Errs w) : Calls Tryd.prog 6 #[.string s] w fun e w' => e = .returned (.bool true) ∧ Below w.heap.size w w' := by
  have hA := fun w' (hb : Below w.heap.size w w') => awake_any w' (ht.on hb) (hM.on hb)
  by_cases hs : s.size ≤ 100
  · by_cases hn : ∃ n, 0 ≤ n ∧ n < 2147483648 ∧ s.data.toList = textL n
    · obtain ⟨n, h0, h1, hl⟩ := hn
      have hss : s = ⟨(textL n).toArray⟩ := by rw [← hl]
      refine parses_yes s n _ _ _ _ _ _ w hs (fun w' hb => ?_) (fun w' hb => min_yes w' (hM.on hb) h0 h1) (fun w' _ => rof_any n w' h0 h1) (fun w' _ => ?_) (fun w' _ => ref_any _ _ _ _ _ _ w') hA
      · refine (parse_any s w' (ht.on hb) (hM.on hb) (hE.on hb)).mono fun e w2 hh => parse_back h0 h1 e w2 ?_
        rw [hl] at hh; exact hh
      · rw [hss]; exact rshow_any w' h0 h1
    · refine parses_no s w hs (fun w' hb => (parse_any s w' (ht.on hb) (hM.on hb) (hE.on hb)).mono fun e w2 hh => ?_) hA
      rcases hh with ⟨⟨k, k0, k1, hl, -⟩ | ⟨-, rfl⟩, hb2⟩
      · exact absurd ⟨k, k0, k1, hl⟩ hn
      · exact ⟨rfl, hb2⟩
  · exact parses_long s w (by omega) hA
end Go.Proofs.YtnopejobefkflaaDoor
