/-
  The fixed example of the laws.
-/
import Derived.Test.YtnopejobefkflaaDoorCParse
namespace Go.Proofs.YtnopejobefkflaaDoor
open Go.RowKit Go.Sort CM

theorem dt60 : vDate 86400 = vD 2000 3 1 0 0 3 := by
  show vD (Y 86400) (K 86400 + 1) (D 86400) _ _ _ = _
  rw [day60.1, day60.2.1, day60.2.2]; rfl
theorem txt60 : textL 86400 = [50, 48, 48, 48, 45, 48, 51, 45, 48, 49, 32, 48, 48, 58, 48, 48] := by
  unfold textL; rw [day60.1, day60.2.1, day60.2.2]; rfl
theorem awake_any (w : World) (ht : Tab w) (hM : Mon w) : Calls Tryd.prog 11 #[] w fun e w' => e = .returned (.bool true) ∧ Below w.heap.size w w' := by
  have HO : Hid (∀ w, Mon w → Calls Tryd.prog 10 #[.int .i64 86400] w fun e w' => e = .returned (.tuple #[vD 2000 3 1 0 0 3, .int .i64 0]) ∧ Below w.heap.size w w') := hide (fun w hM => by
    have := of_yes 86400 w (by omega) (by omega) hM
    rw [dt60] at this; exact this)
  have HS : Hid (∀ w, Tab w → Mon w → Calls Tryd.prog 17 #[vD 2000 3 1 0 0 3] w fun e w' => e = .returned (.string ⟨#[50, 48, 48, 48, 45, 48, 51, 45, 48, 49, 32, 48, 48, 58, 48, 48]⟩) ∧ Below w.heap.size w w') := hide (fun w ht hM => by
    have := show_yes (n := 86400) w ht hM (by omega) (by omega)
    rw [dt60, txt60] at this; exact this)
  have HQ : Hid (∀ w, (binOp .eql 23 (vD 2000 3 1 0 0 3) (vD 2000 3 1 0 0 3)).run Tryd.prog w = .ok (.bool true) w) := hide fun w => by rw [run_eql_date]; rfl
  have HU := hide (run_guard_date 2000 3 1 0 0 3 2000 3 1 0 0 3)
  have HT := hide ht; have HM := hide hM
  clear ht hM
  go_enter Tryd.func11, Tryd.ntmps11
  go_wp2_with fail
  refine (HO.out _ HM.out).mono ?_
  rintro e w1 ⟨rfl, hb1⟩
  have HB1 := hide (hb1.alloc hb1.size (.cells #[.int .i64 2000, .int .i64 3, .int .i64 1, .int .i64 0, .int .i64 0, .int .i64 3] 23))
  clear hb1
  have hq := HQ.out
  have hu := HU.out
  go_wp2_with fail
  refine (HS.out _ (HT.out.on HB1.out) (HM.out.on HB1.out)).mono ?_
  rintro e w2 ⟨rfl, hb2⟩
  have HB2 := hide (then_below HB1.out hb2)
  clear hb2
  go_wp2_with fail
  go_ret
  exact ⟨rfl, HB2.out⟩
theorem calendarLeaps_walk (y m : Int) (w : World) (_ : -9223372036854775808 ≤ y) (_ : y ≤ 9223372036854775807) (hm0 : -9223372036854775808 ≤ m) (hm1 : m ≤ 9223372036854775807) (ht : Tab w) (hM : Mon w) :
    Calls Tryd.prog 9 #[.int .i64 y, .int .i64 m] w fun e w' => e = .returned (.bool true) ∧ Below w.heap.size w w' := by
  have HA := hide (awake_any w ht hM)
  have HM := hide hM
  clear ht hM
  by_cases h : m < 1 ∨ 12 < m
  · have HD := hide (days_no y m w h)
    rcases h with h | h
    · go_enter Tryd.func9, Tryd.ntmps9
      go_wp2_with (first | (go_at_call 23; refine HD.out.mono ?_; rintro e w' ⟨rfl, rfl⟩) | (go_at_call 11; refine HA.out.mono ?_; rintro e w' ⟨rfl, hb⟩; have HB := hide hb; clear hb))
      go_ret
      exact ⟨rfl, HB.out⟩
    · have h' : ¬ m < 1 := by omega
      go_enter Tryd.func9, Tryd.ntmps9
      go_wp2_with (first | (go_at_call 23; refine HD.out.mono ?_; rintro e w' ⟨rfl, rfl⟩) | (go_at_call 11; refine HA.out.mono ?_; rintro e w' ⟨rfl, hb⟩; have HB := hide hb; clear hb))
      go_ret
      exact ⟨rfl, HB.out⟩
  · obtain ⟨k, hk, rfl⟩ : ∃ k : Nat, k ≤ 11 ∧ m = (k : Int) + 1 := ⟨(m - 1).toNat, by omega, by omega⟩
    have HD := hide (days_any y k w hk HM.out)
    have HR := hide (rdays_any y k w hk)
    have HL := hide (leap_any y w)
    have HK := hide (rleap_any y w)
    have hb := dm_bd y (k + 1)
    clear hm0 hm1 h
    go_enter Tryd.func9, Tryd.ntmps9
    go_wp2_with fail
    refine HD.out.mono ?_
    rintro e w' ⟨rfl, rfl⟩
    go_wp2_with fail
    refine HL.out.mono ?_
    rintro e w' ⟨rfl, rfl⟩
    generalize leapB y = lb at *
    cases lb
    all_goals
      go_wp2_with fail
      refine HK.out.mono ?_
      rintro e w' ⟨rfl, rfl⟩
      go_wp2_with fail
      refine HR.out.mono ?_
      rintro e w' ⟨rfl, rfl⟩
      go_wp2_with fail
      refine HA.out.mono ?_
      rintro e w' ⟨rfl, hb'⟩
      have HB := hide hb'
      clear hb'
      go_wp2_with fail
      go_ret
      exact ⟨rfl, HB.out⟩
end Go.Proofs.YtnopejobefkflaaDoor
