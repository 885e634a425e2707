/-
  Of, Day, Month and MonthStart.
-/
import Derived.Test.YtomhiganfmoceaaDoorCYear
namespace Go.Proofs.YtomhiganfmoceaaDoor
open Go.RowKit CM

abbrev vD (y m d h mi wd : Int) : Value := .agg #[.int .i64 y, .int .i64 m, .int .i64 d, .int .i64 h, .int .i64 mi, .int .i64 wd]
/-- The date of a minute. -/
abbrev vDate (n : Int) : Value := vD (Y n) (K n + 1) (D n) (n / 60 % 24) (n % 60) ((6 + n / 1440) % 7)
theorem isM_yes (n : Int) (w : World) (h0 : 0 ≤ n) (h1 : n < 2147483648) : Calls Tryd.prog 75 #[.int .i64 n] w fun e w' => e = .returned (.bool true) ∧ w = w' := by
  have hd : decide (n ≤ 2147483647) = true := by simp; omega
  go_enter Tryd.func75, Tryd.ntmps75
  go_wp2
  go_ret
  exact ⟨rfl, rfl⟩
theorem isM_no (n : Int) (w : World) (h : n < 0 ∨ 2147483648 ≤ n) : Calls Tryd.prog 75 #[.int .i64 n] w fun e w' => e = .returned (.bool false) ∧ w = w' := by
  rcases h with h | h
  · go_enter Tryd.func75, Tryd.ntmps75
    go_wp2
    go_ret
    exact ⟨rfl, rfl⟩
  · have h' : 0 ≤ n := by omega
    have hd : decide (n ≤ 2147483647) = false := by simp; omega
    go_enter Tryd.func75, Tryd.ntmps75
    go_wp2
    go_ret
    exact ⟨rfl, rfl⟩
theorem day_yes (n : Int) (w : World) (h0 : 0 ≤ n) (h1 : n < 2147483648) : Calls Tryd.prog 76 #[.int .i64 n] w fun e w' => e = .returned (.int .i64 (n / 1440)) ∧ w = w' := by
  have H := hide (isM_yes n w h0 h1)
  go_enter Tryd.func76, Tryd.ntmps76
  go_wp2_with (go_at_call 75; refine H.out.mono ?_; rintro e w' ⟨rfl, rfl⟩)
  go_ret
  exact ⟨rfl, rfl⟩
theorem day_no (n : Int) (w : World) (h : n < 0 ∨ 2147483648 ≤ n) : Calls Tryd.prog 76 #[.int .i64 n] w fun e w' => e = .returned (.int .i64 0) ∧ w = w' := by
  have H := hide (isM_no n w h)
  clear h
  go_enter Tryd.func76, Tryd.ntmps76
  go_wp2_with (go_at_call 75; refine H.out.mono ?_; rintro e w' ⟨rfl, rfl⟩)
  go_ret
  exact ⟨rfl, rfl⟩
set_option maxHeartbeats 1000000 in
theorem of_yes (n : Int) (w : World) (h0 : 0 ≤ n) (h1 : n < 2147483648) (hM : Mon w) : Calls Tryd.prog 61 #[.int .i64 n] w fun e w' => e = .returned (.tuple #[vDate n, .int .i64 0]) ∧ Below w.heap.size w w' := by
  have H1 := hide (fun w => isM_yes n w h0 h1)
  have H2 := hide (fun w => day_yes n w h0 h1)
  have hy0 := Y_lo h0
  have hy1 := Y_hi h0 h1
  have hr := R_bd h0
  have hk := K_spec h0
  have hd := D_bd h0
  have hs := ys_hi (Y n) hy0
  have hs0 := ys_lo (Y n) hy0
  have H3 : Hid (∀ w, Calls Tryd.prog 77 #[.int .i64 (n / 1440)] w fun e w' => e = .returned (.int .i64 (Y n)) ∧ w = w') := hide (fun w => year_any (n / 1440) w (by omega) (by omega))
  have H4 := hide (fun w => start_any (Y n) w hy0 (by omega))
  have HDD : R n - cum (Y n) (K n) = D n - 1 := by unfold D; omega
  have H5 : Hid (∀ w, Mon w → Calls Tryd.prog 78 #[.int .i64 (Y n), .int .i64 (n / 1440 - ys (Y n))] w fun e w' => e = .returned (.tuple #[.int .i64 (K n + 1), .int .i64 (D n - 1)]) ∧ w = w') := hide (fun w hM => by
    have := month_any (Y n) (R n) w hr.1 hr.2 hM
    rw [show mF (Y n) (R n) = K n from rfl, HDD] at this
    exact this)
  have hsr : 0 ≤ n / 1440 - ys (Y n) := hr.1
  clear HDD
  have hk1 := hk.1
  have hd1 := hd.1
  have hd2 := hd.2.2
  have HM := hide hM
  have hs1 : ys (Y n) ≤ 2000000 := by omega
  clear hk hd hM hs hr
  go_enter Tryd.func61, Tryd.ntmps61
  go_wp2_with fail
  refine (H1.out _).mono ?_
  rintro e w' ⟨rfl, rfl⟩
  go_wp2_with fail
  refine (H2.out _).mono ?_
  rintro e w' ⟨rfl, rfl⟩
  go_wp2_with fail
  refine (H3.out _).mono ?_
  rintro e w' ⟨rfl, rfl⟩
  go_wp2_with fail
  refine (H4.out _).mono ?_
  rintro e w' ⟨rfl, rfl⟩
  go_wp2_with fail
  refine (H5.out _ ?_).mono ?_
  · exact HM.out.on ((Below.refl _ _).alloc (Nat.le_refl _) _)
  rintro e w' ⟨rfl, rfl⟩
  go_wp2_with fail
  go_returns
  exact ⟨rfl, by go_grown⟩
end Go.Proofs.YtomhiganfmoceaaDoor
