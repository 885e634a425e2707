/-
  Days, and the year and the month of a day.
-/
import Derived.Test.YtomhiganfmoceaaDoorCBase
namespace Go.Proofs.YtomhiganfmoceaaDoor
open Go.RowKit CM

theorem days_no (y m : Int) (w : World) (h : m < 1 ∨ 12 < m) : Calls Tryd.prog 64 #[.int .i64 y, .int .i64 m] w fun e w' => e = .returned (.int .i64 0) ∧ w = w' := by
  rcases h with h | h
  · go_enter Tryd.func64, Tryd.ntmps64
    go_wp2
    go_ret
    exact ⟨rfl, rfl⟩
  · have h' : ¬ m < 1 := by omega
    go_enter Tryd.func64, Tryd.ntmps64
    go_wp2
    go_ret
    exact ⟨rfl, rfl⟩
theorem mon_dm (y : Int) (k : Nat) (hk : k ≤ 11) (h : k ≠ 1) : monT.getD k 0 = dm y (k + 1) := by
  obtain rfl | rfl | rfl | rfl | rfl | rfl | rfl | rfl | rfl | rfl | rfl : k = 0 ∨ k = 2 ∨ k = 3 ∨ k = 4 ∨ k = 5 ∨ k = 6 ∨ k = 7 ∨ k = 8 ∨ k = 9 ∨ k = 10 ∨ k = 11 := by omega
  all_goals simp [monT, dm]
theorem days_any (y : Int) (k : Nat) (w : World) (hk : k ≤ 11) (hM : Mon w) : Calls Tryd.prog 64 #[.int .i64 y, .int .i64 ((k : Int) + 1)] w fun e w' => e = .returned (.int .i64 (dm y (k + 1))) ∧ w = w' := by
  have hc := hM k (by omega)
  clear hM
  by_cases h1 : k = 1
  · subst h1
    have HL := hide (leap_any y w)
    have HD : Hid (dm y (((1 : Nat) : Int) + 1) = 28 + lp y) := hide (by simp [dm])
    have hc' : w.cell? ⟨1, 1, none⟩ = some (.int .i64 28) := hc
    clear hc
    cases hl : leapB y
    · rw [hl] at HL
      have HP : Hid (lp y = 0) := hide (by unfold lp; rw [hl]; rfl)
      clear hl
      go_enter Tryd.func64, Tryd.ntmps64
      go_wp2_with (go_at_call 79; refine HL.out.mono ?_; rintro e w' ⟨rfl, rfl⟩)
      go_ret
      exact ⟨ret_int (by rw [HD.out, HP.out]; rfl), rfl⟩
    · rw [hl] at HL
      have HP : Hid (lp y = 1) := hide (by unfold lp; rw [hl]; rfl)
      clear hl
      go_enter Tryd.func64, Tryd.ntmps64
      go_wp2_with (go_at_call 79; refine HL.out.mono ?_; rintro e w' ⟨rfl, rfl⟩)
      go_ret
      exact ⟨ret_int (by rw [HD.out, HP.out]; rfl), rfl⟩
  · rw [mon_dm y k hk h1] at hc
    have hb := dm_bd y (k + 1)
    have h2 : ((((k : Int) + 1) == 2) = false) := by simp; omega
    have h3 : ((k : Int) == 1) = false := by simp; omega
    go_enter Tryd.func64, Tryd.ntmps64
    go_wp2_with fail
    go_ret
    exact ⟨rfl, rfl⟩
theorem rdays_any (y : Int) (k : Nat) (w : World) (hk : k ≤ 11) : Calls Tryd.prog 52 #[.int .i64 y, .int .i64 ((k : Int) + 1)] w fun e w' => e = .returned (.int .i64 (dm y (k + 1))) ∧ w = w' := by
  by_cases h1 : k = 1
  · subst h1
    have HL := hide (rleap_any y w)
    have HD : Hid (dm y (((1 : Nat) : Int) + 1) = 28 + lp y) := hide (by simp [dm])
    cases hl : leapB y
    · rw [hl] at HL
      have HP : Hid (lp y = 0) := hide (by unfold lp; rw [hl]; rfl)
      clear hl
      go_enter Tryd.func52, Tryd.ntmps52
      go_wp2_with (go_at_call 62; refine HL.out.mono ?_; rintro e w' ⟨rfl, rfl⟩)
      go_ret
      exact ⟨ret_int (by rw [HD.out, HP.out]; rfl), rfl⟩
    · rw [hl] at HL
      have HP : Hid (lp y = 1) := hide (by unfold lp; rw [hl]; rfl)
      clear hl
      go_enter Tryd.func52, Tryd.ntmps52
      go_wp2_with (go_at_call 62; refine HL.out.mono ?_; rintro e w' ⟨rfl, rfl⟩)
      go_ret
      exact ⟨ret_int (by rw [HD.out, HP.out]; rfl), rfl⟩
  · have hm : k = 0 ∨ k = 2 ∨ k = 3 ∨ k = 4 ∨ k = 5 ∨ k = 6 ∨ k = 7 ∨ k = 8 ∨ k = 9 ∨ k = 10 ∨ k = 11 := by omega
    clear h1 hk
    rcases hm with rfl | rfl | rfl | rfl | rfl | rfl | rfl | rfl | rfl | rfl | rfl
    all_goals
      go_enter Tryd.func52, Tryd.ntmps52
      go_wp2
      go_ret
      exact ⟨ret_int (by simp [dm]), rfl⟩
theorem start_any (y : Int) (w : World) (h0 : 2000 ≤ y) (h1 : y ≤ 1000000) : Calls Tryd.prog 63 #[.int .i64 y] w fun e w' => e = .returned (.int .i64 (ys y)) ∧ w = w' := by
  go_enter Tryd.func63, Tryd.ntmps63
  go_wp2
  go_ret
  exact ⟨ret_int (by unfold ys; rfl), rfl⟩
theorem year_any (d : Int) (w : World) (h0 : 0 ≤ d) (h1 : d ≤ 2000000) : Calls Tryd.prog 77 #[.int .i64 d] w fun e w' => e = .returned (.int .i64 (yF d)) ∧ w = w' := by
  have g0 : d < ys (2000 + d / 365 + 1) := by have := ys_lo (2000 + d / 365 + 1) (by omega); omega
  go_enter Tryd.func77, Tryd.ntmps77
  go_wp2
  go_loop [3] (fun t => ∃ y : Int, 2000 ≤ y ∧ y ≤ 2000 + d / 365 ∧ d < ys (y + 1) ∧ t = .int .i64 y) (fun t => (intOf t).toNat)
  case atStart => exact ⟨_, by omega, by omega, g0, rfl⟩
  case round =>
    clear g0
    obtain ⟨y, hy1, hy2, hy3, rfl⟩ := hrel
    have HS := hide (start_any y w hy1 (by omega))
    by_cases hc : d < ys y
    · have h2 : 2000 < y := by
        have := ys_0
        by_cases e : y = 2000
        · subst e; omega
        · omega
      have HC := hide hc
      go_wp2_with (go_at_call 63; refine HS.out.mono ?_; rintro e w' ⟨rfl, rfl⟩)
      go_round
      case rel => exact ⟨y - 1, by omega, by omega, by rw [Int.sub_add_cancel]; exact HC.out, rfl⟩
      case measure => simp [intOf]; omega
    · have HE := hide (yF_eq hy1 (by omega) hy3)
      have hlo : ys y ≤ d := by omega
      clear hc hy3
      go_wp2_with (go_at_call 63; refine HS.out.mono ?_; rintro e w' ⟨rfl, rfl⟩)
      go_ret
      exact ⟨ret_int HE.out.symm, rfl⟩
theorem month_any (y r : Int) (w : World) (h0 : 0 ≤ r) (h1 : r < 365 + lp y) (hM : Mon w) : Calls Tryd.prog 78 #[.int .i64 y, .int .i64 r] w fun e w' => e = .returned (.tuple #[.int .i64 (mF y r + 1), .int .i64 (r - cum y (mF y r))]) ∧ w = w' := by
  have HM := hide hM
  have hr : r ≤ 400 := by have := lp_01 y; omega
  have H12 := hide (cum_12 y)
  have H1 := hide h1
  clear hM h1
  go_enter Tryd.func78, Tryd.ntmps78
  go_wp2
  go_loop [1, 4] (fun t m => ∃ k : Nat, k ≤ 11 ∧ cum y k ≤ r ∧ 0 ≤ cum y k ∧ m = .int .i64 ((k : Int) + 1) ∧ t = .int .i64 (r - cum y k)) (fun _ m => (13 - intOf m).toNat)
  case atStart => exact ⟨0, by omega, by simpa [cum] using h0, by simp [cum], rfl, by simp [cum]⟩
  case round =>
    obtain ⟨k, hk, hc0, hc1, rfl, rfl⟩ := hrel
    have HD := hide (days_any y k w hk HM.out)
    have hb := dm_bd y (k + 1)
    have HS := hide (cum_succ y k)
    by_cases hc : dm y (k + 1) ≤ r - cum y k
    · have hk2 : k ≤ 10 := by
        by_cases e : k = 11
        · subst e
          have a : cum y 12 = cum y 11 + dm y ((11 : Nat) + 1) := cum_succ y 11
          have b := H12.out
          have c := H1.out
          omega
        · omega
      go_wp2_with (go_at_call 64; refine HD.out.mono ?_; rintro e w' ⟨rfl, rfl⟩)
      go_round
      case rel => exact ⟨k + 1, by omega, by rw [HS.out]; omega, by rw [HS.out]; omega, by go_num, by rw [HS.out]; congr 1; omega⟩
      case measure => simp [intOf]; omega
    · have HE := hide (mF_eq hk hc0 (by rw [cum_succ]; omega))
      go_wp2_with (go_at_call 64; refine HD.out.mono ?_; rintro e w' ⟨rfl, rfl⟩)
      go_ret2
      rw [HE.out]
      exact ⟨rfl, rfl⟩
end Go.Proofs.YtomhiganfmoceaaDoor
