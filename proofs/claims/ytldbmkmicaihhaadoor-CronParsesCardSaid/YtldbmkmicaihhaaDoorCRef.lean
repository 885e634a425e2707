/-
  The reference's date of a minute.
-/
import Derived.Test.YtldbmkmicaihhaaDoorCMonth
namespace Go.Proofs.YtldbmkmicaihhaaDoor
open Go.RowKit CM

theorem Y_next {n y : Int} (h0 : 2000 ≤ y) (h1 : ys y ≤ n / 1440) (h2 : n / 1440 - ys y < 365 + lp y) : Y n = y :=
  yF_eq h0 h1 (by rw [ys_succ y h0]; omega)
theorem Y_ge {n z : Int} (h0 : 0 ≤ n) (h1 : n < 2147483648) (h : ys z ≤ n / 1440) : z ≤ 6083 := by
  have a := Y_lo h0
  have b := Y_hi h0 h1
  obtain ⟨_, _, c⟩ := yF_spec (n / 1440) (by omega)
  by_cases h' : Y n < z
  · have := ys_mono (Y n + 1) z (by omega) (by omega)
    unfold Y at *
    omega
  · omega
set_option maxHeartbeats 2000000 in
theorem rof_any (n : Int) (w : World) (h0 : 0 ≤ n) (h1 : n < 2147483648) : Calls Tryd.prog 35 #[.int .i64 n] w fun e w' => e = .returned (vDate n) ∧ Below w.heap.size w w' := by
  have hr := R_bd h0
  obtain ⟨hr0, hr1⟩ := hr
  have hyh := Y_hi h0 h1
  have HR : Hid (n / 1440 - ys (Y n) = R n) := hide rfl
  have H0 : Hid (ys 2000 = 0) := hide ys_0
  have HH : Hid (n % 1440 / 60 = n / 60 % 24) := hide (by omega)
  have HJ : Hid ((n / 1440 + 6) % 7 = (6 + n / 1440) % 7) := hide (by rw [Int.add_comm])
  have HR1 := hide hr1
  have HZ : Hid (∀ z, 2000 ≤ z → ys z ≤ n / 1440 → z ≤ 6083) := hide (fun _ _ h => Y_ge h0 h1 h)
  have hr2 : R n ≤ 400 := by have := lp_01 (Y n); omega
  clear hr1
  go_enter Tryd.func35, Tryd.ntmps35
  go_wp2_with fail
  go_loop [5, 6] (fun t u => ∃ y : Int, 2000 ≤ y ∧ y ≤ 6083 ∧ ys y ≤ n / 1440 ∧ 0 ≤ ys y ∧ u = .int .i64 y ∧ t = .int .i64 (n / 1440 - ys y)) (fun _ u => (7000 - intOf u).toNat)
  case atStart => exact ⟨2000, by omega, by omega, by rw [H0.out]; omega, by rw [H0.out]; omega, rfl, by rw [H0.out]; simp⟩
  case round =>
    obtain ⟨y, hy0, hy1, hc0, hc1, rfl, rfl⟩ := hrel
    have HL := hide (rleap_any y)
    have HS := hide (ys_succ y hy0)
    have HY : Hid (n / 1440 - ys y < 365 + lp y → Y n = y) := hide (Y_next hy0 hc0)
    cases hl : leapB y
    · rw [hl] at HL
      have HP : Hid (lp y = 0) := hide (by unfold lp; rw [hl]; rfl)
      clear hl
      by_cases hc : n / 1440 - ys y < 365
      · obtain rfl : Y n = y := HY.out (by rw [HP.out]; exact hc)
        clear HY HS HP
        go_wp2_with (go_at_call 54; refine (HL.out _).mono ?_; rintro e w' ⟨rfl, rfl⟩)
        go_loop [5, 8] (fun t m => ∃ k : Nat, k ≤ 11 ∧ cum (Y n) k ≤ R n ∧ 0 ≤ cum (Y n) k ∧ m = .int .i64 ((k : Int) + 1) ∧ t = .int .i64 (R n - cum (Y n) k)) (fun _ m => (13 - intOf m).toNat)
        case atStart => exact ⟨0, by omega, by simp [cum]; omega, by simp [cum], rfl, by rw [HR.out]; simp [cum]⟩
        case round =>
          obtain ⟨k, hk, hd0, hd1, rfl, rfl⟩ := hrel
          have HD := hide (fun w => rdays_any (Y n) k w hk)
          have hb := dm_bd (Y n) (k + 1)
          have HS := hide (cum_succ (Y n) k)
          by_cases hd : dm (Y n) (k + 1) ≤ R n - cum (Y n) k
          · have hk2 : k ≤ 10 := by
              by_cases e : k = 11
              · subst e
                have a : cum (Y n) 12 = cum (Y n) 11 + dm (Y n) ((11 : Nat) + 1) := cum_succ (Y n) 11
                have b := cum_12 (Y n)
                have c := HR1.out
                omega
              · omega
            go_wp2_with (go_at_call 55; refine (HD.out _).mono ?_; rintro e w' ⟨rfl, rfl⟩)
            go_round
            case rel => exact ⟨k + 1, by omega, by rw [HS.out]; omega, by rw [HS.out]; omega, by go_num, by rw [HS.out]; congr 1; omega⟩
            case measure => simp [intOf]; omega
          · have HE : Hid (K n = k) := hide (mF_eq hk hd0 (by rw [cum_succ]; omega))
            have HF : Hid (R n - cum (Y n) k + 1 = D n) := hide (by unfold D; rw [HE.out])
            go_wp2_with (go_at_call 55; refine (HD.out _).mono ?_; rintro e w' ⟨rfl, rfl⟩)
            go_returns
            exact ⟨by rw [HF.out, HH.out, HJ.out]; show _ = Ending.returned (vD (Y n) ((K n : Int) + 1) (D n) _ _ _); rw [HE.out], by go_grown⟩
      · have hc2 : ys y + 365 ≤ n / 1440 := by omega
        have hy2 : y ≤ 6082 := by
          have a := HS.out
          rw [HP.out] at a
          have := HZ.out (y + 1) (by omega) (by omega)
          omega
        go_wp2_with (go_at_call 54; refine (HL.out _).mono ?_; rintro e w' ⟨rfl, rfl⟩)
        go_round
        case rel => exact ⟨y + 1, by omega, by omega, by rw [HS.out, HP.out]; omega, by rw [HS.out, HP.out]; omega, rfl, by rw [HS.out, HP.out]; congr 1; omega⟩
        case measure => simp [intOf]; omega
    · rw [hl] at HL
      have HP : Hid (lp y = 1) := hide (by unfold lp; rw [hl]; rfl)
      clear hl
      by_cases hc : n / 1440 - ys y < 366
      · obtain rfl : Y n = y := HY.out (by rw [HP.out]; exact hc)
        clear HY HS HP
        go_wp2_with (go_at_call 54; refine (HL.out _).mono ?_; rintro e w' ⟨rfl, rfl⟩)
        go_loop [5, 8] (fun t m => ∃ k : Nat, k ≤ 11 ∧ cum (Y n) k ≤ R n ∧ 0 ≤ cum (Y n) k ∧ m = .int .i64 ((k : Int) + 1) ∧ t = .int .i64 (R n - cum (Y n) k)) (fun _ m => (13 - intOf m).toNat)
        case atStart => exact ⟨0, by omega, by simp [cum]; omega, by simp [cum], rfl, by rw [HR.out]; simp [cum]⟩
        case round =>
          obtain ⟨k, hk, hd0, hd1, rfl, rfl⟩ := hrel
          have HD := hide (fun w => rdays_any (Y n) k w hk)
          have hb := dm_bd (Y n) (k + 1)
          have HS := hide (cum_succ (Y n) k)
          by_cases hd : dm (Y n) (k + 1) ≤ R n - cum (Y n) k
          · have hk2 : k ≤ 10 := by
              by_cases e : k = 11
              · subst e
                have a : cum (Y n) 12 = cum (Y n) 11 + dm (Y n) ((11 : Nat) + 1) := cum_succ (Y n) 11
                have b := cum_12 (Y n)
                have c := HR1.out
                omega
              · omega
            go_wp2_with (go_at_call 55; refine (HD.out _).mono ?_; rintro e w' ⟨rfl, rfl⟩)
            go_round
            case rel => exact ⟨k + 1, by omega, by rw [HS.out]; omega, by rw [HS.out]; omega, by go_num, by rw [HS.out]; congr 1; omega⟩
            case measure => simp [intOf]; omega
          · have HE : Hid (K n = k) := hide (mF_eq hk hd0 (by rw [cum_succ]; omega))
            have HF : Hid (R n - cum (Y n) k + 1 = D n) := hide (by unfold D; rw [HE.out])
            go_wp2_with (go_at_call 55; refine (HD.out _).mono ?_; rintro e w' ⟨rfl, rfl⟩)
            go_returns
            exact ⟨by rw [HF.out, HH.out, HJ.out]; show _ = Ending.returned (vD (Y n) ((K n : Int) + 1) (D n) _ _ _); rw [HE.out], by go_grown⟩
      · have hc2 : ys y + 366 ≤ n / 1440 := by omega
        have hy2 : y ≤ 6082 := by
          have a := HS.out
          rw [HP.out] at a
          have := HZ.out (y + 1) (by omega) (by omega)
          omega
        go_wp2_with (go_at_call 54; refine (HL.out _).mono ?_; rintro e w' ⟨rfl, rfl⟩)
        go_round
        case rel => exact ⟨y + 1, by omega, by omega, by rw [HS.out, HP.out]; omega, by rw [HS.out, HP.out]; omega, rfl, by rw [HS.out, HP.out]; congr 1; omega⟩
        case measure => simp [intOf]; omega
end Go.Proofs.YtldbmkmicaihhaaDoor
