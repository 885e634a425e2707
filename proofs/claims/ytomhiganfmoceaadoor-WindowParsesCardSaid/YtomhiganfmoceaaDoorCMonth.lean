/-
  Of where there is no minute; Month and MonthStart.
-/
import Derived.Test.YtomhiganfmoceaaDoorCOf
import Derived.Lib.QuietBelow
namespace Go.Proofs.YtomhiganfmoceaaDoor
open Go.RowKit CM

theorem of_no (n : Int) (w : World) (h : n < 0 ∨ 2147483648 ≤ n) : Calls Tryd.prog 61 #[.int .i64 n] w fun e w' => e = .returned (.tuple #[vD 0 0 0 0 0 0, .int .i64 30]) ∧ Below w.heap.size w w' := by
  have H := hide (fun w => isM_no n w h)
  clear h
  go_enter Tryd.func61, Tryd.ntmps61
  go_wp2_with (go_at_call 75; refine (H.out _).mono ?_; rintro e w' ⟨rfl, rfl⟩)
  go_returns
  exact ⟨rfl, by go_grown⟩
theorem month_yes (n : Int) (w : World) (h0 : 0 ≤ n) (h1 : n < 2147483648) (hM : Mon w) : Calls Tryd.prog 51 #[.int .i64 n] w fun e w' => e = .returned (.int .i64 (mth n)) ∧ Below w.heap.size w w' := by
  have H := hide (of_yes n w h0 h1 hM)
  have hy0 := Y_lo h0
  have hy1 := Y_hi h0 h1
  have hk := (K_spec h0).1
  have HE : Hid ((Y n - 2000) * 12 + ((K n : Int) + 1) - 1 = mth n) := hide (by unfold mth; omega)
  clear hM
  go_enter Tryd.func51, Tryd.ntmps51
  go_wp2_with fail
  refine H.out.mono ?_
  rintro e w1 ⟨rfl, hb⟩
  have HB := hide hb
  clear hb
  go_wp2_with fail
  go_ret
  exact ⟨ret_int HE.out, HB.out.alloc HB.out.size _⟩
theorem month_no (n : Int) (w : World) (h : n < 0 ∨ 2147483648 ≤ n) : Calls Tryd.prog 51 #[.int .i64 n] w fun e w' => e = .returned (.int .i64 0) ∧ Below w.heap.size w w' := by
  have H := hide (of_no n w h)
  clear h
  go_enter Tryd.func51, Tryd.ntmps51
  go_wp2_with fail
  refine H.out.mono ?_
  rintro e w1 ⟨rfl, hb⟩
  have HB := hide hb
  clear hb
  go_wp2_with fail
  go_ret
  exact ⟨rfl, HB.out.alloc HB.out.size _⟩
theorem mst_no (m : Int) (w : World) (h : m < 0 ∨ 48996 < m) (hM : Mon w) : Calls Tryd.prog 53 #[.int .i64 m] w fun e w' => e = .returned (.int .i64 (-1)) ∧ Below w.heap.size w w' := by
  have H : Hid (∀ w, Mon w → Calls Tryd.prog 51 #[.int .i64 2147483647] w fun e w' => e = .returned (.int .i64 48996) ∧ Below w.heap.size w w') := hide (fun w hM => by
    have := month_yes 2147483647 w (by omega) (by omega) hM
    rw [mth_last] at this
    exact this)
  have HM := hide hM
  clear hM
  rcases h with h | h
  · go_enter Tryd.func53, Tryd.ntmps53
    go_wp2_with fail
    go_ret
    exact ⟨rfl, Below.refl _ _⟩
  · have h' : ¬ m < 0 := by omega
    go_enter Tryd.func53, Tryd.ntmps53
    go_wp2_with fail
    refine (H.out _ HM.out).mono ?_
    rintro e w1 ⟨rfl, hb⟩
    have HB := hide hb
    clear hb
    go_wp2_with fail
    go_ret
    exact ⟨rfl, HB.out⟩
set_option maxHeartbeats 1000000 in
theorem mst_yes (m : Int) (w : World) (h0 : 0 ≤ m) (h1 : m ≤ 48996) (hM : Mon w) : Calls Tryd.prog 53 #[.int .i64 m] w fun e w' => e = .returned (.int .i64 (mst m)) ∧ Below w.heap.size w w' := by
  have H : Hid (∀ w, Mon w → Calls Tryd.prog 51 #[.int .i64 2147483647] w fun e w' => e = .returned (.int .i64 48996) ∧ Below w.heap.size w w') := hide (fun w hM => by
    have := month_yes 2147483647 w (by omega) (by omega) hM
    rw [mth_last] at this
    exact this)
  have HM := hide hM
  have hs := ys_hi (2000 + m / 12) (by omega)
  have hs0 := ys_lo (2000 + m / 12) (by omega)
  have H4 := hide (fun w => start_any (2000 + m / 12) w (by omega) (by omega))
  have HE : Hid ((ys (2000 + m / 12) + cum (2000 + m / 12) (m % 12).toNat) * 1440 = mst m) := hide rfl
  have hs1 : ys (2000 + m / 12) ≤ 2000000 := by omega
  have hs2 : 0 ≤ ys (2000 + m / 12) := by omega
  have HW := hide (Below.refl w.heap.size w)
  clear hM hs hs0
  go_enter Tryd.func53, Tryd.ntmps53
  go_wp2_with fail
  refine (H.out _ HM.out).mono ?_
  rintro e w1 ⟨rfl, hb⟩
  have HB := hide hb
  have HM1 := hide (HM.out.on hb)
  clear hb
  go_wp2_with (go_at_call 63; refine (H4.out _).mono ?_; rintro e w' ⟨rfl, rfl⟩)
  go_loop [4, 20] (fun t i => ∃ k : Nat, (k : Int) ≤ m % 12 ∧ 0 ≤ cum (2000 + m / 12) k ∧ cum (2000 + m / 12) k ≤ 400 ∧ i = .int .i64 (k : Int) ∧ t = .int .i64 (ys (2000 + m / 12) + cum (2000 + m / 12) k)) (fun _ i => (13 - intOf i).toNat)
  case atStart => exact ⟨0, by omega, by simp [cum], by simp [cum], rfl, by simp [cum]⟩
  case round =>
    obtain ⟨k, hk, hc0, hc1, rfl, rfl⟩ := hrel
    by_cases hc : (k : Int) < m % 12
    · have HD := hide (days_any (2000 + m / 12) k w1 (by omega) HM1.out)
      have hb := dm_bd (2000 + m / 12) (k + 1)
      have HS := hide (cum_succ (2000 + m / 12) k)
      have hh := cum_hi (2000 + m / 12) (k + 1)
      rw [HS.out] at hh
      have hh2 : cum (2000 + m / 12) k + dm (2000 + m / 12) (k + 1) ≤ 400 := by omega
      clear hh
      go_wp2_with (go_at_call 64; refine HD.out.mono ?_; rintro e w' ⟨rfl, rfl⟩)
      go_round
      case rel => exact ⟨k + 1, by omega, by rw [HS.out]; omega, by rw [HS.out]; omega, by go_num, by rw [HS.out]; congr 1; omega⟩
      case measure => simp [intOf]; omega
    · have hk' : (m % 12).toNat = k := by omega
      rw [hk'] at HE
      clear hk'
      go_wp2_with fail
      go_ret
      exact ⟨ret_int HE.out, HB.out⟩
end Go.Proofs.YtomhiganfmoceaaDoor
