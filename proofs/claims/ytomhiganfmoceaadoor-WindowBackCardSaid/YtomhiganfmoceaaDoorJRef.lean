/-
  The reference: where windows begin, and which schemes are right.
-/
import Derived.Test.YtomhiganfmoceaaDoorJWin
namespace Go.Proofs.YtomhiganfmoceaaDoor
open Go.RowKit Go.Sort CM JM

/-- What the reference's Start tells. -/
def stV (k i : Int) : Int := if k = 4 ∧ 50000 < i then -1 else if 2147483648 ≤ bg k i then -1 else bg k i
theorem stV_in {k i : Int} (h0 : 0 ≤ i) (h : i ≤ grt k + 1) : stV k i = bg k i := by
  have hb := bg_hi (k := k) h0 h
  unfold stV
  rw [if_neg, if_neg (by omega)]
  rintro ⟨rfl, h2⟩
  have e : grt 4 = 48995 := rfl
  omega
theorem start_1 (i : Int) (w : World) (h0 : 0 ≤ i) (h1 : i ≤ 2147483648) : Calls Tryd.prog 41 #[.int .i64 1, .int .i64 i] w fun e w' => e = .returned (.int .i64 (stV 1 i)) ∧ Below w.heap.size w w' := by
  have HB0 := hide (Below.refl w.heap.size w)
  by_cases hf : 2147483648 ≤ 60 * i
  · have HR : Hid (stV 1 i = -1) := hide (by unfold stV; rw [if_neg (by omega), if_pos (by show 2147483648 ≤ 60 * i; exact hf)])
    go_enter Tryd.func41, Tryd.ntmps41
    go_wp2_with fail
    go_ret
    exact ⟨ret_int HR.out.symm, HB0.out⟩
  · have HR : Hid (stV 1 i = 60 * i) := hide (by unfold stV; rw [if_neg (by omega), if_neg (by show ¬ 2147483648 ≤ 60 * i; exact hf)]; rfl)
    go_enter Tryd.func41, Tryd.ntmps41
    go_wp2_with fail
    go_ret
    exact ⟨ret_int HR.out.symm, HB0.out⟩
theorem start_2 (i : Int) (w : World) (h0 : 0 ≤ i) (h1 : i ≤ 2147483648) : Calls Tryd.prog 41 #[.int .i64 2, .int .i64 i] w fun e w' => e = .returned (.int .i64 (stV 2 i)) ∧ Below w.heap.size w w' := by
  have HB0 := hide (Below.refl w.heap.size w)
  by_cases hf : 2147483648 ≤ 1440 * i
  · have HR : Hid (stV 2 i = -1) := hide (by unfold stV; rw [if_neg (by omega), if_pos (by show 2147483648 ≤ 1440 * i; exact hf)])
    go_enter Tryd.func41, Tryd.ntmps41
    go_wp2_with fail
    go_ret
    exact ⟨ret_int HR.out.symm, HB0.out⟩
  · have HR : Hid (stV 2 i = 1440 * i) := hide (by unfold stV; rw [if_neg (by omega), if_neg (by show ¬ 2147483648 ≤ 1440 * i; exact hf)]; rfl)
    go_enter Tryd.func41, Tryd.ntmps41
    go_wp2_with fail
    go_ret
    exact ⟨ret_int HR.out.symm, HB0.out⟩
theorem start_3 (i : Int) (w : World) (h0 : 0 ≤ i) (h1 : i ≤ 2147483648) : Calls Tryd.prog 41 #[.int .i64 3, .int .i64 i] w fun e w' => e = .returned (.int .i64 (stV 3 i)) ∧ Below w.heap.size w w' := by
  have HB0 := hide (Below.refl w.heap.size w)
  by_cases hf : 2147483648 ≤ 2880 + 10080 * i
  · have HR : Hid (stV 3 i = -1) := hide (by unfold stV; rw [if_neg (by omega), if_pos (by show 2147483648 ≤ 2880 + 10080 * i; exact hf)])
    go_enter Tryd.func41, Tryd.ntmps41
    go_wp2_with fail
    go_ret
    exact ⟨ret_int HR.out.symm, HB0.out⟩
  · have HR : Hid (stV 3 i = 2880 + 10080 * i) := hide (by unfold stV; rw [if_neg (by omega), if_neg (by show ¬ 2147483648 ≤ 2880 + 10080 * i; exact hf)]; rfl)
    go_enter Tryd.func41, Tryd.ntmps41
    go_wp2_with fail
    go_ret
    exact ⟨ret_int HR.out.symm, HB0.out⟩
theorem mst_0 : mst 0 = 0 := by unfold mst; simp [ys, cum]
set_option maxHeartbeats 2000000 in
theorem start_4 (i : Int) (w : World) (h0 : 0 ≤ i) (_ : i ≤ 2147483648) : Calls Tryd.prog 41 #[.int .i64 4, .int .i64 i] w fun e w' => e = .returned (.int .i64 (stV 4 i)) ∧ Below w.heap.size w w' := by
  have HB0 := hide (Below.refl w.heap.size w)
  by_cases hf : 50000 < i
  · have HR : Hid (stV 4 i = -1) := hide (by unfold stV; rw [if_pos ⟨rfl, hf⟩])
    go_enter Tryd.func41, Tryd.ntmps41
    go_wp2_with fail
    go_ret
    exact ⟨ret_int HR.out.symm, HB0.out⟩
  · have HR : Hid (stV 4 i = if 2147483648 ≤ mst i then -1 else mst i) := hide (by unfold stV; rw [if_neg (by omega)]; rfl)
    have HS : Hid (∀ j : Nat, mst ((j : Int) + 1) = mst j + dm (2000 + (j : Int) / 12) ((j : Int) % 12 + 1) * 1440) := hide fun j => mst_succ (by omega)
    have HD : Hid (∀ (j : Nat) w, Calls Tryd.prog 52 #[.int .i64 (2000 + (j : Int) / 12), .int .i64 ((j : Int) % 12 + 1)] w fun e w' => e = .returned (.int .i64 (dm (2000 + (j : Int) / 12) ((j : Int) % 12 + 1))) ∧ w = w') := hide fun j w => by
      have := rdays_any (2000 + (j : Int) / 12) ((j : Int) % 12).toNat w (by omega)
      rw [show ((((j : Int) % 12).toNat : Nat) : Int) = (j : Int) % 12 by omega] at this
      exact this
    have HZ : Hid (mst 0 = 0) := hide mst_0
    go_enter Tryd.func41, Tryd.ntmps41
    go_wp2_with fail
    go_loop [6, 7] (fun t u => ∃ (j : Nat) (d : Int), (j : Int) ≤ i ∧ 0 ≤ d ∧ d ≤ 31 * (j : Int) ∧ Hid (mst j = d * 1440) ∧ t = .int .i64 d ∧ u = .int .i64 j) (fun _ u => (60000 - intOf u).toNat)
    case atStart => exact ⟨0, 0, by omega, by omega, by omega, hide (by rw [Int.zero_mul]; exact HZ.out), rfl, rfl⟩
    case round =>
      obtain ⟨j, d, hj, hd0, hd1, HE, rfl, rfl⟩ := hrel
      by_cases hc : (j : Int) < i
      · have HDj := hide (HD.out j)
        have hb := dm_bd (2000 + (j : Int) / 12) ((j : Int) % 12 + 1)
        have HSj := hide (HS.out j)
        obtain ⟨hb0, hb1⟩ := hb
        generalize dm (2000 + (j : Int) / 12) ((j : Int) % 12 + 1) = D at *
        go_wp2_with (go_at_call 52; refine (HDj.out _).mono ?_; rintro e w' ⟨rfl, rfl⟩)
        go_round
        case rel => exact ⟨j + 1, d + D, by omega, by omega, by omega, hide (by have h1 := HSj.out; have h2 := HE.out; push_cast; rw [h1, h2]; omega), rfl, by go_num⟩
        case measure => simp [intOf]; omega
      · obtain rfl : i = j := by omega
        have HF : Hid (mst (j : Int) = 1440 * d) := hide (by rw [HE.out]; omega)
        have hj5 : (j : Int) ≤ 50000 := by omega
        clear HS HD
        by_cases hl : 2147483648 ≤ 1440 * d
        · go_wp2_with fail
          go_ret
          exact ⟨ret_int (by rw [HR.out, HF.out, if_pos hl]), HB0.out⟩
        · go_wp2_with fail
          go_ret
          exact ⟨ret_int (by rw [HR.out, HF.out, if_neg (Int.not_le.2 hl)]), HB0.out⟩
theorem start_any' (k i : Int) (w : World) (hk : k = 1 ∨ k = 2 ∨ k = 3 ∨ k = 4) (h0 : 0 ≤ i) (h1 : i ≤ 2147483648) : Calls Tryd.prog 41 #[.int .i64 k, .int .i64 i] w fun e w' => e = .returned (.int .i64 (stV k i)) ∧ Below w.heap.size w w' := by
  rcases hk with rfl | rfl | rfl | rfl
  · exact start_1 i w h0 h1
  · exact start_2 i w h0 h1
  · exact start_3 i w h0 h1
  · exact start_4 i w h0 h1
theorem okS_st {k a z : Int} (hk : k = 1 ∨ k = 2 ∨ k = 3 ∨ k = 4) (h0 : 0 ≤ a) (h1 : a ≤ z) (h2 : z - a ≤ 511) : okS k a z = decide (0 ≤ stV k (z + 1)) := by
  have hf := far_iff hk (z := z) (by omega)
  have hn := bg_nn (k := k) (i := z + 1) (by omega)
  have e : okS k a z = decide (z ≤ grt k) := by
    rw [Bool.eq_iff_iff, okS_iff, decide_eq_true_eq]; omega
  rw [e, Bool.eq_iff_iff, decide_eq_true_eq, decide_eq_true_eq, hf]
  unfold stV
  constructor
  · rintro ⟨h3, h4⟩
    rw [if_neg (by rintro ⟨h5, h6⟩; have := h4 h5; omega), if_neg (by omega)]; exact hn
  · intro h
    by_cases h5 : k = 4 ∧ 50000 < z + 1
    · rw [if_pos h5] at h; omega
    · rw [if_neg h5] at h
      by_cases h6 : 2147483648 ≤ bg k (z + 1)
      · rw [if_pos h6] at h; omega
      · exact ⟨by omega, fun h7 => by omega⟩
set_option maxHeartbeats 2000000 in
theorem right_any' (k a z : Int) (w : World) (_ : z ≤ 9223372036854775807) : Calls Tryd.prog 25 #[vS k a z] w fun e w' => e = .returned (.bool (okS k a z)) ∧ Below w.heap.size w w' := by
  have HB0 : Hid (Below w.heap.size w (w.alloc (.cells #[.int .i64 k, .int .i64 a, .int .i64 z] 51))) := hide ((Below.refl _ _).alloc (Nat.le_refl _) _)
  have hno : ¬ (0 ≤ a ∧ a ≤ z ∧ z - a ≤ 511 ∧ z ≤ grt k) → okS k a z = false := fun h => by rw [← Bool.not_eq_true, okS_iff]; exact h
  have hg := grt_hi k
  have hgk := fun h => grt_kind (k := k) h
  by_cases h1 : k < 1
  · have HR : Hid (okS k a z = false) := hide (hno (by intro h; have := hgk (by omega); omega))
    clear hno hg hgk
    go_enter Tryd.func25, Tryd.ntmps25
    go_wp2_with fail
    go_ret
    exact ⟨ret_bool HR.out.symm, HB0.out⟩
  by_cases h2 : 5 < k
  · have HR : Hid (okS k a z = false) := hide (hno (by intro h; have := hgk (by omega); omega))
    clear hno hg hgk
    go_enter Tryd.func25, Tryd.ntmps25
    go_wp2_with fail
    go_ret
    exact ⟨ret_bool HR.out.symm, HB0.out⟩
  by_cases h3 : a < 0
  · have HR : Hid (okS k a z = false) := hide (hno (by omega))
    clear hno hg hgk
    go_enter Tryd.func25, Tryd.ntmps25
    go_wp2_with fail
    go_ret
    exact ⟨ret_bool HR.out.symm, HB0.out⟩
  by_cases h4 : z < a
  · have HR : Hid (okS k a z = false) := hide (hno (by omega))
    clear hno hg hgk
    go_enter Tryd.func25, Tryd.ntmps25
    go_wp2_with fail
    go_ret
    exact ⟨ret_bool HR.out.symm, HB0.out⟩
  by_cases h5 : 511 < z - a
  · have HR : Hid (okS k a z = false) := hide (hno (by omega))
    clear hno hg hgk
    go_enter Tryd.func25, Tryd.ntmps25
    go_wp2_with fail
    go_ret
    exact ⟨ret_bool HR.out.symm, HB0.out⟩
  by_cases h6 : 2147483647 < z
  · have HR : Hid (okS k a z = false) := hide (hno (by omega))
    clear hno hg hgk
    go_enter Tryd.func25, Tryd.ntmps25
    go_wp2_with fail
    go_ret
    exact ⟨ret_bool HR.out.symm, HB0.out⟩
  by_cases h7 : k = 5
  · subst h7
    have HR : Hid (okS 5 a z = decide (z < 1048576)) := hide (by
      have e : grt 5 = 1048575 := rfl
      rw [Bool.eq_iff_iff, okS_iff, decide_eq_true_eq]; omega)
    clear hno hg hgk
    go_enter Tryd.func25, Tryd.ntmps25
    go_wp2_with fail
    go_ret
    exact ⟨ret_bool HR.out.symm, HB0.out⟩
  · have hk : k = 1 ∨ k = 2 ∨ k = 3 ∨ k = 4 := by omega
    have HR := hide (okS_st hk (by omega) (by omega) (by omega) (a := a) (z := z))
    have HS := hide (fun w => start_any' k (z + 1) w hk (by omega) (by omega))
    clear hno hg hgk
    generalize stV k (z + 1) = V at *
    go_enter Tryd.func25, Tryd.ntmps25
    go_wp2_with fail
    refine (HS.out _).mono ?_
    rintro e w1 ⟨rfl, hb⟩
    have HB1 := hide (HB0.out.trans (hb.mono HB0.out.size))
    clear hb
    go_wp2_with fail
    go_ret
    exact ⟨ret_bool HR.out.symm, HB1.out⟩
end Go.Proofs.YtomhiganfmoceaaDoor
