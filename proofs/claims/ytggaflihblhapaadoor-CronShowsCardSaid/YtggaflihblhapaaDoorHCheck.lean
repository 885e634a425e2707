/-
  Check, and days that match.
-/
import Derived.Test.YtggaflihblhapaaDoorHBase
import Derived.Lib.QuietBelow
namespace Go.Proofs.YtggaflihblhapaaDoor
open Go.RowKit CM HM

theorem run_idxS (c : Sp) (k : Nat) (hk : k < 5) (w : World) : (Instr.index 23 (.agg #[.int .u64 (c.S 0 : Nat), .int .u64 (c.S 1 : Nat), .int .u64 (c.S 2 : Nat), .int .u64 (c.S 3 : Nat), .int .u64 (c.S 4 : Nat)]) (.int .i64 (k : Nat))).run Tryd.prog w = .ok (.int .u64 (c.S k : Nat)) w := by
  obtain rfl | rfl | rfl | rfl | rfl : k = 0 ∨ k = 1 ∨ k = 2 ∨ k = 3 ∨ k = 4 := by omega
  all_goals kernel_rfl
/-- What the test of Check looks at. -/
theorem ok_yes {f s : Nat} {a : Bool} (hs : s < 18446744073709551616) (h : okB f s a = true) : ((s : Int) == 0) = false ∧ (bits .andNot .u64 (s : Int) (maskN f : Nat) != 0) = false ∧ (a = true → ((s : Int) != (maskN f : Nat)) = false) := by
  unfold okB at h
  simp only [Bool.and_eq_true, Bool.not_eq_true', beq_eq_false_iff_ne, ne_eq, decide_eq_true_eq, Bool.or_eq_true, beq_iff_eq] at h
  obtain ⟨h1, h2, h3⟩ := h
  refine ⟨by simp; omega, ?_, fun ha => ?_⟩
  · have e : bits .andNot .u64 (s : Int) (maskN f : Nat) = ((s &&& (18446744073709551615 - maskN f) : Nat) : Int) := u64_andNot_nat s (maskN f) hs (maskN_lt f)
    rw [e]
    have : s &&& (18446744073709551615 - maskN f) = 0 := by
      rw [← h2, Nat.and_assoc]
      have : maskN f &&& (18446744073709551615 - maskN f) = 0 := by
        refine bits_eq fun m => ?_
        rw [Nat.testBit_and, Nat.zero_testBit]
        by_cases hm : m < 64
        · have e2 : 18446744073709551615 - maskN f = 2 ^ 64 - (maskN f + 1) := by have := maskN_lt f; omega
          rw [e2, Nat.testBit_two_pow_sub_succ (by exact maskN_lt f)]
          simp [hm]
        · rw [bit_hi (maskN_lt f) (by omega)]; rfl
      rw [this, Nat.and_zero]
    rw [this]; rfl
  · rcases h3 with h3 | h3
    · rw [ha] at h3; cases h3
    · rw [h3]; simp
theorem ok_no {f s : Nat} {a : Bool} (hs : s < 18446744073709551616) (h : okB f s a = false) : ((s : Int) == 0) = true ∨ ((s : Int) == 0) = false ∧ ((bits .andNot .u64 (s : Int) (maskN f : Nat) != 0) = true ∨ (bits .andNot .u64 (s : Int) (maskN f : Nat) != 0) = false ∧ a = true ∧ ((s : Int) != (maskN f : Nat)) = true) := by
  by_cases h0 : s = 0
  · left; simp [h0]
  · right
    refine ⟨by simp; omega, ?_⟩
    have e : bits .andNot .u64 (s : Int) (maskN f : Nat) = ((s &&& (18446744073709551615 - maskN f) : Nat) : Int) := u64_andNot_nat s (maskN f) hs (maskN_lt f)
    rw [e]
    by_cases h1 : s &&& (18446744073709551615 - maskN f) = 0
    · right
      rw [h1]
      have h2 : s &&& maskN f = s := by
        refine bits_eq fun m => ?_
        rw [Nat.testBit_and]
        by_cases hm : m < 64
        · have e2 : 18446744073709551615 - maskN f = 2 ^ 64 - (maskN f + 1) := by have := maskN_lt f; omega
          have h3 := congrArg (fun x => Nat.testBit x m) h1
          simp only [Nat.testBit_and, Nat.zero_testBit] at h3
          rw [e2, Nat.testBit_two_pow_sub_succ (by exact maskN_lt f)] at h3
          simp [hm] at h3
          cases hb : s.testBit m
          · rfl
          · rw [h3 hb]; rfl
        · rw [bit_hi hs (by omega)]; rfl
      refine ⟨rfl, ?_⟩
      unfold okB at h
      have h0' : (s == 0) = false := by simp [h0]
      rw [h0', decide_eq_true h2] at h
      simp at h
      refine ⟨h.1, ?_⟩
      simp
      intro e
      exact h.2 (by omega)
    · left
      simp
      omega
/-- What Check tells. -/
def chkE (c : Sp) : Int := if validB c = true then 0 else 30
theorem chk_yes {c : Sp} (h : validB c = true) : chkE c = 0 := by unfold chkE; rw [if_pos h]
theorem chk_no {c : Sp} (h : validB c = false) : chkE c = 30 := by unfold chkE; rw [if_neg (by rw [h]; simp)]
set_option maxHeartbeats 2000000 in
theorem check_any (c : Sp) (w : World) (hc : c.wf) (hB : Bnd w) : Calls Tryd.prog 12 #[vC c] w fun e w' => e = .returned (.int .i64 (chkE c)) ∧ Below w.heap.size w w' := by
  have HV := hide (valid_iff c)
  have HC := hide hc
  have HB := hide hB
  clear hc hB
  go_enter Tryd.func12, Tryd.ntmps12
  go_wp2_with fail
  obtain ⟨W, hW⟩ : ∃ W, W = w.alloc (.cells #[.int .u64 (c.S 0 : Nat), .int .u64 (c.S 1 : Nat), .int .u64 (c.S 2 : Nat), .int .u64 (c.S 3 : Nat), .int .u64 (c.S 4 : Nat), .bool (c.A 0), .bool (c.A 1), .bool (c.A 2), .bool (c.A 3), .bool (c.A 4)] 26) := ⟨_, rfl⟩
  have HB0 : Hid (Below w.heap.size w W) := hide (by rw [hW]; exact (Below.refl _ _).alloc (Nat.le_refl _) _)
  have HA : Hid (∀ k, k < 5 → W.cell? ⟨w.heap.size, 5 + k, none⟩ = some (.bool (c.A k)) ∧ w.heap.size < W.heap.size) := hide (by
    intro k hk
    subst hW
    obtain rfl | rfl | rfl | rfl | rfl : k = 0 ∨ k = 1 ∨ k = 2 ∨ k = 3 ∨ k = 4 := by omega
    all_goals simp)
  have HF : Hid (∀ k, k < 5 → W.frozen? ⟨w.heap.size, 5 + k, none⟩ = false) := hide (by
    intro k hk
    subst hW
    simp)
  rw [← hW]
  clear hW
  have HR := hide (Below.refl W.heap.size W)
  go_loopw [8] (fun t wr => ∃ k : Nat, k ≤ 5 ∧ (∀ f, f < k → okB f (c.S f) (c.A f) = true) ∧ t = .int .i64 (k : Nat) ∧ Below W.heap.size W wr) (fun t _ => 5 - (intOf t).toNat)
  case atStart => exact ⟨0, by omega, fun f hf => by omega, rfl, HR.out⟩
  case round =>
    obtain ⟨k, hk, hok, rfl, hb⟩ := hrel
    have HOK := hide hok
    have HBk := hide hb
    clear hok
    by_cases hlt : k < 5
    · have hx := run_idxS c k hlt
      have HF1 := hide (full_any k wr hlt ((HB.out.on HB0.out).stays (Nat.le_refl _) hb))
      have ha := (HA.out k hlt).1
      have hz := (HA.out k hlt).2
      clear hb
      have hcell := HBk.out.cell (p := ⟨w.heap.size, 5 + k, none⟩) hz
      rw [ha] at hcell
      clear ha
      go_wp2_with fail
      refine HF1.out.mono ?_
      rintro e w1 ⟨rfl, hb1⟩
      have HB1 := hide (HBk.out.trans (hb1.mono HBk.out.size))
      have hcell1 := hb1.cell (p := ⟨w.heap.size, 5 + k, none⟩) (Nat.lt_of_lt_of_le hz HBk.out.size)
      rw [hcell] at hcell1
      clear hb1 hcell hx
      cases hq : okB k (c.S k) (c.A k)
      · have hn := ok_no (HC.out k hlt) hq
        have HE : Hid (chkE c = 30) := hide (by
          unfold chkE
          rw [if_neg]
          intro hv
          rw [(HV.out.1 hv) k hlt] at hq
          cases hq)
        clear hq
        rcases hn with h1 | ⟨h1, h2 | ⟨h2, h3, h4⟩⟩
        · go_wp2_with fail
          go_ret
          exact ⟨ret_int HE.out.symm, HB0.out.trans (HB1.out.mono HB0.out.size)⟩
        · go_wp2_with fail
          go_ret
          exact ⟨ret_int HE.out.symm, HB0.out.trans (HB1.out.mono HB0.out.size)⟩
        · rw [h3] at hcell1
          go_wp2_with fail
          go_ret
          exact ⟨ret_int HE.out.symm, HB0.out.trans (HB1.out.mono HB0.out.size)⟩
      · obtain ⟨h1, h2, h3⟩ := ok_yes (HC.out k hlt) hq
        have HOK2 : Hid (∀ f, f < k + 1 → okB f (c.S f) (c.A f) = true) := hide (fun f hf => by
          by_cases e : f = k
          · subst e; exact hq
          · exact HOK.out f (by omega))
        clear hq
        cases hA : c.A k
        · rw [hA] at hcell1
          clear h3 hA
          go_wp2_with fail
          go_roundw
          case rel => exact ⟨k + 1, by omega, HOK2.out, by go_num, HB1.out⟩
          case measure => simp [intOf]; omega
        · rw [hA] at hcell1
          have h4 := h3 hA
          clear h3 hA
          go_wp2_with fail
          go_roundw
          case rel => exact ⟨k + 1, by omega, HOK2.out, by go_num, HB1.out⟩
          case measure => simp [intOf]; omega
    · have HE : Hid (chkE c = 0) := hide (by
        unfold chkE
        rw [if_pos]
        exact HV.out.2 fun f hf => HOK.out f (by omega))
      clear hb
      go_wp2_with fail
      go_ret
      exact ⟨ret_int HE.out.symm, HB0.out.trans (HBk.out.mono HB0.out.size)⟩
end Go.Proofs.YtggaflihblhapaaDoor
