/-
  What Parse tells of any text; and of the text of a valid value: that value.
-/
import Derived.Test.YteaaloejjafhlaaDoorRead
import Derived.Test.YteaaloejjafhlaaDoorRefShow
namespace Go.Proofs.YteaaloejjafhlaaDoor
open Go.RowKit Go.Sort

theorem parse_dec : ∀ (k u : Nat) (r : List UInt8), u ≤ k → u < 18446744073709551616 → Lib.parseUint10 0 (Lib.decDigits u ++ r) = Lib.parseUint10 u r
  | k, u, r, hk, hu => by
    have hd : (dig u).toNat = 48 + u % 10 := by have := dig_val u; omega
    by_cases h : u < 10
    · rw [dec_small h]
      show Lib.parseUint10 0 (dig u :: r) = _
      unfold Lib.parseUint10
      rw [hd, if_pos (by omega), if_neg (by omega), if_neg (by omega)]
      rw [show 0 * 10 + (48 + u % 10 - 48) = u by omega]
      cases r <;> rfl
    · match k, hk with
      | 0, hk => omega
      | k + 1, hk =>
        rw [dec_big h, List.append_assoc, parse_dec k (u / 10) _ (by omega) (by omega)]
        show Lib.parseUint10 (u / 10) (dig u :: r) = _
        conv => lhs; unfold Lib.parseUint10
        rw [hd, if_pos (by omega), if_neg (by omega), if_neg (by omega)]
        rw [show u / 10 * 10 + (48 + u % 10 - 48) = u by omega]
theorem dec_ne (u : Nat) : Lib.decDigits u ≠ [] := by
  intro h
  have := Lib.decDigits_length u
  have h2 := Lib.nDigits_pos u
  rw [h] at this; simp at this; omega
theorem mag_dec (u : Nat) (hu : u < 18446744073709551616) : Lib.parseMag (Lib.decDigits u) = .ok u := by
  unfold Lib.parseMag
  rw [if_neg (dec_ne u)]
  have h := parse_dec u u [] (Nat.le_refl _) hu
  rw [List.append_nil] at h
  rw [h]; rfl
theorem dec_head : ∀ (k u : Nat), u ≤ k → ∃ c r, Lib.decDigits u = c :: r ∧ 48 ≤ c.toNat ∧ c.toNat ≤ 57
  | k, u, hk => by
    have hd : (dig u).toNat = 48 + u % 10 := by have := dig_val u; omega
    by_cases h : u < 10
    · exact ⟨dig u, [], dec_small h, by omega, by omega⟩
    · match k, hk with
      | 0, hk => omega
      | k + 1, hk =>
        obtain ⟨c, r, e, h1, h2⟩ := dec_head k (u / 10) (by omega)
        exact ⟨c, r ++ [dig u], by rw [dec_big h, e]; rfl, h1, h2⟩
theorem atoi_itoa (n : Int) (hn : I64 n) : Lib.atoiAll (Lib.itoa n) = .ok n := by
  unfold I64 at hn
  unfold Lib.itoa
  by_cases h0 : n < 0
  · rw [if_pos h0]
    unfold Lib.atoiAll
    have hm := mag_dec n.natAbs (by omega)
    simp only [show ((45 : UInt8).toNat = 43 ∨ (45 : UInt8).toNat = 45) = True by simp, if_true, hm]
    rw [if_neg (by simp), if_neg (by omega)]
    simp only [show ((45 : UInt8).toNat = 45) = True by simp, if_true]
    congr 1; omega
  · rw [if_neg h0]
    have hm := mag_dec n.toNat (by omega)
    obtain ⟨c, r, e, h1, h2⟩ := dec_head n.toNat n.toNat (Nat.le_refl _)
    rw [e] at hm ⊢
    unfold Lib.atoiAll
    have c43 : ¬ (c.toNat = 43 ∨ c.toNat = 45) := by omega
    have c45 : ¬ (c.toNat = 45) := by omega
    simp only [if_neg c43, hm, if_neg c45]
    rw [if_neg (by omega), if_neg (by omega)]
    congr 1; omega
theorem itoa_head (n : Int) : ∃ c r, Lib.itoa n = c :: r ∧ (c.toNat = 45 ∨ (48 ≤ c.toNat ∧ c.toNat ≤ 57)) := by
  unfold Lib.itoa
  by_cases h0 : n < 0
  · rw [if_pos h0]; exact ⟨45, _, rfl, Or.inl rfl⟩
  · rw [if_neg h0]
    obtain ⟨c, r, e, h1, h2⟩ := dec_head n.toNat n.toNat (Nat.le_refl _)
    exact ⟨c, r, e, Or.inr ⟨h1, h2⟩⟩
theorem itoa_len (n : Int) (hn : I64 n) : (Lib.itoa n).length ≤ 21 := by
  unfold I64 at hn
  unfold Lib.itoa
  by_cases h0 : n < 0
  · rw [if_pos h0]; have := dec_len n.natAbs (by omega); simp only [List.length_cons]; omega
  · rw [if_neg h0]; have := dec_len n.toNat (by omega); omega
end Go.Proofs.YteaaloejjafhlaaDoor
