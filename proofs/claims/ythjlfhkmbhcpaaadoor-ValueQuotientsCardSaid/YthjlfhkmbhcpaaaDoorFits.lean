/-
  The document's answer on quotients (Fits): told true of the quotient and the rest.
-/
import Derived.Test.YthjlfhkmbhcpaaaDoorVal
namespace Go.Proofs.YthjlfhkmbhcpaaaDoor
open Go.RowKit

theorem tmod_abs (a b : Int) (hb : b ≠ 0) : (a.tmod b).natAbs < b.natAbs := abs_tmod_lt a b hb
theorem tmod_nonneg' {a : Int} (b : Int) (ha : 0 ≤ a) : 0 ≤ a.tmod b := Int.tmod_nonneg b ha
theorem tmod_nonpos' {a : Int} (b : Int) (ha : a ≤ 0) : a.tmod b ≤ 0 := by
  have h := Int.tmod_nonneg b (show 0 ≤ -a by omega)
  rw [Int.neg_tmod] at h; omega
theorem quo_back {a b : Int} (ha : I64 a) : wrap64 (wrap64 (a.tdiv b * b) + a.tmod b) = a := by
  have h : a.tdiv b * b + a.tmod b = a := Int.tdiv_mul_add_tmod a b
  have hf : I64 (a.tdiv b * b) := by
    have h1 : a.tdiv b * b = a - a.tmod b := by omega
    rw [h1]; unfold I64 at *
    rcases Int.le_total 0 a with h0 | h0
    · have h2 := tmod_nonneg' b h0
      have h3 : (a.tmod b).natAbs ≤ a.natAbs := by rw [Int.natAbs_tmod]; exact Nat.mod_le _ _
      omega
    · have h2 := tmod_nonpos' b h0
      have h3 : (a.tmod b).natAbs ≤ a.natAbs := by rw [Int.natAbs_tmod]; exact Nat.mod_le _ _
      omega
  rw [wrap_fit hf, h, wrap_fit ha]

set_option maxRecDepth 100000 in
set_option maxHeartbeats 1000000 in
theorem fits_core (a b q r : Int) (w : World) (ha : I64 a) (hb : I64 b) (hE : (wrap64 (wrap64 (q * b) + r) != a) = false) (hr1 : 0 ≤ a → 0 ≤ r) (hr2 : a ≤ 0 → r ≤ 0) (hr3 : r.natAbs < b.natAbs) :
    Calls Tryd.prog 27 #[.int .i64 a, .int .i64 b, .int .i64 q, .int .i64 r] w fun e w' => e = .returned (.bool true) ∧ w = w' := by
  obtain ⟨ha1, ha2⟩ := ha
  obtain ⟨hb1, hb2⟩ := hb
  have hs : (0 < a ∧ 0 ≤ r) ∨ (a < 0 ∧ r ≤ 0) ∨ (a = 0 ∧ r = 0) := by omega
  have ht : (0 < b ∧ r < b ∧ -b < r) ∨ (b < 0 ∧ b < r ∧ b = -9223372036854775808) ∨ (b < 0 ∧ b < r ∧ ¬ b = -9223372036854775808 ∧ r < -b) := by omega
  have ht' : (0 < b ∧ r < b ∧ -b < r) ∨ (b < 0 ∧ b < r ∧ (b == -9223372036854775808) = true) ∨ (b < 0 ∧ b < r ∧ (b == -9223372036854775808) = false ∧ r < -b ∧ -9223372036854775807 ≤ b) := by
    rcases ht with h | ⟨h1, h2, h3⟩ | ⟨h1, h2, h3, h4⟩
    · exact Or.inl h
    · exact Or.inr (Or.inl ⟨h1, h2, by simpa using h3⟩)
    · exact Or.inr (Or.inr ⟨h1, h2, by simpa using h3, h4, by omega⟩)
  clear hr1 hr2 hr3 ht
  rcases hs with ⟨s1, s2⟩ | ⟨s1, s2⟩ | ⟨rfl, rfl⟩
  · rcases ht' with ⟨t1, t2, t3⟩ | ⟨t1, t2, t3⟩ | ⟨t1, t2, t3, t4, t5⟩
    all_goals
      go_enter Tryd.func27, Tryd.ntmps27
      go_wp2
      go_ret
      exact ⟨rfl, rfl⟩
  · rcases ht' with ⟨t1, t2, t3⟩ | ⟨t1, t2, t3⟩ | ⟨t1, t2, t3, t4, t5⟩
    all_goals
      go_enter Tryd.func27, Tryd.ntmps27
      go_wp2
      go_ret
      exact ⟨rfl, rfl⟩
  · simp only [Int.add_zero] at hE
    rcases ht' with ⟨t1, t2, t3⟩ | ⟨t1, t2, t3⟩ | ⟨t1, t2, t3, t4, t5⟩
    all_goals
      go_enter Tryd.func27, Tryd.ntmps27
      go_wp2
      go_ret
      exact ⟨rfl, rfl⟩
theorem fits_any (a b : Int) (w : World) (ha : I64 a) (hb : I64 b) (hz : b ≠ 0) :
    Calls Tryd.prog 27 #[.int .i64 a, .int .i64 b, .int .i64 (a.tdiv b), .int .i64 (a.tmod b)] w fun e w' => e = .returned (.bool true) ∧ w = w' :=
  fits_core a b _ _ w ha hb (by rw [quo_back ha]; simp) (tmod_nonneg' b) (tmod_nonpos' b) (tmod_abs a b hz)
end Go.Proofs.YthjlfhkmbhcpaaaDoor
