/-
  ValueKinds: all cases together.
-/
import Derived.Test.YthjlfhkmbhcpaaaDoorKindsW
namespace Go.Proofs.YthjlfhkmbhcpaaaDoor.valueKinds
open Go.RowKit

theorem valueKinds_walk (op k0 n0 : Int) (s0 : ByteArray) (k1 n1 : Int) (s1 : ByteArray) (w : World) (hb : 0 ≤ op ∧ op ≤ 255) (_ : I64 k0) (hn0 : I64 n0) (hs0 : s0.size ≤ maxLen) (_ : I64 k1) (hn1 : I64 n1) (hs1 : s1.size ≤ maxLen) (ht : Tab w) :
    Calls Tryd.prog 11 #[.int .u8 op, vVal k0 n0 s0, vVal k1 n1 s1] w fun e w' => e = .returned (.bool true) ∧ Below w.heap.size w w' := by
  cases hr0 : rightV k0 n0 s0
  · exact not_first op k0 n0 k1 n1 s0 s1 w ht hs0 hr0
  cases hr1 : rightV k1 n1 s1
  · exact not_second op k0 n0 k1 n1 s0 s1 w ht hs0 hs1 hr0 hr1
  by_cases hop : op = 43 ∨ op = 45 ∨ op = 42 ∨ op = 47 ∨ op = 37
  · have hix : 0 ≤ opIx op := by rcases hop with rfl | rfl | rfl | rfl | rfl <;> decide
    by_cases hk : k0 = 2
    · exact type1 op k0 n0 k1 n1 s0 s1 w ht hs0 hs1 hr0 hr1 hop (by simpa using hk) fun w => arith_type1 op k0 n0 k1 n1 s0 s1 w hix (by simpa using hk)
    by_cases hl : k1 = 2
    · exact type2 op k0 n0 k1 n1 s0 s1 w ht hs0 hs1 hr0 hr1 hop (by simpa using hk) (by simpa using hl) fun w => arith_type2 op k0 n0 k1 n1 s0 s1 w hix (by simpa using hk) (by simpa using hl)
    by_cases hm : k0 = 0
    · exact null1 op k0 n0 k1 n1 s0 s1 w ht hs0 hs1 hr0 hr1 hop (by simpa using hk) (by simpa using hl) (by simpa using hm) fun w => arith_null1 op k0 n0 k1 n1 s0 s1 w hix (by simpa using hk) (by simpa using hl) (by simpa using hm)
    by_cases hn : k1 = 0
    · exact null2 op k0 n0 k1 n1 s0 s1 w ht hs0 hs1 hr0 hr1 hop (by simpa using hk) (by simpa using hl) (by simpa using hm) (by simpa using hn) fun w => arith_null2 op k0 n0 k1 n1 s0 s1 w hix (by simpa using hk) (by simpa using hl) (by simpa using hm) (by simpa using hn)
    have g0 : k0 = 1 ∧ s0 = ⟨#[]⟩ := by
      rcases rightV_cases hr0 with h | h | h
      · exact absurd h.1 hm
      · exact h
      · exact absurd h.1 hk
    have g1 : k1 = 1 ∧ s1 = ⟨#[]⟩ := by
      rcases rightV_cases hr1 with h | h | h
      · exact absurd h.1 hn
      · exact h
      · exact absurd h.1 hl
    obtain ⟨rfl, rfl⟩ := g0
    obtain ⟨rfl, rfl⟩ := g1
    have yes : ∀ m : Int, (∀ w, Calls Tryd.prog 26 #[.int .u8 op, vInt n0, vInt n1] w fun e w' => e = .returned (.tuple #[vInt m, .int .i64 0]) ∧ Below w.heap.size w w') → Done op 1 n0 1 n1 ⟨#[]⟩ ⟨#[]⟩ w := fun m hA =>
      ints_yes m op 1 n0 1 n1 ⟨#[]⟩ ⟨#[]⟩ w ht hs0 hs1 hr0 hr1 hop (by decide) (by decide) (by decide) (by decide) hA
    have over : (∀ w, Calls Tryd.prog 26 #[.int .u8 op, vInt n0, vInt n1] w fun e w' => e = .returned (vErr 10) ∧ Below w.heap.size w w') → Done op 1 n0 1 n1 ⟨#[]⟩ ⟨#[]⟩ w := fun hA =>
      ints_over op 1 n0 1 n1 ⟨#[]⟩ ⟨#[]⟩ w ht hs0 hs1 hr0 hr1 hop (by decide) (by decide) (by decide) (by decide) hA
    have zero : (∀ w, Calls Tryd.prog 26 #[.int .u8 op, vInt n0, vInt n1] w fun e w' => e = .returned (vErr 11) ∧ Below w.heap.size w w') → Done op 1 n0 1 n1 ⟨#[]⟩ ⟨#[]⟩ w := fun hA =>
      ints_zero op 1 n0 1 n1 ⟨#[]⟩ ⟨#[]⟩ w ht hs0 hs1 hr0 hr1 hop (by decide) (by decide) (by decide) (by decide) hA
    have both : ∀ (p : Prop) [Decidable p] (m : Int), (∀ w, Calls Tryd.prog 26 #[.int .u8 op, vInt n0, vInt n1] w fun e w' => e = .returned (arRes (decide p) m) ∧ Below w.heap.size w w') → Done op 1 n0 1 n1 ⟨#[]⟩ ⟨#[]⟩ w := by
      intro p _ m hA
      by_cases hp : p
      · rw [arRes_yes hp] at hA; exact yes m hA
      · rw [arRes_no hp] at hA; exact over hA
    rcases hop with rfl | rfl | rfl | rfl | rfl
    · exact both _ _ fun w => arith_add n0 n1 w hn0 hn1
    · exact both _ _ fun w => arith_sub n0 n1 w hn0 hn1
    · exact both _ _ fun w => arith_mul n0 n1 w hn0 hn1
    · by_cases hz : n1 = 0
      · exact zero fun w => arith_quo_zero 47 n0 n1 w opIx_47 rfl (by simpa using hz)
      · exact both _ _ fun w => arith_div n0 n1 w hn0 hz
    · by_cases hz : n1 = 0
      · exact zero fun w => arith_rem_zero 37 n0 n1 w opIx_37 rfl rfl (by simpa using hz)
      · exact yes _ fun w => arith_rem n0 n1 w hz
  · have h' : op ≠ 43 ∧ op ≠ 45 ∧ op ≠ 42 ∧ op ≠ 47 ∧ op ≠ 37 := by omega
    exact form op k0 n0 k1 n1 s0 s1 w ht hs0 hs1 hr0 hr1 (by simpa using h'.1) (by simpa using h'.2.1) (by simpa using h'.2.2.1) (by simpa using h'.2.2.2.1) (by simpa using h'.2.2.2.2)
      fun w => arith_form op k0 n0 k1 n1 s0 s1 w (opIx_neg hb.1 hb.2 hop)
end Go.Proofs.YthjlfhkmbhcpaaaDoor.valueKinds
