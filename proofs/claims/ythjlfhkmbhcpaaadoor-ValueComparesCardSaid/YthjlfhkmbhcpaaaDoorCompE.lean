/-
  ValueCompares: all cases together.
-/
import Derived.Test.YthjlfhkmbhcpaaaDoorCompW
namespace Go.Proofs.YthjlfhkmbhcpaaaDoor.valueCompares
open Go.RowKit

theorem valueCompares_walk (op k0 n0 : Int) (s0 : ByteArray) (k1 n1 : Int) (s1 : ByteArray) (w : World) (_ : I64 op) (_ : I64 k0) (_ : I64 n0) (hs0 : s0.size ≤ maxLen) (_ : I64 k1) (_ : I64 n1) (hs1 : s1.size ≤ maxLen) (ht : Tab w) :
    Calls Tryd.prog 10 #[.int .i64 op, vVal k0 n0 s0, vVal k1 n1 s1] w fun e w' => e = .returned (.bool true) ∧ Below w.heap.size w w' := by
  cases hr0 : rightV k0 n0 s0
  · exact not_first op k0 n0 s0 k1 n1 s1 w ht hs0 hr0
  cases hr1 : rightV k1 n1 s1
  · exact not_second op k0 n0 s0 k1 n1 s1 w ht hs0 hs1 hr0 hr1
  by_cases hk : k0 = 0
  · exact null1 op k0 n0 s0 k1 n1 s1 w ht hs0 hs1 hr0 hr1 (by simpa using hk) fun w => compare_null1 op k0 n0 s0 k1 n1 s1 w (by simpa using hk)
  by_cases hl : k1 = 0
  · exact null2 op k0 n0 s0 k1 n1 s1 w ht hs0 hs1 hr0 hr1 (by simpa using hk) (by simpa using hl) fun w => compare_null2 op k0 n0 s0 k1 n1 s1 w (by simpa using hk) (by simpa using hl)
  have hk' : (k0 == 0) = false := by simpa using hk
  have hl' : (k1 == 0) = false := by simpa using hl
  have none : (op < 1 ∨ 6 < op) → ∀ w, Calls Tryd.prog 29 #[.int .i64 op, vVal k0 n0 s0, vVal k1 n1 s1] w fun e w' => e = .returned vNull ∧ Below w.heap.size w w' := fun h w => by
    have hne : ∀ j : Int, 1 ≤ j → j ≤ 6 → (op == j) = false := fun j h1 h2 => by rw [beq_eq_false_iff_ne]; omega
    exact compare_none op k0 n0 s0 k1 n1 s1 w hk' hl' (hne 1 (by decide) (by decide)) (hne 2 (by decide) (by decide)) (hne 3 (by decide) (by decide)) (hne 4 (by decide) (by decide)) (hne 5 (by decide) (by decide)) (hne 6 (by decide) (by decide))
  by_cases h1 : op < 1
  · exact low op k0 n0 s0 k1 n1 s1 w ht hs0 hs1 hr0 hr1 hk' hl' h1 (none (Or.inl h1))
  by_cases h6 : 6 < op
  · exact high op k0 n0 s0 k1 n1 s1 w ht hs0 hs1 hr0 hr1 hk' hl' h1 h6 (none (Or.inr h6))
  have hop : op = 1 ∨ op = 2 ∨ op = 3 ∨ op = 4 ∨ op = 5 ∨ op = 6 := by omega
  have hA := fun w => compare_ops op k0 n0 s0 k1 n1 s1 w hk' hl' hop
  have hH := fun w => holds_any op k0 n0 s0 k1 n1 s1 w hs0 hop
  cases hb : holdsB op (cmpV k0 n0 s0 k1 n1 s1)
  · rw [hb] at hA hH
    exact fails op k0 n0 s0 k1 n1 s1 w ht hs0 hs1 hr0 hr1 hk' hl' h1 h6 hA hH
  · rw [hb] at hA hH
    exact holds op k0 n0 s0 k1 n1 s1 w ht hs0 hs1 hr0 hr1 hk' hl' h1 h6 hA hH
end Go.Proofs.YthjlfhkmbhcpaaaDoor.valueCompares
