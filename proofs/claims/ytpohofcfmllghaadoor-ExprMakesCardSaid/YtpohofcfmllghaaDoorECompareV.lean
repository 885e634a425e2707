/-
  Compare of any two values in any of the six ways.
-/
import Derived.Test.YtpohofcfmllghaaDoorECompare
import Derived.Test.YtpohofcfmllghaaDoorEOps
namespace Go.Proofs.YtpohofcfmllghaaDoor
open Go.RowKit

def compareV (op : Int) (a b : Int × Int × ByteArray) : Int × Int × ByteArray :=
  if a.1 = 0 ∨ b.1 = 0 then (0, 0, ⟨#[]⟩) else (1, bit (cmpB op (cmpV a.1 a.2.1 a.2.2 b.1 b.2.1 b.2.2)), ⟨#[]⟩)
theorem compareV_any (op : Int) (a b : Int × Int × ByteArray) (w : World) (hop : op = 1 ∨ op = 2 ∨ op = 3 ∨ op = 4 ∨ op = 5 ∨ op = 6) :
    Calls Tryd.prog 45 #[.int .i64 op, vOf a, vOf b] w fun e w' => e = .returned (vOf (compareV op a b)) ∧ Below w.heap.size w w' := by
  unfold compareV
  by_cases ha : a.1 = 0
  · rw [if_pos (.inl ha)]
    exact compare_null1 op a.1 a.2.1 a.2.2 b.1 b.2.1 b.2.2 w (by rw [beq_iff_eq]; exact ha)
  · have ha' : (a.1 == 0) = false := by rw [beq_eq_false_iff_ne]; exact ha
    by_cases hb : b.1 = 0
    · rw [if_pos (.inr hb)]
      exact compare_null2 op a.1 a.2.1 a.2.2 b.1 b.2.1 b.2.2 w ha' (by rw [beq_iff_eq]; exact hb)
    · rw [if_neg (by rintro (h | h); exact ha h; exact hb h)]
      exact compare_ops op a.1 a.2.1 a.2.2 b.1 b.2.1 b.2.2 w ha' (by rw [beq_eq_false_iff_ne]; exact hb) hop
end Go.Proofs.YtpohofcfmllghaaDoor
