/-
  The laws' fixed example.
-/
import Derived.Test.YtkdihekhdnnheaaDoorFOutT
import Derived.Test.YtkdihekhdnnheaaDoorFSum
import Derived.Lib.SlBytesConst
namespace Go.Proofs.YtkdihekhdnnheaaDoor
open Go.RowKit

def aw9 : List UInt8 := [49, 50, 51, 52, 53, 54, 55, 56, 57]
def awO : List UInt8 := [] ++ intB 300 ++ intB (-1) ++ intB (-300)
theorem awO_eq : awO = [2, 44, 1, 16, 18, 43, 1] := by decide
theorem aw9_sum : sumL aw9 = 3421780262 := by kernel_rfl
theorem out_new (w : World) : OutAt w.heap.size w.heap.size (w.alloc (.cells #[.slice none 0 0] 81)) (.slice none 0 0) [] :=
  ⟨Nat.le_refl _, heap_alloc_new w _, World.ownsRow_nil _ _ _ _, fun b e => by cases e⟩
end Go.Proofs.YtkdihekhdnnheaaDoor
