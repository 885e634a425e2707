/-
  Words that the walks of the lexer share.
-/
import Derived.Test.YteaaloejjafhlaaDoorLMath
import Derived.LoopTactic
import Derived.OwnWalk
import Derived.KernelRfl
import Derived.Lib.QuietBelow
import Derived.Shelf.Abstract
import Derived.Deep.LoopGhost
import Derived.Deep.RegionHeld
namespace Go.Proofs.YteaaloejjafhlaaDoor
open Go.RowKit Go.Sort

theorem hide {p : Prop} (h : p) : Hid p := h
theorem ret_int {k : IntKind} {a b : Int} (h : a = b) : Ending.returned (.int k a) = .returned (.int k b) := by rw [h]
theorem ret_str {a b : ByteArray} (h : a = b) : Ending.returned (.string a) = .returned (.string b) := by rw [h]
theorem then_below {a b c : World} (h : Below a.heap.size a b) (k : Below b.heap.size b c) : Below a.heap.size a c := h.trans (k.mono h.size)
theorem lt_of_cell {w : World} {a o : Nat} {v : Value} (h0 : w.cell? ⟨a, o, none⟩ = some v) : a < w.heap.size := by
  rcases Nat.lt_or_ge a w.heap.size with h | h
  · exact h
  · exfalso
    have : w.heap[a]? = none := Array.getElem?_eq_none h
    simp [World.cell?, this] at h0
end Go.Proofs.YteaaloejjafhlaaDoor
