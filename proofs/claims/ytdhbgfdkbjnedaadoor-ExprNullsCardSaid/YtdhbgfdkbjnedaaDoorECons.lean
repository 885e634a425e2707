/-
  What makes expressions: Column and Const.
-/
import Derived.Test.YtdhbgfdkbjnedaaDoorECopies
namespace Go.Proofs.YtdhbgfdkbjnedaaDoor
open Go.RowKit

theorem column_any (s : ByteArray) (w : World) : Calls Tryd.prog 30 #[.string s] w fun e w' => e = .returned (vX (.mk 1 s (0, 0, ⟨#[]⟩) ⟨#[]⟩ none 0 [])) ∧ Below w.heap.size w w' := by
  go_enter Tryd.func30, Tryd.ntmps30
  go_wp2
  go_returns
  exact ⟨rfl, by go_grown⟩
theorem const_any (k n : Int) (s : ByteArray) (w : World) : Calls Tryd.prog 27 #[vVal k n s] w fun e w' => e = .returned (vX (.mk 2 ⟨#[]⟩ (k, n, s) ⟨#[]⟩ none 0 [])) ∧ Below w.heap.size w w' := by
  go_enter Tryd.func27, Tryd.ntmps27
  go_wp2
  go_returns
  exact ⟨rfl, by go_grown⟩
theorem lies_leaf (B : Nat) (w : World) (k : Int) (n : ByteArray) (v : Int × Int × ByteArray) (o : ByteArray) : LiesX B w (.mk k n v o none 0 []) :=
  .mk (fun _ => rfl) (fun j h => by simp at h) (fun x h => by simp at h)
end Go.Proofs.YtdhbgfdkbjnedaaDoor
