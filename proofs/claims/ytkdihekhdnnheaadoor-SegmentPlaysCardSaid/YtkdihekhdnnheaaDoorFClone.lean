/-
  bytes.Clone, of any bytes.
-/
import Derived.Test.YtkdihekhdnnheaaDoorFBase
import Derived.Test.YtkdihekhdnnheaaDoorShelf
namespace Go.Proofs.YtkdihekhdnnheaaDoor
open Go.RowKit

theorem map_u8 (l : List UInt8) : (l.map fun b => (b.toNat : Int)).map (Value.int .u8) = byC l := by simp [byC]
theorem clone_any (A : Option Addr) (c : Nat) (l : List UInt8) (w : World) (hB : BytesAt w.heap.size w A l) (hl : l.length ≤ 140737488355328) :
    Calls Tryd.prog 42 #[.slice A l.length c] w fun e w' => ∃ v', e = .returned v' ∧ w'.ownsRow w.heap.size 5 1 v' l.length (byC l) ∧ Below w.heap.size w w' := by
  cases A with
  | none =>
    have hv : l = [] := by
      rcases l with _ | ⟨y, r⟩
      · rfl
      · obtain ⟨_, _, e, _⟩ := hB 0 (by simp); cases e
    subst hv
    refine (Tryd.bytes_Clone_nil _ c w).mono fun e w' h => ⟨_, h.1, ?_, by rw [h.2]; exact Below.refl _ _⟩
    rw [h.2]
    exact World.ownsRow_nil _ _ _ _
  | some a =>
    refine (Tryd.bytes_Clone_at a l.length c (l.map fun b => (b.toNat : Int)) w (by simp) hl fun i hi => ?_).mono fun e w' h => ?_
    · obtain ⟨b, off, e, _, h0⟩ := hB i hi
      injection e with e
      subst e
      rw [show (⟨b, off, none⟩ : Addr).add i = ⟨b, off + i, none⟩ by unfold Addr.add; split <;> simp_all, h0]
      simp [List.getD_eq_getElem?_getD, List.getElem?_eq_getElem hi]
    · obtain ⟨v', h1, h2, _, h4⟩ := h
      rw [map_u8] at h2
      exact ⟨v', h1, h2, h4⟩
end Go.Proofs.YtkdihekhdnnheaaDoor
