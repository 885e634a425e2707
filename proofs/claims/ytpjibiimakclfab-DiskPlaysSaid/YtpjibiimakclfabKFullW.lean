/-
  The walk of DiskFull.
-/
import Derived.Test.YtpjibiimakclfabKCalm
namespace Go.Proofs.Ytpjibiimakclfab
open Go.RowKit

/-- The slice at A reads as these integers, below block B. -/
def IntsAt (B : Nat) (w : World) (A : Option Addr) (l : List Int) : Prop :=
  ∀ j, j < l.length → ∃ b off, A = some ⟨b, off, none⟩ ∧ b < B ∧ w.cell? ⟨b, off + j, none⟩ = some (.int .i64 (l.getD j 0))
theorem IntsAt.below {B : Nat} {w w' : World} {A : Option Addr} {l : List Int} (h : IntsAt B w A l) (hb : Below B w w') : IntsAt B w' A l := fun j hj => by
  obtain ⟨b, off, e, hlt, h0⟩ := h j hj
  exact ⟨b, off, e, hlt, (hb.cell (p := ⟨b, off + j, none⟩) hlt).trans h0⟩
end Go.Proofs.Ytpjibiimakclfab
