/-
  The rows of a table that comes in are no more than their capacity.
-/
import Derived.Test.YtaoeofnfmlckiaaDoorTFrame
namespace Go.Proofs.YtaoeofnfmlckiaaDoor
open Go.ChangeShapes Go.WideShapes Go.ChangeAt Go.RowKit Go.Joins Go.Deep

set_option maxRecDepth 100000 in
theorem capT {H : Type} {enc : TypeId × Value → H} {w : World} {b0 base : Nat} {S A : Option Addr} {n c m cap : Nat} {d : DataW H} {p : List MemPlace} (hv : Value.okWide Tryd.prog w .any b0 26 (vTab S n c A m cap))
    (h : DataW.Trod enc Tryd.prog w base (fun _ => true) true 26 (vTab S n c A m cap) d p) : m ≤ cap := by
  obtain ⟨v0, v1, y0, y1, k, he, _, _, h0, h1⟩ := open_agg2 Tryd.underlying26 (by kernel_rfl) (by kernel_rfl) hv h
  obtain rfl : v1 = .slice A m cap := by simp at he; exact he.2.symm
  rcases open_slice Tryd.underlying24 h1 with ⟨hc, _⟩ | ⟨a, len, cap', m', n', D, Pl, hc, _, hl, hm, hmm, _, hi⟩
  · simp at hc
    omega
  · simp at hc
    obtain ⟨rfl, rfl, rfl⟩ := hc
    have hml : m' = cap := by simpa using hmm
    omega
end Go.Proofs.YtaoeofnfmlckiaaDoor
