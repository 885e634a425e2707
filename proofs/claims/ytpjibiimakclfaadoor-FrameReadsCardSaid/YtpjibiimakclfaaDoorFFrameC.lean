/-
  A slice's capacity is no less than its length.
-/
import Derived.Test.YtpjibiimakclfaaDoorFFrame
namespace Go.Proofs.YtpjibiimakclfaaDoor
open Go.ChangeShapes Go.WideShapes Go.ChangeAt Go.RowKit Go.Joins Go.Deep

set_option maxRecDepth 100000 in
theorem capB {H : Type} {enc : TypeId × Value → H} {w : World} {base n c : Nat} {A : Option Addr} {d : DataW H} {p : List MemPlace} {t e : TypeId} (ht : Tryd.prog.underlying t = some (.slice e))
    (h : DataW.Trod enc Tryd.prog w base (fun _ => true) true t (.slice A n c) d p) : n ≤ c := by
  obtain ⟨fuel, hf⟩ := h
  rcases open_slice ht hf with ⟨hc, _⟩ | ⟨a, len', cap', m, k, D, Pl, hc, _, hl, _⟩
  · simp [Value.cells] at hc
    omega
  · simp [Value.cells] at hc
    omega
end Go.Proofs.YtpjibiimakclfaaDoor
