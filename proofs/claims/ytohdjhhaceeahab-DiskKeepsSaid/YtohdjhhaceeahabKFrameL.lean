/-
  How lists of byte slices come in.
-/
import Derived.Test.YtohdjhhaceeahabKFrameO
import Derived.Test.YtohdjhhaceeahabKHeads
namespace Go.Proofs.Ytohdjhhaceeahab
open Go.ChangeShapes Go.WideShapes Go.ChangeAt Go.RowKit Go.Joins Go.Deep

instance : Inhabited BH := ⟨dH⟩
set_option maxRecDepth 100000 in
/-- A list of byte slices that comes in. -/
theorem openL {H : Type} {enc : TypeId × Value → H} {w : World} {b0 base : Nat} {v : Value} {d : DataW H} {p : List MemPlace} (hv : Value.okWide Try.prog w .any b0 43 v) (h : DataW.Trod enc Try.prog w base (fun _ => true) true 43 v d p) :
    ∃ A cap l, v = .slice A l.length cap ∧ (HeadsAt w.heap.size w A l ∧ (A = none → cap = 0)) ∧ WfHs l := by
  obtain ⟨A, len, cap, rfl⟩ := okWide_slice Try.underlying43 hv
  obtain ⟨fuel, hf⟩ := h
  rcases open_slice Try.underlying43 hf with ⟨hc, _⟩ | ⟨a, len', cap', m, n, D, Pl, hc, _, hl, hm, hmm, _, hi⟩
  · simp [Value.cells] at hc
    obtain ⟨rfl, rfl, rfl⟩ := hc
    exact ⟨none, 0, [], rfl, ⟨fun j hj => by simp at hj, fun _ => rfl⟩, Nat.zero_le _, fun j hj => by simp at hj⟩
  · simp [Value.cells] at hc
    obtain ⟨rfl, rfl, rfl⟩ := hc
    have hml : len ≤ m := by rw [hmm]; split <;> omega
    have each : ∀ i, i < len → ∃ o : BH, w.cell? (a.add i) = some (hdr o) ∧ WfH o ∧ BytesAt w.heap.size w o.A o.l := fun i hil => by
      obtain ⟨cs', hcs, ht⟩ := hi i (by omega)
      rw [cells_sl, Nat.mul_one] at hcs
      obtain ⟨_, hlen, hat⟩ := World.cells?_some hcs
      obtain ⟨dA, dc, dl, rfl, d1, d2, d3⟩ := some_bytes ht
      have g := hat 0 (by simp)
      rw [add_add] at g
      exact ⟨⟨dA, dc, dl⟩, by unfold hdr; simpa using g, ⟨d2, d3⟩, d1⟩
    obtain ⟨f, hfn⟩ := choose_lt each
    refine ⟨some a, cap, (List.range len).map f, by simp, ⟨fun j hj => ?_, fun e => by cases e⟩, by rw [List.length_map, List.length_range]; exact Nat.le_trans hl hm, fun j hj => ?_⟩
    · rw [List.length_map, List.length_range] at hj
      obtain ⟨h0, _, hd⟩ := hfn j hj
      obtain ⟨b, off, spot⟩ := a
      have hspot : spot = none := by
        have c00 := (hfn 0 (by omega)).1
        have := World.cell?_spot c00
        simpa [Addr.add] using this
      subst hspot
      have e : ((List.range len).map f).getD j dH = f j := by
        rw [List.getD_eq_getElem?_getD, List.getElem?_map, List.getElem?_range hj]; rfl
      rw [e]
      rw [add_plain] at h0
      exact ⟨b, off, rfl, cell_lt h0, h0, hd⟩
    · rw [List.length_map, List.length_range] at hj
      have e : ((List.range len).map f).getD j dH = f j := by
        rw [List.getD_eq_getElem?_getD, List.getElem?_map, List.getElem?_range hj]; rfl
      rw [e]
      exact (hfn j hj).2.1
end Go.Proofs.Ytohdjhhaceeahab
