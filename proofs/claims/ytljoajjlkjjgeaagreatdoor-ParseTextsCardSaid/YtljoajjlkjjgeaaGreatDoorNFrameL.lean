/-
  A slice of texts that comes in.
-/
import Derived.Test.YtljoajjlkjjgeaaGreatDoorNFrame
import Derived.Test.YtljoajjlkjjgeaaGreatDoorMLw
namespace Go.Proofs.YtljoajjlkjjgeaaGreatDoor
open Go.ChangeShapes Go.WideShapes Go.ChangeAt Go.RowKit Go.Joins Go.Deep LM

theorem cell_ltN {w : World} {p : Addr} {v : Value} (h : w.cell? p = some v) : p.block < w.heap.size := by
 rcases Nat.lt_or_ge p.block w.heap.size with h' | h'
 ·exact h'
 ·simp [World.cell?, Array.getElem?_eq_none h'] at h
theorem add_plainN (b off i : Nat) : (⟨b, off, none⟩ : Addr).add i = ⟨b, off + i, none⟩ := by unfold Addr.add; split <;> simp_all
set_option maxRecDepth 100000 in
theorem openL {H : Type} {enc : TypeId × Value → H} {w : World} {b0 base : Nat} {v : Value} {d : DataW H} {p : List MemPlace} (hv : Value.okWide Tryz.prog w .any b0 22 v) (h : DataW.Trod enc Tryz.prog w base (fun _ => true) true 22 v d p) :
  ∃ A cap ss, v = .slice A ss.length cap ∧ StrL w ss (.slice A ss.length cap) ∧ (A = none → cap = 0) ∧ ss.length ≤ maxLen ∧ ∀ k, ∀ hk : k < ss.length, ss[k].size ≤ maxLen := by
 obtain ⟨A, len, cap, rfl⟩ := okWide_slice Tryz.underlying22 hv
 obtain ⟨fuel, hf⟩ := h
 rcases open_strings Tryz.underlying22 Tryz.underlying9 cells_str hf with ⟨hc, _⟩ | ⟨a, len', cap', ss, hc, _, hl, hm, hz, _, hcell, hwz⟩
 ·simp [Value.cells] at hc
  obtain ⟨rfl, rfl, rfl⟩ := hc
  exact ⟨none, 0, [], rfl, ⟨none, 0, rfl, fun wr _ j hj => by simp at hj⟩, fun _ => rfl, Nat.zero_le _, fun k hk => by simp at hk⟩
 ·simp [Value.cells] at hc
  obtain ⟨rfl, rfl, rfl⟩ := hc
  simp only [if_true] at hz
  have hlt : (ss.take len).length = len := by rw [List.length_take]; omega
  refine ⟨some a, cap, ss.take len, by rw [hlt], ⟨some a, cap, rfl, fun wr hb j hj => ?_⟩, (fun e => by cases e), by rw [hlt]; exact Nat.le_trans hl hm, fun k hk => hwz _ (List.mem_of_mem_take (List.getElem_mem hk))⟩
  rw [hlt] at hj
  have h0 := hcell j (by omega)
  obtain ⟨b, off, spot⟩ := a
  have hspot : spot = none := by simpa [Addr.add] using World.cell?_spot (hcell 0 (by omega))
  subst hspot
  have hbk := cell_ltN h0
  rw [add_plainN] at h0 hbk
  refine ⟨b, off, rfl, hbk, ?_⟩
  rw [hb.cell (p := ⟨b, off + j, none⟩) hbk, h0, List.getElem_take, List.getD_eq_getElem?_getD, List.getElem?_eq_getElem (by omega)]
  rfl
end Go.Proofs.YtljoajjlkjjgeaaGreatDoor
