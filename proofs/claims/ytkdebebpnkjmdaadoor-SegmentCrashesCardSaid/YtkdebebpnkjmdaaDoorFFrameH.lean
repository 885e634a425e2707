/-
  How lists of byte slices come in.
-/
import Derived.Test.YtkdebebpnkjmdaaDoorFTwo
import Derived.Test.YtkdebebpnkjmdaaDoorFFrame
namespace Go.Proofs.YtkdebebpnkjmdaaDoor
open Go.ChangeShapes Go.WideShapes Go.ChangeAt Go.RowKit Go.Joins Go.Deep

instance : Inhabited BH := ⟨dH⟩
theorem cells_sl : Tryd.prog.cellsOf 22 = 1 := by kernel_rfl
section
variable {H : Type} {enc : TypeId × Value → H} {w : World} {base fuel : Nat} {sp : Nat → Bool} {held : Bool}
set_option maxRecDepth 100000 in
theorem some_bytes {cs : List Value} {y : DataW H × List MemPlace} (hf : DataW.trod enc Tryd.prog w base sp held fuel 22 cs = some y) :
    ∃ A cap, ∃ l : List UInt8, cs = [.slice A l.length cap] ∧ BytesAt w.heap.size w A l ∧ l.length ≤ maxLen ∧ (A = none → cap = 0) := by
  rcases open_slice Tryd.underlying22 hf with ⟨hc, _⟩ | ⟨a, len, cap, m, n, D, Pl, hc, _, hl, hm, hmm, _, hi⟩
  · exact ⟨none, 0, [], hc, fun j hj => by simp at hj, Nat.zero_le _, fun _ => rfl⟩
  · have hml : len ≤ m := by rw [hmm]; split <;> omega
    have each : ∀ i, i < len → ∃ c : UInt8, w.cell? (a.add i) = some (.int .u8 c.toNat) := fun i hil => by
      obtain ⟨cs', hcs, ht⟩ := hi i (by omega)
      rw [cells_byte, Nat.mul_one] at hcs
      obtain ⟨_, hlen, hat⟩ := World.cells?_some hcs
      match cs', hlen with
      | [c0], _ =>
        obtain ⟨k, e0, _, wk⟩ := DataW.trod_int Tryd.underlying5 ht
        simp at e0
        subst e0
        have g0 := hat 0 (by omega)
        rw [add_add] at g0
        have hk := bounds_u8 wk
        refine ⟨UInt8.ofNat k.toNat, ?_⟩
        rw [UInt8.toNat_ofNat_of_lt' (by show _ < 256; omega), Int.toNat_of_nonneg hk.1]
        simpa using g0
    obtain ⟨f, hfn⟩ := choose_lt each
    refine ⟨some a, cap, (List.range len).map f, by rw [hc]; simp, fun j hj => ?_, by rw [List.length_map, List.length_range]; exact Nat.le_trans hl hm, fun e => by cases e⟩
    rw [List.length_map, List.length_range] at hj
    have h0 := hfn j hj
    obtain ⟨b, off, spot⟩ := a
    have hspot : spot = none := by
      have := World.cell?_spot (hfn 0 (by omega))
      simpa [Addr.add] using this
    subst hspot
    rw [add_plain] at h0
    have hb := cell_lt h0
    have e : ((List.range len).map f).getD j 0 = f j := by
      rw [List.getD_eq_getElem?_getD, List.getElem?_map, List.getElem?_range hj]; rfl
    rw [e]
    exact ⟨b, off, rfl, hb, h0⟩
end
set_option maxRecDepth 100000 in
/-- A list of byte slices that comes in. -/
theorem openH {H : Type} {enc : TypeId × Value → H} {w : World} {b0 base : Nat} {v : Value} {d : DataW H} {p : List MemPlace} (hv : Value.okWide Tryd.prog w .any b0 46 v) (h : DataW.Trod enc Tryd.prog w base (fun _ => true) true 46 v d p) :
    ∃ A cap l, v = .slice A l.length cap ∧ (HeadsAt w.heap.size w A l ∧ (A = none → cap = 0)) ∧ WfHs l := by
  obtain ⟨A, len, cap, rfl⟩ := okWide_slice Tryd.underlying46 hv
  obtain ⟨fuel, hf⟩ := h
  rcases open_slice Tryd.underlying46 hf with ⟨hc, _⟩ | ⟨a, len', cap', m, n, D, Pl, hc, _, hl, hm, hmm, _, hi⟩
  · simp [Value.cells] at hc
    obtain ⟨rfl, rfl, rfl⟩ := hc
    exact ⟨none, 0, [], rfl, ⟨fun j hj => by simp at hj, fun _ => rfl⟩, Nat.zero_le _, fun j hj => by simp at hj⟩
  · simp [Value.cells] at hc
    obtain ⟨rfl, rfl, rfl⟩ := hc
    have hml : len ≤ m := by rw [hmm]; split <;> omega
    have each : ∀ i, i < len → ∃ o : BH, w.cell? (a.add i) = some (hdr o) ∧ WfH o ∧ BytesAt w.heap.size w o.A o.l := fun i hil => by
      obtain ⟨cs', hcs, ht⟩ := hi i (by omega)
      rw [cells_sl, Nat.mul_one] at hcs
      obtain ⟨_, hlen, hat⟩ := World.cells?_some hcs
      obtain ⟨dA, dc, dl, rfl, d1, d2, d3⟩ := some_bytes ht
      have g := hat 0 (by simp)
      rw [add_add] at g
      exact ⟨⟨dA, dc, dl⟩, by unfold hdr; simpa using g, ⟨d2, d3⟩, d1⟩
    obtain ⟨f, hfn⟩ := choose_lt each
    refine ⟨some a, cap, (List.range len).map f, by simp, ⟨fun j hj => ?_, fun e => by cases e⟩, by rw [List.length_map, List.length_range]; exact Nat.le_trans hl hm, fun j hj => ?_⟩
    · rw [List.length_map, List.length_range] at hj
      obtain ⟨h0, _, hd⟩ := hfn j hj
      obtain ⟨b, off, spot⟩ := a
      have hspot : spot = none := by
        have c00 := (hfn 0 (by omega)).1
        have := World.cell?_spot c00
        simpa [Addr.add] using this
      subst hspot
      have e : ((List.range len).map f).getD j dH = f j := by
        rw [List.getD_eq_getElem?_getD, List.getElem?_map, List.getElem?_range hj]; rfl
      rw [e]
      rw [add_plain] at h0
      exact ⟨b, off, rfl, cell_lt h0, h0, hd⟩
    · rw [List.length_map, List.length_range] at hj
      have e : ((List.range len).map f).getD j dH = f j := by
        rw [List.getD_eq_getElem?_getD, List.getElem?_map, List.getElem?_range hj]; rfl
      rw [e]
      exact (hfn j hj).2.1
end Go.Proofs.YtkdebebpnkjmdaaDoor
