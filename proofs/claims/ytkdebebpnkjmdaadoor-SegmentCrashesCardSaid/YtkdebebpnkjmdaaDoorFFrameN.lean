/-
  Lists of integers and of texts: how they lie, how they come in.
-/
import Derived.Test.YtkdebebpnkjmdaaDoorFLists
import Derived.Test.YtkdebebpnkjmdaaDoorFFrame
namespace Go.Proofs.YtkdebebpnkjmdaaDoor
open Go.ChangeShapes Go.WideShapes Go.ChangeAt Go.RowKit Go.Joins Go.Deep

set_option maxRecDepth 100000 in
/-- Integers that come in, as cells. -/
theorem openInts {H : Type} {enc : TypeId × Value → H} {w : World} {base fuel : Nat} {sp : Nat → Bool} {held : Bool} {A : Option Addr} {len cap : Nat} {y : DataW H × List MemPlace} (hf : DataW.trod enc Tryd.prog w base sp held fuel 47 [.slice A len cap] = some y) :
    ∃ l : List Int, len = l.length ∧ IntsAt w.heap.size w A l ∧ l.length ≤ maxLen ∧ (∀ j, j < l.length → -9223372036854775808 ≤ l.getD j 0 ∧ l.getD j 0 ≤ 9223372036854775807) ∧ (A = none → cap = 0) := by
  rcases open_slice Tryd.underlying47 hf with ⟨hc, _⟩ | ⟨a, len', cap', m, n, D, Pl, hc, _, hl, hm, hmm, _, hi⟩
  · simp at hc
    obtain ⟨rfl, rfl, rfl⟩ := hc
    exact ⟨[], rfl, fun j hj => by simp at hj, Nat.zero_le _, fun j hj => by simp at hj, fun _ => rfl⟩
  · simp at hc
    obtain ⟨rfl, rfl, rfl⟩ := hc
    have hml : len ≤ m := by rw [hmm]; split <;> omega
    have each : ∀ i, i < len → ∃ c : Int, w.cell? (a.add i) = some (.int .i64 c) ∧ -9223372036854775808 ≤ c ∧ c ≤ 9223372036854775807 := fun i hil => by
      obtain ⟨cs', hcs, ht⟩ := hi i (by omega)
      rw [cells_int, Nat.mul_one] at hcs
      obtain ⟨_, hlen, hat⟩ := World.cells?_some hcs
      match cs', hlen with
      | [c0], _ =>
        obtain ⟨k, e0, _, wk⟩ := DataW.trod_int Tryd.underlying3 ht
        simp at e0
        subst e0
        have g0 := hat 0 (by omega)
        rw [add_add] at g0
        have hk := bounds_i64 wk
        exact ⟨k, by simpa using g0, by omega, by omega⟩
    obtain ⟨f, hfn⟩ := choose_lt each
    refine ⟨(List.range len).map f, by simp, fun j hj => ?_, by rw [List.length_map, List.length_range]; exact Nat.le_trans hl hm, fun j hj => ?_, fun e => by cases e⟩
    · rw [List.length_map, List.length_range] at hj
      have h0 := (hfn j hj).1
      obtain ⟨b, off, spot⟩ := a
      have hspot : spot = none := by
        have := World.cell?_spot (hfn 0 (by omega)).1
        simpa [Addr.add] using this
      subst hspot
      rw [add_plain] at h0
      have hb := cell_lt h0
      have e : ((List.range len).map f).getD j 0 = f j := by
        rw [List.getD_eq_getElem?_getD, List.getElem?_map, List.getElem?_range hj]; rfl
      rw [e]
      exact ⟨b, off, rfl, hb, h0⟩
    · rw [List.length_map, List.length_range] at hj
      have e : ((List.range len).map f).getD j 0 = f j := by
        rw [List.getD_eq_getElem?_getD, List.getElem?_map, List.getElem?_range hj]; rfl
      rw [e]
      exact (hfn j hj).2
set_option maxRecDepth 100000 in
theorem openN {H : Type} {enc : TypeId × Value → H} {w : World} {b0 base : Nat} {v : Value} {d : DataW H} {p : List MemPlace} (hv : Value.okWide Tryd.prog w .any b0 47 v) (h : DataW.Trod enc Tryd.prog w base (fun _ => true) true 47 v d p) :
    ∃ A cap l, v = .slice A l.length cap ∧ IntsAt w.heap.size w A l ∧ WfN l := by
  obtain ⟨A, len, cap, rfl⟩ := okWide_slice Tryd.underlying47 hv
  obtain ⟨fuel, hf⟩ := h
  obtain ⟨l, rfl, h1, h2, h3, _⟩ := openInts (by simpa [Value.cells] using hf)
  exact ⟨A, cap, l, rfl, h1, h2, h3⟩
end Go.Proofs.YtkdebebpnkjmdaaDoor
