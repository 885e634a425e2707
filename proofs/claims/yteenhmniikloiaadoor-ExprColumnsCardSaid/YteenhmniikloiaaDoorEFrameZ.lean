/-
  How an expression's list, a schema and two rows come in, in one.
-/
import Derived.Test.YteenhmniikloiaaDoorMFrame
import Derived.Lib.SmallJoins
namespace Go.Proofs.YteenhmniikloiaaDoor
open Go.ChangeShapes Go.WideShapes Go.ChangeAt Go.RowKit Go.Joins Go.Deep

section
variable {H : Type} {enc : TypeId × Value → H} {w : World} {base fuel : Nat}
set_option maxRecDepth 100000 in
theorem openCells {v : Value} {y : DataW H × List MemPlace} (hf : DataW.trod enc Tryd.prog w base (fun _ => true) true fuel 24 [v] = some y) :
    ∃ A cap cs, v = .slice A cs.length cap ∧ ColsAt w.heap.size w A cs ∧ Wf cs ∧ (A = none → cap = 0) := by
  rcases open_slice Tryd.underlying24 hf with ⟨hc, _⟩ | ⟨a, len, cap, m, n, D, Pl, hc, _, hl, hm, hmm, _, hi⟩
  · simp at hc
    subst hc
    exact ⟨none, 0, [], rfl, ColsAt.nil _ _ _, ⟨Nat.zero_le _, fun c h => by simp at h⟩, fun _ => rfl⟩
  · simp at hc
    subst hc
    have hml : m = cap := by simpa using hmm
    have each : ∀ i, i < len → ∃ c : ByteArray × Int, w.cell? (a.add (i * 2)) = some (.string c.1) ∧ w.cell? (a.add (i * 2 + 1)) = some (.int .i64 c.2) ∧ colWf c := fun i hil => by
      obtain ⟨cs', hcs, ht⟩ := hi i (by omega)
      rw [cells_col] at hcs
      obtain ⟨_, hlen, hat⟩ := World.cells?_some hcs
      match cs', hlen with
      | [c0, c1], _ =>
        obtain ⟨y0, y1, n', _, _, h0, h1⟩ := trod_struct2 Tryd.underlying64 ht
        obtain ⟨s, e0, _, ws⟩ := DataW.trod_string Tryd.underlying9 h0
        obtain ⟨k, e1, _, wk⟩ := DataW.trod_int Tryd.underlying3 h1
        have q0 : [c0] = [Value.string s] := e0
        have q1 : [c1] = [Value.int .i64 k] := e1
        simp at q0 q1
        subst q0 q1
        have g0 := hat 0 (by omega)
        have g1 := hat 1 (by omega)
        rw [add_add] at g0 g1
        have := bounds_i64 wk
        exact ⟨(s, k), by simpa using g0, by simpa using g1, ws, by omega, by omega⟩
    obtain ⟨f, hfn⟩ := choose_lt each
    refine ⟨some a, cap, (List.range len).map f, by simp, fun j hj => ?_, ⟨by rw [List.length_map, List.length_range]; exact Nat.le_trans hl hm, fun c hc => ?_⟩, fun h => by cases h⟩
    · rw [List.length_map, List.length_range] at hj
      obtain ⟨h0, h1, _⟩ := hfn j hj
      obtain ⟨b, off, spot⟩ := a
      have hspot : spot = none := by
        have := World.cell?_spot (hfn 0 (by omega)).1
        simpa [Addr.add] using this
      subst hspot
      rw [add_plain] at h0 h1
      have hb := cell_lt h0
      have e : ((List.range len).map f).getD j (⟨#[]⟩, 0) = f j := by
        rw [List.getD_eq_getElem?_getD, List.getElem?_map, List.getElem?_range hj]; rfl
      rw [e]
      exact ⟨b, off, rfl, hb, h0, by simpa [Nat.add_assoc] using h1⟩
    · obtain ⟨j, hj, rfl⟩ := List.mem_map.1 hc
      exact (hfn j (List.mem_range.1 hj)).2.2

set_option maxRecDepth 100000 in
theorem openPlains {v : Value} {y : DataW H × List MemPlace} (hf : DataW.trod enc Tryd.prog w base (fun _ => true) true fuel 22 [v] = some y) :
    ∃ A cap l, v = .slice A l.length cap ∧ (PlainsAt w.heap.size w A l ∧ l.length ≤ cap) ∧ wfP l := by
  rcases open_slice Tryd.underlying22 hf with ⟨hc, _⟩ | ⟨a, len, cap, m, n, D, Pl, hc, _, hl, hm, hmm, _, hi⟩
  · simp at hc
    subst hc
    exact ⟨none, 0, [], rfl, ⟨fun j hj => by simp at hj, Nat.le_refl _⟩, Nat.zero_le _, fun c h => by simp at h⟩
  · simp at hc
    subst hc
    have hml : m = cap := by simpa using hmm
    have each : ∀ i, i < len → ∃ p : PL, (∀ j, j < 7 → w.cell? (a.add (i * 7 + j)) = (pCells p)[j]?) ∧ p.n.size ≤ maxLen ∧ p.o.size ≤ maxLen ∧ p.v.2.2.size ≤ maxLen ∧
        (-9223372036854775808 ≤ p.k ∧ p.k ≤ 9223372036854775807) ∧ (-9223372036854775808 ≤ p.v.1 ∧ p.v.1 ≤ 9223372036854775807) ∧ (-9223372036854775808 ≤ p.v.2.1 ∧ p.v.2.1 ≤ 9223372036854775807) ∧ (-9223372036854775808 ≤ p.a ∧ p.a ≤ 9223372036854775807) := fun i hil => by
      obtain ⟨cs', hcs, ht⟩ := hi i (by omega)
      rw [cells_plain] at hcs
      obtain ⟨_, hlen, hat⟩ := World.cells?_some hcs
      obtain ⟨p, rfl, hp⟩ := plain_cells ht
      refine ⟨p, fun j hj => ?_, hp⟩
      have g := hat j (by simpa using hj)
      rw [add_add] at g
      rw [g]
      rcases (by omega : j = 0 ∨ j = 1 ∨ j = 2 ∨ j = 3 ∨ j = 4 ∨ j = 5 ∨ j = 6) with rfl | rfl | rfl | rfl | rfl | rfl | rfl <;> rfl
    obtain ⟨f, hfn⟩ := choose_lt each
    refine ⟨some a, cap, (List.range len).map f, by simp, ⟨fun j hj => ?_, by rw [List.length_map, List.length_range]; exact hl⟩, by rw [List.length_map, List.length_range]; exact Nat.le_trans hl hm, fun c hc => ?_⟩
    · rw [List.length_map, List.length_range] at hj
      obtain ⟨h0, _⟩ := hfn j hj
      have c0 := h0 0 (by omega)
      obtain ⟨b, off, spot⟩ := a
      have hspot : spot = none := by
        have c00 := (hfn 0 (by omega)).1 0 (by omega)
        have := World.cell?_spot (show w.cell? _ = some (.int .i64 (f 0).k) from c00)
        simpa [Addr.add] using this
      subst hspot
      have e : ((List.range len).map f).getD j dP = f j := by
        rw [List.getD_eq_getElem?_getD, List.getElem?_map, List.getElem?_range hj]; rfl
      rw [e]
      have hb := cell_lt (show w.cell? _ = some (.int .i64 (f j).k) from c0)
      rw [add_plain] at hb
      have g : ∀ i, i < 7 → w.cell? ⟨b, off + j * 7 + i, none⟩ = (pCells (f j))[i]? := fun i hi => by
        have := h0 i hi
        rw [add_plain, ← Nat.add_assoc] at this
        exact this
      exact ⟨b, off, rfl, hb, g 0 (by omega), g 1 (by omega), g 2 (by omega), g 3 (by omega), g 4 (by omega), g 5 (by omega), g 6 (by omega)⟩
    · obtain ⟨j, hj, rfl⟩ := List.mem_map.1 hc
      exact (hfn j (List.mem_range.1 hj)).2
end
set_option maxRecDepth 100000 in
theorem openZ {H : Type} {enc : TypeId × Value → H} {w : World} {b0 base : Nat} {v : Value} {d : DataW H} {p : List MemPlace} (hv : Value.okWide Tryd.prog w .any b0 56 v) (h : DataW.Trod enc Tryd.prog w base (fun _ => true) true 56 v d p) :
    ∃ A c l S k cs RA ka ra RB kb rb, v = .agg #[.slice A l.length c, .slice S cs.length k, .slice RA ra.length ka, .slice RB rb.length kb] ∧ (PlainsAt w.heap.size w A l ∧ l.length ≤ c) ∧ wfP l ∧ ColsAt w.heap.size w S cs ∧ Wf cs ∧ RowAt w.heap.size w RA ra ∧ WfR ra ∧ RowAt w.heap.size w RB rb ∧ WfR rb ∧ (RB = none → kb = 0) := by
  obtain ⟨v0, v1, v2, v3, y0, y1, y2, y3, n, rfl, _, _, h0, h1, h2, h3⟩ := open_agg4 Tryd.underlying56 (by kernel_rfl) (by kernel_rfl) hv h
  obtain ⟨A, c, l, rfl, f0, w0⟩ := openPlains h0
  obtain ⟨S, k, cs, rfl, f1, w1, _⟩ := openCells h1
  obtain ⟨RA, ka, ra, rfl, f2, w2, _⟩ := openRow h2
  obtain ⟨RB, kb, rb, rfl, f3, w3, n3⟩ := openRow h3
  exact ⟨A, c, l, S, k, cs, RA, ka, ra, RB, kb, rb, rfl, f0, w0, f1, w1, f2, w2, f3, w3, n3⟩
end Go.Proofs.YteenhmniikloiaaDoor
