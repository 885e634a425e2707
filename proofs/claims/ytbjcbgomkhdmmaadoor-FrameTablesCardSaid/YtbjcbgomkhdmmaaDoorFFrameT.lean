/-
  What the proofs of the tables' laws share: how tables and rows of values come in.
-/
import Derived.Test.YtbjcbgomkhdmmaaDoorFFrame
import Derived.Test.YtbjcbgomkhdmmaaDoorTEqual
import Derived.Lib.SmallJoins
namespace Go.Proofs.YtbjcbgomkhdmmaaDoor
open Go.ChangeShapes Go.WideShapes Go.ChangeAt Go.RowKit Go.Joins Go.Deep

theorem cells_col : Tryd.prog.cellsOf 53 = 2 := by kernel_rfl
theorem cells_val : Tryd.prog.cellsOf 36 = 3 := by kernel_rfl
theorem cells_row : Tryd.prog.cellsOf 22 = 1 := by kernel_rfl
section
variable {H : Type} {enc : TypeId × Value → H} {w : World} {base fuel : Nat}

set_option maxRecDepth 100000 in
theorem openCells {v : Value} {y : DataW H × List MemPlace} (hf : DataW.trod enc Tryd.prog w base (fun _ => true) true fuel 24 [v] = some y) :
    ∃ A cap cs, v = .slice A cs.length cap ∧ ColsAt w.heap.size w A cs ∧ Wf cs ∧ (A = none → cap = 0) := by
  rcases open_slice Tryd.underlying24 hf with ⟨hc, _⟩ | ⟨a, len, cap, m, n, D, Pl, hc, _, hl, hm, hmm, _, hi⟩
  · simp at hc
    subst hc
    exact ⟨none, 0, [], rfl, ColsAt.nil _ _ _, ⟨Nat.zero_le _, fun c h => by simp at h⟩, fun _ => rfl⟩
  · simp at hc
    subst hc
    have hml : m = cap := by simpa using hmm
    have each : ∀ i, i < len → ∃ c : ByteArray × Int, w.cell? (a.add (i * 2)) = some (.string c.1) ∧ w.cell? (a.add (i * 2 + 1)) = some (.int .i64 c.2) ∧ colWf c := fun i hil => by
      obtain ⟨cs', hcs, ht⟩ := hi i (by omega)
      rw [cells_col] at hcs
      obtain ⟨_, hlen, hat⟩ := World.cells?_some hcs
      match cs', hlen with
      | [c0, c1], _ =>
        obtain ⟨y0, y1, n', _, _, h0, h1⟩ := trod_struct2 Tryd.underlying53 ht
        obtain ⟨s, e0, _, ws⟩ := DataW.trod_string Tryd.underlying9 h0
        obtain ⟨k, e1, _, wk⟩ := DataW.trod_int Tryd.underlying3 h1
        have q0 : [c0] = [Value.string s] := e0
        have q1 : [c1] = [Value.int .i64 k] := e1
        simp at q0 q1
        subst q0 q1
        have g0 := hat 0 (by omega)
        have g1 := hat 1 (by omega)
        rw [add_add] at g0 g1
        have := bounds_i64 wk
        exact ⟨(s, k), by simpa using g0, by simpa using g1, ws, by omega, by omega⟩
    obtain ⟨f, hfn⟩ := choose_lt each
    refine ⟨some a, cap, (List.range len).map f, by simp, fun j hj => ?_, ⟨by rw [List.length_map, List.length_range]; exact Nat.le_trans hl hm, fun c hc => ?_⟩, fun h => by cases h⟩
    · rw [List.length_map, List.length_range] at hj
      obtain ⟨h0, h1, _⟩ := hfn j hj
      obtain ⟨b, off, spot⟩ := a
      have hspot : spot = none := by
        have := World.cell?_spot (hfn 0 (by omega)).1
        simpa [Addr.add] using this
      subst hspot
      rw [add_plain] at h0 h1
      have hb := cell_lt h0
      have e : ((List.range len).map f).getD j (⟨#[]⟩, 0) = f j := by
        rw [List.getD_eq_getElem?_getD, List.getElem?_map, List.getElem?_range hj]; rfl
      rw [e]
      exact ⟨b, off, rfl, hb, h0, by simpa [Nat.add_assoc] using h1⟩
    · obtain ⟨j, hj, rfl⟩ := List.mem_map.1 hc
      exact (hfn j (List.mem_range.1 hj)).2.2

set_option maxRecDepth 100000 in
theorem openRow {v : Value} {y : DataW H × List MemPlace} (hf : DataW.trod enc Tryd.prog w base (fun _ => true) true fuel 22 [v] = some y) :
    ∃ A cap vs, v = .slice A vs.length cap ∧ RowAt w.heap.size w A vs ∧ WfR vs ∧ (A = none → cap = 0) := by
  rcases open_slice Tryd.underlying22 hf with ⟨hc, _⟩ | ⟨a, len, cap, m, n, D, Pl, hc, _, hl, hm, hmm, _, hi⟩
  · simp at hc
    subst hc
    exact ⟨none, 0, [], rfl, RowAt.nil _ _ _, ⟨Nat.zero_le _, fun c h => by simp at h⟩, fun _ => rfl⟩
  · simp at hc
    subst hc
    have hml : m = cap := by simpa using hmm
    have each : ∀ i, i < len → ∃ c : Int × Int × ByteArray, w.cell? (a.add (i * 3)) = some (.int .i64 c.1) ∧ w.cell? (a.add (i * 3 + 1)) = some (.int .i64 c.2.1) ∧ w.cell? (a.add (i * 3 + 2)) = some (.string c.2.2) ∧ valWf c := fun i hil => by
      obtain ⟨cs', hcs, ht⟩ := hi i (by omega)
      rw [cells_val] at hcs
      obtain ⟨_, hlen, hat⟩ := World.cells?_some hcs
      match cs', hlen with
      | [c0, c1, c2], _ =>
        obtain ⟨y0, y1, y2, n', _, _, h0, h1, h2⟩ := trod_struct3 Tryd.underlying36 ht
        obtain ⟨k, e0, _, wk⟩ := DataW.trod_int Tryd.underlying3 h0
        obtain ⟨l, e1, _, wl⟩ := DataW.trod_int Tryd.underlying3 h1
        obtain ⟨s, e2, _, ws⟩ := DataW.trod_string Tryd.underlying9 h2
        have q0 : [c0] = [Value.int .i64 k] := e0
        have q1 : [c1] = [Value.int .i64 l] := e1
        have q2 : [c2] = [Value.string s] := e2
        simp at q0 q1 q2
        subst q0 q1 q2
        have g0 := hat 0 (by omega)
        have g1 := hat 1 (by omega)
        have g2 := hat 2 (by omega)
        rw [add_add] at g0 g1 g2
        have b0 := bounds_i64 wk
        have b1 := bounds_i64 wl
        exact ⟨(k, l, s), by simpa using g0, by simpa using g1, by simpa using g2, ⟨show _ ≤ k by omega, show k ≤ _ by omega⟩, ⟨show _ ≤ l by omega, show l ≤ _ by omega⟩, ws⟩
    obtain ⟨f, hfn⟩ := choose_lt each
    refine ⟨some a, cap, (List.range len).map f, by simp, fun j hj => ?_, ⟨by rw [List.length_map, List.length_range]; exact Nat.le_trans hl hm, fun c hc => ?_⟩, fun h => by cases h⟩
    · rw [List.length_map, List.length_range] at hj
      obtain ⟨h0, h1, h2, _⟩ := hfn j hj
      obtain ⟨b, off, spot⟩ := a
      have hspot : spot = none := by
        have := World.cell?_spot (hfn 0 (by omega)).1
        simpa [Addr.add] using this
      subst hspot
      rw [add_plain] at h0 h1 h2
      have hb := cell_lt h0
      have e : ((List.range len).map f).getD j (0, 0, ⟨#[]⟩) = f j := by
        rw [List.getD_eq_getElem?_getD, List.getElem?_map, List.getElem?_range hj]; rfl
      rw [e]
      exact ⟨b, off, rfl, hb, h0, by simpa [Nat.add_assoc] using h1, by simpa [Nat.add_assoc] using h2⟩
    · obtain ⟨j, hj, rfl⟩ := List.mem_map.1 hc
      exact (hfn j (List.mem_range.1 hj)).2.2.2

set_option maxRecDepth 100000 in
theorem openRows {v : Value} {y : DataW H × List MemPlace} (hf : DataW.trod enc Tryd.prog w base (fun _ => true) true fuel 25 [v] = some y) :
    ∃ A cap hs, v = .slice A hs.length cap ∧ RowsAt w.heap.size w A hs ∧ WfT (rowsOf hs) ∧ (A = none → cap = 0) := by
  rcases open_slice Tryd.underlying25 hf with ⟨hc, _⟩ | ⟨a, len, cap, m, n, D, Pl, hc, _, hl, hm, hmm, _, hi⟩
  · simp at hc
    subst hc
    exact ⟨none, 0, [], rfl, RowsAt.nil _ _ _, ⟨Nat.zero_le _, fun c h => by simp [rowsOf] at h⟩, fun _ => rfl⟩
  · simp at hc
    subst hc
    have hml : m = cap := by simpa using hmm
    have each : ∀ i, i < len → ∃ h : RH, w.cell? (a.add i) = some (hdr h) ∧ HdrOk w.heap.size w h ∧ WfR h.2.2 := fun i hil => by
      obtain ⟨cs', hcs, ht⟩ := hi i (by omega)
      rw [cells_row, Nat.mul_one] at hcs
      obtain ⟨_, hlen, hat⟩ := World.cells?_some hcs
      match cs', hlen with
      | [c0], _ =>
        obtain ⟨A', c', r, rfl, hr, hw, hn⟩ := openRow ht
        have g0 := hat 0 (by omega)
        rw [add_add] at g0
        exact ⟨(A', c', r), by simpa [hdr] using g0, ⟨hr, hn⟩, hw⟩
    obtain ⟨f, hfn⟩ := choose_lt each
    have hok : ∀ h ∈ (List.range len).map f, HdrOk w.heap.size w h ∧ WfR h.2.2 := fun h hh => by
      obtain ⟨j, hj, rfl⟩ := List.mem_map.1 hh
      exact (hfn j (List.mem_range.1 hj)).2
    refine ⟨some a, cap, (List.range len).map f, by simp, ⟨fun j hj => ?_, fun h hh => (hok h hh).1⟩, ⟨by rw [rowsOf_len, List.length_map, List.length_range]; exact Nat.le_trans hl hm, fun r hr => ?_⟩, fun h => by cases h⟩
    · rw [List.length_map, List.length_range] at hj
      have h0 := (hfn j hj).1
      obtain ⟨b, off, spot⟩ := a
      have hspot : spot = none := by
        have := World.cell?_spot (hfn 0 (by omega)).1
        simpa [Addr.add] using this
      subst hspot
      rw [add_plain] at h0
      have hb := cell_lt h0
      have e : ((List.range len).map f).getD j dH = f j := by
        rw [List.getD_eq_getElem?_getD, List.getElem?_map, List.getElem?_range hj]; rfl
      rw [e]
      exact ⟨b, off, rfl, hb, h0⟩
    · unfold rowsOf at hr
      obtain ⟨h, hh, rfl⟩ := List.mem_map.1 hr
      exact (hok h hh).2
end

set_option maxRecDepth 100000 in
/-- A table that comes in. -/
theorem openT {H : Type} {enc : TypeId × Value → H} {w : World} {b0 base : Nat} {v : Value} {d : DataW H} {p : List MemPlace} (hv : Value.okWide Tryd.prog w .any b0 27 v) (h : DataW.Trod enc Tryd.prog w base (fun _ => true) true 27 v d p) :
    ∃ S c cs A cap hs, v = vTab S cs.length c A hs.length cap ∧ ColsAt w.heap.size w S cs ∧ Wf cs ∧ (S = none → c = 0) ∧ RowsAt w.heap.size w A hs ∧ WfT (rowsOf hs) ∧ (A = none → cap = 0) := by
  obtain ⟨v0, v1, y0, y1, n, rfl, _, _, h0, h1⟩ := open_agg2 Tryd.underlying27 (by kernel_rfl) (by kernel_rfl) hv h
  obtain ⟨S, c, cs, rfl, f0, w0, n0⟩ := openCells h0
  obtain ⟨A, cap, hs, rfl, f1, w1, n1⟩ := openRows h1
  exact ⟨S, c, cs, A, cap, hs, rfl, f0, w0, n0, f1, w1, n1⟩
set_option maxRecDepth 100000 in
/-- A row that comes in. -/
theorem openR {H : Type} {enc : TypeId × Value → H} {w : World} {b0 base : Nat} {v : Value} {d : DataW H} {p : List MemPlace} (hv : Value.okWide Tryd.prog w .any b0 22 v) (h : DataW.Trod enc Tryd.prog w base (fun _ => true) true 22 v d p) :
    ∃ A cap vs, v = .slice A vs.length cap ∧ RowAt w.heap.size w A vs ∧ WfR vs ∧ (A = none → cap = 0) := by
  obtain ⟨A, len, cap, rfl⟩ := okWide_slice Tryd.underlying22 hv
  obtain ⟨fuel, hf⟩ := h
  exact openRow (v := .slice A len cap) (by simpa [Value.cells] using hf)
end Go.Proofs.YtbjcbgomkhdmmaaDoor
