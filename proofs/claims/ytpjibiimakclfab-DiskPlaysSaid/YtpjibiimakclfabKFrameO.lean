/-
  How lists of calls come in.
-/
import Derived.Test.YtpjibiimakclfabKFrame
import Derived.Test.YtpjibiimakclfabKOps
namespace Go.Proofs.Ytpjibiimakclfab
open Go.ChangeShapes Go.WideShapes Go.ChangeAt Go.RowKit Go.Joins Go.Deep

instance : Inhabited OpR := ⟨dO⟩
theorem cells_op : Try.prog.cellsOf 37 = 5 := by kernel_rfl
theorem cells_sl : Try.prog.cellsOf 28 = 1 := by kernel_rfl
theorem cells_si : Try.prog.cellsOf 35 = 1 := by kernel_rfl
theorem op_fields : (Try.prog.fieldsOf 37).toList.map (fun f => (f.type, f.offset)) = [(3, 0), (3, 1), (3, 2), (28, 3), (35, 4)] := by kernel_rfl
theorem op_under : Try.prog.underlying 37 = some (.struct (Try.prog.fieldsOf 37)) := by kernel_rfl
theorem list5 {α : Type} {l : List α} (h : l.length = 5) : ∃ a b c d e, l = [a, b, c, d, e] := by
  match l, h with
  | [a, b, c, d, e], _ => exact ⟨a, b, c, d, e, rfl⟩
section
variable {H : Type} {enc : TypeId × Value → H} {w : World} {base fuel : Nat} {sp : Nat → Bool} {held : Bool}
theorem some_int {cs : List Value} {y : DataW H × List MemPlace} (h : DataW.trod enc Try.prog w base sp held fuel 3 cs = some y) : ∃ k : Int, cs = [.int .i64 k] ∧ -9223372036854775808 ≤ k ∧ k ≤ 9223372036854775807 := by
  obtain ⟨n, e, _, hw⟩ := DataW.trod_int Try.underlying3 h
  have := bounds_i64 hw
  exact ⟨n, e, by omega, by omega⟩
set_option maxRecDepth 100000 in
theorem some_bytes {cs : List Value} {y : DataW H × List MemPlace} (hf : DataW.trod enc Try.prog w base sp held fuel 28 cs = some y) :
    ∃ A cap, ∃ l : List UInt8, cs = [.slice A l.length cap] ∧ BytesAt w.heap.size w A l ∧ l.length ≤ maxLen ∧ (A = none → cap = 0) := by
  rcases open_slice Try.underlying28 hf with ⟨hc, _⟩ | ⟨a, len, cap, m, n, D, Pl, hc, _, hl, hm, hmm, _, hi⟩
  · exact ⟨none, 0, [], hc, fun j hj => by simp at hj, Nat.zero_le _, fun _ => rfl⟩
  · have hml : len ≤ m := by rw [hmm]; split <;> omega
    have each : ∀ i, i < len → ∃ c : UInt8, w.cell? (a.add i) = some (.int .u8 c.toNat) := fun i hil => by
      obtain ⟨cs', hcs, ht⟩ := hi i (by omega)
      rw [cells_byte, Nat.mul_one] at hcs
      obtain ⟨_, hlen, hat⟩ := World.cells?_some hcs
      match cs', hlen with
      | [c0], _ =>
        obtain ⟨k, e0, _, wk⟩ := DataW.trod_int Try.underlying5 ht
        simp at e0
        subst e0
        have g0 := hat 0 (by omega)
        rw [add_add] at g0
        have hk := bounds_u8 wk
        refine ⟨UInt8.ofNat k.toNat, ?_⟩
        rw [UInt8.toNat_ofNat_of_lt' (by show _ < 256; omega), Int.toNat_of_nonneg hk.1]
        simpa using g0
    obtain ⟨f, hfn⟩ := choose_lt each
    refine ⟨some a, cap, (List.range len).map f, by rw [hc]; simp, fun j hj => ?_, by rw [List.length_map, List.length_range]; exact Nat.le_trans hl hm, fun e => by cases e⟩
    rw [List.length_map, List.length_range] at hj
    have h0 := hfn j hj
    obtain ⟨b, off, spot⟩ := a
    have hspot : spot = none := by
      have := World.cell?_spot (hfn 0 (by omega))
      simpa [Addr.add] using this
    subst hspot
    rw [add_plain] at h0
    have hb := cell_lt h0
    have e : ((List.range len).map f).getD j 0 = f j := by
      rw [List.getD_eq_getElem?_getD, List.getElem?_map, List.getElem?_range hj]; rfl
    rw [e]
    exact ⟨b, off, rfl, hb, h0⟩
set_option maxRecDepth 100000 in
theorem some_ints {cs : List Value} {y : DataW H × List MemPlace} (hf : DataW.trod enc Try.prog w base sp held fuel 35 cs = some y) :
    ∃ A cap, ∃ l : List Int, cs = [.slice A l.length cap] ∧ IntsAt w.heap.size w A l ∧ l.length ≤ maxLen ∧ (∀ j, j < l.length → -9223372036854775808 ≤ l.getD j 0 ∧ l.getD j 0 ≤ 9223372036854775807) ∧ (A = none → cap = 0) := by
  rcases open_slice Try.underlying35 hf with ⟨hc, _⟩ | ⟨a, len, cap, m, n, D, Pl, hc, _, _, _, _, _, _⟩
  · exact ⟨none, 0, [], hc, fun j hj => by simp at hj, Nat.zero_le _, fun j hj => by simp at hj, fun _ => rfl⟩
  · rw [hc] at hf
    obtain ⟨l, e, h1, h2, h3, h4⟩ := openInts hf
    exact ⟨some a, cap, l, by rw [hc, e], h1, h2, h3, h4⟩
set_option maxRecDepth 100000 in
theorem op_cells {cs : List Value} {y : DataW H × List MemPlace} (h : DataW.trod enc Try.prog w base sp held fuel 37 cs = some y) : ∃ o : OpR, cs = (oCells o).toList ∧ WfO o ∧ BytesAt w.heap.size w o.dA o.dl ∧ IntsAt w.heap.size w o.kA o.kl := by
  obtain ⟨xs, m, _, hx, hl, hn, hat⟩ := DataW.trod_struct op_under h
  have hfs := op_fields
  generalize Try.prog.fieldsOf 37 = fs at *
  obtain ⟨fl⟩ := fs
  simp only at hfs
  rw [cells_op] at hl
  have hfl : fl.length = 5 := by have := congrArg List.length hfs; simpa using this
  obtain ⟨f0, f1, f2, f3, f4, rfl⟩ := list5 hfl
  simp only [List.map_cons, List.map_nil, List.cons.injEq, Prod.mk.injEq, and_true] at hfs
  obtain ⟨⟨t0, o0⟩, ⟨t1, o1⟩, ⟨t2, o2⟩, ⟨t3, o3⟩, t4, o4⟩ := hfs
  obtain ⟨x0, x1, x2, x3, x4, rfl⟩ := list5 (hn.trans (by simp))
  obtain ⟨c0, c1, c2, c3, c4, rfl⟩ := list5 hl
  have h0 := hat 0 f0 rfl
  have h1 := hat 1 f1 rfl
  have h2 := hat 2 f2 rfl
  have h3 := hat 3 f3 rfl
  have h4 := hat 4 f4 rfl
  rw [t0, o0, cells_int] at h0
  rw [t1, o1, cells_int] at h1
  rw [t2, o2, cells_int] at h2
  rw [t3, o3, cells_sl] at h3
  rw [t4, o4, cells_si] at h4
  obtain ⟨k, e0, b0, b0'⟩ := some_int (cs := [c0]) (by simpa using h0)
  obtain ⟨f, e1, b1, b1'⟩ := some_int (cs := [c1]) (by simpa using h1)
  obtain ⟨n, e2, b2, b2'⟩ := some_int (cs := [c2]) (by simpa using h2)
  obtain ⟨dA, dc, dl, e3, d1, d2, d3⟩ := some_bytes (cs := [c3]) (by simpa using h3)
  obtain ⟨kA, kc, kl, e4, k1, k2, k3, k4⟩ := some_ints (cs := [c4]) (by simpa using h4)
  simp only [List.cons.injEq, and_true] at e0 e1 e2 e3 e4
  exact ⟨⟨k, f, n, dA, dc, dl, kA, kc, kl⟩, by rw [e0, e1, e2, e3, e4], ⟨b0, b0', b1, b1', b2, b2', d2, d3, k2, k4, k3⟩, d1, k1⟩
end
set_option maxRecDepth 100000 in
/-- A list of calls that comes in. -/
theorem openO {H : Type} {enc : TypeId × Value → H} {w : World} {b0 base : Nat} {v : Value} {d : DataW H} {p : List MemPlace} (hv : Value.okWide Try.prog w .any b0 22 v) (h : DataW.Trod enc Try.prog w base (fun _ => true) true 22 v d p) :
    ∃ A cap l, v = .slice A l.length cap ∧ OpsAt w.heap.size w A l ∧ WfOs l := by
  obtain ⟨A, len, cap, rfl⟩ := okWide_slice Try.underlying22 hv
  obtain ⟨fuel, hf⟩ := h
  rcases open_slice Try.underlying22 hf with ⟨hc, _⟩ | ⟨a, len', cap', m, n, D, Pl, hc, _, hl, hm, hmm, _, hi⟩
  · simp [Value.cells] at hc
    obtain ⟨rfl, rfl, rfl⟩ := hc
    exact ⟨none, 0, [], rfl, fun j hj => by simp at hj, Nat.zero_le _, fun j hj => by simp at hj⟩
  · simp [Value.cells] at hc
    obtain ⟨rfl, rfl, rfl⟩ := hc
    have hml : len ≤ m := by rw [hmm]; split <;> omega
    have each : ∀ i, i < len → ∃ o : OpR, (∀ j, j < 5 → w.cell? (a.add (i * 5 + j)) = (oCells o)[j]?) ∧ WfO o ∧ BytesAt w.heap.size w o.dA o.dl ∧ IntsAt w.heap.size w o.kA o.kl := fun i hil => by
      obtain ⟨cs', hcs, ht⟩ := hi i (by omega)
      rw [cells_op] at hcs
      obtain ⟨_, hlen, hat⟩ := World.cells?_some hcs
      obtain ⟨o, rfl, h1, h2, h3⟩ := op_cells ht
      refine ⟨o, fun j hj => ?_, h1, h2, h3⟩
      have g := hat j (by simpa using hj)
      rw [add_add] at g
      rw [g]
      rcases (by omega : j = 0 ∨ j = 1 ∨ j = 2 ∨ j = 3 ∨ j = 4) with rfl | rfl | rfl | rfl | rfl <;> rfl
    obtain ⟨f, hfn⟩ := choose_lt each
    refine ⟨some a, cap, (List.range len).map f, by simp, fun j hj => ?_, by rw [List.length_map, List.length_range]; exact Nat.le_trans hl hm, fun j hj => ?_⟩
    · rw [List.length_map, List.length_range] at hj
      obtain ⟨h0, _, hd, hk⟩ := hfn j hj
      have c0 := h0 0 (by omega)
      obtain ⟨b, off, spot⟩ := a
      have hspot : spot = none := by
        have c00 := (hfn 0 (by omega)).1 0 (by omega)
        have := World.cell?_spot (show w.cell? _ = some (.int .i64 (f 0).k) from c00)
        simpa [Addr.add] using this
      subst hspot
      have e : ((List.range len).map f).getD j dO = f j := by
        rw [List.getD_eq_getElem?_getD, List.getElem?_map, List.getElem?_range hj]; rfl
      rw [e]
      have hb := cell_lt (show w.cell? _ = some (.int .i64 (f j).k) from c0)
      rw [add_plain] at hb
      have g : ∀ i, i < 5 → w.cell? ⟨b, off + j * 5 + i, none⟩ = (oCells (f j))[i]? := fun i hi => by
        have := h0 i hi
        rw [add_plain, ← Nat.add_assoc] at this
        exact this
      exact ⟨b, off, rfl, hb, g 0 (by omega), g 1 (by omega), g 2 (by omega), g 3 (by omega), g 4 (by omega), hd, hk⟩
    · rw [List.length_map, List.length_range] at hj
      have e : ((List.range len).map f).getD j dO = f j := by
        rw [List.getD_eq_getElem?_getD, List.getElem?_map, List.getElem?_range hj]; rfl
      rw [e]
      exact (hfn j hj).2.1
end Go.Proofs.Ytpjibiimakclfab
