/-
  How the scripts' calls come in.
-/
import Derived.Test.YtkdebebpnkjmdaaDoorFFrameH
import Derived.Test.YtkdebebpnkjmdaaDoorFFrameN
import Derived.Test.YtkdebebpnkjmdaaDoorMG5
namespace Go.Proofs.YtkdebebpnkjmdaaDoor
open Go.ChangeShapes Go.WideShapes Go.ChangeAt Go.RowKit Go.Joins Go.Deep

instance : Inhabited OpS := ⟨dS⟩
theorem ints_in {w : World} {A : Option Addr} {l : List Int} (h : IntsAt w.heap.size w A l) : IntsIn (fun b => b < w.heap.size) w A l := fun j hj => by
  obtain ⟨b, off, e, h1, h2⟩ := h j hj
  exact ⟨b, off, e, h1, h1, h2⟩
theorem bytes_in {w : World} {A : Option Addr} {l : List UInt8} (h : BytesAt w.heap.size w A l) : BytesIn (fun b => b < w.heap.size) w A l := fun j hj => by
  obtain ⟨b, off, e, h1, h2⟩ := h j hj
  exact ⟨b, off, e, h1, h1, h2⟩
theorem cells_op : Tryd.prog.cellsOf 49 = 5 := by kernel_rfl
theorem cells_ls : Tryd.prog.cellsOf 46 = 1 := by kernel_rfl
theorem cells_si : Tryd.prog.cellsOf 47 = 1 := by kernel_rfl
theorem op_fields : (Tryd.prog.fieldsOf 49).toList.map (fun f => (f.type, f.offset)) = [(3, 0), (3, 1), (22, 2), (46, 3), (47, 4)] := by kernel_rfl
theorem op_under : Tryd.prog.underlying 49 = some (.struct (Tryd.prog.fieldsOf 49)) := by kernel_rfl
theorem list5 {α : Type} {l : List α} (h : l.length = 5) : ∃ a b c d e, l = [a, b, c, d, e] := by
  match l, h with
  | [a, b, c, d, e], _ => exact ⟨a, b, c, d, e, rfl⟩
section
variable {H : Type} {enc : TypeId × Value → H} {w : World} {base fuel : Nat} {sp : Nat → Bool} {held : Bool}
theorem some_int {cs : List Value} {y : DataW H × List MemPlace} (h : DataW.trod enc Tryd.prog w base sp held fuel 3 cs = some y) : ∃ k : Int, cs = [.int .i64 k] ∧ -9223372036854775808 ≤ k ∧ k ≤ 9223372036854775807 := by
  obtain ⟨n, e, _, hw⟩ := DataW.trod_int Tryd.underlying3 h
  have := bounds_i64 hw
  exact ⟨n, e, by omega, by omega⟩
set_option maxRecDepth 100000 in
theorem some_ints {cs : List Value} {y : DataW H × List MemPlace} (hf : DataW.trod enc Tryd.prog w base sp held fuel 47 cs = some y) :
    ∃ A cap, ∃ l : List Int, cs = [.slice A l.length cap] ∧ IntsAt w.heap.size w A l ∧ l.length ≤ maxLen ∧ (∀ j, j < l.length → -9223372036854775808 ≤ l.getD j 0 ∧ l.getD j 0 ≤ 9223372036854775807) ∧ (A = none → cap = 0) := by
  rcases open_slice Tryd.underlying47 hf with ⟨hc, _⟩ | ⟨a, len, cap, m, n, D, Pl, hc, _, _, _, _, _, _⟩
  · exact ⟨none, 0, [], hc, fun j hj => by simp at hj, Nat.zero_le _, fun j hj => by simp at hj, fun _ => rfl⟩
  · rw [hc] at hf
    obtain ⟨l, e, h1, h2, h3, h4⟩ := openInts hf
    exact ⟨some a, cap, l, by rw [hc, e], h1, h2, h3, h4⟩
set_option maxRecDepth 100000 in
theorem some_recs {cs : List Value} {y : DataW H × List MemPlace} (hf : DataW.trod enc Tryd.prog w base sp held fuel 46 cs = some y) :
    ∃ A cap, ∃ l : List BH, cs = [.slice A l.length cap] ∧ RecsIn (fun b => b < w.heap.size) w A l ∧ l.length ≤ maxLen ∧ (A = none → cap = 0) := by
  rcases open_slice Tryd.underlying46 hf with ⟨hc, _⟩ | ⟨a, len, cap, m, n, D, Pl, hc, _, hl, hm, hmm, _, hi⟩
  · exact ⟨none, 0, [], hc, fun j hj => by simp at hj, Nat.zero_le _, fun _ => rfl⟩
  · have hml : len ≤ m := by rw [hmm]; split <;> omega
    have each : ∀ i, i < len → ∃ o : BH, w.cell? (a.add i) = some (hdr o) ∧ WfH o ∧ BytesAt w.heap.size w o.A o.l := fun i hil => by
      obtain ⟨cs', hcs, ht⟩ := hi i (by omega)
      rw [cells_sl, Nat.mul_one] at hcs
      obtain ⟨_, hlen, hat⟩ := World.cells?_some hcs
      obtain ⟨dA, dc, dl, rfl, d1, d2, d3⟩ := some_bytes ht
      have g := hat 0 (by simp)
      rw [add_add] at g
      exact ⟨⟨dA, dc, dl⟩, by unfold hdr; simpa using g, ⟨d2, d3⟩, d1⟩
    obtain ⟨f, hfn⟩ := choose_lt each
    refine ⟨some a, cap, (List.range len).map f, by rw [hc]; simp, fun j hj => ?_, by rw [List.length_map, List.length_range]; exact Nat.le_trans hl hm, fun e => by cases e⟩
    rw [List.length_map, List.length_range] at hj
    obtain ⟨h0, hw, hd⟩ := hfn j hj
    obtain ⟨b, off, spot⟩ := a
    have hspot : spot = none := by
      have c00 := (hfn 0 (by omega)).1
      have := World.cell?_spot c00
      simpa [Addr.add] using this
    subst hspot
    have e : ((List.range len).map f).getD j dH = f j := by
      rw [List.getD_eq_getElem?_getD, List.getElem?_map, List.getElem?_range hj]; rfl
    rw [e]
    rw [add_plain] at h0
    exact ⟨b, off, rfl, cell_lt h0, cell_lt h0, h0, bytes_in hd, hw⟩
set_option maxRecDepth 100000 in
theorem op_cells {cs : List Value} {y : DataW H × List MemPlace} (h : DataW.trod enc Tryd.prog w base sp held fuel 49 cs = some y) : ∃ o : OpS, cs = (sCells o).toList ∧ WfS o ∧ BytesIn (fun b => b < w.heap.size) w o.dA o.dl ∧ RecsIn (fun b => b < w.heap.size) w o.rA o.rs ∧ IntsIn (fun b => b < w.heap.size) w o.kA o.kl := by
  obtain ⟨xs, m, _, hx, hl, hn, hat⟩ := DataW.trod_struct op_under h
  have hfs := op_fields
  generalize Tryd.prog.fieldsOf 49 = fs at *
  obtain ⟨fl⟩ := fs
  simp only at hfs
  rw [cells_op] at hl
  have hfl : fl.length = 5 := by have := congrArg List.length hfs; simpa using this
  obtain ⟨f0, f1, f2, f3, f4, rfl⟩ := list5 hfl
  simp only [List.map_cons, List.map_nil, List.cons.injEq, Prod.mk.injEq, and_true] at hfs
  obtain ⟨⟨t0, o0⟩, ⟨t1, o1⟩, ⟨t2, o2⟩, ⟨t3, o3⟩, t4, o4⟩ := hfs
  obtain ⟨x0, x1, x2, x3, x4, rfl⟩ := list5 (hn.trans (by simp))
  obtain ⟨c0, c1, c2, c3, c4, rfl⟩ := list5 hl
  have h0 := hat 0 f0 rfl
  have h1 := hat 1 f1 rfl
  have h2 := hat 2 f2 rfl
  have h3 := hat 3 f3 rfl
  have h4 := hat 4 f4 rfl
  rw [t0, o0, cells_int] at h0
  rw [t1, o1, cells_int] at h1
  rw [t2, o2, cells_sl] at h2
  rw [t3, o3, cells_ls] at h3
  rw [t4, o4, cells_si] at h4
  obtain ⟨k, e0, b0, b0'⟩ := some_int (cs := [c0]) (by simpa using h0)
  obtain ⟨n, e1, b1, b1'⟩ := some_int (cs := [c1]) (by simpa using h1)
  obtain ⟨dA, dc, dl, e2, d1, d2, d3⟩ := some_bytes (cs := [c2]) (by simpa using h2)
  obtain ⟨rA, rc, rs, e3, r1, r2, r3⟩ := some_recs (cs := [c3]) (by simpa using h3)
  obtain ⟨kA, kc, kl, e4, k1, k2, k3, k4⟩ := some_ints (cs := [c4]) (by simpa using h4)
  simp only [List.cons.injEq, and_true] at e0 e1 e2 e3 e4
  exact ⟨⟨k, n, dA, dc, dl, rA, rc, rs, kA, kc, kl⟩, by rw [e0, e1, e2, e3, e4], ⟨b0, b0', b1, b1', d2, d3, r2, r3, k2, k4, k3⟩, bytes_in d1, r1, ints_in k1⟩
end
set_option maxRecDepth 100000 in
/-- A list of calls that comes in. -/
theorem openQ {H : Type} {enc : TypeId × Value → H} {w : World} {b0 base : Nat} {v : Value} {d : DataW H} {p : List MemPlace} (hv : Value.okWide Tryd.prog w .any b0 44 v) (h : DataW.Trod enc Tryd.prog w base (fun _ => true) true 44 v d p) :
    ∃ A cap l, v = .slice A l.length cap ∧ OpsIn (fun b => b < w.heap.size) w A l ∧ WfSs l := by
  obtain ⟨A, len, cap, rfl⟩ := okWide_slice Tryd.underlying44 hv
  obtain ⟨fuel, hf⟩ := h
  rcases open_slice Tryd.underlying44 hf with ⟨hc, _⟩ | ⟨a, len', cap', m, n, D, Pl, hc, _, hl, hm, hmm, _, hi⟩
  · simp [Value.cells] at hc
    obtain ⟨rfl, rfl, rfl⟩ := hc
    exact ⟨none, 0, [], rfl, fun j hj => by simp at hj, Nat.zero_le _, fun j hj => by simp at hj⟩
  · simp [Value.cells] at hc
    obtain ⟨rfl, rfl, rfl⟩ := hc
    have hml : len ≤ m := by rw [hmm]; split <;> omega
    have each : ∀ i, i < len → ∃ o : OpS, (∀ j, j < 5 → w.cell? (a.add (i * 5 + j)) = (sCells o)[j]?) ∧ WfS o ∧ BytesIn (fun b => b < w.heap.size) w o.dA o.dl ∧ RecsIn (fun b => b < w.heap.size) w o.rA o.rs ∧ IntsIn (fun b => b < w.heap.size) w o.kA o.kl := fun i hil => by
      obtain ⟨cs', hcs, ht⟩ := hi i (by omega)
      rw [cells_op] at hcs
      obtain ⟨_, hlen, hat⟩ := World.cells?_some hcs
      obtain ⟨o, rfl, h1, h2, h3, h4⟩ := op_cells ht
      refine ⟨o, fun j hj => ?_, h1, h2, h3, h4⟩
      have g := hat j (by simpa using hj)
      rw [add_add] at g
      rw [g]
      rcases (by omega : j = 0 ∨ j = 1 ∨ j = 2 ∨ j = 3 ∨ j = 4) with rfl | rfl | rfl | rfl | rfl <;> rfl
    obtain ⟨f, hfn⟩ := choose_lt each
    refine ⟨some a, cap, (List.range len).map f, by simp, fun j hj => ?_, by rw [List.length_map, List.length_range]; exact Nat.le_trans hl hm, fun j hj => ?_⟩
    · rw [List.length_map, List.length_range] at hj
      obtain ⟨h0, _, hd, hr, hk⟩ := hfn j hj
      have c0 := h0 0 (by omega)
      obtain ⟨b, off, spot⟩ := a
      have hspot : spot = none := by
        have c00 := (hfn 0 (by omega)).1 0 (by omega)
        have := World.cell?_spot (show w.cell? _ = some (.int .i64 (f 0).k) from c00)
        simpa [Addr.add] using this
      subst hspot
      have e : ((List.range len).map f).getD j dS = f j := by
        rw [List.getD_eq_getElem?_getD, List.getElem?_map, List.getElem?_range hj]; rfl
      rw [e]
      have hb := cell_lt (show w.cell? _ = some (.int .i64 (f j).k) from c0)
      rw [add_plain] at hb
      have g : ∀ i, i < 5 → w.cell? ⟨b, off + j * 5 + i, none⟩ = (sCells (f j))[i]? := fun i hi => by
        have := h0 i hi
        rw [add_plain, ← Nat.add_assoc] at this
        exact this
      exact ⟨b, off, rfl, hb, hb, g 0 (by omega), g 1 (by omega), g 2 (by omega), g 3 (by omega), g 4 (by omega), hd, hr, hk⟩
    · rw [List.length_map, List.length_range] at hj
      have e : ((List.range len).map f).getD j dS = f j := by
        rw [List.getD_eq_getElem?_getD, List.getElem?_map, List.getElem?_range hj]; rfl
      rw [e]
      exact (hfn j hj).2.1
end Go.Proofs.YtkdebebpnkjmdaaDoor
