/-
  How a spec and a stretch come in; a world for the witnesses.
-/
import Derived.Test.YtggaflihblhapaaDoorHFrame
namespace Go.Proofs.YtggaflihblhapaaDoor
open Go.ChangeShapes Go.WideShapes Go.ChangeAt Go.RowKit Go.Joins Go.Deep CM HM

theorem spec_fields : Tryd.prog.underlying 26 = some (.struct (Tryd.prog.fieldsOf 26)) := by kernel_rfl
theorem spec_off : (Tryd.prog.fieldsOf 26).toList.map (fun f => (f.type, f.offset)) = [(23, 0), (24, 5)] := by kernel_rfl
theorem cells_spec : Tryd.prog.cellsOf 26 = 10 := by kernel_rfl
theorem cells_sets : Tryd.prog.cellsOf 23 = 5 := by kernel_rfl
theorem cells_anys : Tryd.prog.cellsOf 24 = 5 := by kernel_rfl
theorem cells_u64 : Tryd.prog.cellsOf 22 = 1 := by kernel_rfl
theorem cells_bool : Tryd.prog.cellsOf 4 = 1 := by kernel_rfl
theorem list2 {α : Type} {l : List α} (h : l.length = 2) : ∃ a b, l = [a, b] := by
  match l, h with
  | [a, b], _ => exact ⟨a, b, rfl⟩
theorem list3 {α : Type} {l : List α} (h : l.length = 3) : ∃ a b c, l = [a, b, c] := by
  match l, h with
  | [a, b, c], _ => exact ⟨a, b, c, rfl⟩
theorem list10 {α : Type} {l : List α} (h : l.length = 10) : ∃ a b c d e f g i j k, l = [a, b, c, d, e, f, g, i, j, k] := by
  match l, h with
  | [a, b, c, d, e, f, g, i, j, k], _ => exact ⟨a, b, c, d, e, f, g, i, j, k, rfl⟩
section
variable {H : Type} {enc : TypeId × Value → H} {w : World} {base fuel : Nat} {sp : Nat → Bool} {held : Bool}
theorem some_u64 {cs : List Value} {y : DataW H × List MemPlace} (h : DataW.trod enc Tryd.prog w base sp held fuel 22 cs = some y) : ∃ k : Nat, cs = [.int .u64 (k : Nat)] ∧ k < 18446744073709551616 := by
  obtain ⟨n, e, _, hw⟩ := DataW.trod_int Tryd.underlying22 h
  have hb := bounds_u64 hw
  exact ⟨n.toNat, by rw [e, Int.toNat_of_nonneg hb.1], by omega⟩
theorem some_bool {cs : List Value} {y : DataW H × List MemPlace} (h : DataW.trod enc Tryd.prog w base sp held fuel 4 cs = some y) : ∃ b : Bool, cs = [.bool b] := by
  obtain ⟨b, e, _⟩ := DataW.trod_bool Tryd.underlying4 h
  exact ⟨b, e⟩
theorem some_int {cs : List Value} {y : DataW H × List MemPlace} (h : DataW.trod enc Tryd.prog w base sp held fuel 3 cs = some y) : ∃ k : Int, cs = [.int .i64 k] := by
  obtain ⟨n, e, _, hw⟩ := DataW.trod_int Tryd.underlying3 h
  exact ⟨n, e⟩
set_option maxRecDepth 100000 in
theorem spec_cells {cs : List Value} {y : DataW H × List MemPlace} (h : DataW.trod enc Tryd.prog w base sp held fuel 26 cs = some y) :
    ∃ c : Sp, c.wf ∧ cs = [.int .u64 (c.S 0 : Nat), .int .u64 (c.S 1 : Nat), .int .u64 (c.S 2 : Nat), .int .u64 (c.S 3 : Nat), .int .u64 (c.S 4 : Nat), .bool (c.A 0), .bool (c.A 1), .bool (c.A 2), .bool (c.A 3), .bool (c.A 4)] := by
  obtain ⟨xs, m, _, hx, hl, hn, hat⟩ := DataW.trod_struct spec_fields h
  have hfs := spec_off
  generalize Tryd.prog.fieldsOf 26 = fs at *
  obtain ⟨fl⟩ := fs
  simp only at hfs
  rw [cells_spec] at hl
  have hfl : fl.length = 2 := by have := congrArg List.length hfs; simpa using this
  obtain ⟨f0, f1, rfl⟩ := list2 hfl
  simp only [List.map_cons, List.map_nil, List.cons.injEq, Prod.mk.injEq, and_true] at hfs
  obtain ⟨⟨t0, o0⟩, t1, o1⟩ := hfs
  obtain ⟨x0, x1, rfl⟩ := list2 (hn.trans (by simp))
  obtain ⟨c0, c1, c2, c3, c4, c5, c6, c7, c8, c9, rfl⟩ := list10 hl
  have h0 := hat 0 f0 rfl
  have h1 := hat 1 f1 rfl
  rw [t0, o0, cells_sets] at h0
  rw [t1, o1, cells_anys] at h1
  have h0' : DataW.trod enc Tryd.prog w base sp held m 23 [c0, c1, c2, c3, c4] = some x0 := by simpa using h0
  have h1' : DataW.trod enc Tryd.prog w base sp held m 24 [c5, c6, c7, c8, c9] = some x1 := by simpa using h1
  obtain ⟨ys, m1, _, _, _, hy, ha⟩ := DataW.trod_array Tryd.underlying23 h0'
  obtain ⟨zs, m2, _, _, _, hz, hb⟩ := DataW.trod_array Tryd.underlying24 h1'
  rw [cells_u64] at ha
  rw [cells_bool] at hb
  obtain ⟨y0, y1, y2, y3, y4, rfl⟩ : ∃ a b c d e, ys = [a, b, c, d, e] := by match ys, hy with | [a, b, c, d, e], _ => exact ⟨a, b, c, d, e, rfl⟩
  obtain ⟨z0, z1, z2, z3, z4, rfl⟩ : ∃ a b c d e, zs = [a, b, c, d, e] := by match zs, hz with | [a, b, c, d, e], _ => exact ⟨a, b, c, d, e, rfl⟩
  obtain ⟨n0, e0, b0⟩ := some_u64 (cs := [c0]) (y := y0) (by simpa using ha 0 (by omega))
  obtain ⟨n1, e1, b1⟩ := some_u64 (cs := [c1]) (y := y1) (by simpa using ha 1 (by omega))
  obtain ⟨n2, e2, b2⟩ := some_u64 (cs := [c2]) (y := y2) (by simpa using ha 2 (by omega))
  obtain ⟨n3, e3, b3⟩ := some_u64 (cs := [c3]) (y := y3) (by simpa using ha 3 (by omega))
  obtain ⟨n4, e4, b4⟩ := some_u64 (cs := [c4]) (y := y4) (by simpa using ha 4 (by omega))
  obtain ⟨k0, e5⟩ := some_bool (cs := [c5]) (y := z0) (by simpa using hb 0 (by omega))
  obtain ⟨k1, e6⟩ := some_bool (cs := [c6]) (y := z1) (by simpa using hb 1 (by omega))
  obtain ⟨k2, e7⟩ := some_bool (cs := [c7]) (y := z2) (by simpa using hb 2 (by omega))
  obtain ⟨k3, e8⟩ := some_bool (cs := [c8]) (y := z3) (by simpa using hb 3 (by omega))
  obtain ⟨k4, e9⟩ := some_bool (cs := [c9]) (y := z4) (by simpa using hb 4 (by omega))
  simp only [List.cons.injEq, and_true] at e0 e1 e2 e3 e4 e5 e6 e7 e8 e9
  refine ⟨{ S := fun j => [n0, n1, n2, n3, n4].getD j 0, A := fun j => [k0, k1, k2, k3, k4].getD j false }, fun f hf => ?_, by rw [e0, e1, e2, e3, e4, e5, e6, e7, e8, e9]; rfl⟩
  obtain rfl | rfl | rfl | rfl | rfl : f = 0 ∨ f = 1 ∨ f = 2 ∨ f = 3 ∨ f = 4 := by omega
  · exact b0
  · exact b1
  · exact b2
  · exact b3
  · exact b4
end
set_option maxRecDepth 100000 in
/-- A spec that comes in. -/
theorem openX {H : Type} {enc : TypeId × Value → H} {w : World} {b0 base : Nat} {v : Value} {d : DataW H} {p : List MemPlace} (hv : Value.okWide Tryd.prog w .any b0 26 v) (h : DataW.Trod enc Tryd.prog w base (fun _ => true) true 26 v d p) :
    ∃ c : Sp, v = vC c ∧ c.wf := by
  obtain ⟨cs, rfl, _⟩ := okWide_struct spec_fields hv
  obtain ⟨l⟩ := cs
  obtain ⟨fuel, hf⟩ := h
  obtain ⟨c, hc, he⟩ := spec_cells hf
  have he' : l = [.int .u64 (c.S 0 : Nat), .int .u64 (c.S 1 : Nat), .int .u64 (c.S 2 : Nat), .int .u64 (c.S 3 : Nat), .int .u64 (c.S 4 : Nat), .bool (c.A 0), .bool (c.A 1), .bool (c.A 2), .bool (c.A 3), .bool (c.A 4)] := by simpa [Value.cells] using he
  exact ⟨c, by rw [he'], hc⟩
/-- A block whose cells are these. -/
def tabObj (c : Array Value) : Obj → Obj
  | .cells _ t frozen => .cells c t frozen
  | o => o
def litV : DataW Unit → Value
  | .lit (.int k n) => .int k n
  | _ => .bool false
def cellsD : DataW Unit → List Value
  | .agg l => l.map litV
  | d => [litV d]
def cellsDD : DataW Unit → Array Value
  | .agg l => (l.flatMap cellsD).toArray
  | _ => #[]
/-- A world for the witnesses: what the door's own run leaves, and the two tables of utf8. -/
noncomputable def doorWorld (os : Os) : World :=
  let w0 := World.doorLaid Tryd.prog 400 os
  { w0 with heap := (w0.heap.modify 8 (tabObj (cellsDD Rows.laid_unicode_utf8_acceptRanges))).modify 7 (tabObj (cellsDD Rows.laid_unicode_utf8_first)) }
end Go.Proofs.YtggaflihblhapaaDoor
