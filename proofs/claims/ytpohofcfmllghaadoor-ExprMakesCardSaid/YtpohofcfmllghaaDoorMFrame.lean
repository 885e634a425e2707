/-
  What every law's proof of the expression seat shares: the two listed variables; how rows come in; a world for the witness.
  How lists of plain expressions come in.
-/
import Derived.Test.YtpohofcfmllghaaDoorCards
import Derived.Test.YtpohofcfmllghaaDoorTie
import Derived.Test.YtpohofcfmllghaaDoorERule
import Derived.Test.YtpohofcfmllghaaDoorETwo
import Derived.WalkKit
import Derived.ProofKit
import Derived.OpenShut
import Derived.LaidMore
import Derived.MakeChecks
import Derived.Stop.LaidErr
import Derived.Deep.DeepHandedRow
import Derived.Deep.DeepWitnessRowRef
import Derived.Lib.LaidTab
import Derived.Lib.SmallJoins
import Derived.Deep.Slices
import Derived.SliceStrings
import Derived.Carry
import Derived.Shelf.Vars
import Derived.Test.YtpohofcfmllghaaDoorMPlain
namespace Go.Proofs.YtpohofcfmllghaaDoor
open Go.ChangeShapes Go.WideShapes Go.ChangeAt Go.RowKit Go.Joins Go.Deep

theorem own : ownKnob Tryd.prog.godebug = none := by kernel_rfl
theorem laidOut' : laidOutB Tryd.prog = true := by kernel_rfl
theorem mem_lt {p q : List MemPlace} {n : Nat} (h : ∀ x ∈ p ++ q, x.block < n) : (∀ x ∈ p, x.block < n) ∧ ∀ x ∈ q, x.block < n :=
  ⟨fun x hx => h x (List.mem_append_left _ hx), fun x hx => h x (List.mem_append_right _ hx)⟩
theorem cell_lt {w : World} {a : Addr} {v : Value} (h : w.cell? a = some v) : a.block < w.heap.size := by
  rcases Nat.lt_or_ge a.block w.heap.size with h' | h'
  · exact h'
  · exfalso; simp [World.cell?, Array.getElem?_eq_none h'] at h
theorem plain_of {w : World} {a : Addr} {v : Value} (h : w.cell? a = some v) : ∃ b off, a = ⟨b, off, none⟩ ∧ b < w.heap.size := by
  have h1 := cell_lt h
  have h2 := World.cell?_spot h
  obtain ⟨b, off, spot⟩ := a
  simp only at h2
  subst h2
  exact ⟨b, off, rfl, h1⟩

theorem g_cmp : Tryd.prog.globalNamed "bywash/expr.comparisons" = some 0 := by kernel_rfl
theorem g_rul : Tryd.prog.globalNamed "bywash/expr.rules" = some 1 := by kernel_rfl
theorem cmp_type : (Tryd.prog.globals[0]?).map (·.type) = some 84 := by kernel_rfl
theorem rul_type : (Tryd.prog.globals[1]?).map (·.type) = some 87 := by kernel_rfl
theorem cells_str : Tryd.prog.cellsOf 9 = 1 := by kernel_rfl
theorem cells_int : Tryd.prog.cellsOf 3 = 1 := by kernel_rfl
theorem cells_3int : Tryd.prog.cellsOf 73 = 3 := by kernel_rfl
theorem cells_rule : Tryd.prog.cellsOf 75 = 7 := by kernel_rfl
theorem cells_rules : Tryd.prog.cellsOf 87 = 147 := by kernel_rfl
theorem cells_6str : Tryd.prog.cellsOf 84 = 6 := by kernel_rfl
theorem rule_fields : (Tryd.prog.fieldsOf 75).toList.map (fun f => (f.type, f.offset)) = [(3, 0), (9, 1), (3, 2), (73, 3), (3, 6)] := by kernel_rfl
theorem rule_under : Tryd.prog.underlying 75 = some (.struct (Tryd.prog.fieldsOf 75)) := by kernel_rfl

section
variable {H : Type} {enc : TypeId × Value → H} {w : World} {base fuel : Nat} {sp : Nat → Bool} {held : Bool}
theorem one_int {cs : List Value} {k : Int} {p : List MemPlace} (h : DataW.trod enc Tryd.prog w base sp held fuel 3 cs = some (.lit (.int .i64 k), p)) : cs = [.int .i64 k] := by
  obtain ⟨n, e, hx, _⟩ := DataW.trod_int Tryd.underlying3 h
  simp only [Prod.mk.injEq, DataW.lit.injEq, Lit.int.injEq, true_and] at hx
  rw [e, hx.1]
theorem one_str {cs : List Value} {l : List UInt8} {p : List MemPlace} (h : DataW.trod enc Tryd.prog w base sp held fuel 9 cs = some (.lit (.string l), p)) : cs = [.string ⟨l.toArray⟩] := by
  obtain ⟨s, e, hx, _⟩ := DataW.trod_string Tryd.underlying9 h
  simp only [Prod.mk.injEq, DataW.lit.injEq, Lit.string.injEq] at hx
  rw [e, of_data hx.1.symm]
theorem list3 {α β : Type} {l : List (α × β)} (h : l.length = 3) : ∃ a b c d e f, l = [(a, b), (c, d), (e, f)] := by
  match l, h with
  | [(a, b), (c, d), (e, f)], _ => exact ⟨a, b, c, d, e, f, rfl⟩
theorem list5 {α : Type} {l : List α} (h : l.length = 5) : ∃ a b c d e, l = [a, b, c, d, e] := by
  match l, h with
  | [a, b, c, d, e], _ => exact ⟨a, b, c, d, e, rfl⟩
theorem cells3 {l : List Value} (h : l.length = 3) : ∃ a b c, l = [a, b, c] := by
  match l, h with
  | [a, b, c], _ => exact ⟨a, b, c, rfl⟩
theorem cells7 {l : List Value} (h : l.length = 7) : ∃ a b c d e f g, l = [a, b, c, d, e, f, g] := by
  match l, h with
  | [a, b, c, d, e, f, g], _ => exact ⟨a, b, c, d, e, f, g, rfl⟩
set_option maxRecDepth 100000 in
theorem three_ints {cs : List Value} {a b c : Int} {p : List MemPlace} (h : DataW.trod enc Tryd.prog w base sp held fuel 73 cs = some (.agg [.lit (.int .i64 a), .lit (.int .i64 b), .lit (.int .i64 c)], p)) : cs = [.int .i64 a, .int .i64 b, .int .i64 c] := by
  obtain ⟨xs, m, _, hx, hl, hn, hat⟩ := DataW.trod_array Tryd.underlying73 h
  rw [cells_3int] at hl
  obtain ⟨d0, p0, d1, p1, d2, p2, rfl⟩ := list3 hn
  obtain ⟨c0, c1, c2, rfl⟩ := cells3 hl
  simp only [Prod.mk.injEq, List.map_cons, List.map_nil, DataW.agg.injEq, List.cons.injEq, and_true] at hx
  obtain ⟨⟨rfl, rfl, rfl⟩, _⟩ := hx
  have h0 := hat 0 (by omega)
  have h1 := hat 1 (by omega)
  have h2 := hat 2 (by omega)
  rw [cells_int] at h0 h1 h2
  have e0 := one_int (cs := [c0]) (by simpa using h0)
  have e1 := one_int (cs := [c1]) (by simpa using h1)
  have e2 := one_int (cs := [c2]) (by simpa using h2)
  simp only [List.cons.injEq, and_true] at e0 e1 e2
  rw [e0, e1, e2]
def ruleD (r : RL) : DataW H := .agg [.lit (.int .i64 r.k), .lit (.string r.w.data.toList), .lit (.int .i64 r.n), .agg [.lit (.int .i64 r.a), .lit (.int .i64 r.b), .lit (.int .i64 r.c)], .lit (.int .i64 r.g)]
set_option maxRecDepth 100000 in
theorem rule_cells {cs : List Value} {r : RL} {p : List MemPlace} (h : DataW.trod enc Tryd.prog w base sp held fuel 75 cs = some (ruleD r, p)) : cs = (rCells r).toList := by
  obtain ⟨xs, m, _, hx, hl, hn, hat⟩ := DataW.trod_struct rule_under h
  have hfs := rule_fields
  generalize Tryd.prog.fieldsOf 75 = fs at *
  obtain ⟨fl⟩ := fs
  simp only at hfs
  rw [cells_rule] at hl
  have hfl : fl.length = 5 := by have := congrArg List.length hfs; simpa using this
  obtain ⟨f0, f1, f2, f3, f4, rfl⟩ := list5 hfl
  simp only [List.map_cons, List.map_nil, List.cons.injEq, Prod.mk.injEq, and_true] at hfs
  obtain ⟨⟨t0, o0⟩, ⟨t1, o1⟩, ⟨t2, o2⟩, ⟨t3, o3⟩, t4, o4⟩ := hfs
  obtain ⟨⟨d0, p0⟩, ⟨d1, p1⟩, ⟨d2, p2⟩, ⟨d3', p3⟩, ⟨d4, p4⟩, rfl⟩ := list5 (hn.trans (by simp))
  obtain ⟨c0, c1, c2, c3, c4, c5, c6, rfl⟩ := cells7 hl
  simp only [ruleD, Prod.mk.injEq, List.map_cons, List.map_nil, DataW.agg.injEq, List.cons.injEq, and_true] at hx
  obtain ⟨⟨rfl, rfl, rfl, rfl, rfl⟩, _⟩ := hx
  have h0 := hat 0 f0 rfl
  have h1 := hat 1 f1 rfl
  have h2 := hat 2 f2 rfl
  have h3 := hat 3 f3 rfl
  have h4 := hat 4 f4 rfl
  rw [t0, o0, cells_int] at h0
  rw [t1, o1, cells_str] at h1
  rw [t2, o2, cells_int] at h2
  rw [t3, o3, cells_3int] at h3
  rw [t4, o4, cells_int] at h4
  have e0 := one_int (cs := [c0]) (by simpa using h0)
  have e1 := one_str (cs := [c1]) (by simpa using h1)
  have e2 := one_int (cs := [c2]) (by simpa using h2)
  have e3 := three_ints (cs := [c3, c4, c5]) (by simpa using h3)
  have e4 := one_int (cs := [c6]) (by simpa using h4)
  simp only [List.cons.injEq, and_true] at e0 e1 e2 e3 e4
  obtain ⟨e3, e5, e6⟩ := e3
  rw [e0, e1, e2, e3, e4, e5, e6]
end

theorem cmp_data : (Rows.laid_bywash_expr_comparisons : DataW Unit) = .agg (cmpsL.map fun s => .lit (.string s.data.toList)) := rfl
theorem rul_data : (Rows.laid_bywash_expr_rules : DataW Unit) = .agg (rulesL.map ruleD) := rfl

theorem cmps_of {W : World} {rest : List (String × DataW Unit)} (h : laidMet Tryd.prog (("bywash/expr.comparisons", Rows.laid_bywash_expr_comparisons) :: rest) W) : Cmps W := by
  obtain ⟨ps, ⟨g', t', cs, fuel, p, q, hg', ht', hvar, hd, _, _⟩, _⟩ := h
  obtain rfl := Option.some.inj (g_cmp.symm.trans hg')
  obtain rfl := Option.some.inj (cmp_type.symm.trans ht')
  rw [cmp_data] at hd
  obtain ⟨xs, m, _, hx, hl, hn, hat⟩ := DataW.trod_array Tryd.underlying84 hd
  rw [cells_6str] at hl
  intro i hi
  have h0 := hat i hi
  rw [cells_str] at h0
  have hxi : xs[i]? = some (xs[i]'(by omega)) := List.getElem?_eq_getElem (by omega)
  simp only [Prod.mk.injEq, DataW.agg.injEq] at hx
  have hd0 : (xs[i]'(by omega)).1 = .lit (.string (cmpsL.getD i ⟨#[]⟩).data.toList) := by
    have h1 : (xs.map (·.1))[i]? = some (xs[i]'(by omega)).1 := by rw [List.getElem?_map, hxi]; rfl
    rw [← hx.1, List.getElem?_map, List.getElem?_eq_getElem (show i < cmpsL.length from hi)] at h1
    rw [List.getD_eq_getElem?_getD, List.getElem?_eq_getElem (show i < cmpsL.length from hi)]
    exact (Option.some.inj h1).symm
  rw [hxi] at h0
  have e := one_str (cs := (cs.toList.drop (i * 1)).take 1) (p := (xs[i]'(by omega)).2) (l := (cmpsL.getD i ⟨#[]⟩).data.toList) (by rw [h0, ← hd0])
  have hc := World.var?_cell g_cmp hvar i
  rw [hc]
  have h3 : cs.toList[i]? = some (.string (cmpsL.getD i ⟨#[]⟩)) := by
    have := congrArg (·[0]?) e
    simpa [List.getElem?_take, List.getElem?_drop] using this
  simpa using h3
theorem rls_of {W : World} {rest : List (String × DataW Unit)} (h : laidMet Tryd.prog (("bywash/expr.rules", Rows.laid_bywash_expr_rules) :: rest) W) : Rls W := by
  obtain ⟨ps, ⟨g', t', cs, fuel, p, q, hg', ht', hvar, hd, _, _⟩, _⟩ := h
  obtain rfl := Option.some.inj (g_rul.symm.trans hg')
  obtain rfl := Option.some.inj (rul_type.symm.trans ht')
  rw [rul_data] at hd
  obtain ⟨xs, m, _, hx, hl, hn, hat⟩ := DataW.trod_array Tryd.underlying87 hd
  rw [cells_rules] at hl
  intro i hi
  have h0 := hat i hi
  rw [cells_rule] at h0
  have hxi : xs[i]? = some (xs[i]'(by omega)) := List.getElem?_eq_getElem (by omega)
  simp only [Prod.mk.injEq, DataW.agg.injEq] at hx
  have hd0 : (xs[i]'(by omega)).1 = ruleD (rulesL.getD i dR) := by
    have h1 : (xs.map (·.1))[i]? = some (xs[i]'(by omega)).1 := by rw [List.getElem?_map, hxi]; rfl
    rw [← hx.1, List.getElem?_map, List.getElem?_eq_getElem (show i < rulesL.length from hi)] at h1
    rw [List.getD_eq_getElem?_getD, List.getElem?_eq_getElem (show i < rulesL.length from hi)]
    exact (Option.some.inj h1).symm
  rw [hxi] at h0
  have e := rule_cells (cs := (cs.toList.drop (i * 7)).take 7) (p := (xs[i]'(by omega)).2) (r := rulesL.getD i dR) (by rw [h0, ← hd0])
  have hc : ∀ a, a < 7 → W.cell? ⟨1, i * 7 + a, none⟩ = (rCells (rulesL.getD i dR))[a]? := fun a ha => by
    rw [World.var?_cell g_rul hvar (i * 7 + a)]
    have h3 := congrArg (·[a]?) e
    simp only [List.getElem?_take, List.getElem?_drop, if_pos ha] at h3
    simpa using h3
  exact ⟨hc 0 (by omega), hc 1 (by omega), hc 2 (by omega), hc 3 (by omega), hc 4 (by omega), hc 5 (by omega), hc 6 (by omega)⟩
/-- What the rows' lists give. -/
theorem both_of {W : World} (h : laidMetH Tryd.prog [("bywash/expr.comparisons", Rows.laid_bywash_expr_comparisons), ("bywash/expr.rules", Rows.laid_bywash_expr_rules)] W) : Rls W ∧ Cmps W := by
  rw [MakeChecks.laidMetH_plain _ _ _ (by kernel_rfl)] at h
  exact ⟨rls_of h.tail, cmps_of h⟩

/-- A block whose cells are these. -/
def tabObj (c : Array Value) : Obj → Obj
  | .cells _ t frozen => .cells c t frozen
  | o => o
/-- A world for the witnesses: the settled one, both listed tables holding what their initialisers lay. -/
noncomputable def exprWorld (os : Os) : World :=
  let w0 := World.holding Tryd.prog os ⟨#[], #[], []⟩
  { w0 with heap := (w0.heap.modify 0 (tabObj (cmpsL.map Value.string).toArray)).modify 1 (tabObj (rulesL.flatMap fun r => (rCells r).toList).toArray) }
end Go.Proofs.YtpohofcfmllghaaDoor
namespace Go.Proofs.YtpohofcfmllghaaDoor
open Go.ChangeShapes Go.WideShapes Go.ChangeAt Go.RowKit Go.Joins Go.Deep

instance : Inhabited PL := ⟨dP⟩
theorem cells_plain : Tryd.prog.cellsOf 42 = 7 := by kernel_rfl
theorem cells_value : Tryd.prog.cellsOf 26 = 3 := by kernel_rfl
theorem plain_fields : (Tryd.prog.fieldsOf 42).toList.map (fun f => (f.type, f.offset)) = [(3, 0), (9, 1), (26, 2), (9, 5), (3, 6)] := by kernel_rfl
theorem plain_under : Tryd.prog.underlying 42 = some (.struct (Tryd.prog.fieldsOf 42)) := by kernel_rfl
section
variable {H : Type} {enc : TypeId × Value → H} {w : World} {base fuel : Nat} {sp : Nat → Bool} {held : Bool}
theorem some_int {cs : List Value} {y : DataW H × List MemPlace} (h : DataW.trod enc Tryd.prog w base sp held fuel 3 cs = some y) : ∃ k : Int, cs = [.int .i64 k] ∧ -9223372036854775808 ≤ k ∧ k ≤ 9223372036854775807 := by
  obtain ⟨n, e, _, hw⟩ := DataW.trod_int Tryd.underlying3 h
  have := bounds_i64 hw
  exact ⟨n, e, by omega, by omega⟩
theorem some_str {cs : List Value} {y : DataW H × List MemPlace} (h : DataW.trod enc Tryd.prog w base sp held fuel 9 cs = some y) : ∃ s : ByteArray, cs = [.string s] ∧ s.size ≤ maxLen := by
  obtain ⟨s, e, _, hz⟩ := DataW.trod_string Tryd.underlying9 h
  exact ⟨s, e, hz⟩
set_option maxRecDepth 100000 in
theorem plain_cells {cs : List Value} {y : DataW H × List MemPlace} (h : DataW.trod enc Tryd.prog w base sp held fuel 42 cs = some y) : ∃ p : PL, cs = (pCells p).toList ∧ p.n.size ≤ maxLen ∧ p.o.size ≤ maxLen ∧ p.v.2.2.size ≤ maxLen ∧
    (-9223372036854775808 ≤ p.k ∧ p.k ≤ 9223372036854775807) ∧ (-9223372036854775808 ≤ p.v.1 ∧ p.v.1 ≤ 9223372036854775807) ∧ (-9223372036854775808 ≤ p.v.2.1 ∧ p.v.2.1 ≤ 9223372036854775807) ∧ (-9223372036854775808 ≤ p.a ∧ p.a ≤ 9223372036854775807) := by
  obtain ⟨xs, m, _, hx, hl, hn, hat⟩ := DataW.trod_struct plain_under h
  have hfs := plain_fields
  generalize Tryd.prog.fieldsOf 42 = fs at *
  obtain ⟨fl⟩ := fs
  simp only at hfs
  rw [cells_plain] at hl
  have hfl : fl.length = 5 := by have := congrArg List.length hfs; simpa using this
  obtain ⟨f0, f1, f2, f3, f4, rfl⟩ := list5 hfl
  simp only [List.map_cons, List.map_nil, List.cons.injEq, Prod.mk.injEq, and_true] at hfs
  obtain ⟨⟨t0, o0⟩, ⟨t1, o1⟩, ⟨t2, o2⟩, ⟨t3, o3⟩, t4, o4⟩ := hfs
  obtain ⟨x0, x1, x2, x3, x4, rfl⟩ := list5 (hn.trans (by simp))
  obtain ⟨c0, c1, c2, c3, c4, c5, c6, rfl⟩ := cells7 hl
  have h0 := hat 0 f0 rfl
  have h1 := hat 1 f1 rfl
  have h2 := hat 2 f2 rfl
  have h3 := hat 3 f3 rfl
  have h4 := hat 4 f4 rfl
  rw [t0, o0, cells_int] at h0
  rw [t1, o1, cells_str] at h1
  rw [t2, o2, cells_value] at h2
  rw [t3, o3, cells_str] at h3
  rw [t4, o4, cells_int] at h4
  obtain ⟨k, e0, b0⟩ := some_int (cs := [c0]) (by simpa using h0)
  obtain ⟨n, e1, b1⟩ := some_str (cs := [c1]) (by simpa using h1)
  obtain ⟨o, e3, b3⟩ := some_str (cs := [c5]) (by simpa using h3)
  obtain ⟨a, e4, b4⟩ := some_int (cs := [c6]) (by simpa using h4)
  have h2' : DataW.trod enc Tryd.prog w base sp held m 26 [c2, c3, c4] = some x2 := by simpa using h2
  obtain ⟨y0, y1, y2, m', _, _, g0, g1, g2⟩ := trod_struct3 Tryd.underlying26 h2'
  obtain ⟨v1, q0, d0⟩ := some_int (cs := [c2]) (by simpa [cells_int] using g0)
  obtain ⟨v2, q1, d1⟩ := some_int (cs := [c3]) (by simpa [cells_int] using g1)
  obtain ⟨v3, q2, d2⟩ := some_str (cs := [c4]) (by simpa [cells_str] using g2)
  simp only [List.cons.injEq, and_true] at e0 e1 e3 e4 q0 q1 q2
  exact ⟨⟨k, n, (v1, v2, v3), o, a⟩, by rw [e0, e1, e3, e4, q0, q1, q2], b1, b3, d2, b0, d0, d1, b4⟩
end
set_option maxRecDepth 100000 in
/-- A list of plain expressions that comes in. -/
theorem openP {H : Type} {enc : TypeId × Value → H} {w : World} {b0 base : Nat} {v : Value} {d : DataW H} {p : List MemPlace} (hv : Value.okWide Tryd.prog w .any b0 22 v) (h : DataW.Trod enc Tryd.prog w base (fun _ => true) true 22 v d p) :
    ∃ A cap l, v = .slice A l.length cap ∧ (PlainsAt w.heap.size w A l ∧ l.length ≤ cap) ∧ wfP l := by
  obtain ⟨A, len, cap, rfl⟩ := okWide_slice Tryd.underlying22 hv
  obtain ⟨fuel, hf⟩ := h
  rcases open_slice Tryd.underlying22 hf with ⟨hc, _⟩ | ⟨a, len', cap', m, n, D, Pl, hc, _, hl, hm, hmm, _, hi⟩
  · simp [Value.cells] at hc
    obtain ⟨rfl, rfl, rfl⟩ := hc
    exact ⟨none, 0, [], rfl, ⟨fun j hj => by simp at hj, Nat.le_refl _⟩, Nat.zero_le _, fun c h => by simp at h⟩
  · simp [Value.cells] at hc
    obtain ⟨rfl, rfl, rfl⟩ := hc
    have hml : m = cap := by simpa using hmm
    have each : ∀ i, i < len → ∃ p : PL, (∀ j, j < 7 → w.cell? (a.add (i * 7 + j)) = (pCells p)[j]?) ∧ p.n.size ≤ maxLen ∧ p.o.size ≤ maxLen ∧ p.v.2.2.size ≤ maxLen ∧
        (-9223372036854775808 ≤ p.k ∧ p.k ≤ 9223372036854775807) ∧ (-9223372036854775808 ≤ p.v.1 ∧ p.v.1 ≤ 9223372036854775807) ∧ (-9223372036854775808 ≤ p.v.2.1 ∧ p.v.2.1 ≤ 9223372036854775807) ∧ (-9223372036854775808 ≤ p.a ∧ p.a ≤ 9223372036854775807) := fun i hil => by
      obtain ⟨cs', hcs, ht⟩ := hi i (by omega)
      rw [cells_plain] at hcs
      obtain ⟨_, hlen, hat⟩ := World.cells?_some hcs
      obtain ⟨p, rfl, hp⟩ := plain_cells ht
      refine ⟨p, fun j hj => ?_, hp⟩
      have g := hat j (by simpa using hj)
      rw [add_add] at g
      rw [g]
      rcases (by omega : j = 0 ∨ j = 1 ∨ j = 2 ∨ j = 3 ∨ j = 4 ∨ j = 5 ∨ j = 6) with rfl | rfl | rfl | rfl | rfl | rfl | rfl <;> rfl
    obtain ⟨f, hfn⟩ := choose_lt each
    refine ⟨some a, cap, (List.range len).map f, by simp, ⟨fun j hj => ?_, by rw [List.length_map, List.length_range]; exact hl⟩, by rw [List.length_map, List.length_range]; exact Nat.le_trans hl hm, fun c hc => ?_⟩
    · rw [List.length_map, List.length_range] at hj
      obtain ⟨h0, _⟩ := hfn j hj
      have c0 := h0 0 (by omega)
      obtain ⟨b, off, spot⟩ := a
      have hspot : spot = none := by
        have c00 := (hfn 0 (by omega)).1 0 (by omega)
        have := World.cell?_spot (show w.cell? _ = some (.int .i64 (f 0).k) from c00)
        simpa [Addr.add] using this
      subst hspot
      have e : ((List.range len).map f).getD j dP = f j := by
        rw [List.getD_eq_getElem?_getD, List.getElem?_map, List.getElem?_range hj]; rfl
      rw [e]
      have hb := cell_lt (show w.cell? _ = some (.int .i64 (f j).k) from c0)
      rw [add_plain] at hb
      have g : ∀ i, i < 7 → w.cell? ⟨b, off + j * 7 + i, none⟩ = (pCells (f j))[i]? := fun i hi => by
        have := h0 i hi
        rw [add_plain, ← Nat.add_assoc] at this
        exact this
      exact ⟨b, off, rfl, hb, g 0 (by omega), g 1 (by omega), g 2 (by omega), g 3 (by omega), g 4 (by omega), g 5 (by omega), g 6 (by omega)⟩
    · obtain ⟨j, hj, rfl⟩ := List.mem_map.1 hc
      exact (hfn j (List.mem_range.1 hj)).2
end Go.Proofs.YtpohofcfmllghaaDoor
