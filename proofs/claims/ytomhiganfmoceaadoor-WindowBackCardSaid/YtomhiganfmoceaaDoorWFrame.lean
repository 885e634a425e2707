/-
  What every law's proof of the scheme seat shares: the listed variables; how a scheme comes in; a world for the witnesses.
-/
import Derived.Test.YtomhiganfmoceaaDoorCards
import Derived.Test.YtomhiganfmoceaaDoorTie
import Derived.Test.YtomhiganfmoceaaDoorWLaw
import Derived.Test.YtomhiganfmoceaaDoorWParse
import Derived.WalkKit
import Derived.ProofKit
import Derived.OpenShut
import Derived.LaidMore
import Derived.MakeChecks
import Derived.Stop.LaidErr
import Derived.Deep.DeepHandedRow
import Derived.Deep.DeepWitnessRowRef
import Derived.Lib.LaidTab
import Derived.Lib.SmallJoins
import Derived.Deep.Slices
import Derived.SliceStrings
import Derived.Carry
import Derived.Shelf.Vars
namespace Go.Proofs.YtomhiganfmoceaaDoor
open Go.ChangeShapes Go.WideShapes Go.ChangeAt Go.RowKit Go.Joins Go.Deep CM JM WM

theorem own : ownKnob Tryd.prog.godebug = none := by kernel_rfl
theorem laidOut' : laidOutB Tryd.prog = true := by kernel_rfl
theorem mem_lt {p q : List MemPlace} {n : Nat} (h : ∀ x ∈ p ++ q, x.block < n) : (∀ x ∈ p, x.block < n) ∧ ∀ x ∈ q, x.block < n :=
  ⟨fun x hx => h x (List.mem_append_left _ hx), fun x hx => h x (List.mem_append_right _ hx)⟩
theorem g_tab_type : (Tryd.prog.globals[2]?).map (·.type) = some 103 := by kernel_rfl
theorem cells_tab : Tryd.prog.cellsOf 103 = 20 := by kernel_rfl
theorem cells_u64 : Tryd.prog.cellsOf 88 = 1 := by kernel_rfl
theorem g_mon : Tryd.prog.globalNamed "bywash/calendar.monthDays" = some 1 := by kernel_rfl
theorem g_mon_type : (Tryd.prog.globals[1]?).map (·.type) = some 101 := by kernel_rfl
theorem int_one : Tryd.prog.cellsOf 3 = 1 := by kernel_rfl
theorem cells_mon : Tryd.prog.cellsOf 101 = 12 := by kernel_rfl
/-- The table of powers of ten stands third on each list. -/
theorem tab_of {W : World} {x y : String × DataW Unit} {rest : List (String × DataW Unit)} (hp : ((x :: y :: ("internal/strconv.uint64pow10", Rows.laid_internal_strconv_uint64pow10) :: rest).all fun x => x.2.handleName?.isNone) = true)
    (h : laidMetH Tryd.prog (x :: y :: ("internal/strconv.uint64pow10", Rows.laid_internal_strconv_uint64pow10) :: rest) W) : Tab W := by
  rw [MakeChecks.laidMetH_plain _ _ _ hp] at h
  exact Lib.tabIs_of_head (rest := rest) g_tab g_tab_type Tryd.underlying103 Tryd.underlying88 cells_u64 cells_tab h.tail.tail
theorem mon_is {W : World} (h : Lib.TabIs Tryd.prog W "bywash/calendar.monthDays" .i64 monT) : Mon W := fun i hi => h.cell g_mon i hi
/-- The months' lengths stand sixth. -/
theorem mon_of {W : World} {x y z u v : String × DataW Unit} {rest : List (String × DataW Unit)} (hp : ((x :: y :: z :: u :: v :: ("bywash/calendar.monthDays", Rows.laid_bywash_calendar_monthDays) :: rest).all fun x => x.2.handleName?.isNone) = true)
    (h : laidMetH Tryd.prog (x :: y :: z :: u :: v :: ("bywash/calendar.monthDays", Rows.laid_bywash_calendar_monthDays) :: rest) W) : Mon W := by
  rw [MakeChecks.laidMetH_plain _ _ _ hp] at h
  exact mon_is (Lib.tabIs_of_head (rest := rest) g_mon g_mon_type Tryd.underlying101 Tryd.underlying3 int_one cells_mon h.tail.tail.tail.tail.tail)
theorem ran_type : (Tryd.prog.globals[5]?).map (·.type) = some 74 := by kernel_rfl
theorem syn_type : (Tryd.prog.globals[4]?).map (·.type) = some 74 := by kernel_rfl
theorem cells_es : Tryd.prog.cellsOf 121 = 1 := by kernel_rfl
theorem cells_str : Tryd.prog.cellsOf 9 = 1 := by kernel_rfl
theorem row_es (u : TypeId) (h : Tryd.prog.typeName? 3 u = some "*errors.errorString") : u = 119 :=
  typeName_ptr_named (nm := "errors.errorString") (by rw [show "*" ++ "errors.errorString" = "*errors.errorString" by decide]; kernel_rfl) (by kernel_rfl) (by decide) u (by rw [show "*" ++ "errors.errorString" = "*errors.errorString" by decide]; exact h)
/-- The two errors stand fourth and fifth on the long list. -/
theorem errs_of {W : World} {x y z : String × DataW Unit} {rest : List (String × DataW Unit)} (hp : ((x :: y :: z :: ("strconv.ErrRange", Rows.laid_strconv_ErrRange) :: ("strconv.ErrSyntax", Rows.laid_strconv_ErrSyntax) :: rest).all fun x => x.2.handleName?.isNone) = true)
    (h : laidMetH Tryd.prog (x :: y :: z :: ("strconv.ErrRange", Rows.laid_strconv_ErrRange) :: ("strconv.ErrSyntax", Rows.laid_strconv_ErrSyntax) :: rest) W) : Errs W := by
  rw [MakeChecks.laidMetH_plain _ _ _ hp] at h
  obtain ⟨a1, s1, h1, _⟩ := laid_sentinel h.tail.tail.tail g_ran ran_type Tryd.underlying74 row_es Tryd.underlying119 Tryd.underlying121 rfl rfl Tryd.underlying9 cells_es cells_str
  obtain ⟨a2, s2, h2, _⟩ := laid_sentinel h.tail.tail.tail.tail g_syn syn_type Tryd.underlying74 row_es Tryd.underlying119 Tryd.underlying121 rfl rfl Tryd.underlying9 cells_es cells_str
  exact ⟨⟨_, _, h2⟩, _, _, h1⟩

theorem cells_5str : Tryd.prog.cellsOf 61 = 5 := by kernel_rfl
theorem one_str' {H : Type} {enc : TypeId × Value → H} {w : World} {base fuel : Nat} {sp : Nat → Bool} {held : Bool} {cs : List Value} {l : List UInt8} {p : List MemPlace} (h : DataW.trod enc Tryd.prog w base sp held fuel 9 cs = some (.lit (.string l), p)) : cs = [.string ⟨l.toArray⟩] := by
  obtain ⟨s, e, hx, _⟩ := DataW.trod_string Tryd.underlying9 h
  rw [e]
  simp only [Prod.mk.injEq, DataW.lit.injEq, Lit.string.injEq] at hx
  rw [hx.1]
theorem g_wds : Tryd.prog.globalNamed "bywash/window.words" = some 0 := by kernel_rfl
theorem wds_type : (Tryd.prog.globals[0]?).map (·.type) = some 61 := by kernel_rfl
def wordsL : List (List UInt8) := [wordW 1, wordW 2, wordW 3, wordW 4, wordW 5]
theorem wds_data : (Rows.laid_bywash_window_words : DataW Unit) = .agg (wordsL.map fun s => .lit (.string s)) := rfl
theorem wds_at : ∀ i : Nat, i < 5 → wordsL.getD i [] = wordW ((i : Int) + 1) := by
  intro i hi
  obtain rfl | rfl | rfl | rfl | rfl : i = 0 ∨ i = 1 ∨ i = 2 ∨ i = 3 ∨ i = 4 := by omega
  all_goals rfl
theorem wds_head {W : World} {rest : List (String × DataW Unit)} (h : laidMet Tryd.prog (("bywash/window.words", Rows.laid_bywash_window_words) :: rest) W) : Wm W := by
  obtain ⟨ps, ⟨g', t', cs, fuel, p, q, hg', ht', hvar, hd, _, _⟩, _⟩ := h
  obtain rfl := Option.some.inj (g_wds.symm.trans hg')
  obtain rfl := Option.some.inj (wds_type.symm.trans ht')
  rw [wds_data] at hd
  obtain ⟨xs, m, _, hx, hl, hn, hat⟩ := DataW.trod_array Tryd.underlying61 hd
  rw [cells_5str] at hl
  intro i hi
  have h0 := hat i hi
  rw [cells_str] at h0
  have hxi : xs[i]? = some (xs[i]'(by omega)) := List.getElem?_eq_getElem (by omega)
  simp only [Prod.mk.injEq, DataW.agg.injEq] at hx
  have hd0 : (xs[i]'(by omega)).1 = .lit (.string (wordsL.getD i [])) := by
    have h1 : (xs.map (·.1))[i]? = some (xs[i]'(by omega)).1 := by rw [List.getElem?_map, hxi]; rfl
    rw [← hx.1, List.getElem?_map, List.getElem?_eq_getElem (show i < wordsL.length from hi)] at h1
    rw [List.getD_eq_getElem?_getD, List.getElem?_eq_getElem (show i < wordsL.length from hi)]
    exact (Option.some.inj h1).symm
  rw [hxi] at h0
  have e := one_str' (cs := (cs.toList.drop (i * 1)).take 1) (p := (xs[i]'(by omega)).2) (l := wordsL.getD i []) (by rw [h0, ← hd0])
  have hc := World.var?_cell g_wds hvar i
  rw [hc]
  have h3 : cs.toList[i]? = some (.string ⟨(wordsL.getD i []).toArray⟩) := by
    have := congrArg (·[0]?) e
    simpa [List.getElem?_take, List.getElem?_drop] using this
  rw [wds_at i hi] at h3
  simpa using h3
/-- The words stand seventh on the long list. -/
theorem wds_of {W : World} {x y z u v s : String × DataW Unit} (hp : ((x :: y :: z :: u :: v :: s :: [("bywash/window.words", Rows.laid_bywash_window_words)]).all fun x => x.2.handleName?.isNone) = true)
    (h : laidMetH Tryd.prog (x :: y :: z :: u :: v :: s :: [("bywash/window.words", Rows.laid_bywash_window_words)]) W) : Wm W := by
  rw [MakeChecks.laidMetH_plain _ _ _ hp] at h
  exact wds_head h.tail.tail.tail.tail.tail.tail
/-- They stand fifth on the short one. -/
theorem wds_ofS {W : World} {x y z u : String × DataW Unit} (hp : ((x :: y :: z :: u :: [("bywash/window.words", Rows.laid_bywash_window_words)]).all fun x => x.2.handleName?.isNone) = true)
    (h : laidMetH Tryd.prog (x :: y :: z :: u :: [("bywash/window.words", Rows.laid_bywash_window_words)]) W) : Wm W := by
  rw [MakeChecks.laidMetH_plain _ _ _ hp] at h
  exact wds_head h.tail.tail.tail.tail
/-- The months' lengths stand fourth there. -/
theorem mon_ofS {W : World} {x y z : String × DataW Unit} {rest : List (String × DataW Unit)} (hp : ((x :: y :: z :: ("bywash/calendar.monthDays", Rows.laid_bywash_calendar_monthDays) :: rest).all fun x => x.2.handleName?.isNone) = true)
    (h : laidMetH Tryd.prog (x :: y :: z :: ("bywash/calendar.monthDays", Rows.laid_bywash_calendar_monthDays) :: rest) W) : Mon W := by
  rw [MakeChecks.laidMetH_plain _ _ _ hp] at h
  exact mon_is (Lib.tabIs_of_head (rest := rest) g_mon g_mon_type Tryd.underlying101 Tryd.underlying3 int_one cells_mon h.tail.tail.tail)
set_option maxRecDepth 100000 in
theorem mx_of {W : World} (h : W.ShapedOpen Tryd.prog) : Mx W :=
  cell_of_shapedOpen_int (zero := #[.int .i64 0]) (t := 3) h (of_decide_eq_true (by kernel_rfl)) (by kernel_rfl) rfl (by kernel_rfl) (by kernel_rfl) Tryd.underlying3
theorem cells_sch : Tryd.prog.cellsOf 25 = 3 := by kernel_rfl
theorem sch_off : (Tryd.prog.fieldsOf 25).toList.map (fun f => (f.type, f.offset)) = [(3, 0), (3, 1), (3, 2)] := by kernel_rfl
section
variable {H : Type} {enc : TypeId × Value → H} {w : World} {base fuel : Nat} {sp : Nat → Bool} {held : Bool}
theorem some_int {cs : List Value} {y : DataW H × List MemPlace} (h : DataW.trod enc Tryd.prog w base sp held fuel 3 cs = some y) : ∃ k : Int, cs = [.int .i64 k] ∧ -9223372036854775808 ≤ k ∧ k ≤ 9223372036854775807 := by
  obtain ⟨n, e, _, hw⟩ := DataW.trod_int Tryd.underlying3 h
  have hb := bounds_i64 hw
  exact ⟨n, e, hb.1, hb.2⟩
set_option maxRecDepth 100000 in
theorem sch_cells {cs : List Value} {y : DataW H × List MemPlace} (h : DataW.trod enc Tryd.prog w base sp held fuel 25 cs = some y) : ∃ a b c : Int, cs = [.int .i64 a, .int .i64 b, .int .i64 c] ∧ c ≤ 9223372036854775807 := by
  obtain ⟨xs, m, _, hx, hl, hn, hat⟩ := DataW.trod_struct sch_fields h
  have hfs := sch_off
  generalize Tryd.prog.fieldsOf 25 = fs at *
  obtain ⟨fl⟩ := fs
  simp only at hfs
  rw [cells_sch] at hl
  have hfl : fl.length = 3 := by have := congrArg List.length hfs; simpa using this
  obtain ⟨f0, f1, f2, rfl⟩ := list3 hfl
  simp only [List.map_cons, List.map_nil, List.cons.injEq, Prod.mk.injEq, and_true] at hfs
  obtain ⟨⟨t0, o0⟩, ⟨t1, o1⟩, t2, o2⟩ := hfs
  obtain ⟨x0, x1, x2, rfl⟩ := list3 (hn.trans (by simp))
  obtain ⟨c0, c1, c2, rfl⟩ := list3 hl
  have h0 := hat 0 f0 rfl
  have h1 := hat 1 f1 rfl
  have h2 := hat 2 f2 rfl
  rw [t0, o0, int_one] at h0
  rw [t1, o1, int_one] at h1
  rw [t2, o2, int_one] at h2
  obtain ⟨k0, e0, _⟩ := some_int (cs := [c0]) (y := x0) (by simpa using h0)
  obtain ⟨k1, e1, _⟩ := some_int (cs := [c1]) (y := x1) (by simpa using h1)
  obtain ⟨k2, e2, b2⟩ := some_int (cs := [c2]) (y := x2) (by simpa using h2)
  simp only [List.cons.injEq, and_true] at e0 e1 e2
  exact ⟨k0, k1, k2, by rw [e0, e1, e2], b2.2⟩
end
set_option maxRecDepth 100000 in
/-- A scheme that comes in. -/
theorem openS {H : Type} {enc : TypeId × Value → H} {w : World} {b0 base : Nat} {v : Value} {d : DataW H} {p : List MemPlace} (hv : Value.okWide Tryd.prog w .any b0 25 v) (h : DataW.Trod enc Tryd.prog w base (fun _ => true) true 25 v d p) :
    ∃ a b c : Int, v = vS a b c ∧ c ≤ 9223372036854775807 := by
  obtain ⟨cs, rfl, _⟩ := okWide_struct sch_fields hv
  obtain ⟨l⟩ := cs
  obtain ⟨fuel, hf⟩ := h
  obtain ⟨a, b, c, he, hb⟩ := sch_cells hf
  have he' : l = [.int .i64 a, .int .i64 b, .int .i64 c] := by simpa [Value.cells] using he
  exact ⟨a, b, c, by rw [he'], hb⟩
theorem cells_map : Tryd.prog.cellsOf 23 = 2 := by kernel_rfl
theorem map_off : (Tryd.prog.fieldsOf 23).toList.map (fun f => (f.type, f.offset)) = [(3, 0), (3, 1)] := by kernel_rfl
theorem map_fieldsF : Tryd.prog.underlying 23 = some (.struct (Tryd.prog.fieldsOf 23)) := by kernel_rfl
theorem cells_case : Tryd.prog.cellsOf 27 = 8 := by kernel_rfl
theorem case_off : (Tryd.prog.fieldsOf 27).toList.map (fun f => (f.type, f.offset)) = [(23, 0), (25, 2), (25, 5)] := by kernel_rfl
theorem case_fields : Tryd.prog.underlying 27 = some (.struct (Tryd.prog.fieldsOf 27)) := by kernel_rfl
theorem pair2 {α : Type} {l : List α} (h : l.length = 2) : ∃ a b, l = [a, b] := by
  match l, h with
  | [a, b], _ => exact ⟨a, b, rfl⟩
theorem list8 {α : Type} {l : List α} (h : l.length = 8) : ∃ a b c d e f g i, l = [a, b, c, d, e, f, g, i] := by
  match l, h with
  | [a, b, c, d, e, f, g, i], _ => exact ⟨a, b, c, d, e, f, g, i, rfl⟩
section
variable {H : Type} {enc : TypeId × Value → H} {w : World} {base fuel : Nat} {sp : Nat → Bool} {held : Bool}
set_option maxRecDepth 100000 in
theorem map_cells {cs : List Value} {y : DataW H × List MemPlace} (h : DataW.trod enc Tryd.prog w base sp held fuel 23 cs = some y) : ∃ a b : Int, cs = [.int .i64 a, .int .i64 b] := by
  obtain ⟨xs, m, _, hx, hl, hn, hat⟩ := DataW.trod_struct map_fieldsF h
  have hfs := map_off
  generalize Tryd.prog.fieldsOf 23 = fs at *
  obtain ⟨fl⟩ := fs
  simp only at hfs
  rw [cells_map] at hl
  have hfl : fl.length = 2 := by have := congrArg List.length hfs; simpa using this
  obtain ⟨f0, f1, rfl⟩ := pair2 hfl
  simp only [List.map_cons, List.map_nil, List.cons.injEq, Prod.mk.injEq, and_true] at hfs
  obtain ⟨⟨t0, o0⟩, t1, o1⟩ := hfs
  obtain ⟨x0, x1, rfl⟩ := pair2 (hn.trans (by simp))
  obtain ⟨c0, c1, rfl⟩ := pair2 hl
  have h0 := hat 0 f0 rfl
  have h1 := hat 1 f1 rfl
  rw [t0, o0, int_one] at h0
  rw [t1, o1, int_one] at h1
  obtain ⟨k0, e0, _⟩ := some_int (cs := [c0]) (y := x0) (by simpa using h0)
  obtain ⟨k1, e1, _⟩ := some_int (cs := [c1]) (y := x1) (by simpa using h1)
  simp only [List.cons.injEq, and_true] at e0 e1
  exact ⟨k0, k1, by rw [e0, e1]⟩
set_option maxRecDepth 100000 in
theorem case_cells {cs : List Value} {y : DataW H × List MemPlace} (h : DataW.trod enc Tryd.prog w base sp held fuel 27 cs = some y) :
    ∃ k n lk la lz uk ua uz : Int, cs = [.int .i64 k, .int .i64 n, .int .i64 lk, .int .i64 la, .int .i64 lz, .int .i64 uk, .int .i64 ua, .int .i64 uz] ∧ lz ≤ 9223372036854775807 ∧ uz ≤ 9223372036854775807 := by
  obtain ⟨xs, m, _, hx, hl, hn, hat⟩ := DataW.trod_struct case_fields h
  have hfs := case_off
  generalize Tryd.prog.fieldsOf 27 = fs at *
  obtain ⟨fl⟩ := fs
  simp only at hfs
  rw [cells_case] at hl
  have hfl : fl.length = 3 := by have := congrArg List.length hfs; simpa using this
  obtain ⟨f0, f1, f2, rfl⟩ := list3 hfl
  simp only [List.map_cons, List.map_nil, List.cons.injEq, Prod.mk.injEq, and_true] at hfs
  obtain ⟨⟨t0, o0⟩, ⟨t1, o1⟩, t2, o2⟩ := hfs
  obtain ⟨x0, x1, x2, rfl⟩ := list3 (hn.trans (by simp))
  obtain ⟨c0, c1, c2, c3, c4, c5, c6, c7, rfl⟩ := list8 hl
  have h0 := hat 0 f0 rfl
  have h1 := hat 1 f1 rfl
  have h2 := hat 2 f2 rfl
  rw [t0, o0, cells_map] at h0
  rw [t1, o1, cells_sch] at h1
  rw [t2, o2, cells_sch] at h2
  obtain ⟨k, n, e0⟩ := map_cells (cs := [c0, c1]) (y := x0) (by simpa using h0)
  obtain ⟨lk, la, lz, e1, b1⟩ := sch_cells (cs := [c2, c3, c4]) (y := x1) (by simpa using h1)
  obtain ⟨uk, ua, uz, e2, b2⟩ := sch_cells (cs := [c5, c6, c7]) (y := x2) (by simpa using h2)
  simp only [List.cons.injEq, and_true] at e0 e1 e2
  obtain ⟨rfl, rfl⟩ := e0
  obtain ⟨rfl, rfl, rfl⟩ := e1
  obtain ⟨rfl, rfl, rfl⟩ := e2
  exact ⟨k, n, lk, la, lz, uk, ua, uz, rfl, b1, b2⟩
end
set_option maxRecDepth 100000 in
/-- A mapping that comes in. -/
theorem openM {H : Type} {enc : TypeId × Value → H} {w : World} {b0 base : Nat} {v : Value} {d : DataW H} {p : List MemPlace} (hv : Value.okWide Tryd.prog w .any b0 23 v) (h : DataW.Trod enc Tryd.prog w base (fun _ => true) true 23 v d p) :
    ∃ a b : Int, v = vM a b := by
  obtain ⟨cs, rfl, _⟩ := okWide_struct map_fieldsF hv
  obtain ⟨l⟩ := cs
  obtain ⟨fuel, hf⟩ := h
  obtain ⟨a, b, he⟩ := map_cells hf
  have he' : l = [.int .i64 a, .int .i64 b] := by simpa [Value.cells] using he
  exact ⟨a, b, by rw [he']⟩
set_option maxRecDepth 100000 in
/-- A case that comes in. -/
theorem openC {H : Type} {enc : TypeId × Value → H} {w : World} {b0 base : Nat} {v : Value} {d : DataW H} {p : List MemPlace} (hv : Value.okWide Tryd.prog w .any b0 27 v) (h : DataW.Trod enc Tryd.prog w base (fun _ => true) true 27 v d p) :
    ∃ k n lk la lz uk ua uz : Int, v = vC k n lk la lz uk ua uz ∧ lz ≤ 9223372036854775807 ∧ uz ≤ 9223372036854775807 := by
  obtain ⟨cs, rfl, _⟩ := okWide_struct case_fields hv
  obtain ⟨l⟩ := cs
  obtain ⟨fuel, hf⟩ := h
  obtain ⟨k, n, lk, la, lz, uk, ua, uz, he, h1, h2⟩ := case_cells hf
  have he' : l = [.int .i64 k, .int .i64 n, .int .i64 lk, .int .i64 la, .int .i64 lz, .int .i64 uk, .int .i64 ua, .int .i64 uz] := by simpa [Value.cells] using he
  exact ⟨k, n, lk, la, lz, uk, ua, uz, by rw [he'], h1, h2⟩
/-- A world for the witnesses: what the door's own run leaves. -/
noncomputable def doorWorld (os : Os) : World := World.doorLaid Tryd.prog 400 os
end Go.Proofs.YtomhiganfmoceaaDoor
