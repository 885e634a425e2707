/-
  What every law's proof of the calendar seat shares: the listed tables; how a date comes in; worlds for the witnesses.
-/
import Derived.Test.YtnopejobefkflaaDoorCards
import Derived.Test.YtnopejobefkflaaDoorTie
import Derived.Test.YtnopejobefkflaaDoorCNum
import Derived.WalkKit
import Derived.ProofKit
import Derived.OpenShut
import Derived.LaidMore
import Derived.MakeChecks
import Derived.Stop.LaidErr
import Derived.Deep.DeepHandedRow
import Derived.Deep.DeepWitnessRowRef
import Derived.Lib.LaidTab
import Derived.Lib.SmallJoins
import Derived.Deep.Slices
import Derived.SliceStrings
import Derived.Carry
import Derived.Shelf.Vars
namespace Go.Proofs.YtnopejobefkflaaDoor
open Go.ChangeShapes Go.WideShapes Go.ChangeAt Go.RowKit Go.Joins Go.Deep

theorem own : ownKnob Tryd.prog.godebug = none := by kernel_rfl
theorem laidOut' : laidOutB Tryd.prog = true := by kernel_rfl
theorem mem_lt {p q : List MemPlace} {n : Nat} (h : ∀ x ∈ p ++ q, x.block < n) : (∀ x ∈ p, x.block < n) ∧ ∀ x ∈ q, x.block < n :=
  ⟨fun x hx => h x (List.mem_append_left _ hx), fun x hx => h x (List.mem_append_right _ hx)⟩
theorem g_tab_type : (Tryd.prog.globals[1]?).map (·.type) = some 64 := by kernel_rfl
theorem cells_tab : Tryd.prog.cellsOf 64 = 20 := by kernel_rfl
theorem cells_u64 : Tryd.prog.cellsOf 57 = 1 := by kernel_rfl
theorem g_mon : Tryd.prog.globalNamed "bywash/calendar.monthDays" = some 0 := by kernel_rfl
theorem g_mon_type : (Tryd.prog.globals[0]?).map (·.type) = some 48 := by kernel_rfl
theorem int_one : Tryd.prog.cellsOf 3 = 1 := by kernel_rfl
theorem cells_mon : Tryd.prog.cellsOf 48 = 12 := by kernel_rfl
/-- The table of powers of ten stands third on each list. -/
theorem tab_of {W : World} {x y : String × DataW Unit} {rest : List (String × DataW Unit)} (hp : ((x :: y :: ("internal/strconv.uint64pow10", Rows.laid_internal_strconv_uint64pow10) :: rest).all fun x => x.2.handleName?.isNone) = true)
    (h : laidMetH Tryd.prog (x :: y :: ("internal/strconv.uint64pow10", Rows.laid_internal_strconv_uint64pow10) :: rest) W) : Tab W := by
  rw [MakeChecks.laidMetH_plain _ _ _ hp] at h
  exact Lib.tabIs_of_head (rest := rest) g_tab g_tab_type Tryd.underlying64 Tryd.underlying57 cells_u64 cells_tab h.tail.tail
theorem mon_is {W : World} (h : Lib.TabIs Tryd.prog W "bywash/calendar.monthDays" .i64 monT) : Mon W := fun i hi => h.cell g_mon i hi
/-- The months' lengths stand fourth on the short list, sixth on the long one. -/
theorem mon_of {W : World} {x y z : String × DataW Unit} (hp : ((x :: y :: z :: [("bywash/calendar.monthDays", Rows.laid_bywash_calendar_monthDays)]).all fun x => x.2.handleName?.isNone) = true)
    (h : laidMetH Tryd.prog (x :: y :: z :: [("bywash/calendar.monthDays", Rows.laid_bywash_calendar_monthDays)]) W) : Mon W := by
  rw [MakeChecks.laidMetH_plain _ _ _ hp] at h
  exact mon_is (Lib.tabIs_of_head (rest := []) g_mon g_mon_type Tryd.underlying48 Tryd.underlying3 int_one cells_mon h.tail.tail.tail)
theorem mon_of' {W : World} {x y z u v : String × DataW Unit} (hp : ((x :: y :: z :: u :: v :: [("bywash/calendar.monthDays", Rows.laid_bywash_calendar_monthDays)]).all fun x => x.2.handleName?.isNone) = true)
    (h : laidMetH Tryd.prog (x :: y :: z :: u :: v :: [("bywash/calendar.monthDays", Rows.laid_bywash_calendar_monthDays)]) W) : Mon W := by
  rw [MakeChecks.laidMetH_plain _ _ _ hp] at h
  exact mon_is (Lib.tabIs_of_head (rest := []) g_mon g_mon_type Tryd.underlying48 Tryd.underlying3 int_one cells_mon h.tail.tail.tail.tail.tail)
theorem ran_type : (Tryd.prog.globals[3]?).map (·.type) = some 53 := by kernel_rfl
theorem syn_type : (Tryd.prog.globals[2]?).map (·.type) = some 53 := by kernel_rfl
theorem cells_es : Tryd.prog.cellsOf 88 = 1 := by kernel_rfl
theorem cells_str : Tryd.prog.cellsOf 9 = 1 := by kernel_rfl
theorem row_es (u : TypeId) (h : Tryd.prog.typeName? 3 u = some "*errors.errorString") : u = 86 :=
  typeName_ptr_named (nm := "errors.errorString") (by rw [show "*" ++ "errors.errorString" = "*errors.errorString" by decide]; kernel_rfl) (by kernel_rfl) (by decide) u (by rw [show "*" ++ "errors.errorString" = "*errors.errorString" by decide]; exact h)
/-- The two errors stand fourth and fifth on the long list. -/
theorem errs_of {W : World} {x y z : String × DataW Unit} {rest : List (String × DataW Unit)} (hp : ((x :: y :: z :: ("strconv.ErrRange", Rows.laid_strconv_ErrRange) :: ("strconv.ErrSyntax", Rows.laid_strconv_ErrSyntax) :: rest).all fun x => x.2.handleName?.isNone) = true)
    (h : laidMetH Tryd.prog (x :: y :: z :: ("strconv.ErrRange", Rows.laid_strconv_ErrRange) :: ("strconv.ErrSyntax", Rows.laid_strconv_ErrSyntax) :: rest) W) : Errs W := by
  rw [MakeChecks.laidMetH_plain _ _ _ hp] at h
  obtain ⟨a1, s1, h1, _⟩ := laid_sentinel h.tail.tail.tail g_ran ran_type Tryd.underlying53 row_es Tryd.underlying86 Tryd.underlying88 rfl rfl Tryd.underlying9 cells_es cells_str
  obtain ⟨a2, s2, h2, _⟩ := laid_sentinel h.tail.tail.tail.tail g_syn syn_type Tryd.underlying53 row_es Tryd.underlying86 Tryd.underlying88 rfl rfl Tryd.underlying9 cells_es cells_str
  exact ⟨⟨_, _, h2⟩, _, _, h1⟩

theorem cells_date : Tryd.prog.cellsOf 23 = 6 := by kernel_rfl
theorem date_off : (Tryd.prog.fieldsOf 23).toList.map (fun f => (f.type, f.offset)) = [(3, 0), (3, 1), (3, 2), (3, 3), (3, 4), (3, 5)] := by kernel_rfl
section
variable {H : Type} {enc : TypeId × Value → H} {w : World} {base fuel : Nat} {sp : Nat → Bool} {held : Bool}
theorem some_int {cs : List Value} {y : DataW H × List MemPlace} (h : DataW.trod enc Tryd.prog w base sp held fuel 3 cs = some y) : ∃ k : Int, cs = [.int .i64 k] := by
  obtain ⟨n, e, _, hw⟩ := DataW.trod_int Tryd.underlying3 h
  exact ⟨n, e⟩
set_option maxRecDepth 100000 in
theorem date_cells {cs : List Value} {y : DataW H × List MemPlace} (h : DataW.trod enc Tryd.prog w base sp held fuel 23 cs = some y) : ∃ a b c d e f : Int, cs = [.int .i64 a, .int .i64 b, .int .i64 c, .int .i64 d, .int .i64 e, .int .i64 f] := by
  obtain ⟨xs, m, _, hx, hl, hn, hat⟩ := DataW.trod_struct date_fields h
  have hfs := date_off
  generalize Tryd.prog.fieldsOf 23 = fs at *
  obtain ⟨fl⟩ := fs
  simp only at hfs
  rw [cells_date] at hl
  have hfl : fl.length = 6 := by have := congrArg List.length hfs; simpa using this
  obtain ⟨f0, f1, f2, f3, f4, f5, rfl⟩ := list6 hfl
  simp only [List.map_cons, List.map_nil, List.cons.injEq, Prod.mk.injEq, and_true] at hfs
  obtain ⟨⟨t0, o0⟩, ⟨t1, o1⟩, ⟨t2, o2⟩, ⟨t3, o3⟩, ⟨t4, o4⟩, t5, o5⟩ := hfs
  obtain ⟨x0, x1, x2, x3, x4, x5, rfl⟩ := list6 (hn.trans (by simp))
  obtain ⟨c0, c1, c2, c3, c4, c5, rfl⟩ := list6 hl
  have h0 := hat 0 f0 rfl
  have h1 := hat 1 f1 rfl
  have h2 := hat 2 f2 rfl
  have h3 := hat 3 f3 rfl
  have h4 := hat 4 f4 rfl
  have h5 := hat 5 f5 rfl
  rw [t0, o0, int_one] at h0
  rw [t1, o1, int_one] at h1
  rw [t2, o2, int_one] at h2
  rw [t3, o3, int_one] at h3
  rw [t4, o4, int_one] at h4
  rw [t5, o5, int_one] at h5
  obtain ⟨k0, e0⟩ := some_int (cs := [c0]) (by simpa using h0)
  obtain ⟨k1, e1⟩ := some_int (cs := [c1]) (by simpa using h1)
  obtain ⟨k2, e2⟩ := some_int (cs := [c2]) (by simpa using h2)
  obtain ⟨k3, e3⟩ := some_int (cs := [c3]) (by simpa using h3)
  obtain ⟨k4, e4⟩ := some_int (cs := [c4]) (by simpa using h4)
  obtain ⟨k5, e5⟩ := some_int (cs := [c5]) (by simpa using h5)
  simp only [List.cons.injEq, and_true] at e0 e1 e2 e3 e4 e5
  exact ⟨k0, k1, k2, k3, k4, k5, by rw [e0, e1, e2, e3, e4, e5]⟩
end
set_option maxRecDepth 100000 in
/-- A date that comes in. -/
theorem openD {H : Type} {enc : TypeId × Value → H} {w : World} {b0 base : Nat} {v : Value} {d : DataW H} {p : List MemPlace} (hv : Value.okWide Tryd.prog w .any b0 23 v) (h : DataW.Trod enc Tryd.prog w base (fun _ => true) true 23 v d p) :
    ∃ a b c d e f : Int, v = vD a b c d e f := by
  obtain ⟨cs, rfl, _⟩ := okWide_struct date_fields hv
  obtain ⟨l⟩ := cs
  obtain ⟨fuel, hf⟩ := h
  obtain ⟨a, b, c, d, e, f, he⟩ := date_cells hf
  have he' : l = [.int .i64 a, .int .i64 b, .int .i64 c, .int .i64 d, .int .i64 e, .int .i64 f] := by simpa [Value.cells] using he
  exact ⟨a, b, c, d, e, f, by rw [he']⟩
/-- A block whose cells are these. -/
def tabObj (c : Array Value) : Obj → Obj
  | .cells _ t frozen => .cells c t frozen
  | o => o
def litV : DataW Unit → Value
  | .lit (.int k n) => .int k n
  | _ => .bool false
def cellsD : DataW Unit → Array Value
  | .agg l => (l.map litV).toArray
  | _ => #[]
/-- A world for the witnesses: the settled one, each listed table holding what its initialiser lays. -/
noncomputable def tabWorld (os : Os) : World :=
  let w0 := World.holding Tryd.prog os ⟨#[], #[], []⟩
  { w0 with heap := (((w0.heap.modify 1 (tabObj (cellsD Rows.laid_internal_strconv_uint64pow10))).modify 4 (tabObj (cellsD Rows.laid_math_bits_deBruijn32tab))).modify 5 (tabObj (cellsD Rows.laid_math_bits_deBruijn64tab))).modify 0 (tabObj (cellsD Rows.laid_bywash_calendar_monthDays)) }
/-- A world for the witnesses: what the door's own run leaves. -/
noncomputable def doorWorld (os : Os) : World := World.doorLaid Tryd.prog 400 os
end Go.Proofs.YtnopejobefkflaaDoor
