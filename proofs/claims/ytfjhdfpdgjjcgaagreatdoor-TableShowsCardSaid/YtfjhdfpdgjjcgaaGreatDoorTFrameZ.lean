/-
  What the rows with strconv's errors share besides: the two listed errors, the library's variable, a world for the witness.
-/
import Derived.Test.YtfjhdfpdgjjcgaaGreatDoorTFrame
import Derived.Test.YtfjhdfpdgjjcgaaGreatDoorZV
import Derived.Test.YtfjhdfpdgjjcgaaGreatDoorZS
namespace Go.Proofs.YtfjhdfpdgjjcgaaGreatDoor
open Go.ChangeShapes Go.WideShapes Go.ChangeAt Go.RowKit Go.Joins Go.Deep

theorem ran_type : (Tryz.prog.globals[5]?).map (·.type) = some 75 := by kernel_rfl
theorem syn_type : (Tryz.prog.globals[4]?).map (·.type) = some 75 := by kernel_rfl
theorem cells_es : Tryz.prog.cellsOf 196 = 1 := by kernel_rfl
theorem cells_str : Tryz.prog.cellsOf 9 = 1 := by kernel_rfl
theorem row_es (u : TypeId) (h : Tryz.prog.typeName? 3 u = some "*errors.errorString") : u = 194 :=
  typeName_ptr_named (nm := "errors.errorString") (by rw [show "*" ++ "errors.errorString" = "*errors.errorString" by decide]; kernel_rfl) (by kernel_rfl) (by decide) u (by rw [show "*" ++ "errors.errorString" = "*errors.errorString" by decide]; exact h)

/-- The two errors stand fifth and sixth on the list. -/
theorem errs_of {W : World} {x y z u : String × DataW Unit} {rest : List (String × DataW Unit)} (hp : ((x :: y :: z :: u :: ("strconv.ErrRange", Rows.laid_strconv_ErrRange) :: ("strconv.ErrSyntax", Rows.laid_strconv_ErrSyntax) :: rest).all fun x => x.2.handleName?.isNone) = true)
    (h : laidMetH Tryz.prog (x :: y :: z :: u :: ("strconv.ErrRange", Rows.laid_strconv_ErrRange) :: ("strconv.ErrSyntax", Rows.laid_strconv_ErrSyntax) :: rest) W) : Errs W := by
  rw [MakeChecks.laidMetH_plain _ _ _ hp] at h
  obtain ⟨a1, s1, h1, _⟩ := laid_sentinel h.tail.tail.tail.tail g_ran ran_type Tryz.underlying75 row_es Tryz.underlying194 Tryz.underlying196 rfl rfl Tryz.underlying9 cells_es cells_str
  obtain ⟨a2, s2, h2, _⟩ := laid_sentinel h.tail.tail.tail.tail.tail g_syn syn_type Tryz.underlying75 row_es Tryz.underlying194 Tryz.underlying196 rfl rfl Tryz.underlying9 cells_es cells_str
  exact ⟨⟨_, _, h2⟩, _, _, h1⟩
set_option maxRecDepth 100000 in
theorem mx_of {W : World} (h : W.ShapedOpen Tryz.prog) : Mx W :=
  cell_of_shapedOpen_int (zero := #[.int .i64 0]) (t := 3) h (of_decide_eq_true (by kernel_rfl)) (by kernel_rfl) rfl (by kernel_rfl) (by kernel_rfl) Tryz.underlying3
def litV : DataW Unit → Value
  | .lit (.int k n) => .int k n
  | _ => .bool false
def cellsD : DataW Unit → List Value
  | .agg l => l.map litV
  | d => [litV d]
def cellsDD : DataW Unit → Array Value
  | .agg l => (l.flatMap cellsD).toArray
  | _ => #[]
/-- A world for the witnesses: what the door's own run leaves, and the two tables of utf8. -/
noncomputable def doorWorld (os : Os) : World :=
  let w0 := World.doorLaid Tryz.prog 400 os
  { w0 with heap := (w0.heap.modify 3 (tabObj (cellsDD Rows.laid_unicode_utf8_acceptRanges))).modify 2 (tabObj (cellsDD Rows.laid_unicode_utf8_first)) }
end Go.Proofs.YtfjhdfpdgjjcgaaGreatDoor
