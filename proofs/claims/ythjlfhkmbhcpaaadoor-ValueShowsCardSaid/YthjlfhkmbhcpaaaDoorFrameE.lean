/-
  The two listed errors of strconv: what the rows' lists give of them.
-/
import Derived.Test.YthjlfhkmbhcpaaaDoorFrame
import Derived.Test.YthjlfhkmbhcpaaaDoorRead
namespace Go.Proofs.YthjlfhkmbhcpaaaDoor
open Go.ChangeShapes Go.WideShapes Go.ChangeAt Go.RowKit Go.Joins

theorem ran_type : (Tryd.prog.globals[3]?).map (·.type) = some 68 := by kernel_rfl
theorem syn_type : (Tryd.prog.globals[2]?).map (·.type) = some 68 := by kernel_rfl
theorem cells_es : Tryd.prog.cellsOf 105 = 1 := by kernel_rfl
theorem cells_str : Tryd.prog.cellsOf 9 = 1 := by kernel_rfl
theorem row_es (u : TypeId) (h : Tryd.prog.typeName? 3 u = some "*errors.errorString") : u = 103 :=
  typeName_ptr_named (nm := "errors.errorString") (by rw [show "*" ++ "errors.errorString" = "*errors.errorString" by decide]; kernel_rfl) (by kernel_rfl) (by decide) u (by rw [show "*" ++ "errors.errorString" = "*errors.errorString" by decide]; exact h)

/-- The two errors stand fourth and fifth on the list. -/
theorem errs_of {W : World} {x y z : String × DataW Unit} (hp : ((x :: y :: z :: ("strconv.ErrRange", Rows.laid_strconv_ErrRange) :: ("strconv.ErrSyntax", Rows.laid_strconv_ErrSyntax) :: []).all fun x => x.2.handleName?.isNone) = true)
    (h : laidMetH Tryd.prog (x :: y :: z :: ("strconv.ErrRange", Rows.laid_strconv_ErrRange) :: ("strconv.ErrSyntax", Rows.laid_strconv_ErrSyntax) :: []) W) : Errs W := by
  rw [MakeChecks.laidMetH_plain _ _ _ hp] at h
  obtain ⟨a1, s1, h1, _⟩ := laid_sentinel h.tail.tail.tail g_ran ran_type Tryd.underlying68 row_es Tryd.underlying103 Tryd.underlying105 rfl rfl Tryd.underlying9 cells_es cells_str
  obtain ⟨a2, s2, h2, _⟩ := laid_sentinel h.tail.tail.tail.tail g_syn syn_type Tryd.underlying68 row_es Tryd.underlying103 Tryd.underlying105 rfl rfl Tryd.underlying9 cells_es cells_str
  exact ⟨⟨_, _, h2⟩, _, _, h1⟩
end Go.Proofs.YthjlfhkmbhcpaaaDoor
