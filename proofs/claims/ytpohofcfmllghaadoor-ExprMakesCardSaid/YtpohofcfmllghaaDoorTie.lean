/-
  DERIVED. GIVEN WITH THE SEED: THE PROGRAM's TIES (one call each: nine closed facts by the kernel) AND EACH ROW's TIE, after the 31st guide's Derived/Test/Toyas{Tie, Card}.lean. No idea stands in it: it is a product of the set-up. Laid BY PROGRAM, IN A SANDBOX (cutbox-door.mjs). By AI agents, Wed Nov 11 2026. No macro, syntax, notation, axiom, sorry.
-/
import Derived.Test.YtpohofcfmllghaaDoorRows
import Derived.LaidByTextLater
import Derived.SevenTiedAt
import Derived.LaidSub
import Derived.LaidOnce
namespace Go.Proofs.YtpohofcfmllghaaDoor
open Go
set_option maxRecDepth 100000
theorem seatTie1 : Tryd.prog.laidByTextLater [("bywash/expr.comparisons", Rows.laid_bywash_expr_comparisons), ("bywash/expr.rules", Rows.laid_bywash_expr_rules)] [.data, .data] true :=
  Program.laidByTextLater_by_one 61 8 148 (by kernel_rfl) (by kernel_rfl) (by kernel_rfl) (by kernel_rfl) (by kernel_rfl) (by kernel_rfl) (fun _ _ => by kernel_rfl)
theorem noOwnUnsafe : Tryd.pinned.checked.prog.headLifts.contains "ownunsafe" = false := by kernel_rfl
theorem tie : Tryd.prog.laidByTextLater [("bywash/expr.comparisons", Rows.laid_bywash_expr_comparisons), ("bywash/expr.rules", Rows.laid_bywash_expr_rules)] [.data, .data] true :=
  Program.laidByTextLater.sub seatTie1 ["bywash/expr.comparisons", "bywash/expr.rules"] (by kernel_rfl) (by kernel_rfl)
theorem exprMakes_row_tie : Rows.exprMakesRow.laidByTextAt .later Tryd.pinned [.data, .data] true :=
  OpenClaim.laidByTextAt_later rfl rfl tie noOwnUnsafe
theorem exprMakesUpto_row_tie : Rows.exprMakesUptoRow.laidByTextAt .later Tryd.pinned [.data, .data] true :=
  OpenClaim.laidByTextAt_later rfl rfl tie noOwnUnsafe
end Go.Proofs.YtpohofcfmllghaaDoor
