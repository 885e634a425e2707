/-
  NARROWER THAN 'FOR EVERY INPUT', by the rows' own cells (each row's printed sentence says how): ExprMakes: laid.
  DERIVED. THE GIVEN ROWS OF THIS SEAT. 1 by the template 'for every input the law returns true; each argument reads behind the call as it read before'; 0 by the template 'total and deterministic' (their statements: YtpohofcfmllghaaDoorTotals.lean).
  GIVEN WITH THE SEED: the statements are not yours to turn. If you find one false, say at which input.
  Laid BY PROGRAM, IN A SANDBOX (cutbox-rows.mjs): the forced cells as the released guide's own fill.sh prints them over the translation a10b7bdfa7c1ca8c… (all of the seat's roots in one cut). By AI agents, Wed Nov 11 2026. No macro, syntax, notation, axiom, sorry.
-/
import Derived.Test.YtpohofcfmllghaaDoorChecked
import GoSem.Claim
import GoSem.ClaimJoined
import GoSem.ClaimMapViews
import Derived.JoinedTies
import Derived.KernelRfl
namespace Go.Proofs.YtpohofcfmllghaaDoor
/- THE CELL 'sum', in the pinned program and in every row, IS THE sha256 OF THE DUMP (.gsa) THAT YtpohofcfmllghaaDoorProg.lean LOADS. Nothing in Lean hashes anything: it is a label: what it is worth is what the hold of that sum in a sandbox is worth. -/
noncomputable def Tryd.pinned : Pinned := { name := "ytpohofcfmllghaadoor", sum := "a10b7bdfa7c1ca8cac8014fb25c307a989f7e79118cf6accb7db81644192ab9b", checked := Tryd.checked }
namespace Rows
def none {H : Type} : Left H := { results := [], args := [] }

/- WHAT THE LISTED PACKAGE-LEVEL VARIABLES READ AS WHEN THE CALL BEGINS. Each datum BY PROGRAM (the guide's laid-datum.mjs) off the statement by which the dump's own 'gosem.cut.vars' lays the variable. In a bare row this is a premise. The card (YtpohofcfmllghaaDoorCards.lean) ties it to the program's text. -/
def laid_bywash_expr_comparisons {H : Type} : DataW H := .agg [.lit (.string [61]), .lit (.string [33, 61]), .lit (.string [60]), .lit (.string [60, 61]), .lit (.string [62]), .lit (.string [62, 61])]
def laid_bywash_expr_rules {H : Type} : DataW H := .agg [.agg [.lit (.int .i64 3), .lit (.string [45]), .lit (.int .i64 1), .agg [.lit (.int .i64 1), .lit (.int .i64 0), .lit (.int .i64 0)], .lit (.int .i64 1)], .agg [.lit (.int .i64 3), .lit (.string [110, 111, 116]), .lit (.int .i64 1), .agg [.lit (.int .i64 0), .lit (.int .i64 0), .lit (.int .i64 0)], .lit (.int .i64 1)], .agg [.lit (.int .i64 4), .lit (.string [43]), .lit (.int .i64 2), .agg [.lit (.int .i64 1), .lit (.int .i64 1), .lit (.int .i64 0)], .lit (.int .i64 1)], .agg [.lit (.int .i64 4), .lit (.string [45]), .lit (.int .i64 2), .agg [.lit (.int .i64 1), .lit (.int .i64 1), .lit (.int .i64 0)], .lit (.int .i64 1)], .agg [.lit (.int .i64 4), .lit (.string [42]), .lit (.int .i64 2), .agg [.lit (.int .i64 1), .lit (.int .i64 1), .lit (.int .i64 0)], .lit (.int .i64 1)], .agg [.lit (.int .i64 4), .lit (.string [47]), .lit (.int .i64 2), .agg [.lit (.int .i64 1), .lit (.int .i64 1), .lit (.int .i64 0)], .lit (.int .i64 1)], .agg [.lit (.int .i64 4), .lit (.string [37]), .lit (.int .i64 2), .agg [.lit (.int .i64 1), .lit (.int .i64 1), .lit (.int .i64 0)], .lit (.int .i64 1)], .agg [.lit (.int .i64 4), .lit (.string [61]), .lit (.int .i64 2), .agg [.lit (.int .i64 3), .lit (.int .i64 3), .lit (.int .i64 0)], .lit (.int .i64 1)], .agg [.lit (.int .i64 4), .lit (.string [33, 61]), .lit (.int .i64 2), .agg [.lit (.int .i64 3), .lit (.int .i64 3), .lit (.int .i64 0)], .lit (.int .i64 1)], .agg [.lit (.int .i64 4), .lit (.string [60]), .lit (.int .i64 2), .agg [.lit (.int .i64 3), .lit (.int .i64 3), .lit (.int .i64 0)], .lit (.int .i64 1)], .agg [.lit (.int .i64 4), .lit (.string [60, 61]), .lit (.int .i64 2), .agg [.lit (.int .i64 3), .lit (.int .i64 3), .lit (.int .i64 0)], .lit (.int .i64 1)], .agg [.lit (.int .i64 4), .lit (.string [62]), .lit (.int .i64 2), .agg [.lit (.int .i64 3), .lit (.int .i64 3), .lit (.int .i64 0)], .lit (.int .i64 1)], .agg [.lit (.int .i64 4), .lit (.string [62, 61]), .lit (.int .i64 2), .agg [.lit (.int .i64 3), .lit (.int .i64 3), .lit (.int .i64 0)], .lit (.int .i64 1)], .agg [.lit (.int .i64 4), .lit (.string [97, 110, 100]), .lit (.int .i64 2), .agg [.lit (.int .i64 0), .lit (.int .i64 0), .lit (.int .i64 0)], .lit (.int .i64 1)], .agg [.lit (.int .i64 4), .lit (.string [111, 114]), .lit (.int .i64 2), .agg [.lit (.int .i64 0), .lit (.int .i64 0), .lit (.int .i64 0)], .lit (.int .i64 1)], .agg [.lit (.int .i64 5), .lit (.string [108, 101, 110]), .lit (.int .i64 1), .agg [.lit (.int .i64 2), .lit (.int .i64 0), .lit (.int .i64 0)], .lit (.int .i64 1)], .agg [.lit (.int .i64 5), .lit (.string [97, 98, 115]), .lit (.int .i64 1), .agg [.lit (.int .i64 1), .lit (.int .i64 0), .lit (.int .i64 0)], .lit (.int .i64 1)], .agg [.lit (.int .i64 5), .lit (.string [105, 115, 110, 117, 108, 108]), .lit (.int .i64 1), .agg [.lit (.int .i64 0), .lit (.int .i64 0), .lit (.int .i64 0)], .lit (.int .i64 1)], .agg [.lit (.int .i64 5), .lit (.string [99, 97, 116]), .lit (.int .i64 2), .agg [.lit (.int .i64 2), .lit (.int .i64 2), .lit (.int .i64 0)], .lit (.int .i64 2)], .agg [.lit (.int .i64 5), .lit (.string [101, 105, 116, 104, 101, 114]), .lit (.int .i64 2), .agg [.lit (.int .i64 3), .lit (.int .i64 3), .lit (.int .i64 0)], .lit (.int .i64 3)], .agg [.lit (.int .i64 5), .lit (.string [105, 102]), .lit (.int .i64 3), .agg [.lit (.int .i64 0), .lit (.int .i64 3), .lit (.int .i64 3)], .lit (.int .i64 3)]]

/-- 'bywashlaw04.ExprMakes': WHATEVER THE INPUT: true; the input reads as it did. -/
def exprMakesSpec : ChangeSpec := { name := "exprMakes", fn := fun _ => fun
  | [d1, d2, d3] => { results := [.lit (.bool true)], args := [d1, d2, d3] }
  | _ => none }
def exprMakesRow : OpenClaim := { program := "ytpohofcfmllghaadoor", sum := "a10b7bdfa7c1ca8cac8014fb25c307a989f7e79118cf6accb7db81644192ab9b", func := "bywash/bywashlaw04.ExprMakes", spec := "exprMakes", inPlace := ["internal/bytealg.IndexByteString"], unfollowed := true, recurses := true, named := ["bywash/expr.rules", "bywash/expr.comparisons"], apart := false, laid := [("bywash/expr.comparisons", laid_bywash_expr_comparisons), ("bywash/expr.rules", laid_bywash_expr_rules)] }
def ExprMakesSaid : Prop := exprMakesRow.holds Tryd.pinned (OpenSpec.ofChange exprMakesSpec)

/-- ITS FALSE NEIGHBOUR: 'it returns false'. Refute it at one input. -/
def exprMakesWrong : ChangeSpec := { name := "exprMakes", fn := fun _ => fun
  | [d1, d2, d3] => { results := [.lit (.bool false)], args := [d1, d2, d3] }
  | _ => none }
def ExprMakesWrongFalsely : Prop := exprMakesRow.holds Tryd.pinned (OpenSpec.ofChange exprMakesWrong)

/- THE SECOND FORM. 'bulk': how many values and letters a reading holds, each counted each time it is reached (what is shared counts as often as it is met; a slice's spare places count too). A statement '..UptoSaid' is the law's where the arguments, and the package variables that the reading takes, are together of bulk at most 1048576: NARROWER than '..Said'. Prove '..Said' where nothing that the law and all that it calls make is longer than what came in: it says more and counts as full. Else prove '..UptoSaid'. A law counts once. -/
mutual
def uptoBulk {H : Type} : DataW H → Nat
  | .lit (.string bytes) => bytes.length + 1
  | .lit _ => 1
  | .nil => 1
  | .ptr d => uptoBulk d + 1
  | .slice elems spare => uptoBulkAll elems + uptoBulkAll spare + 1
  | .agg parts => uptoBulkAll parts + 1
  | .iface _ d => uptoBulk d + 1
  | .map entries => uptoBulkEntries entries + 1
  | .held _ => 1
def uptoBulkAll {H : Type} : List (DataW H) → Nat
  | [] => 0
  | d :: r => uptoBulk d + uptoBulkAll r
def uptoBulkEntries {H : Type} : List (Lit × DataW H) → Nat
  | [] => 0
  | x :: r => uptoBulkEntry x + uptoBulkEntries r
def uptoBulkEntry {H : Type} : Lit × DataW H → Nat
  | (.string bytes, d) => bytes.length + uptoBulk d + 1
  | (_, d) => uptoBulk d + 1
 end
def uptoSmall : (H : Type) → List (DataW H) → Bool := fun _ ds => decide (uptoBulkAll ds ≤ 1048576)
def OpenSpec.upto (s : _root_.Go.ChangeSpec) : _root_.Go.OpenSpec := { _root_.Go.OpenSpec.ofChange s with cond := some uptoSmall }

/-- 'bywashlaw04.ExprMakes', WHERE WHAT IT READS IS OF BULK AT MOST 1048576: true; the input reads as it did. -/
def exprMakesUptoRow : OpenClaim := { program := "ytpohofcfmllghaadoor", sum := "a10b7bdfa7c1ca8cac8014fb25c307a989f7e79118cf6accb7db81644192ab9b", func := "bywash/bywashlaw04.ExprMakes", spec := "exprMakes", inPlace := ["internal/bytealg.IndexByteString"], unfollowed := true, recurses := true, named := ["bywash/expr.rules", "bywash/expr.comparisons"], apart := false, laid := [("bywash/expr.comparisons", laid_bywash_expr_comparisons), ("bywash/expr.rules", laid_bywash_expr_rules)], narrowed := true }
def ExprMakesUptoSaid : Prop := exprMakesUptoRow.holds Tryd.pinned (OpenSpec.upto exprMakesSpec)

end Rows
end Go.Proofs.YtpohofcfmllghaaDoor
