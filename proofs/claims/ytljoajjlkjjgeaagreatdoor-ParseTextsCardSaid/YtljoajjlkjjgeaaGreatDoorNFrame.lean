/-
  What every law's proof of the lexer's seat shares: the listed variables; a world for the witnesses.
-/
import Derived.Test.YtljoajjlkjjgeaaGreatDoorCards
import Derived.Test.YtljoajjlkjjgeaaGreatDoorTie
import Derived.Test.YtljoajjlkjjgeaaGreatDoorNAwake
import Derived.WalkKit
import Derived.ProofKit
import Derived.OpenShut
import Derived.LaidMore
import Derived.MakeChecks
import Derived.Stop.LaidErr
import Derived.Deep.DeepHandedRow
import Derived.Deep.DeepWitnessRowRef
import Derived.Lib.LaidTab
import Derived.Lib.SmallJoins
import Derived.Deep.Slices
import Derived.SliceStrings
import Derived.Carry
import Derived.Shelf.Vars
namespace Go.Proofs.YtljoajjlkjjgeaaGreatDoor
open Go.ChangeShapes Go.WideShapes Go.ChangeAt Go.RowKit Go.Joins Go.Deep LM

theorem own : ownKnob Tryz.prog.godebug = none := by kernel_rfl
theorem laidOut' : laidOutB Tryz.prog = true := by kernel_rfl
theorem mem_lt {p q : List MemPlace} {n : Nat} (h : ∀ x ∈ p ++ q, x.block < n) : (∀ x ∈ p, x.block < n) ∧ ∀ x ∈ q, x.block < n :=
 ⟨fun x hx => h x (List.mem_append_left _ hx), fun x hx => h x (List.mem_append_right _ hx)⟩
theorem g_tab_type : (Tryz.prog.globals[0]?).map (·.type) = some 179 := by kernel_rfl
theorem cells_tab : Tryz.prog.cellsOf 179 = 20 := by kernel_rfl
theorem cells_u64 : Tryz.prog.cellsOf 162 = 1 := by kernel_rfl
/-- The table of powers of ten stands third on each list. -/
theorem tab_of {W : World} {x y : String × DataW Unit} {rest : List (String × DataW Unit)} (hp : ((x :: y :: ("internal/strconv.uint64pow10", Rows.laid_internal_strconv_uint64pow10) :: rest).all fun x => x.2.handleName?.isNone) = true)
  (h : laidMetH Tryz.prog (x :: y :: ("internal/strconv.uint64pow10", Rows.laid_internal_strconv_uint64pow10) :: rest) W) : Tab W := by
 rw [MakeChecks.laidMetH_plain _ _ _ hp] at h
 exact Lib.tabIs_of_head (rest := rest) g_tab g_tab_type Tryz.underlying179 Tryz.underlying162 cells_u64 cells_tab h.tail.tail
theorem ran_type : (Tryz.prog.globals[5]?).map (·.type) = some 119 := by kernel_rfl
theorem syn_type : (Tryz.prog.globals[4]?).map (·.type) = some 119 := by kernel_rfl
theorem cells_es : Tryz.prog.cellsOf 213 = 1 := by kernel_rfl
theorem cells_str : Tryz.prog.cellsOf 9 = 1 := by kernel_rfl
theorem row_es (u : TypeId) (h : Tryz.prog.typeName? 3 u = some "*errors.errorString") : u = 211 :=
 typeName_ptr_named (nm := "errors.errorString") (by rw [show "*" ++ "errors.errorString" = "*errors.errorString" by decide]; kernel_rfl) (by kernel_rfl) (by decide) u (by rw [show "*" ++ "errors.errorString" = "*errors.errorString" by decide]; exact h)
/-- The two errors stand fourth and fifth on the long list. -/
theorem errs_of {W : World} {x y z : String × DataW Unit} {rest : List (String × DataW Unit)} (hp : ((x :: y :: z :: ("strconv.ErrRange", Rows.laid_strconv_ErrRange) :: ("strconv.ErrSyntax", Rows.laid_strconv_ErrSyntax) :: rest).all fun x => x.2.handleName?.isNone) = true)
  (h : laidMetH Tryz.prog (x :: y :: z :: ("strconv.ErrRange", Rows.laid_strconv_ErrRange) :: ("strconv.ErrSyntax", Rows.laid_strconv_ErrSyntax) :: rest) W) : Errs W := by
 rw [MakeChecks.laidMetH_plain _ _ _ hp] at h
 obtain ⟨a1, s1, h1, _⟩ := laid_sentinel h.tail.tail.tail g_ran ran_type Tryz.underlying119 row_es Tryz.underlying211 Tryz.underlying213 rfl rfl Tryz.underlying9 cells_es cells_str
 obtain ⟨a2, s2, h2, _⟩ := laid_sentinel h.tail.tail.tail.tail g_syn syn_type Tryz.underlying119 row_es Tryz.underlying211 Tryz.underlying213 rfl rfl Tryz.underlying9 cells_es cells_str
 exact ⟨⟨_, _, h2⟩, _, _, h1⟩

theorem cells_18str : Tryz.prog.cellsOf 189 = 18 := by kernel_rfl
theorem one_str' {H : Type} {enc : TypeId × Value → H} {w : World} {base fuel : Nat} {sp : Nat → Bool} {held : Bool} {cs : List Value} {l : List UInt8} {p : List MemPlace} (h : DataW.trod enc Tryz.prog w base sp held fuel 9 cs = some (.lit (.string l), p)) : cs = [.string ⟨l.toArray⟩] := by
 obtain ⟨s, e, hx, _⟩ := DataW.trod_string Tryz.underlying9 h
 rw [e]
 simp only [Prod.mk.injEq, DataW.lit.injEq, Lit.string.injEq] at hx
 rw [hx.1]
theorem g_sgs : Tryz.prog.globalNamed "bywash/lex.signs" = some 1 := by kernel_rfl
theorem sgs_type : (Tryz.prog.globals[1]?).map (·.type) = some 189 := by kernel_rfl
theorem sgs_data : (Rows.laid_bywash_lex_signs : DataW Unit) = .agg (signsL.map fun s => .lit (.string s)) := rfl
theorem sgs_head {W : World} {rest : List (String × DataW Unit)} (h : laidMet Tryz.prog (("bywash/lex.signs", Rows.laid_bywash_lex_signs) :: rest) W) : Sg W := by
 obtain ⟨ps, ⟨g', t', cs, fuel, p, q, hg', ht', hvar, hd, _, _⟩, _⟩ := h
 obtain rfl := Option.some.inj (g_sgs.symm.trans hg')
 obtain rfl := Option.some.inj (sgs_type.symm.trans ht')
 rw [sgs_data] at hd
 obtain ⟨xs, m, _, hx, hl, hn, hat⟩ := DataW.trod_array Tryz.underlying189 hd
 rw [cells_18str] at hl
 intro i hi
 have h0 := hat i hi
 rw [cells_str] at h0
 have hxi : xs[i]? = some (xs[i]'(by omega)) := List.getElem?_eq_getElem (by omega)
 simp only [Prod.mk.injEq, DataW.agg.injEq] at hx
 have hd0 : (xs[i]'(by omega)).1 = .lit (.string (signsL.getD i [])) := by
  have h1 : (xs.map (·.1))[i]? = some (xs[i]'(by omega)).1 := by rw [List.getElem?_map, hxi]; rfl
  rw [← hx.1, List.getElem?_map, List.getElem?_eq_getElem (show i < signsL.length from hi)] at h1
  rw [List.getD_eq_getElem?_getD, List.getElem?_eq_getElem (show i < signsL.length from hi)]
  exact (Option.some.inj h1).symm
 rw [hxi] at h0
 have e := one_str' (cs := (cs.toList.drop (i * 1)).take 1) (p := (xs[i]'(by omega)).2) (l := signsL.getD i []) (by rw [h0, ← hd0])
 have hc := World.var?_cell g_sgs hvar i
 rw [hc]
 have h3 : cs.toList[i]? = some (.string ⟨(signsL.getD i []).toArray⟩) := by
  have := congrArg (·[0]?) e
  simpa [List.getElem?_take, List.getElem?_drop] using this
 simpa using h3
/-- The signs stand sixth. -/
theorem sg_of {W : World} {x y z u v : String × DataW Unit} (hp : ((x :: y :: z :: u :: v :: [("bywash/lex.signs", Rows.laid_bywash_lex_signs)]).all fun x => x.2.handleName?.isNone) = true)
  (h : laidMetH Tryz.prog (x :: y :: z :: u :: v :: [("bywash/lex.signs", Rows.laid_bywash_lex_signs)]) W) : Sg W := by
 rw [MakeChecks.laidMetH_plain _ _ _ hp] at h
 exact sgs_head h.tail.tail.tail.tail.tail
/-- A world for the witnesses: what the door's own run leaves. -/
noncomputable def doorWorld (os : Os) : World := World.doorLaid Tryz.prog 400 os
end Go.Proofs.YtljoajjlkjjgeaaGreatDoor
