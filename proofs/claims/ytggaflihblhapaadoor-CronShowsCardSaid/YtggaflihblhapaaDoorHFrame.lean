/-
  What every law's proof of the cron seat shares: the listed tables; how a spec and a stretch come in; a world for the witnesses.
-/
import Derived.Test.YtggaflihblhapaaDoorCards
import Derived.Test.YtggaflihblhapaaDoorTie
import Derived.Test.YtggaflihblhapaaDoorHAwake
import Derived.WalkKit
import Derived.ProofKit
import Derived.OpenShut
import Derived.LaidMore
import Derived.MakeChecks
import Derived.Stop.LaidErr
import Derived.Deep.DeepHandedRow
import Derived.Deep.DeepWitnessRowRef
import Derived.Lib.LaidTab
import Derived.Lib.SmallJoins
import Derived.Deep.Slices
import Derived.SliceStrings
import Derived.Carry
import Derived.Shelf.Vars
namespace Go.Proofs.YtggaflihblhapaaDoor
open Go.ChangeShapes Go.WideShapes Go.ChangeAt Go.RowKit Go.Joins Go.Deep CM HM

theorem own : ownKnob Tryd.prog.godebug = none := by kernel_rfl
theorem laidOut' : laidOutB Tryd.prog = true := by kernel_rfl
theorem mem_lt {p q : List MemPlace} {n : Nat} (h : ∀ x ∈ p ++ q, x.block < n) : (∀ x ∈ p, x.block < n) ∧ ∀ x ∈ q, x.block < n :=
  ⟨fun x hx => h x (List.mem_append_left _ hx), fun x hx => h x (List.mem_append_right _ hx)⟩
theorem g_mon : Tryd.prog.globalNamed "bywash/calendar.monthDays" = some 3 := by kernel_rfl
theorem g_mon_type : (Tryd.prog.globals[3]?).map (·.type) = some 123 := by kernel_rfl
theorem g_low : Tryd.prog.globalNamed "bywash/cron.lowest" = some 1 := by kernel_rfl
theorem g_low_type : (Tryd.prog.globals[1]?).map (·.type) = some 75 := by kernel_rfl
theorem g_high : Tryd.prog.globalNamed "bywash/cron.highest" = some 2 := by kernel_rfl
theorem g_high_type : (Tryd.prog.globals[2]?).map (·.type) = some 75 := by kernel_rfl
theorem g_bru : Tryd.prog.globalNamed "math/bits.deBruijn64tab" = some 6 := by kernel_rfl
theorem g_bru_type : (Tryd.prog.globals[6]?).map (·.type) = some 141 := by kernel_rfl
theorem int_one : Tryd.prog.cellsOf 3 = 1 := by kernel_rfl
theorem u8_one : Tryd.prog.cellsOf 5 = 1 := by kernel_rfl
theorem cells_mon : Tryd.prog.cellsOf 123 = 12 := by kernel_rfl
theorem cells_five : Tryd.prog.cellsOf 75 = 5 := by kernel_rfl
theorem cells_bru : Tryd.prog.cellsOf 141 = 64 := by kernel_rfl
def lowT : List Int := [0, 0, 1, 1, 0]
def highT : List Int := [59, 23, 31, 12, 6]
def bruT : List Int := [0, 1, 56, 2, 57, 49, 28, 3, 61, 58, 42, 50, 38, 29, 17, 4, 62, 47, 59, 36, 45, 43, 51, 22, 53, 39, 33, 30, 24, 18, 12, 5, 63, 55, 48, 27, 60, 41, 37, 16, 46, 35, 44, 21, 52, 32, 23, 11, 54, 26, 40, 15, 34, 20, 31, 10, 25, 14, 19, 9, 13, 8, 7, 6]
theorem bru_at : ∀ i : Fin 64, bruT.getD i.val 0 = ((Lib.deBruijn64tab.getD i.val 0 : Nat) : Int) := by decide +kernel
theorem low_at {i : Nat} (h : i < 5) : lowT.getD i 0 = (loN i : Nat) := by
  obtain rfl | rfl | rfl | rfl | rfl : i = 0 ∨ i = 1 ∨ i = 2 ∨ i = 3 ∨ i = 4 := by omega
  all_goals rfl
theorem high_at {i : Nat} (h : i < 5) : highT.getD i 0 = (hiN i : Nat) := by
  obtain rfl | rfl | rfl | rfl | rfl : i = 0 ∨ i = 1 ∨ i = 2 ∨ i = 3 ∨ i = 4 := by omega
  all_goals rfl
/-- The five listed variables that are read, behind so many others. -/
theorem rd_of {W : World} (h1 : Lib.TabIs Tryd.prog W "math/bits.deBruijn64tab" .u8 bruT) (h2 : Lib.TabIs Tryd.prog W "bywash/calendar.monthDays" .i64 monT) (h3 : Lib.TabIs Tryd.prog W "bywash/cron.lowest" .i64 lowT) (h4 : Lib.TabIs Tryd.prog W "bywash/cron.highest" .i64 highT) : Rd W :=
  ⟨fun i hi => h2.cell g_mon i hi, ⟨fun i hi => (h3.cell g_low i hi).trans (by rw [low_at hi]), fun i hi => (h4.cell g_high i hi).trans (by rw [high_at hi])⟩, fun i hi => (h1.cell g_bru i hi).trans (by rw [bru_at ⟨i, hi⟩])⟩
theorem tabs_of {W : World} {x : String × DataW Unit} {rest : List (String × DataW Unit)}
    (h : laidMetH Tryd.prog (("math/bits.deBruijn64tab", Rows.laid_math_bits_deBruijn64tab) :: x :: ("bywash/calendar.monthDays", Rows.laid_bywash_calendar_monthDays) :: ("bywash/cron.lowest", Rows.laid_bywash_cron_lowest) :: ("bywash/cron.highest", Rows.laid_bywash_cron_highest) :: rest) W)
    (hp : ((("math/bits.deBruijn64tab", Rows.laid_math_bits_deBruijn64tab) :: x :: ("bywash/calendar.monthDays", Rows.laid_bywash_calendar_monthDays) :: ("bywash/cron.lowest", Rows.laid_bywash_cron_lowest) :: ("bywash/cron.highest", Rows.laid_bywash_cron_highest) :: rest).all fun x => x.2.handleName?.isNone) = true) : Rd W := by
  rw [MakeChecks.laidMetH_plain _ _ _ hp] at h
  exact rd_of (Lib.tabIs_of_head g_bru g_bru_type Tryd.underlying141 Tryd.underlying5 u8_one cells_bru h)
    (Lib.tabIs_of_head g_mon g_mon_type Tryd.underlying123 Tryd.underlying3 int_one cells_mon h.tail.tail)
    (Lib.tabIs_of_head g_low g_low_type Tryd.underlying75 Tryd.underlying3 int_one cells_five h.tail.tail.tail)
    (Lib.tabIs_of_head g_high g_high_type Tryd.underlying75 Tryd.underlying3 int_one cells_five h.tail.tail.tail.tail)
end Go.Proofs.YtggaflihblhapaaDoor
