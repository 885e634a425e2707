/-
  The listed variables of CronShows.
-/
import Derived.Test.YtggaflihblhapaaDoorHOpen
import Derived.Test.YtggaflihblhapaaDoorHItoa
namespace Go.Proofs.YtggaflihblhapaaDoor
open Go.ChangeShapes Go.WideShapes Go.ChangeAt Go.RowKit Go.Joins Go.Deep CM HM

theorem g_tab_type : (Tryd.prog.globals[5]?).map (·.type) = some 130 := by kernel_rfl
theorem cells_tab : Tryd.prog.cellsOf 130 = 20 := by kernel_rfl
theorem tabs_ofS {W : World} {x y : String × DataW Unit} {rest : List (String × DataW Unit)}
    (h : laidMetH Tryd.prog (x :: ("math/bits.deBruijn64tab", Rows.laid_math_bits_deBruijn64tab) :: ("internal/strconv.uint64pow10", Rows.laid_internal_strconv_uint64pow10) :: y :: ("bywash/calendar.monthDays", Rows.laid_bywash_calendar_monthDays) :: ("bywash/cron.lowest", Rows.laid_bywash_cron_lowest) :: ("bywash/cron.highest", Rows.laid_bywash_cron_highest) :: rest) W)
    (hp : ((x :: ("math/bits.deBruijn64tab", Rows.laid_math_bits_deBruijn64tab) :: ("internal/strconv.uint64pow10", Rows.laid_internal_strconv_uint64pow10) :: y :: ("bywash/calendar.monthDays", Rows.laid_bywash_calendar_monthDays) :: ("bywash/cron.lowest", Rows.laid_bywash_cron_lowest) :: ("bywash/cron.highest", Rows.laid_bywash_cron_highest) :: rest).all fun x => x.2.handleName?.isNone) = true) : Rd W ∧ Tab W := by
  rw [MakeChecks.laidMetH_plain _ _ _ hp] at h
  exact ⟨rd_of (Lib.tabIs_of_head g_bru g_bru_type Tryd.underlying141 Tryd.underlying5 u8_one cells_bru h.tail)
    (Lib.tabIs_of_head g_mon g_mon_type Tryd.underlying123 Tryd.underlying3 int_one cells_mon h.tail.tail.tail.tail)
    (Lib.tabIs_of_head g_low g_low_type Tryd.underlying75 Tryd.underlying3 int_one cells_five h.tail.tail.tail.tail.tail)
    (Lib.tabIs_of_head g_high g_high_type Tryd.underlying75 Tryd.underlying3 int_one cells_five h.tail.tail.tail.tail.tail.tail),
    Lib.tabIs_of_head g_tab g_tab_type Tryd.underlying130 Tryd.underlying22 cells_u64 cells_tab h.tail.tail⟩
end Go.Proofs.YtggaflihblhapaaDoor
