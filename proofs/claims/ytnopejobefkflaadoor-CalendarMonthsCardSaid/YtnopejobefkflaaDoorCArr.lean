/-
  Arrays of six numbers compared.
-/
import Derived.Test.YtnopejobefkflaaDoorCMin
import Derived.ChangeKeysEq
namespace Go.Proofs.YtnopejobefkflaaDoor
open Go.RowKit CM

theorem arr_under : Tryd.prog.underlying 30 = some (.array 6 3) := by kernel_rfl
theorem int_info : (Tryd.prog.info? 3).map (fun i => (i.zero, i.size, i.bytes)) = some (some (.int .i64 0), 1, 8) := by kernel_rfl
theorem int_cells : Tryd.prog.cellsOf 3 = 1 := by kernel_rfl
set_option maxHeartbeats 1000000 in
theorem run_eql_arr (y m d h mi wd y' m' d' h' mi' wd' : Int) (w : World) : (binOp .eql 30 (vD y m d h mi wd) (vD y' m' d' h' mi' wd')).run Tryd.prog w = .ok (.bool (sameD y m d h mi wd y' m' d' h' mi' wd')) w := by
  have h3 := Tryd.underlying3
  obtain ⟨i0, hi, hz0, hz1, hz2⟩ := info_parts int_info
  rw [run_eql_struct, run_equalIn_array w 9999 _ _ arr_under hi, int_cells, show List.range 6 = [0, 1, 2, 3, 4, 5] by decide]
  unfold sameD
  simp [Op.eqItems, h3, go_sem]
  repeat' split
  all_goals simp_all
theorem arr_guard : Tryd.prog.eqGuardType Tryd.prog.depth 30 = false := by kernel_rfl
theorem run_guard_arr (y m d h mi wd y' m' d' h' mi' wd' : Int) (u v : Operand) (w : World) : (eqGuard .eql 30 u v (vD y m d h mi wd) (vD y' m' d' h' mi' wd')).run Tryd.prog w = .ok () w := run_eqGuard_agg w .eql _ u v _ _ arr_guard
end Go.Proofs.YtnopejobefkflaaDoor
