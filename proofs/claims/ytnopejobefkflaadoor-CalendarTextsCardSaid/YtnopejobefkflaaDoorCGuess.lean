/-
  guess, and Minutes.
-/
import Derived.Test.YtnopejobefkflaaDoorCMonth
import Derived.Lib.QuietBelow
import Derived.IntWalk
namespace Go.Proofs.YtnopejobefkflaaDoor
open Go.RowKit CM Go.Sort

/-- What MonthStart tells. -/
def msV (m : Int) : Int := if 0 ≤ m ∧ m ≤ 48996 then mst m else -1
theorem mst_any (m : Int) (w : World) (hM : Mon w) : Calls Tryd.prog 22 #[.int .i64 m] w fun e w' => e = .returned (.int .i64 (msV m)) ∧ Below w.heap.size w w' := by
  by_cases h : 0 ≤ m ∧ m ≤ 48996
  · rw [show msV m = mst m from if_pos h]; exact mst_yes m w h.1 h.2 hM
  · rw [show msV m = -1 from if_neg h]; exact mst_no m w (by omega) hM
/-- Some number, and only new memory. -/
def SomeInt (w : World) (e : Ending) (w' : World) : Prop := ∃ v : Int, e = .returned (.int .i64 v) ∧ Below w.heap.size w w'
set_option maxHeartbeats 1000000 in
theorem guess_some (y m d h mi wd : Int) (w : World) (hM : Mon w) : Calls Tryd.prog 29 #[vD y m d h mi wd] w (SomeInt w) := by
  have q0 : Below w.heap.size w (w.alloc (.cells #[.int .i64 y, .int .i64 m, .int .i64 d, .int .i64 h, .int .i64 mi, .int .i64 wd] 23)) := (Below.refl _ _).alloc (Nat.le_refl _) _
  have HM : Hid (∀ dn os, Mon (grow (redrawn (w.alloc (.cells #[.int .i64 y, .int .i64 m, .int .i64 d, .int .i64 h, .int .i64 mi, .int .i64 wd] 23)) dn) os)) := hide fun dn os => hM.on (q0.trans ((below_regrown _ dn os).mono q0.size))
  have HS := hide (fun m w (hM : Mon w) => mst_any m w hM)
  clear hM
  have r2 := fun dn os => cell_regrown (show (w.alloc (.cells #[.int .i64 y, .int .i64 m, .int .i64 d, .int .i64 h, .int .i64 mi, .int .i64 wd] 23)).cell? ⟨w.heap.size, 2, none⟩ = some (.int .i64 d) by simp) dn os
  have r3 := fun dn os => cell_regrown (show (w.alloc (.cells #[.int .i64 y, .int .i64 m, .int .i64 d, .int .i64 h, .int .i64 mi, .int .i64 wd] 23)).cell? ⟨w.heap.size, 3, none⟩ = some (.int .i64 h) by simp) dn os
  have r4 := fun dn os => cell_regrown (show (w.alloc (.cells #[.int .i64 y, .int .i64 m, .int .i64 d, .int .i64 h, .int .i64 mi, .int .i64 wd] 23)).cell? ⟨w.heap.size, 4, none⟩ = some (.int .i64 mi) by simp) dn os
  go_enter Tryd.func29, Tryd.ntmps29
  go_wp2_with fail
  refine wp_region_quiet_below (by kernel_rfl) (by kernel_rfl) ?_
  repeat (go_big_quiet_step (first
      | (go_at_call 22; exact Calls.regrown_of (HS.out _ _ (HM.out _ _)))))
  refine wpQuiet_nil ?_
  intro _ hw'
  obtain ⟨⟨dq, osq⟩, hw''⟩ := hw'
  subst hw''
  have q9 := q0.trans ((below_regrown _ dq osq).mono q0.size)
  go_wp2_with fail
  go_ret
  exact ⟨_, rfl, q9⟩
set_option maxHeartbeats 1000000 in
theorem guess_exact (y m d h mi wd : Int) (w : World) (hM : Mon w) (hy : 2000 ≤ y ∧ y ≤ 6083) (hm : 1 ≤ m ∧ m ≤ 12) (hd : 1 ≤ d ∧ d ≤ 31) (hh : 0 ≤ h ∧ h ≤ 23) (hmi : 0 ≤ mi ∧ mi ≤ 59) : Calls Tryd.prog 29 #[vD y m d h mi wd] w fun e w' => e = .returned (.int .i64 (msV ((y - 2000) * 12 + m - 1) + (d - 1) * 1440 + h * 60 + mi)) ∧ Below w.heap.size w w' := by
  have hms : -1 ≤ msV ((y - 2000) * 12 + m - 1) ∧ msV ((y - 2000) * 12 + m - 1) ≤ 2147483648 := by
    unfold msV; split
    · rename_i hc
      have := mst_hi hc.1 hc.2
      have := (mst_parts hc.1).1
      omega
    · omega
  obtain ⟨hy0, hy1⟩ := hy
  obtain ⟨hm0, hm1⟩ := hm
  have k1 : IntKind.i64.wrap (d - 1) = d - 1 := IntWalk.i64_in _ (by omega)
  have k2 : IntKind.i64.wrap ((d - 1) * 1440) = (d - 1) * 1440 := IntWalk.i64_in _ (by omega)
  have k3 : IntKind.i64.wrap (msV ((y - 2000) * 12 + m - 1) + (d - 1) * 1440) = msV ((y - 2000) * 12 + m - 1) + (d - 1) * 1440 := IntWalk.i64_in _ (by omega)
  have k4 : IntKind.i64.wrap (h * 60) = h * 60 := IntWalk.i64_in _ (by omega)
  have k5 : IntKind.i64.wrap (msV ((y - 2000) * 12 + m - 1) + (d - 1) * 1440 + h * 60) = msV ((y - 2000) * 12 + m - 1) + (d - 1) * 1440 + h * 60 := IntWalk.i64_in _ (by omega)
  have k6 : IntKind.i64.wrap (msV ((y - 2000) * 12 + m - 1) + (d - 1) * 1440 + h * 60 + mi) = msV ((y - 2000) * 12 + m - 1) + (d - 1) * 1440 + h * 60 + mi := IntWalk.i64_in _ (by omega)
  have HK1 := hide k1; have HK2 := hide k2; have HK3 := hide k3; have HK4 := hide k4; have HK5 := hide k5; have HK6 := hide k6
  clear k1 k2 k3 k4 k5 k6 hms hd hh hmi
  have q0 : Below w.heap.size w (w.alloc (.cells #[.int .i64 y, .int .i64 m, .int .i64 d, .int .i64 h, .int .i64 mi, .int .i64 wd] 23)) := (Below.refl _ _).alloc (Nat.le_refl _) _
  have HM : Hid (∀ dn os, Mon (grow (redrawn (w.alloc (.cells #[.int .i64 y, .int .i64 m, .int .i64 d, .int .i64 h, .int .i64 mi, .int .i64 wd] 23)) dn) os)) := hide fun dn os => hM.on (q0.trans ((below_regrown _ dn os).mono q0.size))
  have HS := hide (fun m w (hM : Mon w) => mst_any m w hM)
  clear hM
  have r2 := fun dn os => cell_regrown (show (w.alloc (.cells #[.int .i64 y, .int .i64 m, .int .i64 d, .int .i64 h, .int .i64 mi, .int .i64 wd] 23)).cell? ⟨w.heap.size, 2, none⟩ = some (.int .i64 d) by simp) dn os
  have r3 := fun dn os => cell_regrown (show (w.alloc (.cells #[.int .i64 y, .int .i64 m, .int .i64 d, .int .i64 h, .int .i64 mi, .int .i64 wd] 23)).cell? ⟨w.heap.size, 3, none⟩ = some (.int .i64 h) by simp) dn os
  have r4 := fun dn os => cell_regrown (show (w.alloc (.cells #[.int .i64 y, .int .i64 m, .int .i64 d, .int .i64 h, .int .i64 mi, .int .i64 wd] 23)).cell? ⟨w.heap.size, 4, none⟩ = some (.int .i64 mi) by simp) dn os
  go_enter Tryd.func29, Tryd.ntmps29
  go_wp2_with fail
  have k1 := HK1.out; have k2 := HK2.out; have k3 := HK3.out; have k4 := HK4.out; have k5 := HK5.out; have k6 := HK6.out
  refine wp_region_quiet_below (by kernel_rfl) (by kernel_rfl) ?_
  repeat (go_big_quiet_step (first
      | (go_at_call 22; exact Calls.regrown_of (HS.out _ _ (HM.out _ _)))))
  refine wpQuiet_nil ?_
  intro _ hw'
  obtain ⟨⟨dq, osq⟩, hw''⟩ := hw'
  subst hw''
  have q9 := q0.trans ((below_regrown _ dq osq).mono q0.size)
  clear k1 k2 k3 k4 k5 k6
  go_wp2_with fail
  go_ret
  exact ⟨rfl, q9⟩
end Go.Proofs.YtnopejobefkflaaDoor
