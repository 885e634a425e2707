/-
  The walk of WindowChecks.
-/
import Derived.Test.YtomhiganfmoceaaDoorWLaw
import Derived.Test.YtomhiganfmoceaaDoorWAwake
namespace Go.Proofs.YtomhiganfmoceaaDoor
open Go.RowKit Go.Sort CM JM WM

set_option maxHeartbeats 4000000 in
set_option maxRecDepth 100000 in
theorem windowChecks_walk (k n lk la lz uk ua uz : Int) (w : World) (h1 : lz ≤ 9223372036854775807) (h2 : uz ≤ 9223372036854775807) (hR : Ra w) : Calls Tryd.prog 3 #[vC k n lk la lz uk ua uz] w fun e w' => e = .returned (.bool true) ∧ Below w.heap.size w w' := by
  have HO := hide (C8_below w k n lk la lz uk ua uz)
  have HRw : Hid (∀ dn os, Ra (grow (redrawn (w.alloc (.cells #[.int .i64 k, .int .i64 n, .int .i64 lk, .int .i64 la, .int .i64 lz, .int .i64 uk, .int .i64 ua, .int .i64 uz] 27)) dn) os)) := hide fun dn os => hR.on (HO.out.trans ((below_regrown _ dn os).mono HO.out.size))
  have HC := hide (fun (w : World) (hR : Ra w) => mcheck_any k n lk la lz uk ua uz w hR.mon h1 h2)
  have HF := hide (fun (w : World) => fits_any k n lk la lz uk ua uz w h1 h2)
  have HA := hide mawake_any
  obtain ⟨⟨k0, k1, k2, k3, k4, k5, k6, k7⟩, hs⟩ := C8_box w k n lk la lz uk ua uz
  have r0 := fun dn os => cell_regrown k0 dn os
  have r1 := fun dn os => cell_regrown k1 dn os
  have r2 := fun dn os => cell_regrown k2 dn os
  have r3 := fun dn os => cell_regrown k3 dn os
  have r4 := fun dn os => cell_regrown k4 dn os
  have r5 := fun dn os => cell_regrown k5 dn os
  have r6 := fun dn os => cell_regrown k6 dn os
  have r7 := fun dn os => cell_regrown k7 dn os
  clear k0 k1 k2 k3 k4 k5 k6 k7 hs hR h1 h2
  generalize fitE (cA k n lk la lz uk ua uz) = E at *
  go_enter Tryd.func3, Tryd.ntmps3
  go_wp2_with fail
  refine wp_region_quiet_below (by kernel_rfl) (by kernel_rfl) ?_
  repeat (go_big_quiet_step (first
      | (go_at_call 9; with_reducible exact Calls.regrown_of (HC.out _ (HRw.out _ _)))
      | (go_at_call 10; with_reducible exact Calls.regrown_of (HF.out _))
      | (go_at_call 11; with_reducible exact Calls.regrown_of (HA.out _ (HRw.out _ _)))))
  refine wpQuiet_nil ?_
  intro _ hw'
  obtain ⟨⟨dq, osq⟩, hw''⟩ := hw'
  subst hw''
  have HF := hide (HO.out.trans ((below_regrown _ dq osq).mono HO.out.size))
  clear r0 r1 r2 r3 r4 r5 r6 r7
  go_wp2_with fail
  go_ret
  exact ⟨rfl, HF.out⟩
end Go.Proofs.YtomhiganfmoceaaDoor
