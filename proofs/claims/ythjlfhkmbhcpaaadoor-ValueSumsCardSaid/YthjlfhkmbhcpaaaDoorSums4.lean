/-
  The walk of ValueSums: one of its seven cases.
-/
import Derived.Test.YthjlfhkmbhcpaaaDoorOps
import Derived.Deep.DeepCutAuto
import Derived.Lib.QuietBelow
import Derived.BigQuiet
namespace Go.Proofs.YthjlfhkmbhcpaaaDoor.valueSums
open Go.RowKit Go.Sort

abbrev Done4 (a b : Int) (w : World) : Prop := Calls Tryd.prog 7 #[.int .i64 a, .int .i64 b] w fun e w' => e = .returned (.bool true) ∧ Below w.heap.size w w'

set_option maxRecDepth 100000 in
set_option maxHeartbeats 4000000 in
theorem neg_over (a b : Int) (w : World) (ha : I64 a) (hb : I64 b) (ht : Tab w) (h0 : b < 0) (h1 : a < -9223372036854775808 - b) : Done4 a b w := by
  have hs : ¬ I64 (a + b) := by unfold I64 at *; omega
  have hd : I64 (a - b) := by unfold I64 at *; omega
  have HA : Hid (∀ w, Calls Tryd.prog 26 #[.int .u8 43, vInt a, vInt b] w fun e w' => e = .returned (vErr 10) ∧ Below w.heap.size w w') := Lib.hid fun w => by have h := arith_add a b w ha hb; rw [arRes_no hs] at h; exact h
  have HB : Hid (∀ w, Calls Tryd.prog 26 #[.int .u8 45, vInt a, vInt b] w fun e w' => e = .returned (.tuple #[vInt (a - b), .int .i64 0]) ∧ Below w.heap.size w w') := Lib.hid fun w => by have h := arith_sub a b w ha hb; rw [arRes_yes hd] at h; exact h
  have e2 : IntKind.i64.wrap (a - b) = a - b := by unfold I64 at hd; exact IntWalk.i64_in _ (by omega)
  have HT := Lib.hid ht; clear ht
  obtain ⟨ha1, ha2⟩ := ha; obtain ⟨hb1, hb2⟩ := hb
  clear hs hd
  go_enter Tryd.func7, Tryd.ntmps7
  go_wp2_with fail
  refine (of_any a _).mono ?_
  rintro e w1 ⟨rfl, hb1⟩
  go_wp2_with fail
  refine (of_any b _).mono ?_
  rintro e w2 ⟨rfl, hb2⟩
  go_wp2_with fail
  refine (HA.out _).mono ?_
  rintro e w3 ⟨rfl, hb3⟩
  have q3 : Below w.heap.size w w3 := (hb1.trans (hb2.mono hb1.size)).trans (hb3.mono (Nat.le_trans hb1.size hb2.size))
  clear hb1 hb2 hb3
  go_wp2_with fail
  refine (of_any a _).mono ?_
  rintro e w4 ⟨rfl, hb4⟩
  go_wp2_with fail
  refine (of_any b _).mono ?_
  rintro e w5 ⟨rfl, hb5⟩
  go_wp2_with fail
  refine (HB.out _).mono ?_
  rintro e w6 ⟨rfl, hb6⟩
  have r6 : Below (w3.alloc (.cells #[.int .i64 0, .int .i64 0, .string ⟨#[]⟩] 23)).heap.size _ w6 := (hb4.trans (hb5.mono hb4.size)).trans (hb6.mono (Nat.le_trans hb4.size hb5.size))
  clear hb4 hb5 hb6
  have q6 : Below w.heap.size w w6 := (q3.alloc q3.size _).trans (r6.mono (by have := q3.size; simp; omega))
  obtain ⟨hc, hf⟩ := bcell r6
  have x0 : w6.cell? ⟨w3.heap.size, 0, none⟩ = some (.int .i64 0) := by rw [hc _ _ (by simp)]; simp
  have x1 : w6.cell? ⟨w3.heap.size, 1, none⟩ = some (.int .i64 0) := by rw [hc _ _ (by simp)]; simp
  have x2 : w6.cell? ⟨w3.heap.size, 2, none⟩ = some (.string ⟨#[]⟩) := by rw [hc _ _ (by simp)]; simp
  have z6 : w3.heap.size < w6.heap.size := by have := r6.size; simp at this; omega
  clear hc hf r6 q3
  go_wp2_with fail
  have hw7 := Joins.below_alloc1 w6 (.cells #[.int .i64 1, .int .i64 (a - b), .string ⟨#[]⟩] 23)
  have q7 : Below w.heap.size w (w6.alloc (.cells #[.int .i64 1, .int .i64 (a - b), .string ⟨#[]⟩] 23)) := q6.alloc q6.size _
  have k0 := (hw7.cell (p := ⟨w3.heap.size, 0, none⟩) z6).trans x0
  have k1 := (hw7.cell (p := ⟨w3.heap.size, 1, none⟩) z6).trans x1
  have k2 := (hw7.cell (p := ⟨w3.heap.size, 2, none⟩) z6).trans x2
  have m0 := World.cell?_alloc_mark w6 #[.int .i64 1, .int .i64 (a - b), .string ⟨#[]⟩] 23 (0, 0) 0
  have m1 := World.cell?_alloc_mark w6 #[.int .i64 1, .int .i64 (a - b), .string ⟨#[]⟩] 23 (0, 0) 1
  have m2 := World.cell?_alloc_mark w6 #[.int .i64 1, .int .i64 (a - b), .string ⟨#[]⟩] 23 (0, 0) 2
  have z7 : w3.heap.size < (w6.alloc (.cells #[.int .i64 1, .int .i64 (a - b), .string ⟨#[]⟩] 23)).heap.size := by simp; omega
  clear hw7 x0 x1 x2 q6
  generalize (w6.alloc (.cells #[.int .i64 1, .int .i64 (a - b), .string ⟨#[]⟩] 23)) = w7 at *
  have r0 := fun d os => cell_regrown k0 d os
  have r1 := fun d os => cell_regrown k1 d os
  have r2 := fun d os => cell_regrown k2 d os
  have r3 := fun d os => cell_regrown m0 d os
  have r4 := fun d os => cell_regrown m1 d os
  have r5 := fun d os => cell_regrown m2 d os
  clear m0 m1 m2 k0 k1 k2
  have HTq := Lib.hid (fun d os => HT.out.stays (q7.trans ((below_regrown w7 d os).mono q7.size)) (Nat.le_refl _))
  refine wp_region_quiet_below (by kernel_rfl) (by kernel_rfl) ?_
  repeat (go_big_quiet_step (first
      | (go_at_call 24; exact Calls.regrown_of (of_any _ _))
      | (go_at_call 12; exact Calls.regrown_of (awake_any _ (HTq.out _ _)))))
  refine wpQuiet_nil ?_
  intro _ hw'
  obtain ⟨⟨dq, osq⟩, hw''⟩ := hw'
  subst hw''
  have q8 := q7.trans ((below_regrown w7 dq osq).mono q7.size)
  have x0 := r0 dq osq
  have x1 := r1 dq osq
  have x2 := r2 dq osq
  have z8 : w3.heap.size < (grow (redrawn w7 dq) osq).heap.size := Nat.lt_of_lt_of_le z7 (below_regrown w7 dq osq).size
  clear r0 r1 r2 r3 r4 r5 q7 z7 HTq
  generalize grow (redrawn w7 dq) osq = w8 at *
  go_wp2_with fail
  refine (awake_any _ (HT.out.stays q8 (Nat.le_refl _))).mono ?_
  rintro e wa ⟨rfl, hba⟩
  have qa : Below w.heap.size w wa := q8.trans (hba.mono q8.size)
  clear hba
  go_wp2_with fail
  go_ret
  exact ⟨rfl, qa⟩

end Go.Proofs.YthjlfhkmbhcpaaaDoor.valueSums
