/-
  The small functions on values that Eval calls.
-/
import Derived.Test.YtpohofcfmllghaaDoorEFormed
namespace Go.Proofs.YtpohofcfmllghaaDoor
open Go.RowKit

def trueV (v : Int × Int × ByteArray) : Bool := v.1 == 1 && v.2.1 != 0
def truthV (b : Bool) : Int × Int × ByteArray := (1, if b then 1 else 0, ⟨#[]⟩)
theorem of_any (n : Int) (w : World) : Calls Tryd.prog 10 #[.int .i64 n] w fun e w' => e = .returned (vVal 1 n ⟨#[]⟩) ∧ Below w.heap.size w w' := by
  go_enter Tryd.func10, Tryd.ntmps10
  go_wp2
  go_returns
  exact ⟨rfl, by go_grown⟩
theorem textV_any (s : ByteArray) (w : World) : Calls Tryd.prog 51 #[.string s] w fun e w' => e = .returned (vVal 2 0 s) ∧ Below w.heap.size w w' := by
  go_enter Tryd.func51, Tryd.ntmps51
  go_wp2
  go_returns
  exact ⟨rfl, by go_grown⟩
theorem true_any (k n : Int) (s : ByteArray) (w : World) : Calls Tryd.prog 40 #[vVal k n s] w fun e w' => e = .returned (.bool (trueV (k, n, s))) ∧ Below w.heap.size w w' := by
  have HT := hide (show trueV (k, n, s) = (k == 1 && n != 0) from rfl)
  generalize trueV (k, n, s) = b at HT ⊢
  cases h1 : (k == 1)
  · rw [h1] at HT
    go_enter Tryd.func40, Tryd.ntmps40
    go_wp2_with fail
    go_ret
    exact ⟨ret_bool HT.out.symm, by go_grown⟩
  · rw [h1] at HT
    cases h2 : (n != 0)
    all_goals
      rw [h2] at HT
      go_enter Tryd.func40, Tryd.ntmps40
      go_wp2_with fail
      go_ret
      exact ⟨ret_bool HT.out.symm, by go_grown⟩
set_option maxHeartbeats 800000 in
theorem truth_any (b : Bool) (w : World) : Calls Tryd.prog 39 #[.bool b] w fun e w' => e = .returned (vVal (truthV b).1 (truthV b).2.1 (truthV b).2.2) ∧ Below w.heap.size w w' := by
  cases b
  · go_enter Tryd.func39, Tryd.ntmps39
    go_wp2_with fail
    refine (of_any 0 _).mono ?_
    rintro e w2 ⟨rfl, hb⟩
    obtain ⟨hc, hf⟩ := bcell hb
    have hb0 : Below w.heap.size w w2 := (Joins.below_alloc1 w _).trans (hb.mono (by simp))
    have hz : w.heap.size < w2.heap.size := by have := hb.size; simp at this; omega
    clear hb
    go_wp2_with fail
    refine bodyPost_ret (v := vVal 1 0 ⟨#[]⟩) (by simp [results, Tryd.results39, go_sem, hc]) rfl ⟨rfl, ?_⟩
    go_grown
  · go_enter Tryd.func39, Tryd.ntmps39
    go_wp2_with fail
    refine (of_any 1 _).mono ?_
    rintro e w2 ⟨rfl, hb⟩
    obtain ⟨hc, hf⟩ := bcell hb
    have hb0 : Below w.heap.size w w2 := (Joins.below_alloc1 w _).trans (hb.mono (by simp))
    have hz : w.heap.size < w2.heap.size := by have := hb.size; simp at this; omega
    clear hb
    go_wp2_with fail
    refine bodyPost_ret (v := vVal 1 1 ⟨#[]⟩) (by simp [results, Tryd.results39, go_sem, hc]) rfl ⟨rfl, ?_⟩
    go_grown
set_option maxHeartbeats 800000 in
set_option maxRecDepth 100000 in
theorem isNull_any (k n : Int) (s : ByteArray) (w : World) : Calls Tryd.prog 41 #[vVal k n s] w fun e w' => e = .returned (.bool (nullV (k, n, s))) ∧ Below w.heap.size w w' := by
  have hq := fun w => run_eql_val k n 0 0 s ⟨#[]⟩ w
  have hg := fun u u' w => run_guard_val k n 0 0 s ⟨#[]⟩ u u' w
  rw [show (k == 0 && (n == 0 && s.toList == (⟨#[]⟩ : ByteArray).toList)) = nullV (k, n, s) from rfl] at hq
  generalize nullV (k, n, s) = nv at *
  have q0 : Below w.heap.size w (w.alloc (.cells #[.int .i64 k, .int .i64 n, .string s] 26)) := Joins.below_alloc1 w _
  have r0 := fun d os => cell_regrown (show (w.alloc (.cells #[.int .i64 k, .int .i64 n, .string s] 26)).cell? ⟨w.heap.size, 0, none⟩ = some (.int .i64 k) by simp) d os
  have r1 := fun d os => cell_regrown (show (w.alloc (.cells #[.int .i64 k, .int .i64 n, .string s] 26)).cell? ⟨w.heap.size, 1, none⟩ = some (.int .i64 n) by simp) d os
  have r2 := fun d os => cell_regrown (show (w.alloc (.cells #[.int .i64 k, .int .i64 n, .string s] 26)).cell? ⟨w.heap.size, 2, none⟩ = some (.string s) by simp) d os
  go_enter Tryd.func41, Tryd.ntmps41
  go_wp2_with fail
  refine wp_region_quiet_below (by kernel_rfl) (by kernel_rfl) ?_
  repeat (go_big_quiet_step (first | (go_at_call 37; exact Calls.regrown_of (null_any _))))
  refine wpQuiet_nil ?_
  intro _ hw'
  obtain ⟨⟨dq, osq⟩, hw''⟩ := hw'
  subst hw''
  have q9 := q0.trans ((below_regrown _ dq osq).mono q0.size)
  go_wp2_with fail
  go_ret
  exact ⟨rfl, q9⟩
end Go.Proofs.YtpohofcfmllghaaDoor
