/-
  Whether a column holds a value.
-/
import Derived.Test.YtpohofcfmllghaaDoorSRow
import Derived.Test.YtpohofcfmllghaaDoorSRef
import Derived.Lib.QuietBelow
namespace Go.Proofs.YtpohofcfmllghaaDoor
open Go.RowKit

theorem null_any (w : World) : Calls Tryd.prog 37 #[] w fun e w' => e = .returned (vVal 0 0 ⟨#[]⟩) ∧ Below w.heap.size w w' := by
  go_enter Tryd.func37, Tryd.ntmps37
  go_wp2
  go_returns
  exact ⟨rfl, by go_grown⟩

theorem val_fields : Tryd.prog.underlying 26 = some (.struct (Tryd.prog.fieldsOf 26)) := by kernel_rfl
theorem val_stood : Tryd.prog.stoodInHeld 26 = false := by kernel_rfl
theorem val_guard : Tryd.prog.eqGuardType Tryd.prog.depth 26 = false := by kernel_rfl
theorem val_fieldsL : (Tryd.prog.fieldsOf 26).toList.map (fun f => (f.type, f.offset, decide (f.name ≠ "_"))) = [(3, 0, true), (3, 1, true), (9, 2, true)] := by kernel_rfl
/-- == of two values. -/
theorem run_eql_val (k n l m : Int) (s t : ByteArray) (w : World) : (binOp .eql 26 (vVal k n s) (vVal l m t)).run Tryd.prog w = .ok (.bool (k == l && (n == m && s.toList == t.toList))) w := by
  have h2 := Tryd.underlying9
  have h3 := Tryd.underlying3
  have hf := val_fieldsL
  rw [run_eql_struct, run_equalIn_agg w 9999 26 _ _ val_fields val_stood]
  generalize (Tryd.prog.fieldsOf 26).toList = fs at hf
  rcases fs with _ | ⟨f, _ | ⟨g, _ | ⟨h, _ | ⟨_, _⟩⟩⟩⟩ <;> simp at hf
  obtain ⟨⟨f1, f2, f3⟩, ⟨g1, g2, g3⟩, k1, k2, k3⟩ := hf
  simp [Op.eqFields, f1, f2, f3, g1, g2, g3, k1, k2, k3, go_sem]
  split
  · split
    · split <;> simp_all
    · simp_all
  · simp_all
theorem run_guard_val (k n l m : Int) (s t : ByteArray) (u v : Operand) (w : World) : (eqGuard .eql 26 u v (vVal k n s) (vVal l m t)).run Tryd.prog w = .ok () w := run_eqGuard_agg w .eql _ u v _ _ val_guard

def holdsB (ty k n : Int) (s : ByteArray) : Bool := rightV k n s && (k == 0 || k == ty)

set_option maxHeartbeats 1600000 in
set_option maxRecDepth 100000 in
theorem holds_wrong (nm : ByteArray) (ty k n : Int) (s : ByteArray) (w : World) (hs : s.size ≤ maxLen) (hr : rightV k n s = false) :
    Calls Tryd.prog 25 #[vCol nm ty, vVal k n s] w fun e w' => e = .returned (.bool false) ∧ Below w.heap.size w w' := by
  have HR := hide (fun w' => (right_any k n s w' hs).mono fun e w1 (h : e = .returned (.bool (rightV k n s)) ∧ Below w'.heap.size w' w1) => (⟨by rw [h.1, hr], h.2⟩ : e = .returned (.bool false) ∧ Below w'.heap.size w' w1))
  clear hr
  have q0 : Below w.heap.size w ((w.alloc (.cells #[.string nm, .int .i64 ty] 44)).alloc (.cells #[.int .i64 k, .int .i64 n, .string s] 26)) := ((Below.refl _ _).alloc (Nat.le_refl _) _).alloc (by simp) _
  have r0 := fun d os => cell_regrown (show ((w.alloc (.cells #[.string nm, .int .i64 ty] 44)).alloc (.cells #[.int .i64 k, .int .i64 n, .string s] 26)).cell? ⟨w.heap.size + 1, 0, none⟩ = some (.int .i64 k) by simp) d os
  have r1 := fun d os => cell_regrown (show ((w.alloc (.cells #[.string nm, .int .i64 ty] 44)).alloc (.cells #[.int .i64 k, .int .i64 n, .string s] 26)).cell? ⟨w.heap.size + 1, 1, none⟩ = some (.int .i64 n) by simp) d os
  have r2 := fun d os => cell_regrown (show ((w.alloc (.cells #[.string nm, .int .i64 ty] 44)).alloc (.cells #[.int .i64 k, .int .i64 n, .string s] 26)).cell? ⟨w.heap.size + 1, 2, none⟩ = some (.string s) by simp) d os
  have r3 := fun d os => cell_regrown (show ((w.alloc (.cells #[.string nm, .int .i64 ty] 44)).alloc (.cells #[.int .i64 k, .int .i64 n, .string s] 26)).cell? ⟨w.heap.size, 1, none⟩ = some (.int .i64 ty) by simp) d os
  go_enter Tryd.func25, Tryd.ntmps25
  go_wp2_with fail
  refine wp_region_quiet_below (by kernel_rfl) (by kernel_rfl) ?_
  repeat (go_big_quiet_step (first
      | (go_at_call 36; exact Calls.regrown_of (HR.out _))
      | (go_at_call 37; exact Calls.regrown_of (null_any _))))
  refine wpQuiet_nil ?_
  intro _ hw'
  obtain ⟨⟨dq, osq⟩, hw''⟩ := hw'
  subst hw''
  have q9 := q0.trans ((below_regrown _ dq osq).mono q0.size)
  go_wp2_with fail
  go_ret
  exact ⟨rfl, q9⟩
set_option maxHeartbeats 1600000 in
set_option maxRecDepth 100000 in
theorem holds_null (nm : ByteArray) (ty k n : Int) (s : ByteArray) (w : World) (hs : s.size ≤ maxLen) (hr : rightV k n s = true) (hq : ∀ w, (binOp .eql 26 (vVal k n s) (vVal 0 0 ⟨#[]⟩)).run Tryd.prog w = .ok (.bool true) w) (hg : ∀ u v w, (eqGuard .eql 26 u v (vVal k n s) (vVal 0 0 ⟨#[]⟩)).run Tryd.prog w = .ok () w) :
    Calls Tryd.prog 25 #[vCol nm ty, vVal k n s] w fun e w' => e = .returned (.bool true) ∧ Below w.heap.size w w' := by
  have HR := hide (fun w' => (right_any k n s w' hs).mono fun e w1 (h : e = .returned (.bool (rightV k n s)) ∧ Below w'.heap.size w' w1) => (⟨by rw [h.1, hr], h.2⟩ : e = .returned (.bool true) ∧ Below w'.heap.size w' w1))
  clear hr
  have q0 : Below w.heap.size w ((w.alloc (.cells #[.string nm, .int .i64 ty] 44)).alloc (.cells #[.int .i64 k, .int .i64 n, .string s] 26)) := ((Below.refl _ _).alloc (Nat.le_refl _) _).alloc (by simp) _
  have r0 := fun d os => cell_regrown (show ((w.alloc (.cells #[.string nm, .int .i64 ty] 44)).alloc (.cells #[.int .i64 k, .int .i64 n, .string s] 26)).cell? ⟨w.heap.size + 1, 0, none⟩ = some (.int .i64 k) by simp) d os
  have r1 := fun d os => cell_regrown (show ((w.alloc (.cells #[.string nm, .int .i64 ty] 44)).alloc (.cells #[.int .i64 k, .int .i64 n, .string s] 26)).cell? ⟨w.heap.size + 1, 1, none⟩ = some (.int .i64 n) by simp) d os
  have r2 := fun d os => cell_regrown (show ((w.alloc (.cells #[.string nm, .int .i64 ty] 44)).alloc (.cells #[.int .i64 k, .int .i64 n, .string s] 26)).cell? ⟨w.heap.size + 1, 2, none⟩ = some (.string s) by simp) d os
  have r3 := fun d os => cell_regrown (show ((w.alloc (.cells #[.string nm, .int .i64 ty] 44)).alloc (.cells #[.int .i64 k, .int .i64 n, .string s] 26)).cell? ⟨w.heap.size, 1, none⟩ = some (.int .i64 ty) by simp) d os
  go_enter Tryd.func25, Tryd.ntmps25
  go_wp2_with fail
  refine wp_region_quiet_below (by kernel_rfl) (by kernel_rfl) ?_
  repeat (go_big_quiet_step (first
      | (go_at_call 36; exact Calls.regrown_of (HR.out _))
      | (go_at_call 37; exact Calls.regrown_of (null_any _))))
  refine wpQuiet_nil ?_
  intro _ hw'
  obtain ⟨⟨dq, osq⟩, hw''⟩ := hw'
  subst hw''
  have q9 := q0.trans ((below_regrown _ dq osq).mono q0.size)
  go_wp2_with fail
  go_ret
  exact ⟨rfl, q9⟩
set_option maxHeartbeats 1600000 in
set_option maxRecDepth 100000 in
theorem holds_kind (nm : ByteArray) (ty k n : Int) (s : ByteArray) (w : World) (hs : s.size ≤ maxLen) (hr : rightV k n s = true) (hq : ∀ w, (binOp .eql 26 (vVal k n s) (vVal 0 0 ⟨#[]⟩)).run Tryd.prog w = .ok (.bool false) w) (hg : ∀ u v w, (eqGuard .eql 26 u v (vVal k n s) (vVal 0 0 ⟨#[]⟩)).run Tryd.prog w = .ok () w) :
    Calls Tryd.prog 25 #[vCol nm ty, vVal k n s] w fun e w' => e = .returned (.bool (k == ty)) ∧ Below w.heap.size w w' := by
  have HR := hide (fun w' => (right_any k n s w' hs).mono fun e w1 (h : e = .returned (.bool (rightV k n s)) ∧ Below w'.heap.size w' w1) => (⟨by rw [h.1, hr], h.2⟩ : e = .returned (.bool true) ∧ Below w'.heap.size w' w1))
  clear hr
  have q0 : Below w.heap.size w ((w.alloc (.cells #[.string nm, .int .i64 ty] 44)).alloc (.cells #[.int .i64 k, .int .i64 n, .string s] 26)) := ((Below.refl _ _).alloc (Nat.le_refl _) _).alloc (by simp) _
  have r0 := fun d os => cell_regrown (show ((w.alloc (.cells #[.string nm, .int .i64 ty] 44)).alloc (.cells #[.int .i64 k, .int .i64 n, .string s] 26)).cell? ⟨w.heap.size + 1, 0, none⟩ = some (.int .i64 k) by simp) d os
  have r1 := fun d os => cell_regrown (show ((w.alloc (.cells #[.string nm, .int .i64 ty] 44)).alloc (.cells #[.int .i64 k, .int .i64 n, .string s] 26)).cell? ⟨w.heap.size + 1, 1, none⟩ = some (.int .i64 n) by simp) d os
  have r2 := fun d os => cell_regrown (show ((w.alloc (.cells #[.string nm, .int .i64 ty] 44)).alloc (.cells #[.int .i64 k, .int .i64 n, .string s] 26)).cell? ⟨w.heap.size + 1, 2, none⟩ = some (.string s) by simp) d os
  have r3 := fun d os => cell_regrown (show ((w.alloc (.cells #[.string nm, .int .i64 ty] 44)).alloc (.cells #[.int .i64 k, .int .i64 n, .string s] 26)).cell? ⟨w.heap.size, 1, none⟩ = some (.int .i64 ty) by simp) d os
  go_enter Tryd.func25, Tryd.ntmps25
  go_wp2_with fail
  refine wp_region_quiet_below (by kernel_rfl) (by kernel_rfl) ?_
  repeat (go_big_quiet_step (first
      | (go_at_call 36; exact Calls.regrown_of (HR.out _))
      | (go_at_call 37; exact Calls.regrown_of (null_any _))))
  refine wpQuiet_nil ?_
  intro _ hw'
  obtain ⟨⟨dq, osq⟩, hw''⟩ := hw'
  subst hw''
  have q9 := q0.trans ((below_regrown _ dq osq).mono q0.size)
  go_wp2_with fail
  go_ret
  exact ⟨rfl, q9⟩

theorem holds_any (nm : ByteArray) (ty k n : Int) (s : ByteArray) (w : World) (hs : s.size ≤ maxLen) :
    Calls Tryd.prog 25 #[vCol nm ty, vVal k n s] w fun e w' => e = .returned (.bool (holdsB ty k n s)) ∧ Below w.heap.size w w' := by
  unfold holdsB
  cases hr : rightV k n s
  · exact holds_wrong nm ty k n s w hs hr
  · by_cases hk : k = 0
    · subst hk
      have hn : n = 0 ∧ s = ⟨#[]⟩ := by
        rcases rightV_cases hr with ⟨_, h1, h2⟩ | ⟨h, _⟩ | ⟨h, _⟩
        · exact ⟨h1, h2⟩
        · omega
        · omega
      obtain ⟨rfl, rfl⟩ := hn
      refine holds_null nm ty 0 0 ⟨#[]⟩ w hs hr (fun w => ?_) (fun u v w => run_guard_val _ _ _ _ _ _ u v w)
      rw [run_eql_val]; simp
    · have h0 : (k == 0) = false := by rw [beq_eq_false_iff_ne]; exact hk
      rw [h0]
      refine (holds_kind nm ty k n s w hs hr (fun w => ?_) (fun u v w => run_guard_val _ _ _ _ _ _ u v w)).mono fun e w' h => ?_
      · rw [run_eql_val, h0]; simp
      · simpa using h
end Go.Proofs.YtpohofcfmllghaaDoor
