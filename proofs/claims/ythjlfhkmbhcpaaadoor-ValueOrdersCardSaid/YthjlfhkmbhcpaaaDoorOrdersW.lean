/-
  The walk of ValueOrders.
-/
import Derived.Test.YthjlfhkmbhcpaaaDoorOps
import Derived.Test.YthjlfhkmbhcpaaaDoorCmp
import Derived.Deep.RegionHeld3
import Derived.Lib.QuietBelow
import Derived.BigQuiet
namespace Go.Proofs.YthjlfhkmbhcpaaaDoor.valueOrders
open Go.RowKit

abbrev Done (k n : Int) (s : ByteArray) (l m : Int) (t : ByteArray) (w : World) : Prop :=
  Calls Tryd.prog 3 #[vVal k n s, vVal l m t] w fun e w' => e = .returned (.bool true) ∧ Below w.heap.size w w'

theorem true_any (k n : Int) (s : ByteArray) (w : World) : Calls Tryd.prog 19 #[vVal k n s] w fun e w' => e = .returned (.bool ((k == 1) && (n != 0))) ∧ Below w.heap.size w w' := by
  cases hk : (k == 1)
  all_goals
    go_enter Tryd.func19, Tryd.ntmps19
    go_wp2
    go_ret
    exact ⟨rfl, by go_grown⟩

/-- A world in which the two values lie in their boxes, behind a draw. -/
theorem firstS4 {w1 w0 : World} {b m : Nat} {x y z u v r : Value} (c0 : w1.cell? ⟨b, 0, none⟩ = some x) (c1 : w1.cell? ⟨b, 1, none⟩ = some y) (c2 : w1.cell? ⟨b, 2, none⟩ = some z)
    (d0 : w1.cell? ⟨m, 0, none⟩ = some u) (d1 : w1.cell? ⟨m, 1, none⟩ = some v) (d2 : w1.cell? ⟨m, 2, none⟩ = some r) (hs : m < w1.heap.size) (h : Below w0.heap.size w0 w1) :
    w1.drew.cell? ⟨b, 0, none⟩ = some x ∧ w1.drew.cell? ⟨b, 1, none⟩ = some y ∧ w1.drew.cell? ⟨b, 2, none⟩ = some z ∧ w1.drew.cell? ⟨m, 0, none⟩ = some u ∧ w1.drew.cell? ⟨m, 1, none⟩ = some v ∧ w1.drew.cell? ⟨m, 2, none⟩ = some r ∧ m < w1.drew.heap.size ∧ Below w0.heap.size w0 w1.drew :=
  ⟨c0, c1, c2, d0, d1, d2, hs, h.drew⟩

set_option maxHeartbeats 1000000 in
theorem long (k n : Int) (s : ByteArray) (l m : Int) (t : ByteArray) (w : World) (ht : Tab w) (h : 200 < s.size ∨ 200 < t.size) : Done k n s l m t w := by
  have HT := Lib.hid ht; clear ht
  have h' : 200 < (s.size : Int) ∨ (¬ 200 < (s.size : Int) ∧ 200 < (t.size : Int)) := by omega
  clear h
  rcases h' with h | ⟨h0, h⟩
  all_goals
    go_enter Tryd.func3, Tryd.ntmps3
    go_wp2_with fail
    refine (awake_any _ (HT.out.stays (Joins.below_alloc2 w _ _) (Nat.le_refl _))).mono ?_
    rintro e w1 ⟨rfl, hb1⟩
    have q1 : Below w.heap.size w w1 := (Joins.below_alloc2 w _ _).trans (hb1.mono (by simp; omega))
    clear hb1
    go_wp2_with fail
    go_ret
    exact ⟨rfl, q1⟩

set_option maxRecDepth 100000 in
set_option maxHeartbeats 4000000 in
theorem first_no (k n : Int) (s : ByteArray) (l m : Int) (t : ByteArray) (w : World) (ht : Tab w) (hs : s.size ≤ 200) (hs2 : t.size ≤ 200) (hr0 : rightV k n s = false) : Done k n s l m t w := by
  have HT := Lib.hid ht; clear ht
  have HS := Lib.hid (show s.size ≤ maxLen by unfold maxLen; omega)
  have HS2 := Lib.hid (show t.size ≤ maxLen by unfold maxLen; omega)
  have g1 : ¬ 200 < (s.size : Int) := by omega
  have g2 : ¬ 200 < (t.size : Int) := by omega
  clear hs hs2
  go_enter Tryd.func3, Tryd.ntmps3
  go_wp2_with fail
  go_region_held3 (fun w' => w'.cell? ⟨w.heap.size, 0, none⟩ = some (.int .i64 k) ∧ w'.cell? ⟨w.heap.size, 1, none⟩ = some (.int .i64 n) ∧ w'.cell? ⟨w.heap.size, 2, none⟩ = some (.string s) ∧ w'.cell? ⟨w.heap.size + 1, 0, none⟩ = some (.int .i64 l) ∧ w'.cell? ⟨w.heap.size + 1, 1, none⟩ = some (.int .i64 m) ∧ w'.cell? ⟨w.heap.size + 1, 2, none⟩ = some (.string t) ∧ w.heap.size + 1 < w'.heap.size ∧ Below w.heap.size w w')
    (first
      | exact boxes_first
      | (go_split_ands; refine ⟨?_, ?_, ?_, ?_, ?_, ?_, ?_, ?_⟩ <;> assumption)
      | (go_split_ands; refine keepS2 hw (Nat.lt_add_one _) ?_ ?_ ?_ ?_ ?_ ?_ ?_ ?_ <;> assumption))
    (first
      | (go_at_call 13; refine (right_any k n s _ HS.out).mono ?_; rintro e w' ⟨rfl, hw⟩)
      | (go_at_call 15; refine (ref_any k n s _).mono ?_; rintro e w' ⟨rfl, hw⟩)
      | (go_at_call 14; refine (refRight_any k n s _ HS.out).mono ?_; rintro e w' ⟨rfl, hw⟩))
  clear hw
  have hS : (fun w' => w'.cell? ⟨w.heap.size, 0, none⟩ = some (.int .i64 k) ∧ w'.cell? ⟨w.heap.size, 1, none⟩ = some (.int .i64 n) ∧ w'.cell? ⟨w.heap.size, 2, none⟩ = some (.string s) ∧ w'.cell? ⟨w.heap.size + 1, 0, none⟩ = some (.int .i64 l) ∧ w'.cell? ⟨w.heap.size + 1, 1, none⟩ = some (.int .i64 m) ∧ w'.cell? ⟨w.heap.size + 1, 2, none⟩ = some (.string t) ∧ w.heap.size + 1 < w'.heap.size ∧ Below w.heap.size w w') w' := by first | assumption | (go_split_ands; exact ⟨by assumption, by assumption, by assumption, by assumption, by assumption, by assumption, by assumption, by assumption⟩)
  obtain ⟨c0, c1, c2, d0, d1, d2, hz, hq⟩ := hS
  go_wp2_with fail
  refine (lawRight_any k n s _ HS.out).mono ?_
  rintro e w2 ⟨rfl, hb2⟩
  obtain ⟨c0, c1, c2, d0, d1, d2, hz, hq⟩ := keepS2 hb2 (Nat.lt_add_one _) c0 c1 c2 d0 d1 d2 hz hq
  clear hb2
  rw [hr0]
  go_wp2_with fail
  refine (awake_any _ (HT.out.stays hq (Nat.le_refl _))).mono ?_
  rintro e wa ⟨rfl, hba⟩
  have qa : Below w.heap.size w wa := hq.trans (hba.mono hq.size)
  clear hba
  go_wp2_with fail
  go_ret
  exact ⟨rfl, qa⟩

set_option maxRecDepth 100000 in
set_option maxHeartbeats 4000000 in
theorem second_no (k n : Int) (s : ByteArray) (l m : Int) (t : ByteArray) (w : World) (ht : Tab w) (hs : s.size ≤ 200) (hs2 : t.size ≤ 200) (hr0 : rightV k n s = true) (hr1 : rightV l m t = false) : Done k n s l m t w := by
  have HT := Lib.hid ht; clear ht
  have HS := Lib.hid (show s.size ≤ maxLen by unfold maxLen; omega)
  have HS2 := Lib.hid (show t.size ≤ maxLen by unfold maxLen; omega)
  have g1 : ¬ 200 < (s.size : Int) := by omega
  have g2 : ¬ 200 < (t.size : Int) := by omega
  clear hs hs2
  go_enter Tryd.func3, Tryd.ntmps3
  go_wp2_with fail
  go_region_held3 (fun w' => w'.cell? ⟨w.heap.size, 0, none⟩ = some (.int .i64 k) ∧ w'.cell? ⟨w.heap.size, 1, none⟩ = some (.int .i64 n) ∧ w'.cell? ⟨w.heap.size, 2, none⟩ = some (.string s) ∧ w'.cell? ⟨w.heap.size + 1, 0, none⟩ = some (.int .i64 l) ∧ w'.cell? ⟨w.heap.size + 1, 1, none⟩ = some (.int .i64 m) ∧ w'.cell? ⟨w.heap.size + 1, 2, none⟩ = some (.string t) ∧ w.heap.size + 1 < w'.heap.size ∧ Below w.heap.size w w')
    (first
      | exact boxes_first
      | (go_split_ands; refine ⟨?_, ?_, ?_, ?_, ?_, ?_, ?_, ?_⟩ <;> assumption)
      | (go_split_ands; refine keepS2 hw (Nat.lt_add_one _) ?_ ?_ ?_ ?_ ?_ ?_ ?_ ?_ <;> assumption))
    (first
      | (go_at_call 13; refine (right_any k n s _ HS.out).mono ?_; rintro e w' ⟨rfl, hw⟩)
      | (go_at_call 15; refine (ref_any k n s _).mono ?_; rintro e w' ⟨rfl, hw⟩)
      | (go_at_call 14; refine (refRight_any k n s _ HS.out).mono ?_; rintro e w' ⟨rfl, hw⟩))
  clear hw
  have hS : (fun w' => w'.cell? ⟨w.heap.size, 0, none⟩ = some (.int .i64 k) ∧ w'.cell? ⟨w.heap.size, 1, none⟩ = some (.int .i64 n) ∧ w'.cell? ⟨w.heap.size, 2, none⟩ = some (.string s) ∧ w'.cell? ⟨w.heap.size + 1, 0, none⟩ = some (.int .i64 l) ∧ w'.cell? ⟨w.heap.size + 1, 1, none⟩ = some (.int .i64 m) ∧ w'.cell? ⟨w.heap.size + 1, 2, none⟩ = some (.string t) ∧ w.heap.size + 1 < w'.heap.size ∧ Below w.heap.size w w') w' := by first | assumption | (go_split_ands; exact ⟨by assumption, by assumption, by assumption, by assumption, by assumption, by assumption, by assumption, by assumption⟩)
  obtain ⟨c0, c1, c2, d0, d1, d2, hz, hq⟩ := hS
  go_wp2_with fail
  refine (lawRight_any k n s _ HS.out).mono ?_
  rintro e w2 ⟨rfl, hb2⟩
  obtain ⟨c0, c1, c2, d0, d1, d2, hz, hq⟩ := keepS2 hb2 (Nat.lt_add_one _) c0 c1 c2 d0 d1 d2 hz hq
  clear hb2
  rw [hr0]
  go_wp2_with fail
  refine (lawRight_any l m t _ HS2.out).mono ?_
  rintro e w3 ⟨rfl, hb3⟩
  obtain ⟨c0, c1, c2, d0, d1, d2, hz, hq⟩ := keepS2 hb3 (Nat.lt_add_one _) c0 c1 c2 d0 d1 d2 hz hq
  clear hb3
  rw [hr1]
  go_wp2_with fail
  refine (awake_any _ (HT.out.stays hq (Nat.le_refl _))).mono ?_
  rintro e wa ⟨rfl, hba⟩
  have qa : Below w.heap.size w wa := hq.trans (hba.mono hq.size)
  clear hba
  go_wp2_with fail
  go_ret
  exact ⟨rfl, qa⟩

set_option maxRecDepth 100000 in
set_option maxHeartbeats 4000000 in
theorem both_one (k n : Int) (s : ByteArray) (l m : Int) (t : ByteArray) (w : World) (ht : Tab w) (hs : s.size ≤ 200) (hs2 : t.size ≤ 200) (hr0 : rightV k n s = true) (hr1 : rightV l m t = true) (c : Int) (hcv : cmpV k n s l m t = c) (hc1 : -1 ≤ c) (hc2 : c ≤ 1) (b : Bool) (hc0 : (c == 0) = b) (HQ : ∀ w, (binOp .eql 23 (.agg #[.int .i64 k, .int .i64 n, .string s]) (.agg #[.int .i64 l, .int .i64 m, .string t])).run Tryd.prog w = .ok (.bool b) w) (hk : (k == 1) = true) : Done k n s l m t w := by
  have HT := Lib.hid ht; clear ht
  have HS := Lib.hid (show s.size ≤ maxLen by unfold maxLen; omega)
  have HS2 := Lib.hid (show t.size ≤ maxLen by unfold maxLen; omega)
  have g1 : ¬ 200 < (s.size : Int) := by omega
  have g2 : ¬ 200 < (t.size : Int) := by omega
  clear hs hs2
  have C1 : Hid (∀ w, Calls Tryd.prog 17 #[vVal k n s, vVal l m t] w fun e w' => e = .returned (.int .i64 c) ∧ Below w.heap.size w w') := Lib.hid fun w => by have h := cmp_any k n s l m t w; rw [hcv] at h; exact h
  have C2 : Hid (∀ w, Calls Tryd.prog 17 #[vVal l m t, vVal k n s] w fun e w' => e = .returned (.int .i64 (-c)) ∧ Below w.heap.size w w') := Lib.hid fun w => by have h := cmp_any l m t k n s w; rw [cmpV_turn, hcv] at h; exact h
  have C3 : Hid (∀ w, Calls Tryd.prog 18 #[vVal k n s, vVal l m t] w fun e w' => e = .returned (.int .i64 c) ∧ Below w.heap.size w w') := Lib.hid fun w => by have h := refCmp_any k n s l m t w HS.out; rw [hcv] at h; exact h
  have e1 : IntKind.i64.wrap (-c) = -c := IntWalk.i64_in _ (by omega)
  clear hcv
  go_enter Tryd.func3, Tryd.ntmps3
  go_wp2_with fail
  go_region_held3 (fun w' => w'.cell? ⟨w.heap.size, 0, none⟩ = some (.int .i64 k) ∧ w'.cell? ⟨w.heap.size, 1, none⟩ = some (.int .i64 n) ∧ w'.cell? ⟨w.heap.size, 2, none⟩ = some (.string s) ∧ w'.cell? ⟨w.heap.size + 1, 0, none⟩ = some (.int .i64 l) ∧ w'.cell? ⟨w.heap.size + 1, 1, none⟩ = some (.int .i64 m) ∧ w'.cell? ⟨w.heap.size + 1, 2, none⟩ = some (.string t) ∧ w.heap.size + 1 < w'.heap.size ∧ Below w.heap.size w w')
    (first
      | exact boxes_first
      | (go_split_ands; refine ⟨?_, ?_, ?_, ?_, ?_, ?_, ?_, ?_⟩ <;> assumption)
      | (go_split_ands; refine keepS2 hw (Nat.lt_add_one _) ?_ ?_ ?_ ?_ ?_ ?_ ?_ ?_ <;> assumption))
    (first
      | (go_at_call 13; refine (right_any k n s _ HS.out).mono ?_; rintro e w' ⟨rfl, hw⟩)
      | (go_at_call 15; refine (ref_any k n s _).mono ?_; rintro e w' ⟨rfl, hw⟩)
      | (go_at_call 14; refine (refRight_any k n s _ HS.out).mono ?_; rintro e w' ⟨rfl, hw⟩))
  clear hw
  have hS : (fun w' => w'.cell? ⟨w.heap.size, 0, none⟩ = some (.int .i64 k) ∧ w'.cell? ⟨w.heap.size, 1, none⟩ = some (.int .i64 n) ∧ w'.cell? ⟨w.heap.size, 2, none⟩ = some (.string s) ∧ w'.cell? ⟨w.heap.size + 1, 0, none⟩ = some (.int .i64 l) ∧ w'.cell? ⟨w.heap.size + 1, 1, none⟩ = some (.int .i64 m) ∧ w'.cell? ⟨w.heap.size + 1, 2, none⟩ = some (.string t) ∧ w.heap.size + 1 < w'.heap.size ∧ Below w.heap.size w w') w' := by first | assumption | (go_split_ands; exact ⟨by assumption, by assumption, by assumption, by assumption, by assumption, by assumption, by assumption, by assumption⟩)
  obtain ⟨c0, c1, c2, d0, d1, d2, hz, hq⟩ := hS
  go_wp2_with fail
  refine (lawRight_any k n s _ HS.out).mono ?_
  rintro e w2 ⟨rfl, hb2⟩
  obtain ⟨c0, c1, c2, d0, d1, d2, hz, hq⟩ := keepS2 hb2 (Nat.lt_add_one _) c0 c1 c2 d0 d1 d2 hz hq
  clear hb2
  rw [hr0]
  go_wp2_with fail
  refine (lawRight_any l m t _ HS2.out).mono ?_
  rintro e w3 ⟨rfl, hb3⟩
  obtain ⟨c0, c1, c2, d0, d1, d2, hz, hq⟩ := keepS2 hb3 (Nat.lt_add_one _) c0 c1 c2 d0 d1 d2 hz hq
  clear hb3
  rw [hr1]
  go_wp2_with fail
  refine (C1.out _).mono ?_
  rintro e w4 ⟨rfl, hb4⟩
  obtain ⟨c0, c1, c2, d0, d1, d2, hz, hq⟩ := keepS2 hb4 (Nat.lt_add_one _) c0 c1 c2 d0 d1 d2 hz hq
  clear hb4
  go_wp2_with fail
  have r0 := fun d os => cell_regrown c0 d os
  have r1 := fun d os => cell_regrown c1 d os
  have r2 := fun d os => cell_regrown c2 d os
  have r3 := fun d os => cell_regrown d0 d os
  have r4 := fun d os => cell_regrown d1 d os
  have r5 := fun d os => cell_regrown d2 d os
  have HTq := Lib.hid (fun d os => HT.out.stays (hq.trans ((below_regrown w4 d os).mono hq.size)) (Nat.le_refl _))
  clear c0 c1 c2 d0 d1 d2
  refine wp_region_quiet_below (by kernel_rfl) (by kernel_rfl) ?_
  repeat (go_big_quiet_step (first
      | (go_at_call 15; exact Calls.regrown_of (ref_any _ _ _ _))
      | (go_at_call 18; exact Calls.regrown_of (C3.out _))
      | (go_at_call 17; exact Calls.regrown_of (C2.out _))
      | (go_at_call 19; exact Calls.regrown_of (true_any _ _ _ _))
      | (go_at_call 12; exact Calls.regrown_of (awake_any _ (HTq.out _ _)))))
  refine wpQuiet_nil ?_
  intro _ hw'
  obtain ⟨⟨dq, osq⟩, hw''⟩ := hw'
  subst hw''
  have q9 := hq.trans ((below_regrown w4 dq osq).mono hq.size)
  go_wp2_with fail
  go_ret
  exact ⟨rfl, q9⟩

set_option maxRecDepth 100000 in
set_option maxHeartbeats 4000000 in
theorem both_else (k n : Int) (s : ByteArray) (l m : Int) (t : ByteArray) (w : World) (ht : Tab w) (hs : s.size ≤ 200) (hs2 : t.size ≤ 200) (hr0 : rightV k n s = true) (hr1 : rightV l m t = true) (c : Int) (hcv : cmpV k n s l m t = c) (hc1 : -1 ≤ c) (hc2 : c ≤ 1) (b : Bool) (hc0 : (c == 0) = b) (HQ : ∀ w, (binOp .eql 23 (.agg #[.int .i64 k, .int .i64 n, .string s]) (.agg #[.int .i64 l, .int .i64 m, .string t])).run Tryd.prog w = .ok (.bool b) w) (hk : (k == 1) = false) : Done k n s l m t w := by
  have HT := Lib.hid ht; clear ht
  have HS := Lib.hid (show s.size ≤ maxLen by unfold maxLen; omega)
  have HS2 := Lib.hid (show t.size ≤ maxLen by unfold maxLen; omega)
  have g1 : ¬ 200 < (s.size : Int) := by omega
  have g2 : ¬ 200 < (t.size : Int) := by omega
  clear hs hs2
  have C1 : Hid (∀ w, Calls Tryd.prog 17 #[vVal k n s, vVal l m t] w fun e w' => e = .returned (.int .i64 c) ∧ Below w.heap.size w w') := Lib.hid fun w => by have h := cmp_any k n s l m t w; rw [hcv] at h; exact h
  have C2 : Hid (∀ w, Calls Tryd.prog 17 #[vVal l m t, vVal k n s] w fun e w' => e = .returned (.int .i64 (-c)) ∧ Below w.heap.size w w') := Lib.hid fun w => by have h := cmp_any l m t k n s w; rw [cmpV_turn, hcv] at h; exact h
  have C3 : Hid (∀ w, Calls Tryd.prog 18 #[vVal k n s, vVal l m t] w fun e w' => e = .returned (.int .i64 c) ∧ Below w.heap.size w w') := Lib.hid fun w => by have h := refCmp_any k n s l m t w HS.out; rw [hcv] at h; exact h
  have e1 : IntKind.i64.wrap (-c) = -c := IntWalk.i64_in _ (by omega)
  clear hcv
  go_enter Tryd.func3, Tryd.ntmps3
  go_wp2_with fail
  go_region_held3 (fun w' => w'.cell? ⟨w.heap.size, 0, none⟩ = some (.int .i64 k) ∧ w'.cell? ⟨w.heap.size, 1, none⟩ = some (.int .i64 n) ∧ w'.cell? ⟨w.heap.size, 2, none⟩ = some (.string s) ∧ w'.cell? ⟨w.heap.size + 1, 0, none⟩ = some (.int .i64 l) ∧ w'.cell? ⟨w.heap.size + 1, 1, none⟩ = some (.int .i64 m) ∧ w'.cell? ⟨w.heap.size + 1, 2, none⟩ = some (.string t) ∧ w.heap.size + 1 < w'.heap.size ∧ Below w.heap.size w w')
    (first
      | exact boxes_first
      | (go_split_ands; refine ⟨?_, ?_, ?_, ?_, ?_, ?_, ?_, ?_⟩ <;> assumption)
      | (go_split_ands; refine keepS2 hw (Nat.lt_add_one _) ?_ ?_ ?_ ?_ ?_ ?_ ?_ ?_ <;> assumption))
    (first
      | (go_at_call 13; refine (right_any k n s _ HS.out).mono ?_; rintro e w' ⟨rfl, hw⟩)
      | (go_at_call 15; refine (ref_any k n s _).mono ?_; rintro e w' ⟨rfl, hw⟩)
      | (go_at_call 14; refine (refRight_any k n s _ HS.out).mono ?_; rintro e w' ⟨rfl, hw⟩))
  clear hw
  have hS : (fun w' => w'.cell? ⟨w.heap.size, 0, none⟩ = some (.int .i64 k) ∧ w'.cell? ⟨w.heap.size, 1, none⟩ = some (.int .i64 n) ∧ w'.cell? ⟨w.heap.size, 2, none⟩ = some (.string s) ∧ w'.cell? ⟨w.heap.size + 1, 0, none⟩ = some (.int .i64 l) ∧ w'.cell? ⟨w.heap.size + 1, 1, none⟩ = some (.int .i64 m) ∧ w'.cell? ⟨w.heap.size + 1, 2, none⟩ = some (.string t) ∧ w.heap.size + 1 < w'.heap.size ∧ Below w.heap.size w w') w' := by first | assumption | (go_split_ands; exact ⟨by assumption, by assumption, by assumption, by assumption, by assumption, by assumption, by assumption, by assumption⟩)
  obtain ⟨c0, c1, c2, d0, d1, d2, hz, hq⟩ := hS
  go_wp2_with fail
  refine (lawRight_any k n s _ HS.out).mono ?_
  rintro e w2 ⟨rfl, hb2⟩
  obtain ⟨c0, c1, c2, d0, d1, d2, hz, hq⟩ := keepS2 hb2 (Nat.lt_add_one _) c0 c1 c2 d0 d1 d2 hz hq
  clear hb2
  rw [hr0]
  go_wp2_with fail
  refine (lawRight_any l m t _ HS2.out).mono ?_
  rintro e w3 ⟨rfl, hb3⟩
  obtain ⟨c0, c1, c2, d0, d1, d2, hz, hq⟩ := keepS2 hb3 (Nat.lt_add_one _) c0 c1 c2 d0 d1 d2 hz hq
  clear hb3
  rw [hr1]
  go_wp2_with fail
  refine (C1.out _).mono ?_
  rintro e w4 ⟨rfl, hb4⟩
  obtain ⟨c0, c1, c2, d0, d1, d2, hz, hq⟩ := keepS2 hb4 (Nat.lt_add_one _) c0 c1 c2 d0 d1 d2 hz hq
  clear hb4
  go_wp2_with fail
  have r0 := fun d os => cell_regrown c0 d os
  have r1 := fun d os => cell_regrown c1 d os
  have r2 := fun d os => cell_regrown c2 d os
  have r3 := fun d os => cell_regrown d0 d os
  have r4 := fun d os => cell_regrown d1 d os
  have r5 := fun d os => cell_regrown d2 d os
  have HTq := Lib.hid (fun d os => HT.out.stays (hq.trans ((below_regrown w4 d os).mono hq.size)) (Nat.le_refl _))
  clear c0 c1 c2 d0 d1 d2
  refine wp_region_quiet_below (by kernel_rfl) (by kernel_rfl) ?_
  repeat (go_big_quiet_step (first
      | (go_at_call 15; exact Calls.regrown_of (ref_any _ _ _ _))
      | (go_at_call 18; exact Calls.regrown_of (C3.out _))
      | (go_at_call 17; exact Calls.regrown_of (C2.out _))
      | (go_at_call 19; exact Calls.regrown_of (true_any _ _ _ _))
      | (go_at_call 12; exact Calls.regrown_of (awake_any _ (HTq.out _ _)))))
  refine wpQuiet_nil ?_
  intro _ hw'
  obtain ⟨⟨dq, osq⟩, hw''⟩ := hw'
  subst hw''
  have q9 := hq.trans ((below_regrown w4 dq osq).mono hq.size)
  go_wp2_with fail
  go_ret
  exact ⟨rfl, q9⟩


theorem eq_agg (k n : Int) (s : ByteArray) (l m : Int) (t : ByteArray) (w : World) : (binOp .eql 23 (.agg #[.int .i64 k, .int .i64 n, .string s]) (.agg #[.int .i64 l, .int .i64 m, .string t])).run Tryd.prog w = .ok (.bool (decide (cmpV k n s l m t = 0))) w := by
  have h : (cmpV k n s l m t = 0) ↔ (k = l ∧ n = m ∧ s.toList = t.toList) := by
    rw [cmpV_zero, Lib.toList_data, Lib.toList_data]
    have : s = t ↔ s.data.toList = t.data.toList := by rw [← cmpS_zero]; unfold cmpS; exact lexL_zero _ _
    rw [this]
  go_simp
  by_cases h1 : k = l <;> by_cases h2 : n = m <;> by_cases h3 : s.toList = t.toList <;> simp [h1, h2, h3]

theorem valueOrders_walk (k n : Int) (s : ByteArray) (l m : Int) (t : ByteArray) (w : World) (_ : I64 k) (_ : I64 n) (_ : s.size ≤ maxLen) (_ : I64 l) (_ : I64 m) (_ : t.size ≤ maxLen) (ht : Tab w) : Done k n s l m t w := by
  by_cases hl : 200 < s.size ∨ 200 < t.size
  · exact long k n s l m t w ht hl
  cases hr0 : rightV k n s
  · exact first_no k n s l m t w ht (by omega) (by omega) hr0
  cases hr1 : rightV l m t
  · exact second_no k n s l m t w ht (by omega) (by omega) hr0 hr1
  have hr := cmpV_range k n s l m t
  have hz : (cmpV k n s l m t == 0) = decide (cmpV k n s l m t = 0) := rfl
  have hq := fun w => eq_agg k n s l m t w
  cases hk : (k == 1)
  · exact both_else k n s l m t w ht (by omega) (by omega) hr0 hr1 _ rfl (by omega) (by omega) _ hz hq hk
  · exact both_one k n s l m t w ht (by omega) (by omega) hr0 hr1 _ rfl (by omega) (by omega) _ hz hq hk
end Go.Proofs.YthjlfhkmbhcpaaaDoor.valueOrders
