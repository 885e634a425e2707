/-
  The walk of SchemeChecks.
-/
import Derived.Test.YtggaflihblhapaaDoorJLaw
namespace Go.Proofs.YtggaflihblhapaaDoor
open Go.RowKit Go.Sort CM JM

set_option maxHeartbeats 4000000 in
set_option maxRecDepth 100000 in
theorem checks_no (k a z i : Int) (w : World)
    (hr : Gv (w.alloc (.cells #[.int .i64 k, .int .i64 a, .int .i64 z] 41)) 18 #[vS k a z] (vS k a z))
    (hn : Gv (w.alloc (.cells #[.int .i64 k, .int .i64 a, .int .i64 z] 41)) 17 #[vS k a z] (.bool false))
    (hc : Gv (w.alloc (.cells #[.int .i64 k, .int .i64 a, .int .i64 z] 41)) 19 #[vS k a z] (.int .i64 54))
    (ha : Gv (w.alloc (.cells #[.int .i64 k, .int .i64 a, .int .i64 z] 41)) 20 #[] (.bool true)) : Calls Tryd.prog 4 #[vS k a z, .int .i64 i] w fun e w' => e = .returned (.bool true) ∧ Below w.heap.size w w' := by
  have HR := hide hr
  have HN := hide hn
  have HC := hide hc
  have HA := hide ha
  have HO := hide (box_below w k a z)
  have HB0 := hide (Below.refl (w.alloc (.cells #[.int .i64 k, .int .i64 a, .int .i64 z] 41)).heap.size (w.alloc (.cells #[.int .i64 k, .int .i64 a, .int .i64 z] 41)))
  clear hr hn hc ha
  go_enter Tryd.func4, Tryd.ntmps4
  go_wp2_with fail
  refine (HR.out _ HB0.out).mono ?_
  rintro e w1 ⟨rfl, hb⟩
  have HB1 := hide (HB0.out.trans (hb.mono HB0.out.size))
  clear hb
  obtain ⟨⟨c0, c1, c2⟩, hs⟩ := box_stays HB1.out
  go_wp2_with fail
  refine (HN.out _ HB1.out).mono ?_
  rintro e w2 ⟨rfl, hb⟩
  have HB2 := hide (HB1.out.trans (hb.mono HB1.out.size))
  clear c0 c1 c2 hs hb
  obtain ⟨⟨c0, c1, c2⟩, hs⟩ := box_stays HB2.out
  go_wp2_with fail
  refine (HC.out _ HB2.out).mono ?_
  rintro e w3 ⟨rfl, hb⟩
  have HB3 := hide (HB2.out.trans (hb.mono HB2.out.size))
  clear c0 c1 c2 hs hb
  obtain ⟨⟨c0, c1, c2⟩, hs⟩ := box_stays HB3.out
  go_wp2_with fail
  refine (HA.out _ HB3.out).mono ?_
  rintro e w4 ⟨rfl, hb⟩
  have HB4 := hide (HB3.out.trans (hb.mono HB3.out.size))
  clear c0 c1 c2 hs hb
  obtain ⟨⟨c0, c1, c2⟩, hs⟩ := box_stays HB4.out
  go_wp2_with fail
  go_ret
  exact ⟨rfl, HO.out.trans (HB4.out.mono HO.out.size)⟩
set_option maxHeartbeats 8000000 in
set_option maxRecDepth 100000 in
theorem checks_lo (k a z i : Int) (n : Nat) (w : World) (h0 : 0 ≤ a) (h1 : a ≤ 40000000) (hz : z = a + (n : Int) - 1) (hn5 : n ≤ 512) (hn1 : 1 ≤ n) (_ : i < a)
    (hr : Gv (w.alloc (.cells #[.int .i64 k, .int .i64 a, .int .i64 z] 41)) 18 #[vS k a z] (vS k a z))
    (hn : Gv (w.alloc (.cells #[.int .i64 k, .int .i64 a, .int .i64 z] 41)) 17 #[vS k a z] (.bool true))
    (hc : Gv (w.alloc (.cells #[.int .i64 k, .int .i64 a, .int .i64 z] 41)) 19 #[vS k a z] (.int .i64 0))
    (ht : Gv (w.alloc (.cells #[.int .i64 k, .int .i64 a, .int .i64 z] 41)) 22 #[vS k a z] (.int .i64 n))
    (hh : Gv (w.alloc (.cells #[.int .i64 k, .int .i64 a, .int .i64 z] 41)) 23 #[vS k a z, .int .i64 i] (.bool false))
    (hp : ∀ w1, Below (w.alloc (.cells #[.int .i64 k, .int .i64 a, .int .i64 z] 41)).heap.size (w.alloc (.cells #[.int .i64 k, .int .i64 a, .int .i64 z] 41)) w1 → Calls Tryd.prog 21 #[vS k a z] w1 (NumOut a n w1))
    (ha : Gv (w.alloc (.cells #[.int .i64 k, .int .i64 a, .int .i64 z] 41)) 20 #[] (.bool true)) : Calls Tryd.prog 4 #[vS k a z, .int .i64 i] w fun e w' => e = .returned (.bool true) ∧ Below w.heap.size w w' := by
  have HR := hide hr
  have HN := hide hn
  have HC := hide hc
  have HT := hide ht
  have HH := hide hh
  have HP := hide hp
  have HA := hide ha
  have q1 : ((n : Int) != z - a + 1) = false := by simp; omega
  have q2 : decide (a ≤ i) = false := by simp; omega
  have hz1 : z ≤ 40001000 := by omega
  have hz2 : 0 ≤ z := by omega
  clear hz hn1
  have HO := hide (box_below w k a z)
  have HB0 := hide (Below.refl (w.alloc (.cells #[.int .i64 k, .int .i64 a, .int .i64 z] 41)).heap.size (w.alloc (.cells #[.int .i64 k, .int .i64 a, .int .i64 z] 41)))
  clear hr hn hc ht hh hp ha
  go_enter Tryd.func4, Tryd.ntmps4
  go_wp2_with fail
  refine (HR.out _ HB0.out).mono ?_
  rintro e w1 ⟨rfl, hb⟩
  have HB1 := hide (HB0.out.trans (hb.mono HB0.out.size))
  clear hb
  obtain ⟨⟨c0, c1, c2⟩, hs⟩ := box_stays HB1.out
  go_wp2_with fail
  refine (HN.out _ HB1.out).mono ?_
  rintro e w2 ⟨rfl, hb⟩
  have HB2 := hide (HB1.out.trans (hb.mono HB1.out.size))
  clear c0 c1 c2 hs hb
  obtain ⟨⟨c0, c1, c2⟩, hs⟩ := box_stays HB2.out
  go_wp2_with fail
  refine (HP.out _ HB2.out).mono ?_
  rintro e w3 ⟨⟨A, cap, rfl, hA⟩, hb⟩
  have HNu := hide hA
  have HB3 := hide (HB2.out.trans (hb.mono HB2.out.size))
  clear c0 c1 c2 hs hb hA
  obtain ⟨⟨c0, c1, c2⟩, hs⟩ := box_stays HB3.out
  go_wp2_with fail
  have r0 := fun dn os => cell_regrown c0 dn os
  have r1 := fun dn os => cell_regrown c1 dn os
  have r2 := fun dn os => cell_regrown c2 dn os
  have HG : Hid (∀ dn os, Below (w.alloc (.cells #[.int .i64 k, .int .i64 a, .int .i64 z] 41)).heap.size (w.alloc (.cells #[.int .i64 k, .int .i64 a, .int .i64 z] 41)) (grow (redrawn w3 dn) os)) := hide fun dn os => HB3.out.trans ((below_regrown _ dn os).mono HB3.out.size)
  refine wp_region_quiet_below (by kernel_rfl) (by kernel_rfl) ?_
  repeat (go_big_quiet_step (first
      | (go_at_call 19; with_reducible exact Calls.regrown_of (HC.out _ (HG.out _ _)))
      | (go_at_call 22; with_reducible exact Calls.regrown_of (HT.out _ (HG.out _ _)))
      | (go_at_call 23; with_reducible exact Calls.regrown_of (HH.out _ (HG.out _ _)))))
  refine wpQuiet_nil ?_
  intro _ hw'
  obtain ⟨⟨dq, osq⟩, hw''⟩ := hw'
  have HB4 := hide (HG.out dq osq)
  have HNu2 := hide (HNu.out.on (below_regrown w3 dq osq))
  clear r0 r1 r2 c0 c1 c2 hs
  rw [← hw''] at HB4 HNu2
  clear hw''
  obtain ⟨⟨c0, c1, c2⟩, hs⟩ := box_stays HB4.out
  go_wp2_with fail
  go_loop [59] (fun j => ∃ t : Nat, t ≤ n ∧ j = .int .i64 t) (fun j => n - (intOf j).toNat)
  case atStart => exact ⟨0, Nat.zero_le _, rfl⟩
  case round =>
    obtain ⟨t, ht, rfl⟩ := hrel
    by_cases hlt : t < n
    · obtain ⟨b, rfl, hbl, hcell⟩ := HNu2.out t hlt
      go_wp2_with fail
      go_round
      case rel => exact ⟨t + 1, by omega, by go_num⟩
      case measure => simp [intOf]; omega
    · go_wp2_with fail
      refine (HA.out _ HB4.out).mono ?_
      rintro e w5 ⟨rfl, hb⟩
      have HB5 := hide (HB4.out.trans (hb.mono HB4.out.size))
      clear hb
      go_wp2_with fail
      go_ret
      exact ⟨rfl, HO.out.trans (HB5.out.mono HO.out.size)⟩
set_option maxHeartbeats 8000000 in
set_option maxRecDepth 100000 in
theorem checks_hi (k a z i : Int) (n : Nat) (w : World) (h0 : 0 ≤ a) (h1 : a ≤ 40000000) (hz : z = a + (n : Int) - 1) (hn5 : n ≤ 512) (hn1 : 1 ≤ n) (_ : a ≤ i) (_ : z < i)
    (hr : Gv (w.alloc (.cells #[.int .i64 k, .int .i64 a, .int .i64 z] 41)) 18 #[vS k a z] (vS k a z))
    (hn : Gv (w.alloc (.cells #[.int .i64 k, .int .i64 a, .int .i64 z] 41)) 17 #[vS k a z] (.bool true))
    (hc : Gv (w.alloc (.cells #[.int .i64 k, .int .i64 a, .int .i64 z] 41)) 19 #[vS k a z] (.int .i64 0))
    (ht : Gv (w.alloc (.cells #[.int .i64 k, .int .i64 a, .int .i64 z] 41)) 22 #[vS k a z] (.int .i64 n))
    (hh : Gv (w.alloc (.cells #[.int .i64 k, .int .i64 a, .int .i64 z] 41)) 23 #[vS k a z, .int .i64 i] (.bool false))
    (hp : ∀ w1, Below (w.alloc (.cells #[.int .i64 k, .int .i64 a, .int .i64 z] 41)).heap.size (w.alloc (.cells #[.int .i64 k, .int .i64 a, .int .i64 z] 41)) w1 → Calls Tryd.prog 21 #[vS k a z] w1 (NumOut a n w1))
    (ha : Gv (w.alloc (.cells #[.int .i64 k, .int .i64 a, .int .i64 z] 41)) 20 #[] (.bool true)) : Calls Tryd.prog 4 #[vS k a z, .int .i64 i] w fun e w' => e = .returned (.bool true) ∧ Below w.heap.size w w' := by
  have HR := hide hr
  have HN := hide hn
  have HC := hide hc
  have HT := hide ht
  have HH := hide hh
  have HP := hide hp
  have HA := hide ha
  have q1 : ((n : Int) != z - a + 1) = false := by simp; omega
  have q2 : decide (a ≤ i) = true := by simp; omega
  have q3 : decide (i ≤ z) = false := by simp; omega
  have hz1 : z ≤ 40001000 := by omega
  have hz2 : 0 ≤ z := by omega
  clear hz hn1
  have HO := hide (box_below w k a z)
  have HB0 := hide (Below.refl (w.alloc (.cells #[.int .i64 k, .int .i64 a, .int .i64 z] 41)).heap.size (w.alloc (.cells #[.int .i64 k, .int .i64 a, .int .i64 z] 41)))
  clear hr hn hc ht hh hp ha
  go_enter Tryd.func4, Tryd.ntmps4
  go_wp2_with fail
  refine (HR.out _ HB0.out).mono ?_
  rintro e w1 ⟨rfl, hb⟩
  have HB1 := hide (HB0.out.trans (hb.mono HB0.out.size))
  clear hb
  obtain ⟨⟨c0, c1, c2⟩, hs⟩ := box_stays HB1.out
  go_wp2_with fail
  refine (HN.out _ HB1.out).mono ?_
  rintro e w2 ⟨rfl, hb⟩
  have HB2 := hide (HB1.out.trans (hb.mono HB1.out.size))
  clear c0 c1 c2 hs hb
  obtain ⟨⟨c0, c1, c2⟩, hs⟩ := box_stays HB2.out
  go_wp2_with fail
  refine (HP.out _ HB2.out).mono ?_
  rintro e w3 ⟨⟨A, cap, rfl, hA⟩, hb⟩
  have HNu := hide hA
  have HB3 := hide (HB2.out.trans (hb.mono HB2.out.size))
  clear c0 c1 c2 hs hb hA
  obtain ⟨⟨c0, c1, c2⟩, hs⟩ := box_stays HB3.out
  go_wp2_with fail
  have r0 := fun dn os => cell_regrown c0 dn os
  have r1 := fun dn os => cell_regrown c1 dn os
  have r2 := fun dn os => cell_regrown c2 dn os
  have HG : Hid (∀ dn os, Below (w.alloc (.cells #[.int .i64 k, .int .i64 a, .int .i64 z] 41)).heap.size (w.alloc (.cells #[.int .i64 k, .int .i64 a, .int .i64 z] 41)) (grow (redrawn w3 dn) os)) := hide fun dn os => HB3.out.trans ((below_regrown _ dn os).mono HB3.out.size)
  refine wp_region_quiet_below (by kernel_rfl) (by kernel_rfl) ?_
  repeat (go_big_quiet_step (first
      | (go_at_call 19; with_reducible exact Calls.regrown_of (HC.out _ (HG.out _ _)))
      | (go_at_call 22; with_reducible exact Calls.regrown_of (HT.out _ (HG.out _ _)))
      | (go_at_call 23; with_reducible exact Calls.regrown_of (HH.out _ (HG.out _ _)))))
  refine wpQuiet_nil ?_
  intro _ hw'
  obtain ⟨⟨dq, osq⟩, hw''⟩ := hw'
  have HB4 := hide (HG.out dq osq)
  have HNu2 := hide (HNu.out.on (below_regrown w3 dq osq))
  clear r0 r1 r2 c0 c1 c2 hs
  rw [← hw''] at HB4 HNu2
  clear hw''
  obtain ⟨⟨c0, c1, c2⟩, hs⟩ := box_stays HB4.out
  go_wp2_with fail
  go_loop [59] (fun j => ∃ t : Nat, t ≤ n ∧ j = .int .i64 t) (fun j => n - (intOf j).toNat)
  case atStart => exact ⟨0, Nat.zero_le _, rfl⟩
  case round =>
    obtain ⟨t, ht, rfl⟩ := hrel
    by_cases hlt : t < n
    · obtain ⟨b, rfl, hbl, hcell⟩ := HNu2.out t hlt
      go_wp2_with fail
      go_round
      case rel => exact ⟨t + 1, by omega, by go_num⟩
      case measure => simp [intOf]; omega
    · go_wp2_with fail
      refine (HA.out _ HB4.out).mono ?_
      rintro e w5 ⟨rfl, hb⟩
      have HB5 := hide (HB4.out.trans (hb.mono HB4.out.size))
      clear hb
      go_wp2_with fail
      go_ret
      exact ⟨rfl, HO.out.trans (HB5.out.mono HO.out.size)⟩
set_option maxHeartbeats 8000000 in
set_option maxRecDepth 100000 in
theorem checks_in (k a z i : Int) (n : Nat) (w : World) (h0 : 0 ≤ a) (h1 : a ≤ 40000000) (hz : z = a + (n : Int) - 1) (hn5 : n ≤ 512) (hn1 : 1 ≤ n) (_ : a ≤ i) (_ : i ≤ z)
    (hr : Gv (w.alloc (.cells #[.int .i64 k, .int .i64 a, .int .i64 z] 41)) 18 #[vS k a z] (vS k a z))
    (hn : Gv (w.alloc (.cells #[.int .i64 k, .int .i64 a, .int .i64 z] 41)) 17 #[vS k a z] (.bool true))
    (hc : Gv (w.alloc (.cells #[.int .i64 k, .int .i64 a, .int .i64 z] 41)) 19 #[vS k a z] (.int .i64 0))
    (ht : Gv (w.alloc (.cells #[.int .i64 k, .int .i64 a, .int .i64 z] 41)) 22 #[vS k a z] (.int .i64 n))
    (hh : Gv (w.alloc (.cells #[.int .i64 k, .int .i64 a, .int .i64 z] 41)) 23 #[vS k a z, .int .i64 i] (.bool true))
    (hp : ∀ w1, Below (w.alloc (.cells #[.int .i64 k, .int .i64 a, .int .i64 z] 41)).heap.size (w.alloc (.cells #[.int .i64 k, .int .i64 a, .int .i64 z] 41)) w1 → Calls Tryd.prog 21 #[vS k a z] w1 (NumOut a n w1))
    (ha : Gv (w.alloc (.cells #[.int .i64 k, .int .i64 a, .int .i64 z] 41)) 20 #[] (.bool true)) : Calls Tryd.prog 4 #[vS k a z, .int .i64 i] w fun e w' => e = .returned (.bool true) ∧ Below w.heap.size w w' := by
  have HR := hide hr
  have HN := hide hn
  have HC := hide hc
  have HT := hide ht
  have HH := hide hh
  have HP := hide hp
  have HA := hide ha
  have q1 : ((n : Int) != z - a + 1) = false := by simp; omega
  have q2 : decide (a ≤ i) = true := by simp; omega
  have q3 : decide (i ≤ z) = true := by simp; omega
  have hz1 : z ≤ 40001000 := by omega
  have hz2 : 0 ≤ z := by omega
  clear hz hn1
  have HO := hide (box_below w k a z)
  have HB0 := hide (Below.refl (w.alloc (.cells #[.int .i64 k, .int .i64 a, .int .i64 z] 41)).heap.size (w.alloc (.cells #[.int .i64 k, .int .i64 a, .int .i64 z] 41)))
  clear hr hn hc ht hh hp ha
  go_enter Tryd.func4, Tryd.ntmps4
  go_wp2_with fail
  refine (HR.out _ HB0.out).mono ?_
  rintro e w1 ⟨rfl, hb⟩
  have HB1 := hide (HB0.out.trans (hb.mono HB0.out.size))
  clear hb
  obtain ⟨⟨c0, c1, c2⟩, hs⟩ := box_stays HB1.out
  go_wp2_with fail
  refine (HN.out _ HB1.out).mono ?_
  rintro e w2 ⟨rfl, hb⟩
  have HB2 := hide (HB1.out.trans (hb.mono HB1.out.size))
  clear c0 c1 c2 hs hb
  obtain ⟨⟨c0, c1, c2⟩, hs⟩ := box_stays HB2.out
  go_wp2_with fail
  refine (HP.out _ HB2.out).mono ?_
  rintro e w3 ⟨⟨A, cap, rfl, hA⟩, hb⟩
  have HNu := hide hA
  have HB3 := hide (HB2.out.trans (hb.mono HB2.out.size))
  clear c0 c1 c2 hs hb hA
  obtain ⟨⟨c0, c1, c2⟩, hs⟩ := box_stays HB3.out
  go_wp2_with fail
  have r0 := fun dn os => cell_regrown c0 dn os
  have r1 := fun dn os => cell_regrown c1 dn os
  have r2 := fun dn os => cell_regrown c2 dn os
  have HG : Hid (∀ dn os, Below (w.alloc (.cells #[.int .i64 k, .int .i64 a, .int .i64 z] 41)).heap.size (w.alloc (.cells #[.int .i64 k, .int .i64 a, .int .i64 z] 41)) (grow (redrawn w3 dn) os)) := hide fun dn os => HB3.out.trans ((below_regrown _ dn os).mono HB3.out.size)
  refine wp_region_quiet_below (by kernel_rfl) (by kernel_rfl) ?_
  repeat (go_big_quiet_step (first
      | (go_at_call 19; with_reducible exact Calls.regrown_of (HC.out _ (HG.out _ _)))
      | (go_at_call 22; with_reducible exact Calls.regrown_of (HT.out _ (HG.out _ _)))
      | (go_at_call 23; with_reducible exact Calls.regrown_of (HH.out _ (HG.out _ _)))))
  refine wpQuiet_nil ?_
  intro _ hw'
  obtain ⟨⟨dq, osq⟩, hw''⟩ := hw'
  have HB4 := hide (HG.out dq osq)
  have HNu2 := hide (HNu.out.on (below_regrown w3 dq osq))
  clear r0 r1 r2 c0 c1 c2 hs
  rw [← hw''] at HB4 HNu2
  clear hw''
  obtain ⟨⟨c0, c1, c2⟩, hs⟩ := box_stays HB4.out
  go_wp2_with fail
  go_loop [59] (fun j => ∃ t : Nat, t ≤ n ∧ j = .int .i64 t) (fun j => n - (intOf j).toNat)
  case atStart => exact ⟨0, Nat.zero_le _, rfl⟩
  case round =>
    obtain ⟨t, ht, rfl⟩ := hrel
    by_cases hlt : t < n
    · obtain ⟨b, rfl, hbl, hcell⟩ := HNu2.out t hlt
      go_wp2_with fail
      go_round
      case rel => exact ⟨t + 1, by omega, by go_num⟩
      case measure => simp [intOf]; omega
    · go_wp2_with fail
      refine (HA.out _ HB4.out).mono ?_
      rintro e w5 ⟨rfl, hb⟩
      have HB5 := hide (HB4.out.trans (hb.mono HB4.out.size))
      clear hb
      go_wp2_with fail
      go_ret
      exact ⟨rfl, HO.out.trans (HB5.out.mono HO.out.size)⟩
theorem schemeChecks_walk (k a z i : Int) (w : World) (hz : z ≤ 9223372036854775807) (_ : -9223372036854775808 ≤ i) (_ : i ≤ 9223372036854775807) (hR : Rs w) : Calls Tryd.prog 4 #[vS k a z, .int .i64 i] w fun e w' => e = .returned (.bool true) ∧ Below w.heap.size w w' := by
  have hO := box_below w k a z
  have hR1 : ∀ w1, Below (w.alloc (.cells #[.int .i64 k, .int .i64 a, .int .i64 z] 41)).heap.size (w.alloc (.cells #[.int .i64 k, .int .i64 a, .int .i64 z] 41)) w1 → Rs w1 := fun w1 hb => hR.on (hO.trans (hb.mono hO.size))
  have hr : Gv (w.alloc (.cells #[.int .i64 k, .int .i64 a, .int .i64 z] 41)) 18 #[vS k a z] (vS k a z) := fun w1 _ => ref_any' k a z w1
  have hn : Gv (w.alloc (.cells #[.int .i64 k, .int .i64 a, .int .i64 z] 41)) 17 #[vS k a z] (.bool (okS k a z)) := fun w1 _ => right_any' k a z w1 hz
  have ha : Gv (w.alloc (.cells #[.int .i64 k, .int .i64 a, .int .i64 z] 41)) 20 #[] (.bool true) := fun w1 hb => awake_any w1 (hR1 w1 hb)
  have hc : Gv (w.alloc (.cells #[.int .i64 k, .int .i64 a, .int .i64 z] 41)) 19 #[vS k a z] (.int .i64 (chE k a z)) := fun w1 hb => check_any k a z w1 (hR1 w1 hb).mon hz
  cases hq : okS k a z
  · rw [hq] at hn
    rw [chE_no hq] at hc
    exact checks_no k a z i w hr hn hc ha
  · rw [hq] at hn
    rw [chE_yes hq] at hc
    obtain ⟨n, h1, h2, h3, h4⟩ := cnt_nat hq
    have hbd := ok_bd hq
    have ht : Gv (w.alloc (.cells #[.int .i64 k, .int .i64 a, .int .i64 z] 41)) 22 #[vS k a z] (.int .i64 n) := fun w1 hb => h1 ▸ count_any k a z w1 (hR1 w1 hb).mon hz
    have hh : Gv (w.alloc (.cells #[.int .i64 k, .int .i64 a, .int .i64 z] 41)) 23 #[vS k a z, .int .i64 i] (.bool (hasB k a z i)) := fun w1 hb => has_any' k a z i w1 (hR1 w1 hb).mon hz
    have hp := fun w1 hb => parts_any k a z n w1 (hR1 w1 hb).mon hq h1
    by_cases g1 : i < a
    · rw [show hasB k a z i = false by unfold hasB; rw [decide_eq_false (Int.not_le.2 g1)]; simp] at hh
      exact checks_lo k a z i n w (by omega) (by omega) h3 h2 h4 g1 hr hn hc ht hh hp ha
    by_cases g2 : z < i
    · rw [show hasB k a z i = false by unfold hasB; rw [decide_eq_false (Int.not_le.2 g2)]; simp] at hh
      exact checks_hi k a z i n w (by omega) (by omega) h3 h2 h4 (by omega) g2 hr hn hc ht hh hp ha
    · rw [hasB_iff.2 ⟨hq, by omega, by omega⟩] at hh
      exact checks_in k a z i n w (by omega) (by omega) h3 h2 h4 (by omega) (by omega) hr hn hc ht hh hp ha
end Go.Proofs.YtggaflihblhapaaDoor
