/-
  At and Within.
-/
import Derived.Test.YtomhiganfmoceaaDoorJFirst
namespace Go.Proofs.YtomhiganfmoceaaDoor
open Go.RowKit Go.Sort CM JM

theorem e_at : ∀ args w, (callFunc 56 args).run Tryd.prog w = .ok (.enter 56 args) w := enters_of Tryd.func56 (by kernel_rfl) rfl
set_option maxHeartbeats 1000000 in
theorem c_at (k i m : Int) (bs bm : Nat) (w : World) (hM : Mon w) (h0 : 0 ≤ i) (hi : i ≤ grt k) (c0 : w.cell? ⟨bs, 0, none⟩ = some (.int .i64 k)) (c1 : w.cell? ⟨bm, 0, none⟩ = some (.int .i64 m)) :
    Calls Tryd.prog 56 #[.int .i64 i, .pointer (some ⟨bs, 0, none⟩), .pointer (some ⟨bm, 0, none⟩)] w fun e w2 => e = .returned (.bool (decide (m < bg k (i + 1)))) ∧ Below w.heap.size w w2 := by
  have HG := hide (fun w hM => begin_any k (i + 1) w hM (by omega) (by omega))
  have r0 := fun dn os => cell_regrown c0 dn os
  have r1 := fun dn os => cell_regrown c1 dn os
  have HMb : Hid (∀ dn os, Mon (grow (redrawn w dn) os)) := hide fun dn os => hM.on (below_regrown _ dn os)
  have hh := grt_hi k
  have hi2 : i ≤ 40000000 := by omega
  clear hM hi hh c0 c1
  generalize bg k (i + 1) = X at *
  go_enter Tryd.func56, Tryd.ntmps56
  go_wp2_with fail
  refine wp_region_quiet_below (by kernel_rfl) (by kernel_rfl) ?_
  repeat (go_big_quiet_step (first
      | (go_at_call 42; with_reducible exact Calls.regrown_of (HG.out _ (HMb.out _ _)))))
  refine wpQuiet_nil ?_
  intro _ hw'
  obtain ⟨⟨dq, osq⟩, hw''⟩ := hw'
  subst hw''
  have HF := hide (below_regrown w dq osq)
  clear r0 r1
  go_wp2_with fail
  go_ret
  exact ⟨ret_bool (by first | rfl | simp), HF.out⟩
theorem e_from : ∀ args w, (callFunc 44 args).run Tryd.prog w = .ok (.enter 44 args) w := enters_of Tryd.func44 (by kernel_rfl) rfl
set_option maxHeartbeats 1000000 in
theorem c_from (k i m : Int) (bs bm : Nat) (w : World) (hM : Mon w) (h0 : 0 ≤ i) (hi : i ≤ grt k) (c0 : w.cell? ⟨bs, 0, none⟩ = some (.int .i64 k)) (c1 : w.cell? ⟨bm, 0, none⟩ = some (.int .i64 m)) :
    Calls Tryd.prog 44 #[.int .i64 i, .pointer (some ⟨bs, 0, none⟩), .pointer (some ⟨bm, 0, none⟩)] w fun e w2 => e = .returned (.bool (decide (m ≤ bg k i))) ∧ Below w.heap.size w w2 := by
  have HG := hide (fun w hM => begin_any k (i) w hM (by omega) (by omega))
  have r0 := fun dn os => cell_regrown c0 dn os
  have r1 := fun dn os => cell_regrown c1 dn os
  have HMb : Hid (∀ dn os, Mon (grow (redrawn w dn) os)) := hide fun dn os => hM.on (below_regrown _ dn os)
  have hh := grt_hi k
  have hi2 : i ≤ 40000000 := by omega
  clear hM hi hh c0 c1
  generalize bg k (i) = X at *
  go_enter Tryd.func44, Tryd.ntmps44
  go_wp2_with fail
  refine wp_region_quiet_below (by kernel_rfl) (by kernel_rfl) ?_
  repeat (go_big_quiet_step (first
      | (go_at_call 42; with_reducible exact Calls.regrown_of (HG.out _ (HMb.out _ _)))))
  refine wpQuiet_nil ?_
  intro _ hw'
  obtain ⟨⟨dq, osq⟩, hw''⟩ := hw'
  subst hw''
  have HF := hide (below_regrown w dq osq)
  clear r0 r1
  go_wp2_with fail
  go_ret
  exact ⟨ret_bool (by first | rfl | simp), HF.out⟩
theorem e_to : ∀ args w, (callFunc 45 args).run Tryd.prog w = .ok (.enter 45 args) w := enters_of Tryd.func45 (by kernel_rfl) rfl
set_option maxHeartbeats 1000000 in
theorem c_to (k i m : Int) (bs bm : Nat) (w : World) (hM : Mon w) (h0 : 0 ≤ i) (hi : i ≤ grt k) (c0 : w.cell? ⟨bs, 0, none⟩ = some (.int .i64 k)) (c1 : w.cell? ⟨bm, 0, none⟩ = some (.int .i64 m)) :
    Calls Tryd.prog 45 #[.int .i64 i, .pointer (some ⟨bs, 0, none⟩), .pointer (some ⟨bm, 0, none⟩)] w fun e w2 => e = .returned (.bool (decide (m < bg k (i + 1)))) ∧ Below w.heap.size w w2 := by
  have HG := hide (fun w hM => begin_any k (i + 1) w hM (by omega) (by omega))
  have r0 := fun dn os => cell_regrown c0 dn os
  have r1 := fun dn os => cell_regrown c1 dn os
  have HMb : Hid (∀ dn os, Mon (grow (redrawn w dn) os)) := hide fun dn os => hM.on (below_regrown _ dn os)
  have hh := grt_hi k
  have hi2 : i ≤ 40000000 := by omega
  clear hM hi hh c0 c1
  generalize bg k (i + 1) = X at *
  go_enter Tryd.func45, Tryd.ntmps45
  go_wp2_with fail
  refine wp_region_quiet_below (by kernel_rfl) (by kernel_rfl) ?_
  repeat (go_big_quiet_step (first
      | (go_at_call 42; with_reducible exact Calls.regrown_of (HG.out _ (HMb.out _ _)))))
  refine wpQuiet_nil ?_
  intro _ hw'
  obtain ⟨⟨dq, osq⟩, hw''⟩ := hw'
  subst hw''
  have HF := hide (below_regrown w dq osq)
  clear r0 r1
  go_wp2_with fail
  go_ret
  exact ⟨ret_bool (by first | rfl | simp), HF.out⟩
theorem boxM_stays {w w1 : World} {k a z m : Int} (hb : Below ((w.alloc (.cells #[.int .i64 k, .int .i64 a, .int .i64 z] 25)).alloc (.cells #[.int .i64 m] 3)).heap.size ((w.alloc (.cells #[.int .i64 k, .int .i64 a, .int .i64 z] 25)).alloc (.cells #[.int .i64 m] 3)) w1) : (w1.cell? ⟨w.heap.size, 0, none⟩ = some (.int .i64 k) ∧ w1.cell? ⟨w.heap.size, 1, none⟩ = some (.int .i64 a) ∧ w1.cell? ⟨w.heap.size, 2, none⟩ = some (.int .i64 z)) ∧ w1.cell? ⟨w.heap.size + 1, 0, none⟩ = some (.int .i64 m) := by
  refine ⟨⟨?_, ?_, ?_⟩, ?_⟩
  all_goals
    rw [hb.cell (by simp; try omega)]
    simp
theorem boxM_below (w : World) (k a z m : Int) : Below w.heap.size w ((w.alloc (.cells #[.int .i64 k, .int .i64 a, .int .i64 z] 25)).alloc (.cells #[.int .i64 m] 3)) := (box_below w k a z).alloc (box_below w k a z).size _
theorem cell_new (W : World) (v : Value) (t : TypeId) : (W.alloc (.cells #[v] t)).cell? ⟨W.heap.size, 0, none⟩ = some v := by simp
theorem boxW_stays {w w1 : World} {k a z f t : Int} (hb : Below (((w.alloc (.cells #[.int .i64 k, .int .i64 a, .int .i64 z] 25)).alloc (.cells #[.int .i64 f] 3)).alloc (.cells #[.int .i64 t] 3)).heap.size (((w.alloc (.cells #[.int .i64 k, .int .i64 a, .int .i64 z] 25)).alloc (.cells #[.int .i64 f] 3)).alloc (.cells #[.int .i64 t] 3)) w1) : (w1.cell? ⟨w.heap.size, 0, none⟩ = some (.int .i64 k) ∧ w1.cell? ⟨w.heap.size, 1, none⟩ = some (.int .i64 a) ∧ w1.cell? ⟨w.heap.size, 2, none⟩ = some (.int .i64 z)) ∧ w1.cell? ⟨w.heap.size + 1, 0, none⟩ = some (.int .i64 f) ∧ w1.cell? ⟨w.heap.size + 1 + 1, 0, none⟩ = some (.int .i64 t) := by
  have hb0 : Below ((w.alloc (.cells #[.int .i64 k, .int .i64 a, .int .i64 z] 25)).alloc (.cells #[.int .i64 f] 3)).heap.size ((w.alloc (.cells #[.int .i64 k, .int .i64 a, .int .i64 z] 25)).alloc (.cells #[.int .i64 f] 3)) w1 := ((Below.refl _ _).alloc (Nat.le_refl _) _).trans (hb.mono (by simp))
  obtain ⟨h1, h2⟩ := boxM_stays hb0
  refine ⟨h1, h2, ?_⟩
  rw [hb.cell (by simp), show w.heap.size + 1 + 1 = ((w.alloc (.cells #[.int .i64 k, .int .i64 a, .int .i64 z] 25)).alloc (.cells #[.int .i64 f] 3)).heap.size by simp]
  exact cell_new _ _ _
theorem boxW_below (w : World) (k a z f t : Int) : Below w.heap.size w (((w.alloc (.cells #[.int .i64 k, .int .i64 a, .int .i64 z] 25)).alloc (.cells #[.int .i64 f] 3)).alloc (.cells #[.int .i64 t] 3)) := (boxM_below w k a z f).alloc (boxM_below w k a z f).size _
/-- The partition whose window a minute lies in, or there is none. -/
def AtIs (k a z m : Int) (r : Option Int) : Prop := match r with
  | some i => a ≤ i ∧ i ≤ z ∧ ¬ k = 5 ∧ bg k i ≤ m ∧ m < bg k (i + 1)
  | none => k = 5 ∨ ∀ i, a ≤ i → i ≤ z → ¬ (bg k i ≤ m ∧ m < bg k (i + 1))
def AtOut (k a z m : Int) (w : World) (e : Ending) (w' : World) : Prop := (∃ r, AtIs k a z m r ∧ e = .returned (.tuple (match r with | some x => #[.int .i64 x, .bool true] | none => #[.int .i64 0, .bool false]))) ∧ Below w.heap.size w w'
theorem at_end {k a z m : Int} {n r : Nat} (h0 : 0 ≤ a) (hz : z = a + (n : Int) - 1) (hr : IsFst (fun t => decide (m < bg k (a + (t : Int) + 1))) n r) :
    (r = n → AtIs k a z m none) ∧ (r < n → m < bg k (a + (r : Int)) → AtIs k a z m none) ∧ (r < n → ¬ k = 5 → bg k (a + (r : Int)) ≤ m → AtIs k a z m (some (a + (r : Int)))) := by
  obtain ⟨h1, h2, h3⟩ := hr
  have h2' : ∀ i, a ≤ i → i < a + (r : Int) → bg k (i + 1) ≤ m := fun i hi hl => by
    have := h2 (i - a).toNat (by omega)
    simp only [decide_eq_false_iff_not] at this
    rw [show a + ((i - a).toNat : Int) + 1 = i + 1 by omega] at this
    omega
  refine ⟨fun e => .inr fun i hi hz' => ?_, fun hl hm => .inr fun i hi hz' => ?_, fun hl h5 hm => ⟨by omega, by omega, h5, hm, ?_⟩⟩
  · have := h2' i hi (by omega); omega
  · rcases Int.lt_or_le i (a + (r : Int)) with h | h
    · have := h2' i hi h; omega
    · have := bg_mono (k := k) (a := a + (r : Int)) (b := i) (by omega) h; omega
  · have := h3 r (Nat.le_refl _) hl
    simpa using this
set_option maxHeartbeats 2000000 in
theorem at_any (k a z m : Int) (w : World) (hM : Mon w) (hok : okS k a z = true) : Calls Tryd.prog 46 #[vS k a z, .int .i64 m] w (AtOut k a z m w) := by
  obtain ⟨n, hn, hn5, hzn, hn1⟩ := cnt_nat hok
  have hbd := ok_bd hok
  have hgr := (okS_iff.1 hok).2.2.2
  have HB0 := hide (boxM_below w k a z m)
  have HF := hide (first_any' k a z 56 #[.pointer (some ⟨w.heap.size, 0, none⟩), .pointer (some ⟨w.heap.size + 1, 0, none⟩)] n (fun i => decide (m < bg k (i + 1))) ((w.alloc (.cells #[.int .i64 k, .int .i64 a, .int .i64 z] 25)).alloc (.cells #[.int .i64 m] 3)) (hM.on HB0.out) e_at hok hn
    (fun w' i hi hiz hb => by
      obtain ⟨⟨c0, _, _⟩, c1⟩ := boxM_stays hb
      exact c_at k i m _ _ w' (hM.on (HB0.out.trans (hb.mono HB0.out.size))) (by omega) (by omega) c0 c1)
    (fun i j hi hij hj h => by
      have := bg_mono (k := k) (a := i + 1) (b := j + 1) (by omega) (by omega)
      simp only [decide_eq_true_eq] at h ⊢
      omega))
  have HM := hide hM
  have HEnd : Hid (∀ r, IsFst (fun t => decide (m < bg k (a + (t : Int) + 1))) n r → (r = n → AtIs k a z m none) ∧ (r < n → m < bg k (a + (r : Int)) → AtIs k a z m none) ∧ (r < n → ¬ k = 5 → bg k (a + (r : Int)) ≤ m → AtIs k a z m (some (a + (r : Int))))) := hide fun r hr => at_end (by omega) hzn hr
  have HH : Hid (∀ i, a ≤ i → i ≤ z → hasB k a z i = true) := hide fun i h1 h2 => hasB_iff.2 ⟨hok, h1, h2⟩
  have HH2 : Hid (hasB k a z (a + (n : Int)) = false) := hide (by unfold hasB; rw [decide_eq_false (p := a + (n : Int) ≤ z) (by omega)]; simp)
  have HZN := hide hzn
  clear hM hok hn hzn hgr
  go_enter Tryd.func46, Tryd.ntmps46
  go_wp2_with fail
  refine HF.out.mono ?_
  rintro e w1 ⟨⟨r, hr, rfl⟩, hb⟩
  have hrn := hr.1
  have HE := hide (HEnd.out r hr)
  obtain ⟨⟨c0, c1, c2⟩, c3⟩ := boxM_stays hb
  have HB := hide (HB0.out.trans (hb.mono HB0.out.size))
  have HW := hide (window_any k a z (a + (r : Int)) w1 (HM.out.on HB.out) (by omega))
  have HS1 : Hid (w.heap.size + 1 < w1.heap.size) := hide (by have := hb.size; simp at this; omega)
  clear hb hr
  by_cases hlt : r = n
  · have HR := hide (HE.out.1 hlt)
    have HX := hide (winV_no (hlt ▸ HH2.out))
    rw [HX.out] at HW
    clear hlt
    go_wp2_with fail
    refine HW.out.mono ?_
    rintro e w2 ⟨rfl, hb2⟩
    have d3 := (hb2.cell (p := ⟨w.heap.size + 1, 0, none⟩) HS1.out).trans c3
    have HB2 := hide (HB.out.trans (hb2.mono HB.out.size))
    clear hb2
    go_wp2_with fail
    go_ret2
    exact ⟨⟨none, HR.out, rfl⟩, HB2.out⟩
  have hlt' : r < n := by omega
  have hh := HH.out (a + (r : Int)) (by omega) (by have := HZN.out; omega)
  by_cases h5 : k = 5
  · have HR : Hid (AtIs k a z m none) := hide (.inl h5)
    have HX := hide (winV_5 hh h5)
    rw [HX.out] at HW
    clear hh hlt h5
    go_wp2_with fail
    refine HW.out.mono ?_
    rintro e w2 ⟨rfl, hb2⟩
    have d3 := (hb2.cell (p := ⟨w.heap.size + 1, 0, none⟩) HS1.out).trans c3
    have HB2 := hide (HB.out.trans (hb2.mono HB.out.size))
    clear hb2
    go_wp2_with fail
    go_ret2
    exact ⟨⟨none, HR.out, rfl⟩, HB2.out⟩
  have HX := hide (winV_yes hh h5)
  rw [HX.out] at HW
  have HE1 := hide (fun h => HE.out.2.1 hlt' h)
  have HE2 := hide (fun h => HE.out.2.2 hlt' h5 h)
  clear hh hlt h5 hlt' HX HE
  generalize bg k (a + (r : Int)) = X at *
  generalize bg k (a + (r : Int) + 1) = Y at *
  by_cases hx : m < X
  · go_wp2_with fail
    refine HW.out.mono ?_
    rintro e w2 ⟨rfl, hb2⟩
    have d3 := (hb2.cell (p := ⟨w.heap.size + 1, 0, none⟩) HS1.out).trans c3
    have HB2 := hide (HB.out.trans (hb2.mono HB.out.size))
    clear hb2
    go_wp2_with fail
    go_ret2
    exact ⟨⟨none, HE1.out hx, rfl⟩, HB2.out⟩
  · go_wp2_with fail
    refine HW.out.mono ?_
    rintro e w2 ⟨rfl, hb2⟩
    have d3 := (hb2.cell (p := ⟨w.heap.size + 1, 0, none⟩) HS1.out).trans c3
    have HB2 := hide (HB.out.trans (hb2.mono HB.out.size))
    clear hb2
    go_wp2_with fail
    go_ret2
    exact ⟨⟨some _, HE2.out (by omega), rfl⟩, HB2.out⟩
/-- What Within tells. -/
def WithOut (k a f t : Int) (n : Nat) (w : World) (e : Ending) (w' : World) : Prop := (∃ (A : Option Addr) (cap x y : Nat), IsFst (fun i => decide (f ≤ bg k (a + (i : Int)))) n x ∧ IsFst (fun i => decide (t < bg k (a + (i : Int) + 1))) n y ∧ e = .returned (.slice A (y - x) cap) ∧ NumsAt w' A (a + (x : Int)) (y - x)) ∧ Below w.heap.size w w'
theorem within_5 (a z f t : Int) (w : World) : Calls Tryd.prog 29 #[vS 5 a z, .int .i64 f, .int .i64 t] w fun e w' => e = .returned (.slice none 0 0) ∧ Below w.heap.size w w' := by
  have HB0 := hide (boxW_below w 5 a z f t)
  go_enter Tryd.func29, Tryd.ntmps29
  go_wp2_with fail
  go_ret
  exact ⟨rfl, HB0.out⟩
set_option maxHeartbeats 2000000 in
theorem within_any (k a z f t : Int) (n : Nat) (w : World) (hM : Mon w) (hok : okS k a z = true) (h5 : ¬ k = 5) (hn : cntS k a z = n) : Calls Tryd.prog 29 #[vS k a z, .int .i64 f, .int .i64 t] w (WithOut k a f t n w) := by
  have hzn : z = a + (n : Int) - 1 ∧ n ≤ 512 := by obtain ⟨m, h1, h2, h3, _⟩ := cnt_nat hok; omega
  have hbd := ok_bd hok
  have hgr := (okS_iff.1 hok).2.2.2
  have HB0 := hide (boxW_below w k a z f t)
  have HF := hide (first_any' k a z 44 #[.pointer (some ⟨w.heap.size, 0, none⟩), .pointer (some ⟨w.heap.size + 1, 0, none⟩)] n (fun i => decide (f ≤ bg k i)) (((w.alloc (.cells #[.int .i64 k, .int .i64 a, .int .i64 z] 25)).alloc (.cells #[.int .i64 f] 3)).alloc (.cells #[.int .i64 t] 3)) (hM.on HB0.out) e_from hok hn
    (fun w' i hi hiz hb => by
      obtain ⟨⟨c0, _, _⟩, c1, c2⟩ := boxW_stays hb
      exact c_from k i f _ _ w' (hM.on (HB0.out.trans (hb.mono HB0.out.size))) (by omega) (by omega) c0 c1)
    (fun i j hi hij hj h => by
      have := bg_mono (k := k) (a := i) (b := j) (by omega) (by omega)
      simp only [decide_eq_true_eq] at h ⊢
      omega))
  have HT : Hid (∀ w1, Below (((w.alloc (.cells #[.int .i64 k, .int .i64 a, .int .i64 z] 25)).alloc (.cells #[.int .i64 f] 3)).alloc (.cells #[.int .i64 t] 3)).heap.size (((w.alloc (.cells #[.int .i64 k, .int .i64 a, .int .i64 z] 25)).alloc (.cells #[.int .i64 f] 3)).alloc (.cells #[.int .i64 t] 3)) w1 → Calls Tryd.prog 43 #[vS k a z, .func (.func 45) #[] #[.pointer (some ⟨w.heap.size, 0, none⟩), .pointer (some ⟨w.heap.size + 1 + 1, 0, none⟩)]] w1 (FstOut (fun i => decide (t < bg k (i + 1))) a n w1)) := hide fun w1 hb1 =>
    first_any' k a z 45 #[.pointer (some ⟨w.heap.size, 0, none⟩), .pointer (some ⟨w.heap.size + 1 + 1, 0, none⟩)] n (fun i => decide (t < bg k (i + 1))) w1 (hM.on (HB0.out.trans (hb1.mono HB0.out.size))) e_to hok hn
    (fun w' i hi hiz hb => by
      have hb' := hb1.trans (hb.mono hb1.size)
      obtain ⟨⟨c0, _, _⟩, c1, c2⟩ := boxW_stays hb'
      exact c_to k i t _ _ w' (hM.on (HB0.out.trans (hb'.mono HB0.out.size))) (by omega) (by omega) c0 c2)
    (fun i j hi hij hj h => by
      have := bg_mono (k := k) (a := i + 1) (b := j + 1) (by omega) (by omega)
      simp only [decide_eq_true_eq] at h ⊢
      omega)
  have h5' : (k == 5) = false := by simpa using h5
  have b0 : 0 ≤ a := hbd.1
  have b1 : a ≤ 35791393 := by omega
  have b2 : n ≤ 512 := hzn.2
  clear hM hok hn hzn hgr hbd h5
  go_enter Tryd.func29, Tryd.ntmps29
  go_wp2_with fail
  refine HF.out.mono ?_
  rintro e w1 ⟨⟨x, hx, rfl⟩, hb⟩
  obtain ⟨⟨c0, c1, c2⟩, c3, c4⟩ := boxW_stays hb
  have hxn := hx.1
  have HX := hide hx
  have HB1 := hide hb
  clear hx hb
  go_wp2_with fail
  refine (HT.out _ HB1.out).mono ?_
  rintro e w2 ⟨⟨y, hy, rfl⟩, hb⟩
  have hyn := hy.1
  have HY := hide hy
  have HB2 := hide (HB0.out.trans ((HB1.out.trans (hb.mono HB1.out.size)).mono HB0.out.size))
  have HN : Hid (∀ c : Int, c = ((y - x : Nat) : Int) → Calls Tryd.prog 32 #[.int .i64 (a + (x : Int)), .int .i64 c] w2 (NumOut (a + (x : Int)) (y - x) w2)) := hide (by
    rintro c rfl
    exact numbers_any (a + (x : Int)) (y - x) w2 (by omega) (by omega) (by omega))
  clear hy hb c0 c1 c2 c3 c4
  by_cases hxy : a + (y : Int) - (a + (x : Int)) < 0
  · go_wp2_with fail
    refine (HN.out _ (by omega)).mono ?_
    rintro e w3 ⟨⟨A, cap, rfl, hA⟩, hb3⟩
    have HA := hide hA
    have HB3 := hide (HB2.out.trans (hb3.mono HB2.out.size))
    clear hA hb3
    go_wp2_with fail
    go_ret
    exact ⟨⟨_, _, x, y, HX.out, HY.out, rfl, HA.out⟩, HB3.out⟩
  · go_wp2_with fail
    refine (HN.out _ (by omega)).mono ?_
    rintro e w3 ⟨⟨A, cap, rfl, hA⟩, hb3⟩
    have HA := hide hA
    have HB3 := hide (HB2.out.trans (hb3.mono HB2.out.size))
    clear hA hb3
    go_wp2_with fail
    go_ret
    exact ⟨⟨_, _, x, y, HX.out, HY.out, rfl, HA.out⟩, HB3.out⟩

end Go.Proofs.YtomhiganfmoceaaDoor
