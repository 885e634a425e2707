/-
  Window, numbers, Parts.
-/
import Derived.Test.YtomhiganfmoceaaDoorJBase
import Derived.Deep.RegionHeld
namespace Go.Proofs.YtomhiganfmoceaaDoor
open Go.RowKit Go.Sort CM JM

theorem has_bd {k a z i : Int} (h : hasB k a z i = true) : 0 ≤ i ∧ i + 1 ≤ grt k + 1 ∧ okS k a z = true ∧ a ≤ i ∧ i ≤ z := by
  obtain ⟨h1, h2, h3⟩ := hasB_iff.1 h
  have := okS_iff.1 h1
  exact ⟨by omega, by omega, h1, h2, h3⟩
/-- What Window tells. -/
def winV (k a z i : Int) : Value := if hasB k a z i = false then .tuple #[.int .i64 0, .int .i64 0, .int .i64 30] else if k = 5 then .tuple #[.int .i64 0, .int .i64 0, .int .i64 54] else .tuple #[.int .i64 (bg k i), .int .i64 (bg k (i + 1)), .int .i64 0]
theorem winV_no {k a z i : Int} (h : hasB k a z i = false) : winV k a z i = .tuple #[.int .i64 0, .int .i64 0, .int .i64 30] := if_pos h
theorem winV_5 {k a z i : Int} (h : hasB k a z i = true) (hk : k = 5) : winV k a z i = .tuple #[.int .i64 0, .int .i64 0, .int .i64 54] := by unfold winV; rw [if_neg (by rw [h]; simp), if_pos hk]
theorem winV_yes {k a z i : Int} (h : hasB k a z i = true) (hk : ¬ k = 5) : winV k a z i = .tuple #[.int .i64 (bg k i), .int .i64 (bg k (i + 1)), .int .i64 0] := by unfold winV; rw [if_neg (by rw [h]; simp), if_neg hk]
set_option maxHeartbeats 4000000 in
set_option maxRecDepth 100000 in
theorem window_any (k a z i : Int) (w : World) (hM : Mon w) (hz : z ≤ 9223372036854775807) : Calls Tryd.prog 28 #[vS k a z, .int .i64 i] w fun e w' => e = .returned (winV k a z i) ∧ Below w.heap.size w w' := by
  have HC := hide (has_any' k a z i (w.alloc (.cells #[.int .i64 k, .int .i64 a, .int .i64 z] 25)) (hM.on (box_below w k a z)) hz)
  have HB0 := hide (box_below w k a z)
  have HM := hide hM
  clear hM
  cases hq : hasB k a z i
  · rw [hq] at HC
    have HR := hide (winV_no hq)
    clear hq
    go_enter Tryd.func28, Tryd.ntmps28
    go_wp2_with fail
    refine HC.out.mono ?_
    rintro e w1 ⟨rfl, hb⟩
    have HB := hide (HB0.out.trans (hb.mono HB0.out.size))
    clear hb
    go_wp2_with fail
    go_ret3
    exact ⟨by rw [HR.out]; rfl, HB.out⟩
  · rw [hq] at HC
    obtain ⟨hi0, hi1, hok, ha, hiz⟩ := has_bd hq
    have hg := grt_hi k
    by_cases h5 : k = 5
    · have HR := hide (winV_5 hq h5)
      subst h5
      clear hq hi1 hok hg
      go_enter Tryd.func28, Tryd.ntmps28
      go_wp2_with fail
      refine HC.out.mono ?_
      rintro e w1 ⟨rfl, hb⟩
      obtain ⟨⟨c0, c1, c2⟩, hs⟩ := box_stays hb
      have HB := hide (HB0.out.trans (hb.mono HB0.out.size))
      clear hb
      go_wp2_with fail
      go_ret3
      exact ⟨by rw [HR.out]; rfl, HB.out⟩
    · have HR := hide (winV_yes hq h5)
      have HG0 := hide (fun w hM => begin_any k i w hM hi0 (by omega))
      have HG1 := hide (fun w hM => begin_any k (i + 1) w hM (by omega) (by omega))
      have h5' : (k == 5) = false := by simpa using h5
      have hi2 : i ≤ 40000000 := by omega
      clear hq hi1 hok hg h5 ha
      generalize bg k i = X at *
      generalize bg k (i + 1) = Y at *
      go_enter Tryd.func28, Tryd.ntmps28
      go_wp2_with fail
      refine HC.out.mono ?_
      rintro e w1 ⟨rfl, hb⟩
      obtain ⟨⟨c0, c1, c2⟩, hs⟩ := box_stays hb
      have HB := hide (HB0.out.trans (hb.mono HB0.out.size))
      clear hb
      go_wp2_with fail
      have r0 := fun dn os => cell_regrown c0 dn os
      have HMb : Hid (∀ dn os, Mon (grow (redrawn w1 dn) os)) := hide fun dn os => HM.out.on (HB.out.trans ((below_regrown _ dn os).mono HB.out.size))
      refine wp_region_quiet_below (by kernel_rfl) (by kernel_rfl) ?_
      repeat (go_big_quiet_step (first
          | (go_at_call 42; with_reducible exact Calls.regrown_of (HG0.out _ (HMb.out _ _)))
          | (go_at_call 42; with_reducible exact Calls.regrown_of (HG1.out _ (HMb.out _ _)))))
      refine wpQuiet_nil ?_
      intro _ hw'
      obtain ⟨⟨dq, osq⟩, hw''⟩ := hw'
      subst hw''
      have HF := hide (HB.out.trans ((below_regrown _ dq osq).mono HB.out.size))
      clear r0
      go_wp2_with fail
      go_ret3
      exact ⟨by rw [HR.out]; rfl, HF.out⟩
/-- A row of numbers in a block of its own: so many cells, the first ones already laid. -/
def NumB (w : World) (b : Nat) (f : Int) (n k : Nat) : Prop := b < w.heap.size ∧ (∀ i, i < n → (∃ v, w.cell? ⟨b, i, none⟩ = some v) ∧ w.frozen? ⟨b, i, none⟩ = false) ∧ ∀ i, i < k → w.cell? ⟨b, i, none⟩ = some (.int .i64 (f + (i : Nat)))
theorem NumB.set {w : World} {b n k : Nat} {f v : Int} (h : NumB w b f n k) (hk : k < n) (hv : v = f + (k : Nat)) : NumB (w.setCell ⟨b, k, none⟩ (.int .i64 v)) b f n (k + 1) := by
  obtain ⟨h1, h2, h3⟩ := h
  obtain ⟨⟨u, hu⟩, _⟩ := h2 k hk
  subst hv
  refine ⟨by simpa using h1, fun i hi => ⟨?_, by rw [World.frozen?_setCell]; exact (h2 i hi).2⟩, fun i hi => ?_⟩
  · by_cases e : i = k
    · subst e; exact ⟨_, World.cell?_setCell_same' _ _ _ (by rw [hu]; rfl)⟩
    · obtain ⟨x, hx⟩ := (h2 i hi).1
      exact ⟨x, by rw [World.cell?_setCell_other _ _ _ _ (by intro x; injection x with _ x; exact e x.symm)]; exact hx⟩
  · by_cases e : i = k
    · subst e; exact World.cell?_setCell_same' _ _ _ (by rw [hu]; rfl)
    · rw [World.cell?_setCell_other _ _ _ _ (by intro x; injection x with _ x; exact e x.symm)]; exact h3 i (by omega)
/-- The numbers from f on, so many, lie in this slice. -/
def NumsAt (w : World) (A : Option Addr) (f : Int) (n : Nat) : Prop := ∀ i, i < n → ∃ b, A = some ⟨b, 0, none⟩ ∧ b < w.heap.size ∧ w.cell? ⟨b, i, none⟩ = some (.int .i64 (f + (i : Nat)))
theorem NumsAt.on {w w' : World} {A : Option Addr} {f : Int} {n : Nat} (h : NumsAt w A f n) (hb : Below w.heap.size w w') : NumsAt w' A f n := fun i hi => by
  obtain ⟨b, e, h1, h2⟩ := h i hi
  exact ⟨b, e, Nat.lt_of_lt_of_le h1 hb.size, (hb.cell (p := ⟨b, i, none⟩) h1).trans h2⟩
/-- What numbers tells. -/
def NumOut (f : Int) (n : Nat) (w : World) (e : Ending) (w' : World) : Prop := (∃ A cap, e = .returned (.slice A n cap) ∧ NumsAt w' A f n) ∧ Below w.heap.size w w'
theorem made_zero (n : Nat) {i : Nat} (hi : i < n) : (madeCells (Value.cells (.int .i64 0)) (n * 1)).toList[i]? = some (.int .i64 0) := by
  rw [Nat.mul_one]
  simp [madeCells, Value.cells, hi]
  rw [Nat.mod_one]; rfl
theorem madeB {w1 : World} {b n : Nat} {f : Int} {l : List Value} (hl : l = (madeCells (Value.cells (.int .i64 0)) (n * 1)).toList) (h : w1.ownsRow b 3 1 (.slice (some ⟨b, 0, none⟩) n n) n l) : NumB w1 b f n 0 := by
  subst hl
  obtain ⟨_, h⟩ := h
  rcases h with ⟨h, _⟩ | ⟨g, cap, cur, h, hge, hg, hfr, hrd, hcs, hz⟩
  · cases h
  · injection h with h1 h2 h3
    injection h1 with h1
    injection h1 with h1
    subst h1 h3
    have hcur : ∀ i, i < n → cur[i]? = some (.int .i64 0) := fun i hi => by
      have h5 := made_zero n hi
      rw [← hz, List.getElem?_take, if_pos (by omega), Array.getElem?_toList] at h5
      exact h5
    refine ⟨?_, fun i hi => ⟨⟨_, Lib.cell_of_heap hg i |>.trans (hcur i hi)⟩, Lib.frozen_of_heap hg i⟩, fun i hi => by omega⟩
    rcases Nat.lt_or_ge b w1.heap.size with h' | h'
    · exact h'
    · rw [Array.getElem?_eq_none h'] at hg; cases hg
theorem int_info : (Tryd.prog.info? 3).map (fun i => (i.zero, i.size, i.bytes)) = some (some (.int .i64 0), 1, 8) := by kernel_rfl
theorem info_parts {p : Option TypeInfo} {z : Value} {s b : Nat} (h : p.map (fun i => (i.zero, i.size, i.bytes)) = some (some z, s, b)) : ∃ i, p = some i ∧ i.zero = some z ∧ i.size = s ∧ i.bytes = b := by
  cases p with
  | none => cases h
  | some i =>
    simp only [Option.map_some, Option.some.injEq, Prod.mk.injEq] at h
    exact ⟨i, rfl, h.1, h.2.1, h.2.2⟩
set_option maxHeartbeats 1000000 in
theorem numbers_any (f : Int) (n : Nat) (w : World) (h0 : 0 ≤ f) (h1 : f ≤ 100000000) (hn : n ≤ 512) : Calls Tryd.prog 32 #[.int .i64 f, .int .i64 n] w (NumOut f n w) := by
  obtain ⟨i1, hi', hy0, hy1, hy2⟩ := info_parts int_info
  go_enter Tryd.func32, Tryd.ntmps32
  go_wp2_with (at_make; go_must (refine wpList_make_full _ rfl _ _ 33 rfl w.heap.size 3 i1 (.int .i64 0) 1 Tryd.underlying33 hi' hy0 hy1 .i64 .i64 n n n rfl rfl rfl rfl (by rw [hy2]; omega) (by unfold maxLen; omega) (Nat.le_refl _) ?_))
  intro w1 hown hgrow
  have HB1 := hide (show Below w.heap.size w w1 from (Below.refl _ _).grown hgrow (Nat.le_refl _) (fun j hj => by cases hj))
  have HN1 := hide (madeB (f := f) (by rw [Nat.mul_one]; rfl) hown)
  clear hown hgrow
  go_wp2_with fail
  go_loopw [11] (fun i wr => ∃ k : Nat, k ≤ n ∧ i = .int .i64 k ∧ NumB wr w.heap.size f n k ∧ Below w.heap.size w wr) (fun i _ => n - (intOf i).toNat)
  case atStart => exact ⟨0, Nat.zero_le _, rfl, HN1.out, HB1.out⟩
  case round =>
    obtain ⟨k, hk, rfl, hrow, hbw⟩ := hrel
    have HB := hide hbw
    by_cases hlt : k < n
    · have HR := hide (hrow.set hlt (v := f + (k : Nat)) rfl)
      obtain ⟨⟨u, hu⟩, hfr⟩ := hrow.2.1 k hlt
      clear hrow hbw
      go_wp2_with fail
      go_roundw
      case rel => exact ⟨k + 1, by omega, by go_num, HR.out, HB.out.setCell (Nat.le_refl _) _⟩
      case measure => simp [intOf]; omega
    · obtain rfl : k = n := by omega
      have HR := hide hrow
      clear hrow hbw
      go_wp2_with fail
      go_ret
      exact ⟨⟨_, _, rfl, fun i hi => ⟨_, rfl, HR.out.1, HR.out.2.2 i hi⟩⟩, HB.out⟩
theorem cnt_nat {k a z : Int} (h : okS k a z = true) : ∃ n : Nat, cntS k a z = n ∧ n ≤ 512 ∧ z = a + n - 1 ∧ 1 ≤ n := by
  have := ok_bd h
  exact ⟨(z - a + 1).toNat, by unfold cntS; rw [if_pos h]; omega, by omega, by omega, by omega⟩
set_option maxHeartbeats 1000000 in
theorem parts_any (k a z : Int) (n : Nat) (w : World) (hM : Mon w) (hok : okS k a z = true) (hn : cntS k a z = n) : Calls Tryd.prog 14 #[vS k a z] w (NumOut a n w) := by
  have hbd := ok_bd hok
  have HC := hide (fun w hM => count_any k a z w hM (by omega))
  rw [hn] at HC
  have hn2 : n ≤ 512 := by obtain ⟨m, h1, h2, _⟩ := cnt_nat hok; omega
  have HN := hide (fun w => numbers_any a n w (by omega) (by omega) hn2)
  have HB0 := hide (box_below w k a z)
  have HM := hide (hM.on (box_below w k a z))
  clear hM hok hn hbd
  go_enter Tryd.func14, Tryd.ntmps14
  go_wp2_with fail

  refine wp_region_held_drew (S := fun w' => Below (w.alloc (.cells #[.int .i64 k, .int .i64 a, .int .i64 z] 25)).heap.size (w.alloc (.cells #[.int .i64 k, .int .i64 a, .int .i64 z] 25)) w') (by kernel_rfl) ((Below.refl _ _).drew) (fun hS => ?_)
  refine wpAnyH_take (i := 0) (oi := ⟨some 3, _, _, _, _, _⟩) (v := ?_) rfl (by kernel_rfl) (by kernel_rfl) (by kernel_rfl) (fun _ _ _ h => h) (Or.inl ⟨by rfl, ?_⟩) hS ?_
  rotate_left 1
  · intro w' hw'
    obtain ⟨⟨c0, c1, c2⟩, hs⟩ := box_stays hw'
    go_simp
    all_goals with_reducible rfl
  try simp only [Act.put, List.setIfInBounds_toArray, List.set_cons_zero, List.set_cons_succ]
  refine wpAnyH_take (i := 1) (oi := ⟨some 4, _, _, _, _, _⟩) (v := ?_) rfl (by kernel_rfl) (by kernel_rfl) (by kernel_rfl) (fun _ _ _ h => h) (Or.inl ⟨by rfl, ?_⟩) hS ?_
  rotate_left 1
  · intro w' hw'
    obtain ⟨⟨c0, c1, c2⟩, hs⟩ := box_stays hw'
    go_simp
    all_goals with_reducible rfl
  try simp only [Act.put, List.setIfInBounds_toArray, List.set_cons_zero, List.set_cons_succ]
  refine wpAnyH_take (i := 2) (oi := ⟨some 5, _, _, _, _, _⟩) (v := ?_) rfl (by kernel_rfl) (by kernel_rfl) (by kernel_rfl) (fun _ _ _ h => h) (Or.inl ⟨by rfl, ?_⟩) hS ?_
  rotate_left 1
  · intro w' hw'
    obtain ⟨⟨c0, c1, c2⟩, hs⟩ := box_stays hw'
    go_simp
    all_goals with_reducible rfl
  try simp only [Act.put, List.setIfInBounds_toArray, List.set_cons_zero, List.set_cons_succ]
  refine wpAnyH_ready (rs := [3]) (by kernel_rfl) (by simp) ?_
  refine AllReadyH.cons (o := ⟨some 6, _, _, _, _, _⟩) rfl (fun K hK => ?_) AllReadyH.nil
  go_simp
  go_at_call 33
  refine (HC.out _ (HM.out.on hS)).mono ?_
  rintro e w1 ⟨rfl, hb1⟩
  have hb1 := hS.trans (hb1.mono hS.size)
  refine hK.out _ _ (hb1) (fun hS => ?_)
  clear hK K
  try simp only [Act.put, List.setIfInBounds_toArray, List.set_cons_zero, List.set_cons_succ]
  refine wpAnyH_ready (rs := [4]) (by kernel_rfl) (by simp) ?_
  refine AllReadyH.cons (o := ⟨some 7, _, _, _, _, _⟩) rfl (fun K hK => ?_) AllReadyH.nil
  go_simp
  go_at_call 32
  refine (HN.out _).mono ?_
  rintro e w2 ⟨⟨A, cap, rfl, hA⟩, hb2⟩
  have HA := hide hA
  have hb2 := hS.trans (hb2.mono hS.size)
  clear hA
  refine hK.out _ _ (hb2) (fun hS => ?_)
  clear hK K
  try simp only [Act.put, List.setIfInBounds_toArray, List.set_cons_zero, List.set_cons_succ]
  refine wpAnyH_take (i := 5) (oi := ⟨some 2, _, _, _, _, _⟩) (v := ?_) rfl (by kernel_rfl) (by kernel_rfl) (by kernel_rfl) (fun _ _ _ h => h) (Or.inl ⟨by rfl, ?_⟩) hS ?_
  rotate_left 1
  · intro w' hw'
    obtain ⟨⟨c0, c1, c2⟩, hs⟩ := box_stays hw'
    go_simp
    all_goals with_reducible rfl
  try simp only [Act.put, List.setIfInBounds_toArray, List.set_cons_zero, List.set_cons_succ]
  refine wpAnyH_done (by kernel_rfl) ?_ _
  go_wp2_with fail
  go_ret
  exact ⟨⟨_, _, rfl, HA.out⟩, HB0.out.trans (hS.mono HB0.out.size)⟩
end Go.Proofs.YtomhiganfmoceaaDoor
