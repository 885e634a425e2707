/-
  The reference: Form, Fits, Needs; what the laws ask of it.
-/
import Derived.Test.YtomhiganfmoceaaDoorWOf
namespace Go.Proofs.YtomhiganfmoceaaDoor
open Go.RowKit Go.Sort CM JM WM

theorem box3_below (w : World) (t1 t2 t3 : TypeId) (k n lk la lz uk ua uz : Int) : Below w.heap.size w (((w.alloc (.cells #[.int .i64 k, .int .i64 n] t1)).alloc (.cells #[.int .i64 lk, .int .i64 la, .int .i64 lz] t2)).alloc (.cells #[.int .i64 uk, .int .i64 ua, .int .i64 uz] t3)) := by
  have q1 : Below w.heap.size w (w.alloc (.cells #[.int .i64 k, .int .i64 n] t1)) := (Below.refl _ _).alloc (Nat.le_refl _) _
  have q2 := q1.alloc q1.size (.cells #[.int .i64 lk, .int .i64 la, .int .i64 lz] t2)
  exact q2.alloc q2.size _
theorem box3_gen (w : World) (t1 t2 t3 : TypeId) (k n lk la lz uk ua uz : Int) : Box3 (((w.alloc (.cells #[.int .i64 k, .int .i64 n] t1)).alloc (.cells #[.int .i64 lk, .int .i64 la, .int .i64 lz] t2)).alloc (.cells #[.int .i64 uk, .int .i64 ua, .int .i64 uz] t3)) w.heap.size k n lk la lz uk ua uz := by
  have e1 : (w.alloc (.cells #[.int .i64 k, .int .i64 n] t1)).heap.size = w.heap.size + 1 := by simp
  have e2 : ((w.alloc (.cells #[.int .i64 k, .int .i64 n] t1)).alloc (.cells #[.int .i64 lk, .int .i64 la, .int .i64 lz] t2)).heap.size = w.heap.size + 1 + 1 := by simp
  have s3 : ∀ (w : World) (t : TypeId) (a b c : Int), (w.alloc (.cells #[.int .i64 a, .int .i64 b, .int .i64 c] t)).cell? ⟨w.heap.size, 0, none⟩ = some (.int .i64 a) ∧ (w.alloc (.cells #[.int .i64 a, .int .i64 b, .int .i64 c] t)).cell? ⟨w.heap.size, 1, none⟩ = some (.int .i64 b) ∧ (w.alloc (.cells #[.int .i64 a, .int .i64 b, .int .i64 c] t)).cell? ⟨w.heap.size, 2, none⟩ = some (.int .i64 c) := fun w t a b c => by refine ⟨?_, ?_, ?_⟩ <;> simp
  have h1 : (w.alloc (.cells #[.int .i64 k, .int .i64 n] t1)).cell? ⟨w.heap.size, 0, none⟩ = some (.int .i64 k) ∧ (w.alloc (.cells #[.int .i64 k, .int .i64 n] t1)).cell? ⟨w.heap.size, 1, none⟩ = some (.int .i64 n) := by constructor <;> simp
  have h2 := s3 (w.alloc (.cells #[.int .i64 k, .int .i64 n] t1)) t2 lk la lz
  have h3 := s3 ((w.alloc (.cells #[.int .i64 k, .int .i64 n] t1)).alloc (.cells #[.int .i64 lk, .int .i64 la, .int .i64 lz] t2)) t3 uk ua uz
  rw [e1] at h2
  rw [e2] at h3
  have q1 := (Below.refl (w.alloc (.cells #[.int .i64 k, .int .i64 n] t1)).heap.size (w.alloc (.cells #[.int .i64 k, .int .i64 n] t1))).alloc (Nat.le_refl _) (.cells #[.int .i64 lk, .int .i64 la, .int .i64 lz] t2)
  have q2 := (Below.refl ((w.alloc (.cells #[.int .i64 k, .int .i64 n] t1)).alloc (.cells #[.int .i64 lk, .int .i64 la, .int .i64 lz] t2)).heap.size ((w.alloc (.cells #[.int .i64 k, .int .i64 n] t1)).alloc (.cells #[.int .i64 lk, .int .i64 la, .int .i64 lz] t2))).alloc (Nat.le_refl _) (.cells #[.int .i64 uk, .int .i64 ua, .int .i64 uz] t3)
  have c1 : ∀ i u, (w.alloc (.cells #[.int .i64 k, .int .i64 n] t1)).cell? ⟨w.heap.size, i, none⟩ = some u → (((w.alloc (.cells #[.int .i64 k, .int .i64 n] t1)).alloc (.cells #[.int .i64 lk, .int .i64 la, .int .i64 lz] t2)).alloc (.cells #[.int .i64 uk, .int .i64 ua, .int .i64 uz] t3)).cell? ⟨w.heap.size, i, none⟩ = some u := fun i u hu =>
    (q2.cell (p := ⟨w.heap.size, i, none⟩) (by show w.heap.size < _; omega)).trans ((q1.cell (p := ⟨w.heap.size, i, none⟩) (by show w.heap.size < _; omega)).trans hu)
  have c2 : ∀ i u, ((w.alloc (.cells #[.int .i64 k, .int .i64 n] t1)).alloc (.cells #[.int .i64 lk, .int .i64 la, .int .i64 lz] t2)).cell? ⟨w.heap.size + 1, i, none⟩ = some u → (((w.alloc (.cells #[.int .i64 k, .int .i64 n] t1)).alloc (.cells #[.int .i64 lk, .int .i64 la, .int .i64 lz] t2)).alloc (.cells #[.int .i64 uk, .int .i64 ua, .int .i64 uz] t3)).cell? ⟨w.heap.size + 1, i, none⟩ = some u := fun i u hu =>
    (q2.cell (p := ⟨w.heap.size + 1, i, none⟩) (by show w.heap.size + 1 < _; omega)).trans hu
  exact ⟨⟨⟨c1 _ _ h1.1, c1 _ _ h1.2⟩, ⟨c2 _ _ h2.1, c2 _ _ h2.2.1, c2 _ _ h2.2.2⟩, h3⟩, by simp⟩
abbrev R3 (w : World) (k n lk la lz uk ua uz : Int) : World := ((w.alloc (.cells #[.int .i64 k, .int .i64 n] 40)).alloc (.cells #[.int .i64 lk, .int .i64 la, .int .i64 lz] 51)).alloc (.cells #[.int .i64 uk, .int .i64 ua, .int .i64 uz] 51)

set_option maxHeartbeats 2000000 in
theorem rform_any (k n : Int) (w : World) : Calls Tryd.prog 19 #[vM k n] w fun e w' => e = .returned (.bool (formB k n)) ∧ Below w.heap.size w w' := by
  have HB0 : Hid (Below w.heap.size w (w.alloc (.cells #[.int .i64 k, .int .i64 n] 40))) := hide ((Below.refl _ _).alloc (Nat.le_refl _) _)
  by_cases h1 : k = 1
  · subst h1
    have HE : Hid (∀ b : Bool, (b = true ↔ n = 0) → b = formB 1 n) := hide fun b h => by rw [Bool.eq_iff_iff, h, formB_iff]; omega
    go_enter Tryd.func19, Tryd.ntmps19
    go_wp2_with fail
    go_ret
    exact ⟨ret_bool (HE.out _ (by simp)), HB0.out⟩
  by_cases h4 : k = 4
  · subst h4
    have HE : Hid (∀ b : Bool, (b = true ↔ n = 0) → b = formB 4 n) := hide fun b h => by rw [Bool.eq_iff_iff, h, formB_iff]; omega
    go_enter Tryd.func19, Tryd.ntmps19
    go_wp2_with fail
    go_ret
    exact ⟨ret_bool (HE.out _ (by simp)), HB0.out⟩
  by_cases h5 : k = 5
  · subst h5
    have HE : Hid (∀ b : Bool, (b = true ↔ n = 0) → b = formB 5 n) := hide fun b h => by rw [Bool.eq_iff_iff, h, formB_iff]; omega
    go_enter Tryd.func19, Tryd.ntmps19
    go_wp2_with fail
    go_ret
    exact ⟨ret_bool (HE.out _ (by simp)), HB0.out⟩
  by_cases h2 : k = 2
  · subst h2
    clear h1 h4 h5
    have HE : Hid (∀ b : Bool, (b = true ↔ 1 ≤ n ∧ n ≤ 512) → b = formB 2 n) := hide fun b h => by rw [Bool.eq_iff_iff, h, formB_iff]; omega
    by_cases g1 : 1 ≤ n
    · go_enter Tryd.func19, Tryd.ntmps19
      go_wp2_with fail
      go_ret
      exact ⟨ret_bool (HE.out _ (by simp; try omega)), HB0.out⟩
    · go_enter Tryd.func19, Tryd.ntmps19
      go_wp2_with fail
      go_ret
      exact ⟨ret_bool (HE.out _ (by simp; try omega)), HB0.out⟩
  by_cases h3 : k = 3
  · subst h3
    clear h1 h4 h5 h2
    have HE : Hid (∀ b : Bool, (b = true ↔ n ≠ 0 ∧ -512 ≤ n ∧ n ≤ 512) → b = formB 3 n) := hide fun b h => by rw [Bool.eq_iff_iff, h, formB_iff]; omega
    by_cases g0 : n = 0
    · subst g0
      go_enter Tryd.func19, Tryd.ntmps19
      go_wp2_with fail
      go_ret
      exact ⟨ret_bool (HE.out _ (by simp)), HB0.out⟩
    by_cases g1 : -512 ≤ n
    · go_enter Tryd.func19, Tryd.ntmps19
      go_wp2_with fail
      go_ret
      exact ⟨ret_bool (HE.out _ (by simp; try omega)), HB0.out⟩
    · go_enter Tryd.func19, Tryd.ntmps19
      go_wp2_with fail
      go_ret
      exact ⟨ret_bool (HE.out _ (by simp; try omega)), HB0.out⟩
  · have HE : Hid (false = formB k n) := hide (by
      have h : ¬ (formB k n = true) := by rw [formB_iff]; omega
      cases hf : formB k n
      · rfl
      · exact absurd hf h)
    have e1 : (k == 1) = false := by simp [h1]
    have e2 : (k == 2) = false := by simp [h2]
    have e3 : (k == 3) = false := by simp [h3]
    have e4 : (k == 4) = false := by simp [h4]
    have e5 : (k == 5) = false := by simp [h5]
    go_enter Tryd.func19, Tryd.ntmps19
    go_wp2_with fail
    go_ret
    exact ⟨ret_bool HE.out, HB0.out⟩

set_option maxHeartbeats 2000000 in
theorem rfits_any (k n lk la lz uk ua uz : Int) (w : World) (hf : formB k n = true) : Calls Tryd.prog 27 #[vM k n, vS lk la lz, vS uk ua uz] w fun e w' => e = .returned (.bool (relB k lk uk)) ∧ Below w.heap.size w w' := by
  have HO := hide (box3_below w 40 51 51 k n lk la lz uk ua uz)
  have hkk := (form_kind hf).1
  clear hf
  rcases hkk with rfl | rfl | rfl | rfl | rfl
  · have HE : Hid (∀ b : Bool, (b = true ↔ lk = uk) → b = relB 1 lk uk) := hide fun b h => by rw [Bool.eq_iff_iff, h]; unfold relB; rw [if_neg (by decide), if_neg (by decide), decide_eq_true_eq]
    go_enter Tryd.func27, Tryd.ntmps27
    go_wp2_with fail
    go_ret
    exact ⟨ret_bool (HE.out _ (by simp)), HO.out⟩
  · have HE : Hid (∀ b : Bool, (b = true ↔ lk = uk) → b = relB 2 lk uk) := hide fun b h => by rw [Bool.eq_iff_iff, h]; unfold relB; rw [if_neg (by decide), if_neg (by decide), decide_eq_true_eq]
    go_enter Tryd.func27, Tryd.ntmps27
    go_wp2_with fail
    go_ret
    exact ⟨ret_bool (HE.out _ (by simp)), HO.out⟩
  · have HE : Hid (∀ b : Bool, (b = true ↔ lk = uk) → b = relB 3 lk uk) := hide fun b h => by rw [Bool.eq_iff_iff, h]; unfold relB; rw [if_neg (by decide), if_neg (by decide), decide_eq_true_eq]
    go_enter Tryd.func27, Tryd.ntmps27
    go_wp2_with fail
    go_ret
    exact ⟨ret_bool (HE.out _ (by simp)), HO.out⟩
  · have HE : Hid (∀ b : Bool, (b = true ↔ ¬ lk = 5 ∧ ¬ uk = 5) → b = relB 4 lk uk) := hide fun b h => by rw [Bool.eq_iff_iff, h]; unfold relB; rw [if_pos rfl, Bool.and_eq_true, decide_eq_true_eq, decide_eq_true_eq]
    by_cases g1 : lk = 5
    · subst g1
      go_enter Tryd.func27, Tryd.ntmps27
      go_wp2_with fail
      go_ret
      exact ⟨ret_bool (HE.out _ (by simp)), HO.out⟩
    · have g1' : (lk != 5) = true := by simp [g1]
      go_enter Tryd.func27, Tryd.ntmps27
      go_wp2_with fail
      go_ret
      exact ⟨ret_bool (HE.out _ (by simp [g1])), HO.out⟩
  · go_enter Tryd.func27, Tryd.ntmps27
    go_wp2_with fail
    go_ret
    exact ⟨rfl, HO.out⟩

theorem rneeds_4 (n lk la lz uk ua uz i j P Q R S : Int) (w : World) (_ : la ≤ i) (_ : i ≤ lz) (_ : ua ≤ j) (_ : j ≤ uz) (_ : 0 ≤ i) (_ : i ≤ 40000000) (_ : 0 ≤ j) (_ : j ≤ 40000000)
    (h1 : ∀ w, Calls Tryd.prog 41 #[.int .i64 uk, .int .i64 j] w fun e w' => e = .returned (.int .i64 P) ∧ Below w.heap.size w w')
    (h2 : ∀ w, Calls Tryd.prog 41 #[.int .i64 lk, .int .i64 i] w fun e w' => e = .returned (.int .i64 Q) ∧ Below w.heap.size w w')
    (h3 : ∀ w, Calls Tryd.prog 41 #[.int .i64 uk, .int .i64 (j + 1)] w fun e w' => e = .returned (.int .i64 R) ∧ Below w.heap.size w w')
    (h4 : ∀ w, Calls Tryd.prog 41 #[.int .i64 lk, .int .i64 (i + 1)] w fun e w' => e = .returned (.int .i64 S) ∧ Below w.heap.size w w') :
    Calls Tryd.prog 34 #[vM 4 n, vS lk la lz, vS uk ua uz, .int .i64 i, .int .i64 j] w fun e w' => e = .returned (.bool (decide (Q ≤ P) && decide (R ≤ S))) ∧ Below w.heap.size w w' := by
  have HO := hide (box3_below w 40 51 51 4 n lk la lz uk ua uz)
  obtain ⟨⟨⟨k0, k1⟩, ⟨l0, l1, l2⟩, u0, u1, u2⟩, hs⟩ := box3_gen w 40 51 51 4 n lk la lz uk ua uz
  have r0 := fun dn os => cell_regrown l0 dn os
  have r1 := fun dn os => cell_regrown u0 dn os
  have H1 := hide h1
  have H2 := hide h2
  have H3 := hide h3
  have H4 := hide h4
  clear k0 k1 l0 l1 l2 u0 u1 u2 hs h1 h2 h3 h4
  by_cases hq : Q ≤ P
  · have q1 : decide (P ≥ Q) = true := by simp; omega
    have HE : Hid (decide (R ≤ S) = (decide (Q ≤ P) && decide (R ≤ S))) := hide (by simp [hq])
    go_enter Tryd.func34, Tryd.ntmps34
    go_wp2_with fail
    refine wp_region_quiet_below (by kernel_rfl) (by kernel_rfl) ?_
    repeat (go_big_quiet_step (first
        | (go_at_call 41; with_reducible exact Calls.regrown_of (H1.out _))
        | (go_at_call 41; with_reducible exact Calls.regrown_of (H2.out _))
        | (go_at_call 41; with_reducible exact Calls.regrown_of (H3.out _))
        | (go_at_call 41; with_reducible exact Calls.regrown_of (H4.out _))))
    refine wpQuiet_nil ?_
    intro _ hw'
    obtain ⟨⟨dq, osq⟩, hw''⟩ := hw'
    subst hw''
    have HF := hide (HO.out.trans ((below_regrown _ dq osq).mono HO.out.size))
    clear r0 r1
    go_wp2_with fail
    go_ret
    exact ⟨ret_bool HE.out, HF.out⟩
  · have q1 : decide (P ≥ Q) = false := by simp; omega
    have HE : Hid (false = (decide (Q ≤ P) && decide (R ≤ S))) := hide (by simp [hq])
    go_enter Tryd.func34, Tryd.ntmps34
    go_wp2_with fail
    refine wp_region_quiet_below (by kernel_rfl) (by kernel_rfl) ?_
    repeat (go_big_quiet_step (first
        | (go_at_call 41; with_reducible exact Calls.regrown_of (H1.out _))
        | (go_at_call 41; with_reducible exact Calls.regrown_of (H2.out _))))
    refine wpQuiet_nil ?_
    intro _ hw'
    obtain ⟨⟨dq, osq⟩, hw''⟩ := hw'
    subst hw''
    have HF := hide (HO.out.trans ((below_regrown _ dq osq).mono HO.out.size))
    clear r0 r1
    go_wp2_with fail
    go_ret
    exact ⟨ret_bool HE.out, HF.out⟩

set_option maxHeartbeats 4000000 in
theorem rneeds_any (k n lk la lz uk ua uz : Int) (i j : Int) (w : World) (hf : formB k n = true) (ho : okS lk la lz = true) (hp : okS uk ua uz = true) (hr : relB k lk uk = true) : Calls Tryd.prog 34 #[vM k n, vS lk la lz, vS uk ua uz, .int .i64 i, .int .i64 j] w fun e w' => e = .returned (.bool (needB (cA k n lk la lz uk ua uz) i j)) ∧ Below w.heap.size w w' := by
  have HO := hide (box3_below w 40 51 51 k n lk la lz uk ua uz)
  have hob := ok_bd ho
  have hpb := ok_bd hp
  have hno : ¬ ((la ≤ i ∧ i ≤ lz) ∧ ua ≤ j ∧ j ≤ uz) → needB (cA k n lk la lz uk ua uz) i j = false := fun h => by
    cases hn : needB (cA k n lk la lz uk ua uz) i j
    · rfl
    · have := needB_iff.1 hn
      exact absurd ⟨this.1, this.2.1⟩ h
  by_cases g0 : i < la
  · have HE : Hid (false = needB (cA k n lk la lz uk ua uz) i j) := hide (hno (by omega)).symm
    clear hno hf ho hp hr hob hpb
    go_enter Tryd.func34, Tryd.ntmps34
    go_wp2_with fail
    go_ret
    exact ⟨ret_bool HE.out, HO.out⟩
  by_cases g1 : lz < i
  · have HE : Hid (false = needB (cA k n lk la lz uk ua uz) i j) := hide (hno (by omega)).symm
    clear hno hf ho hp hr hob hpb
    go_enter Tryd.func34, Tryd.ntmps34
    go_wp2_with fail
    go_ret
    exact ⟨ret_bool HE.out, HO.out⟩
  by_cases g2 : j < ua
  · have HE : Hid (false = needB (cA k n lk la lz uk ua uz) i j) := hide (hno (by omega)).symm
    clear hno hf ho hp hr hob hpb
    go_enter Tryd.func34, Tryd.ntmps34
    go_wp2_with fail
    go_ret
    exact ⟨ret_bool HE.out, HO.out⟩
  by_cases g3 : uz < j
  · have HE : Hid (false = needB (cA k n lk la lz uk ua uz) i j) := hide (hno (by omega)).symm
    clear hno hf ho hp hr hob hpb
    go_enter Tryd.func34, Tryd.ntmps34
    go_wp2_with fail
    go_ret
    exact ⟨ret_bool HE.out, HO.out⟩
  have hin : needB (cA k n lk la lz uk ua uz) i j = linkB (cA k n lk la lz uk ua uz) i j := by
    unfold needB
    rw [inB_iff.2 (show la ≤ i ∧ i ≤ lz by omega), inB_iff.2 (show ua ≤ j ∧ j ≤ uz by omega)]
    rfl
  rw [hin]
  have hib : 0 ≤ i ∧ i ≤ 35791393 ∧ 0 ≤ j ∧ j ≤ 35791393 := by omega
  obtain ⟨hkk, hnb0, hnb1⟩ := form_kind hf
  clear hno hin hf
  rcases hkk with rfl | rfl | rfl | rfl | rfl
  · have HE : Hid (∀ b : Bool, (b = true ↔ i = j) → b = linkB (cA 1 n lk la lz uk ua uz) i j) := hide fun b h => by rw [Bool.eq_iff_iff, h]; exact decide_eq_true_iff.symm
    clear ho hp hr hob hpb
    go_enter Tryd.func34, Tryd.ntmps34
    go_wp2_with fail
    go_ret
    exact ⟨ret_bool (HE.out _ (by simp)), HO.out⟩
  · have HE : Hid (∀ b : Bool, (b = true ↔ j ≤ i ∧ i - n < j) → b = linkB (cA 2 n lk la lz uk ua uz) i j) := hide fun b h => by
      have e : linkB (cA 2 n lk la lz uk ua uz) i j = (decide (j ≤ i) && decide (i - n < j)) := rfl
      rw [Bool.eq_iff_iff, h, e]; simp
    clear ho hp hr hob hpb
    by_cases q : j ≤ i
    · go_enter Tryd.func34, Tryd.ntmps34
      go_wp2_with fail
      go_ret
      exact ⟨ret_bool (HE.out _ (by simp; try omega)), HO.out⟩
    · go_enter Tryd.func34, Tryd.ntmps34
      go_wp2_with fail
      go_ret
      exact ⟨ret_bool (HE.out _ (by simp; try omega)), HO.out⟩
  · have HE : Hid (∀ b : Bool, (b = true ↔ j = i + n) → b = linkB (cA 3 n lk la lz uk ua uz) i j) := hide fun b h => by rw [Bool.eq_iff_iff, h]; exact decide_eq_true_iff.symm
    clear ho hp hr hob hpb
    go_enter Tryd.func34, Tryd.ntmps34
    go_wp2_with fail
    go_ret
    exact ⟨ret_bool (HE.out _ (by simp)), HO.out⟩
  · have g5 := rel_4 hr
    have k1 : lk = 1 ∨ lk = 2 ∨ lk = 3 ∨ lk = 4 := by have := ok_kind ho; omega
    have k2 : uk = 1 ∨ uk = 2 ∨ uk = 3 ∨ uk = 4 := by have := ok_kind hp; omega
    have b1 := (okS_iff.1 ho).2.2.2
    have b2 := (okS_iff.1 hp).2.2.2
    have st : ∀ (k i : Int), (k = 1 ∨ k = 2 ∨ k = 3 ∨ k = 4) → 0 ≤ i → i ≤ grt k + 1 → i ≤ 2147483648 → ∀ w, Calls Tryd.prog 41 #[.int .i64 k, .int .i64 i] w fun e w' => e = .returned (.int .i64 (bg k i)) ∧ Below w.heap.size w w' := fun k i hk h0 h1 h2 w => by
      have := start_any' k i w hk h0 h2
      rw [stV_in h0 h1] at this
      exact this
    exact rneeds_4 n lk la lz uk ua uz i j _ _ _ _ w (by omega) (by omega) (by omega) (by omega) (by omega) (by omega) (by omega) (by omega) (st uk j k2 (by omega) (by omega) (by omega)) (st lk i k1 (by omega) (by omega) (by omega)) (st uk (j + 1) k2 (by omega) (by omega) (by omega)) (st lk (i + 1) k1 (by omega) (by omega) (by omega))
  · clear ho hp hr hob hpb
    go_enter Tryd.func34, Tryd.ntmps34
    go_wp2_with fail
    go_ret
    exact ⟨rfl, HO.out⟩

end Go.Proofs.YtomhiganfmoceaaDoor
