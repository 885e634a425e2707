/-
  Two dates compared; Minutes.
-/
import Derived.Test.YtnopejobefkflaaDoorCGuess
namespace Go.Proofs.YtnopejobefkflaaDoor
open Go.RowKit CM

theorem date_fields : Tryd.prog.underlying 23 = some (.struct (Tryd.prog.fieldsOf 23)) := by kernel_rfl
theorem date_stood : Tryd.prog.stoodInHeld 23 = false := by kernel_rfl
theorem date_guard : Tryd.prog.eqGuardType Tryd.prog.depth 23 = false := by kernel_rfl
theorem date_fieldsL : (Tryd.prog.fieldsOf 23).toList.map (fun f => (f.type, f.offset, decide (f.name ≠ "_"))) = [(3, 0, true), (3, 1, true), (3, 2, true), (3, 3, true), (3, 4, true), (3, 5, true)] := by kernel_rfl
/-- Whether two dates are one. -/
def sameD (y m d h mi wd y' m' d' h' mi' wd' : Int) : Bool := y == y' && (m == m' && (d == d' && (h == h' && (mi == mi' && wd == wd'))))
theorem sameD_iff (y m d h mi wd y' m' d' h' mi' wd' : Int) : sameD y m d h mi wd y' m' d' h' mi' wd' = true ↔ y = y' ∧ m = m' ∧ d = d' ∧ h = h' ∧ mi = mi' ∧ wd = wd' := by simp [sameD]
theorem list6 {α : Type} {l : List α} (h : l.length = 6) : ∃ a b c d e f, l = [a, b, c, d, e, f] := by
  match l, h with
  | [a, b, c, d, e, f], _ => exact ⟨a, b, c, d, e, f, rfl⟩
set_option maxHeartbeats 1000000 in
theorem run_eql_date (y m d h mi wd y' m' d' h' mi' wd' : Int) (w : World) : (binOp .eql 23 (vD y m d h mi wd) (vD y' m' d' h' mi' wd')).run Tryd.prog w = .ok (.bool (sameD y m d h mi wd y' m' d' h' mi' wd')) w := by
  have h3 := Tryd.underlying3
  have hf := date_fieldsL
  rw [run_eql_struct, run_equalIn_agg w 9999 23 _ _ date_fields date_stood]
  generalize (Tryd.prog.fieldsOf 23).toList = fs at hf
  have hl : fs.length = 6 := by have := congrArg List.length hf; simpa using this
  obtain ⟨f0, f1, f2, f3, f4, f5, rfl⟩ := list6 hl
  simp only [List.map_cons, List.map_nil, List.cons.injEq, Prod.mk.injEq, and_true] at hf
  obtain ⟨⟨a0, b0, c0⟩, ⟨a1, b1, c1⟩, ⟨a2, b2, c2⟩, ⟨a3, b3, c3⟩, ⟨a4, b4, c4⟩, a5, b5, c5⟩ := hf
  simp only [decide_eq_true_eq] at c0 c1 c2 c3 c4 c5
  unfold sameD
  simp [Op.eqFields, a0, b0, c0, a1, b1, c1, a2, b2, c2, a3, b3, c3, a4, b4, c4, a5, b5, c5, h3, go_sem]
  clear hl a0 b0 c0 a1 b1 c1 a2 b2 c2 a3 b3 c3 a4 b4 c4 a5 b5 c5 h3
  repeat' split
  all_goals simp_all
set_option maxHeartbeats 1000000 in
theorem run_neq_date (y m d h mi wd y' m' d' h' mi' wd' : Int) (w : World) : (binOp .neq 23 (vD y m d h mi wd) (vD y' m' d' h' mi' wd')).run Tryd.prog w = .ok (.bool (!sameD y m d h mi wd y' m' d' h' mi' wd')) w := by
  have h3 := Tryd.underlying3
  have hf := date_fieldsL
  rw [run_neq_struct, run_equalIn_agg w 9999 23 _ _ date_fields date_stood]
  generalize (Tryd.prog.fieldsOf 23).toList = fs at hf
  have hl : fs.length = 6 := by have := congrArg List.length hf; simpa using this
  obtain ⟨f0, f1, f2, f3, f4, f5, rfl⟩ := list6 hl
  simp only [List.map_cons, List.map_nil, List.cons.injEq, Prod.mk.injEq, and_true] at hf
  obtain ⟨⟨a0, b0, c0⟩, ⟨a1, b1, c1⟩, ⟨a2, b2, c2⟩, ⟨a3, b3, c3⟩, ⟨a4, b4, c4⟩, a5, b5, c5⟩ := hf
  simp only [decide_eq_true_eq] at c0 c1 c2 c3 c4 c5
  unfold sameD
  simp [Op.eqFields, a0, b0, c0, a1, b1, c1, a2, b2, c2, a3, b3, c3, a4, b4, c4, a5, b5, c5, h3, go_sem]
  clear hl a0 b0 c0 a1 b1 c1 a2 b2 c2 a3 b3 c3 a4 b4 c4 a5 b5 c5 h3
  repeat' split
  all_goals simp_all
theorem run_guard_date (y m d h mi wd y' m' d' h' mi' wd' : Int) (u v : Operand) (w : World) : (eqGuard .eql 23 u v (vD y m d h mi wd) (vD y' m' d' h' mi' wd')).run Tryd.prog w = .ok () w := run_eqGuard_agg w .eql _ u v _ _ date_guard
theorem run_guard_dateN (y m d h mi wd y' m' d' h' mi' wd' : Int) (u v : Operand) (w : World) : (eqGuard .neq 23 u v (vD y m d h mi wd) (vD y' m' d' h' mi' wd')).run Tryd.prog w = .ok () w := run_eqGuard_agg w .neq _ u v _ _ date_guard
/-- A date that is a minute's. -/
def IsD (y m d h mi wd : Int) (n : Int) : Prop := 0 ≤ n ∧ n < 2147483648 ∧ y = Y n ∧ m = (K n : Int) + 1 ∧ d = D n ∧ h = n / 60 % 24 ∧ mi = n % 60 ∧ wd = (6 + n / 1440) % 7
theorem guess_yes {n : Int} (wd : Int) (w : World) (hM : Mon w) (h0 : 0 ≤ n) (h1 : n < 2147483648) : Calls Tryd.prog 29 #[vD (Y n) (K n + 1) (D n) (n / 60 % 24) (n % 60) wd] w fun e w' => e = .returned (.int .i64 n) ∧ Below w.heap.size w w' := by
  have hk := (K_spec h0).1
  have hd := D_bd h0
  have h := guess_exact (Y n) (K n + 1) (D n) (n / 60 % 24) (n % 60) wd w hM ⟨Y_lo h0, Y_hi h0 h1⟩ ⟨by omega, by omega⟩ ⟨hd.1, hd.2.2⟩ ⟨by omega, by omega⟩ ⟨by omega, by omega⟩
  have e : msV ((Y n - 2000) * 12 + ((K n : Int) + 1) - 1) + (D n - 1) * 1440 + n / 60 % 24 * 60 + n % 60 = n := by
    have e0 : (Y n - 2000) * 12 + ((K n : Int) + 1) - 1 = mth n := by unfold mth; omega
    have a := mth_bd h0
    have b := mth_max h0 h1
    have hy := Y_lo h0
    have e1 : mth n / 12 = Y n - 2000 := by unfold mth; omega
    have e2 : mth n % 12 = K n := by unfold mth; omega
    have e3 : mst (mth n) = (ys (Y n) + cum (Y n) (K n)) * 1440 := by
      unfold mst; rw [e1, e2, show 2000 + (Y n - 2000) = Y n by omega]; rfl
    rw [e0, show msV (mth n) = mst (mth n) from if_pos ⟨a, b⟩, e3]
    have := n_eq (n := n)
    omega
  rw [e] at h
  exact h
set_option maxHeartbeats 1000000 in
theorem min_same (y m d h mi wd n : Int) (w : World) (hM : Mon w) (hG : ∀ w, Mon w → Calls Tryd.prog 29 #[vD y m d h mi wd] w (fun e w' => e = .returned (.int .i64 n) ∧ Below w.heap.size w w')) (hO : ∀ w, Mon w → Calls Tryd.prog 10 #[.int .i64 n] w fun e w' => e = .returned (.tuple #[vD y m d h mi wd, .int .i64 0]) ∧ Below w.heap.size w w') : Calls Tryd.prog 12 #[vD y m d h mi wd] w fun e w' => e = .returned (.tuple #[.int .i64 n, .int .i64 0]) ∧ Below w.heap.size w w' := by
  have HM := hide hM
  have HG := hide hG
  have HO := hide hO
  have HQ : Hid (∀ w, (binOp .neq 23 (vD y m d h mi wd) (vD y m d h mi wd)).run Tryd.prog w = .ok (.bool false) w) := hide fun w => by
    rw [run_neq_date, (sameD_iff _ _ _ _ _ _ _ _ _ _ _ _).2 ⟨rfl, rfl, rfl, rfl, rfl, rfl⟩]; rfl
  have HU := hide (run_guard_dateN y m d h mi wd y m d h mi wd)
  clear hM hG hO
  have q0 : Below w.heap.size w (w.alloc (.cells #[.int .i64 y, .int .i64 m, .int .i64 d, .int .i64 h, .int .i64 mi, .int .i64 wd] 23)) := (Below.refl _ _).alloc (Nat.le_refl _) _
  have HM0 := hide (HM.out.on q0)
  have HQ0 := hide q0
  clear q0
  go_enter Tryd.func12, Tryd.ntmps12
  go_wp2_with fail
  refine (HG.out _ HM0.out).mono ?_
  rintro e w1 ⟨rfl, hb1⟩
  have HB1 := hide (HQ0.out.trans (hb1.mono HQ0.out.size))
  obtain ⟨c1, f1⟩ := bcell hb1
  have z1 : w.heap.size < w1.heap.size := by have := hb1.size; simp at this; omega
  clear hb1
  go_wp2_with fail
  refine (HO.out _ (HM.out.on HB1.out)).mono ?_
  rintro e w2 ⟨rfl, hb2⟩
  have HB2 := hide (HB1.out.trans (hb2.mono HB1.out.size))
  obtain ⟨c2, f2⟩ := bcell hb2
  have z2 : w.heap.size < w2.heap.size := by have := hb2.size; omega
  clear hb2
  have hq := HQ.out
  have hu := HU.out
  go_wp2_with fail
  go_ret2
  exact ⟨rfl, HB2.out.alloc HB2.out.size _⟩
set_option maxHeartbeats 1000000 in
theorem min_other (y m d h mi wd : Int) (w : World) (hM : Mon w) (hG : ∀ w, Mon w → Calls Tryd.prog 29 #[vD y m d h mi wd] w (SomeInt w)) (hO : ∀ n w, Mon w → (∃ y' m' d' h' mi' wd' : Int, sameD y' m' d' h' mi' wd' y m d h mi wd = false ∧ Calls Tryd.prog 10 #[.int .i64 n] w fun e w' => e = .returned (.tuple #[vD y' m' d' h' mi' wd', .int .i64 0]) ∧ Below w.heap.size w w') ∨ Calls Tryd.prog 10 #[.int .i64 n] w fun e w' => e = .returned (.tuple #[vD 0 0 0 0 0 0, .int .i64 30]) ∧ Below w.heap.size w w') : Calls Tryd.prog 12 #[vD y m d h mi wd] w fun e w' => e = .returned (.tuple #[.int .i64 0, .int .i64 30]) ∧ Below w.heap.size w w' := by
  have HM := hide hM
  have HG := hide hG
  have HO := hide hO
  clear hM hG hO
  have q0 : Below w.heap.size w (w.alloc (.cells #[.int .i64 y, .int .i64 m, .int .i64 d, .int .i64 h, .int .i64 mi, .int .i64 wd] 23)) := (Below.refl _ _).alloc (Nat.le_refl _) _
  have HM0 := hide (HM.out.on q0)
  have HQ0 := hide q0
  clear q0
  go_enter Tryd.func12, Tryd.ntmps12
  go_wp2_with fail
  refine (HG.out _ HM0.out).mono ?_
  rintro e w1 ⟨n, rfl, hb1⟩
  have HB1 := hide (HQ0.out.trans (hb1.mono HQ0.out.size))
  obtain ⟨c1, f1⟩ := bcell hb1
  have z1 : w.heap.size < w1.heap.size := by have := hb1.size; simp at this; omega
  clear hb1
  rcases HO.out n w1 (HM.out.on HB1.out) with ⟨y', m', d', h', mi', wd', hne, hO⟩ | hO
  · have HO' := hide hO
    have HQ : Hid (∀ w, (binOp .neq 23 (vD y' m' d' h' mi' wd') (vD y m d h mi wd)).run Tryd.prog w = .ok (.bool true) w) := hide fun w => by
      rw [run_neq_date, hne]; rfl
    have HU := hide (run_guard_dateN y' m' d' h' mi' wd' y m d h mi wd)
    clear hO hne
    go_wp2_with fail
    refine HO'.out.mono ?_
    rintro e w2 ⟨rfl, hb2⟩
    have HB2 := hide (HB1.out.trans (hb2.mono HB1.out.size))
    obtain ⟨c2, f2⟩ := bcell hb2
    have z2 : w.heap.size < w2.heap.size := by have := hb2.size; omega
    clear hb2
    have hq := HQ.out
    have hu := HU.out
    go_wp2_with fail
    go_ret2
    exact ⟨rfl, HB2.out.alloc HB2.out.size _⟩
  · have HO' := hide hO
    clear hO
    go_wp2_with fail
    refine HO'.out.mono ?_
    rintro e w2 ⟨rfl, hb2⟩
    have HB2 := hide (HB1.out.trans (hb2.mono HB1.out.size))
    obtain ⟨c2, f2⟩ := bcell hb2
    have z2 : w.heap.size < w2.heap.size := by have := hb2.size; omega
    clear hb2
    go_wp2_with fail
    go_ret2
    exact ⟨rfl, HB2.out.alloc HB2.out.size _⟩
theorem min_yes {n : Int} (w : World) (hM : Mon w) (h0 : 0 ≤ n) (h1 : n < 2147483648) : Calls Tryd.prog 12 #[vDate n] w fun e w' => e = .returned (.tuple #[.int .i64 n, .int .i64 0]) ∧ Below w.heap.size w w' :=
  min_same _ _ _ _ _ _ n w hM (fun w hM => guess_yes _ w hM h0 h1) (fun w hM => of_yes n w h0 h1 hM)
theorem min_no (y m d h mi wd : Int) (w : World) (hM : Mon w) (hn : ∀ n, ¬ IsD y m d h mi wd n) : Calls Tryd.prog 12 #[vD y m d h mi wd] w fun e w' => e = .returned (.tuple #[.int .i64 0, .int .i64 30]) ∧ Below w.heap.size w w' :=
  min_other _ _ _ _ _ _ w hM (fun w hM => guess_some _ _ _ _ _ _ w hM) fun n w hM => by
    by_cases hr : 0 ≤ n ∧ n < 2147483648
    · refine .inl ⟨_, _, _, _, _, _, ?_, of_yes n w hr.1 hr.2 hM⟩
      rw [Bool.eq_false_iff]
      intro hs
      obtain ⟨e1, e2, e3, e4, e5, e6⟩ := (sameD_iff _ _ _ _ _ _ _ _ _ _ _ _).1 hs
      exact hn n ⟨hr.1, hr.2, e1.symm, e2.symm, e3.symm, e4.symm, e5.symm, e6.symm⟩
    · exact .inr (of_no n w (by omega))
end Go.Proofs.YtnopejobefkflaaDoor
