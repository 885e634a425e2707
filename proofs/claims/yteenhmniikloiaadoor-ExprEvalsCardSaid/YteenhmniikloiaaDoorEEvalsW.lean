/-
  The walk of ExprEvals.
-/
import Derived.Test.YteenhmniikloiaaDoorMStep
import Derived.Test.YteenhmniikloiaaDoorEBuildW
import Derived.Test.YteenhmniikloiaaDoorMTypes
import Derived.Test.YteenhmniikloiaaDoorMAwake
namespace Go.Proofs.YteenhmniikloiaaDoor
open Go.RowKit

theorem run_neq_zero (w : World) : (binOp .neq 29 (vVal 0 0 ⟨#[]⟩) (vVal 0 0 ⟨#[]⟩)).run Tryd.prog w = .ok (.bool false) w := by
  have h2 := Tryd.underlying9
  have h3 := Tryd.underlying3
  have hf := val_fieldsL
  rw [run_neq_struct, run_equalIn_agg w 9999 29 _ _ val_fields val_stood]
  generalize (Tryd.prog.fieldsOf 29).toList = fs at hf
  rcases fs with _ | ⟨f, _ | ⟨g, _ | ⟨h, _ | ⟨_, _⟩⟩⟩⟩ <;> simp at hf
  obtain ⟨⟨f1, f2, f3⟩, ⟨g1, g2, g3⟩, k1, k2, k3⟩ := hf
  simp [Op.eqFields, f1, f2, f3, g1, g2, g3, k1, k2, k3, go_sem]
theorem run_guard_neq (u v : Operand) (w : World) : (eqGuard .neq 29 u v (vVal 0 0 ⟨#[]⟩) (vVal 0 0 ⟨#[]⟩)).run Tryd.prog w = .ok () w := run_eqGuard_agg w .neq _ u v _ _ val_guard
theorem row_on {w w' : World} {A : Option Addr} {vs : List (Int × Int × ByteArray)} (h : RowAt w.heap.size w A vs) (hb : Below w.heap.size w w') : RowAt w'.heap.size w' A vs := h.on hb
set_option maxHeartbeats 6400000 in
set_option maxRecDepth 100000 in
theorem exprEvals_walk (A : Option Addr) (c : Nat) (l : List PL) (S : Option Addr) (k : Nat) (cs : List (ByteArray × Int)) (R : Option Addr) (kr : Nat) (row : List (Int × Int × ByteArray)) (w : World) (hP : PlainsAt w.heap.size w A l ∧ l.length ≤ c) (hw : wfP l) (hC : ColsAt w.heap.size w S cs) (hwc : Wf cs) (hRo : RowAt w.heap.size w R row) (hwr : WfR row) (_ : R = none → kr = 0) (hR : Rls w) (hM : Cmps w) :
    Calls Tryd.prog 4 #[.slice A l.length c, .slice S cs.length k, .slice R row.length kr] w fun e w' => e = .returned (.bool true) ∧ Below w.heap.size w w' := by
  have HSm := hide (small_any A c l w hP.1 hw)
  have HSs := hide (fun w' (h : Below w.heap.size w w') => smallSchema_any S k cs w' (hC.on h) hwc.1 (fun j hj => (hwc.at hj).1))
  have HAw := hide (fun w' (h : Below w.heap.size w w') => awake_any w' (hR.stays h) (hM.stays h))
  have HP := hide hP.1
  have HC := hide hP.2
  have HW := hide hw
  have HCs := hide hC
  have HWc := hide hwc
  have HRr := hide hRo
  have HWr := hide hwr
  have HR := hide hR
  have HM := hide hM
  cases hg : smallP l
  · rw [hg] at HSm
    clear hP hw hC hwc hRo hwr hR hM HSs
    go_enter Tryd.func4, Tryd.ntmps4
    go_wp2_with fail
    refine HSm.out.mono ?_
    rintro e w1 ⟨rfl, hb1⟩
    have HB1 := hide hb1
    clear hb1
    go_wp2_with fail
    refine (HAw.out _ HB1.out).mono ?_
    rintro e w9 ⟨rfl, hb9⟩
    have HB9 := hide (then_below HB1.out hb9)
    clear hb9
    go_wp2_with fail
    go_ret
    exact ⟨rfl, HB9.out⟩
  have hlen := smallP_len hg
  by_cases h40 : 40 < l.length
  · have h40' : (40 : Int) < (l.length : Int) := by omega
    rw [hg] at HSm
    clear hP hw hC hwc hRo hwr hR hM HSs hg hlen
    go_enter Tryd.func4, Tryd.ntmps4
    go_wp2_with fail
    refine HSm.out.mono ?_
    rintro e w1 ⟨rfl, hb1⟩
    have HB1 := hide hb1
    clear hb1
    go_wp2_with fail
    refine (HAw.out _ HB1.out).mono ?_
    rintro e w9 ⟨rfl, hb9⟩
    have HB9 := hide (then_below HB1.out hb9)
    clear hb9
    go_wp2_with fail
    go_ret
    exact ⟨rfl, HB9.out⟩
  have h40' : ¬ (40 : Int) < (l.length : Int) := by omega
  have h40'' : (l.length : Int) ≤ 40 := by omega
  cases hs : smallC cs
  · rw [hg] at HSm
    rw [hs] at HSs
    clear hP hw hC hwc hRo hwr hR hM hg hlen h40
    go_enter Tryd.func4, Tryd.ntmps4
    go_wp2_with fail
    refine HSm.out.mono ?_
    rintro e w1 ⟨rfl, hb1⟩
    have HB1 := hide hb1
    clear hb1
    go_wp2_with fail
    refine (HSs.out _ HB1.out).mono ?_
    rintro e w2 ⟨rfl, hb2⟩
    have HB2 := hide (then_below HB1.out hb2)
    clear hb2
    go_wp2_with fail
    refine (HAw.out _ HB2.out).mono ?_
    rintro e w9 ⟨rfl, hb9⟩
    have HB9 := hide (then_below HB2.out hb9)
    clear hb9
    go_wp2_with fail
    go_ret
    exact ⟨rfl, HB9.out⟩
  by_cases h20 : 20 < row.length
  · have h20' : (20 : Int) < (row.length : Int) := by omega
    rw [hg] at HSm
    rw [hs] at HSs
    clear hP hw hC hwc hRo hwr hR hM hg hlen h40
    go_enter Tryd.func4, Tryd.ntmps4
    go_wp2_with fail
    refine HSm.out.mono ?_
    rintro e w1 ⟨rfl, hb1⟩
    have HB1 := hide hb1
    clear hb1
    go_wp2_with fail
    refine (HSs.out _ HB1.out).mono ?_
    rintro e w2 ⟨rfl, hb2⟩
    have HB2 := hide (then_below HB1.out hb2)
    clear hb2
    go_wp2_with fail
    refine (HAw.out _ HB2.out).mono ?_
    rintro e w9 ⟨rfl, hb9⟩
    have HB9 := hide (then_below HB2.out hb9)
    clear hb9
    go_wp2_with fail
    go_ret
    exact ⟨rfl, HB9.out⟩
  have h20' : ¬ (20 : Int) < (row.length : Int) := by omega
  have h20'' : (row.length : Int) ≤ 20 := by omega
  obtain ⟨h0, h300⟩ := smallP_len hg
  obtain ⟨b, off, rfl, hb, -⟩ := hP.1 0 h0
  have hl2 := smallC_len hs
  have HWf := hide (fun x (h : stripX x = (nodeP 60 l).1) => built_wf hg HW.out h)
  rw [hg] at HSm
  rw [hs] at HSs
  clear hP hw hC hwc hRo hwr hR hM hg hs hlen h40 h20
  go_enter Tryd.func4, Tryd.ntmps4
  go_wp2_with fail
  refine HSm.out.mono ?_
  rintro e w1 ⟨rfl, hb1⟩
  have HB1 := hide hb1
  clear hb1
  go_wp2_with fail
  refine (HSs.out _ HB1.out).mono ?_
  rintro e w2 ⟨rfl, hb2⟩
  have HB2 := hide (then_below HB1.out hb2)
  clear hb2
  go_wp2_with fail
  refine (build_any l b off c w2 h0 h300 HC.out (HP.out.on HB2.out)).mono ?_
  rintro e w3 ⟨⟨x, rfl, hst, hlx, -⟩, hb3⟩
  have HB3 := hide (then_below HB2.out hb3)
  have HWx := hide (HWf.out x hst)
  have HSx := hide (tree_sz hst h0 h300)
  have HLx := hide (hlx.on (boxE_below w3 x))
  have HB4 := hide (then_below HB3.out (boxE_below w3 x))
  have HBox := hide (fun w' => boxE_at (w := w3) (x := x) (w' := w'))
  have HWE := hide (show boxE w3 x = w3.alloc (.cells #[.int .i64 x.kind, .string x.name, .int .i64 x.val.1, .int .i64 x.val.2.1, .string x.val.2.2, .string x.op, .slice x.adr x.args.length x.cap] 32) from rfl)
  rw [show vX x = .agg #[.int .i64 x.kind, .string x.name, .int .i64 x.val.1, .int .i64 x.val.2.1, .string x.val.2.2, .string x.op, .slice x.adr x.args.length x.cap] from rfl]
  have HEv := hide (fun w' (h : Below (boxE w3 x).heap.size (boxE w3 x) w') => evalTop_any S k cs HWc.out R kr row HWr.out x w' HSx.out (HLx.out.on h) HWx.out.1 HWx.out.2 (HCs.out.on (then_below HB4.out h)) (HRr.out.on (then_below HB4.out h)) (HM.out.stays (then_below HB4.out h)) (HR.out.stays (then_below HB4.out h)))
  have HTd := hide (fun w' (h : Below (boxE w3 x).heap.size (boxE w3 x) w') => typed_any S k cs x w' HWc.out (by omega) HSx.out (HLx.out.on h) HWx.out.1 (HCs.out.on (then_below HB4.out h)))
  have HFt := hide (fun w' (h : Below (boxE w3 x).heap.size (boxE w3 x) w') => fits_any S R k kr cs row w' (HCs.out.on (then_below HB4.out h)) (HRr.out.on (then_below HB4.out h)) HWc.out HWr.out)
  have HSt := hide (fun (h1 : (typeTop cs x).2 = 0) (h2 : fitsB cs row = true) w' (h : Below (boxE w3 x).heap.size (boxE w3 x) w') => (by
    have hh := stepLaw_any S k cs HWc.out R kr row HWr.out x w' h1 h2 (HLx.out.on h) HWx.out.1 HWx.out.2 (HCs.out.on (then_below HB4.out h)) (HRr.out.on (then_below HB4.out h)) (HM.out.stays (then_below HB4.out h)) (HR.out.stays (then_below HB4.out h))
    rw [← evalTop_of h1 h2] at hh
    exact hh : Calls Tryd.prog 21 #[vX x, .slice S cs.length k, .slice R row.length kr, vOf (evalTop cs row x).1, .int .i64 (evalTop cs row x).2] w' fun e w1 => e = .returned (.bool true) ∧ Below w'.heap.size w' w1))
  have HZ1 := hide (show ¬ (typeTop cs x).2 = 0 → evalTop cs row x = (d3, (typeTop cs x).2) from fun h => by unfold evalTop; rw [if_neg h])
  have HZ2 := hide (show (typeTop cs x).2 = 0 → fitsB cs row = false → evalTop cs row x = (d3, 12) from fun h h2 => by unfold evalTop; rw [if_pos h, if_neg (by rw [h2]; decide)])
  have HZ3 := hide (show (typeTop cs x).2 = 0 → fitsB cs row = true → (¬ (evalTop cs row x).2 = 0 → (evalTop cs row x).1 = d3 ∧ ((evalTop cs row x).2 = 10 ∨ (evalTop cs row x).2 = 11)) ∧ ((evalTop cs row x).2 = 0 → okV (typeTop cs x).1 (evalTop cs row x).1) from fun h h2 => by
    rw [evalTop_of h h2]
    refine ⟨fun hne => ⟨eval_err hne, ?_⟩, fun he => ?_⟩
    · rcases eval_code cs row _ x (Nat.le_refl _) with h' | h'
      · exact absurd h' hne
      · exact h'
    · rw [(typeTop_ok h).2.2.2]
      exact eval_sound (fitsB_row h2) HWr.out _ x 1 (Nat.le_refl _) HWx.out.2 (typeTop_ok h).2.2.1 he)
  rw [show vX x = .agg #[.int .i64 x.kind, .string x.name, .int .i64 x.val.1, .int .i64 x.val.2.1, .string x.val.2.2, .string x.op, .slice x.adr x.args.length x.cap] from rfl] at HEv HSt
  generalize typeTop cs x = q at *
  generalize evalTop cs row x = z at *
  generalize fitsB cs row = fb at *
  obtain ⟨q1, q2⟩ := q
  obtain ⟨⟨z1, z2, z3⟩, ze⟩ := z
  simp only at HZ1 HZ2 HZ3 HEv HSt HTd
  clear hst hlx hb3
  obtain ⟨c0', c1', c2', c3', c4', c5', c6', cz⟩ := HBox.out _ (Below.refl _ _)
  go_wp2_with fail
  rw [← HWE.out]
  generalize boxE w3 x = W at *
  clear HWE
  refine (HEv.out _ (Below.refl _ _)).mono ?_
  rintro e w5 ⟨rfl, hb5⟩
  have hb6 := Joins.below_alloc1 w5 (.cells #[.int .i64 z1, .int .i64 z2, .string z3] 29)
  have HB5 := hide hb5
  have HB6 := hide (then_below hb5 hb6)
  have HV6 := hide (show At3 (w5.alloc (.cells #[.int .i64 z1, .int .i64 z2, .string z3] 29)) w5.heap.size (z1, z2, z3) from ⟨by simp, by simp, by simp, by simp⟩)
  clear hb5 hb6 c0' c1' c2' c3' c4' c5' c6' cz
  obtain ⟨c0', c1', c2', c3', c4', c5', c6', cz⟩ := HBox.out _ HB5.out
  go_wp2_with fail
  generalize (w5.alloc (.cells #[.int .i64 z1, .int .i64 z2, .string z3] 29)) = W6 at *
  generalize w5.heap.size = V at *
  clear c0' c1' c2' c3' c4' c5' c6' cz
  refine (HTd.out _ HB6.out).mono ?_
  rintro e w7 ⟨rfl, hb7⟩
  have HB7 := hide (then_below HB6.out hb7)
  have HV7 := hide (HV6.out.on hb7)
  have HBl := hide (then_below HB4.out HB7.out)
  clear hb7
  obtain ⟨c0', c1', c2', c3', c4', c5', c6', cz⟩ := HBox.out _ HB7.out
  obtain ⟨x0, x1, x2, xz⟩ := HV7.out
  simp only at x0 x1 x2
  generalize w3.heap.size = P at *
  by_cases ht : q2 = 0
  rotate_left 1
  · have bt : (q2 != 0) = true := by rw [bne_iff_ne]; exact ht
    have hz := HZ1.out ht
    obtain ⟨⟨rfl, rfl, rfl⟩, rfl⟩ : (z1 = 0 ∧ z2 = 0 ∧ z3 = ⟨#[]⟩) ∧ ze = q2 := by injection hz with h1 h2; injection h1 with h3 h4; injection h4 with h4 h5; exact ⟨⟨h3, h4, h5⟩, h2⟩
    have hq : ∀ w : World, (binOp .eql 29 (vVal 0 0 ⟨#[]⟩) (vVal 0 0 ⟨#[]⟩)).run Tryd.prog w = .ok (.bool true) w := fun w => (run_eql_val 0 0 0 0 ⟨#[]⟩ ⟨#[]⟩ w).trans (by simp)
    have hgd := fun u u' w => run_guard_val 0 0 0 0 ⟨#[]⟩ ⟨#[]⟩ u u' w
    clear HZ1 HZ2 HZ3 HSt HFt HEv HTd ht hz
    go_wp2_with fail
    refine (HAw.out _ HBl.out).mono ?_
    rintro e w9 ⟨rfl, hb9⟩
    have HB9 := hide (then_below HBl.out hb9)
    clear hb9
    go_wp2_with fail
    go_ret
    exact ⟨rfl, HB9.out⟩
  subst ht
  have HFc := hide (HFt.out _ HB7.out)
  go_wp2_with fail
  refine HFc.out.mono ?_
  rintro e w8 ⟨rfl, hb8⟩
  have HB8 := hide (then_below HB7.out hb8)
  have HV8 := hide (HV7.out.on hb8)
  have HBl8 := hide (then_below HBl.out hb8)
  clear hb8 c0' c1' c2' c3' c4' c5' c6' cz x0 x1 x2 xz
  obtain ⟨c0', c1', c2', c3', c4', c5', c6', cz⟩ := HBox.out _ HB8.out
  obtain ⟨x0, x1, x2, xz⟩ := HV8.out
  simp only at x0 x1 x2
  cases fb
  · have hz := HZ2.out (by trivial) (by trivial)
    obtain ⟨⟨rfl, rfl, rfl⟩, rfl⟩ : (z1 = 0 ∧ z2 = 0 ∧ z3 = ⟨#[]⟩) ∧ ze = 12 := by injection hz with h1 h2; injection h1 with h3 h4; injection h4 with h4 h5; exact ⟨⟨h3, h4, h5⟩, h2⟩
    have hq : ∀ w : World, (binOp .eql 29 (vVal 0 0 ⟨#[]⟩) (vVal 0 0 ⟨#[]⟩)).run Tryd.prog w = .ok (.bool true) w := fun w => (run_eql_val 0 0 0 0 ⟨#[]⟩ ⟨#[]⟩ w).trans (by simp)
    have hgd := fun u u' w => run_guard_val 0 0 0 0 ⟨#[]⟩ ⟨#[]⟩ u u' w
    clear HZ1 HZ2 HZ3 HSt HFt HEv HTd HFc hz
    go_wp2_with fail
    refine (HAw.out _ HBl8.out).mono ?_
    rintro e w9 ⟨rfl, hb9⟩
    have HB9 := hide (then_below HBl8.out hb9)
    clear hb9
    go_wp2_with fail
    go_ret
    exact ⟨rfl, HB9.out⟩
  obtain ⟨HE1, HE2⟩ := HZ3.out (by trivial) (by trivial)
  have HSc := hide (fun w' h => HSt.out (by trivial) (by trivial) w' h)
  clear HZ1 HZ2 HZ3 HSt HFt HEv HTd HFc
  by_cases he : ze = 0
  rotate_left 1
  · obtain ⟨hv, hcode⟩ := HE1 he
    have be : (ze != 0) = true := by rw [bne_iff_ne]; exact he
    obtain ⟨rfl, rfl, rfl⟩ : z1 = 0 ∧ z2 = 0 ∧ z3 = ⟨#[]⟩ := by injection hv with h3 h4; injection h4 with h4 h5; exact ⟨h3, h4, h5⟩
    have hq : ∀ w : World, (binOp .neq 29 (vVal 0 0 ⟨#[]⟩) (vVal 0 0 ⟨#[]⟩)).run Tryd.prog w = .ok (.bool false) w := fun w => run_neq_zero w
    have hgd := fun u u' w => run_guard_neq u u' w
    clear HE1 HE2 he hv
    rcases hcode with rfl | rfl
    all_goals
      go_wp2_with fail
      refine (HSc.out _ HB8.out).mono ?_
      rintro e w9 ⟨rfl, hb9⟩
      have HB10 := hide (then_below HBl8.out hb9)
      clear hb9
      go_wp2_with fail
      refine (HAw.out _ HB10.out).mono ?_
      rintro e w10 ⟨rfl, hb10⟩
      have HB11 := hide (then_below HB10.out hb10)
      clear hb10
      go_wp2_with fail
      go_ret
      exact ⟨rfl, HB11.out⟩
  subst he
  have hok := HE2 rfl
  obtain ⟨hright, hkind⟩ := okV_rightV hok
  have hsz := okV_size hok
  simp only at hright hkind hsz
  have HRt := hide (fun w' => right_any z1 z2 z3 w' (by unfold maxLen; omega))
  rw [hright] at HRt
  clear HE1 HE2 hok hright hsz
  go_wp2_with fail
  refine (HRt.out _).mono ?_
  rintro e w9 ⟨rfl, hb9⟩
  have HB9a := hide (then_below HB8.out hb9)
  have HV9 := hide (HV8.out.on hb9)
  have HBl9 := hide (then_below HBl8.out hb9)
  clear hb9 c0' c1' c2' c3' c4' c5' c6' cz x0 x1 x2 xz
  obtain ⟨c0', c1', c2', c3', c4', c5', c6', cz⟩ := HBox.out _ HB9a.out
  obtain ⟨x0, x1, x2, xz⟩ := HV9.out
  simp only at x0 x1 x2
  have hk3 : (z1 != 0) = false ∨ ((z1 != 0) = true ∧ (z1 != q1) = false) := by
    by_cases h : z1 = 0
    · left; rw [bne_eq_false_iff_eq]; exact h
    · right; exact ⟨by rw [bne_iff_ne]; exact h, by rw [bne_eq_false_iff_eq]; rcases hkind with h' | h'; exact absurd h' h; exact h'⟩
  clear hkind
  rcases hk3 with hk3 | ⟨hk3, hk4⟩
  all_goals
    go_wp2_with fail
    refine (HSc.out _ HB9a.out).mono ?_
    rintro e w10 ⟨rfl, hb10⟩
    have HB10 := hide (then_below HBl9.out hb10)
    clear hb10
    go_wp2_with fail
    refine (HAw.out _ HB10.out).mono ?_
    rintro e w11 ⟨rfl, hb11⟩
    have HB11 := hide (then_below HB10.out hb11)
    clear hb11
    go_wp2_with fail
    go_ret
    exact ⟨rfl, HB11.out⟩
end Go.Proofs.YteenhmniikloiaaDoor
