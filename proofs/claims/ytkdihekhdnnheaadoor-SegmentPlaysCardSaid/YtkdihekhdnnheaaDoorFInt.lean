/-
  The decoder: integers, texts, counts.
-/
import Derived.Test.YtkdihekhdnnheaaDoorFDig
namespace Go.Proofs.YtkdihekhdnnheaaDoor
open Go.RowKit

def GoodD (t : List UInt8) (n : Nat) : Prop := n ≤ 8 ∧ n ≤ t.length ∧ lastB (t.take n) ≠ 0 ∧ valL (t.take n) < 9223372036854775808
theorem dig_yes {lo : Nat → Prop} {g : Nat} {l : List UInt8} {bad : Bool} (n : Nat) (w : World) (hI : InAt lo g w l bad) (h : GoodD l n) :
    Calls Tryd.prog 77 #[vI g, .int .i64 n] w fun e w' => e = .returned (.int .i64 (valL (l.take n) : Nat)) ∧ InAt lo g w' (l.drop n) bad ∧ OnlyG g w w' := by
  obtain ⟨h1, h2, h3, h4⟩ := h
  have hln : (l.take n).length = n := by rw [List.length_take]; omega
  refine (dig_walk (bl := l.take n) (l2 := l.drop n) (b2 := bad) n w h1 (by omega) ((take_yes n w hI h2).mono fun e w' hh => ?_)).mono fun e w' hh => ⟨(hh.1 ⟨h3, h4⟩).1, (hh.1 ⟨h3, h4⟩).2, hh.2.2⟩
  obtain ⟨A, c, e1, _, _, e4, e5, e6⟩ := hh
  exact ⟨A, c, by rw [hln]; exact e1, e4, e5, e6⟩
set_option maxHeartbeats 1600000 in
set_option maxRecDepth 100000 in
theorem dig_big {lo : Nat → Prop} {g : Nat} {l : List UInt8} {bad : Bool} (n : Nat) (w : World) (hI : InAt lo g w l bad) (hn : ¬ n ≤ 8) (hn2 : n ≤ 255) :
    Calls Tryd.prog 77 #[vI g, .int .i64 n] w fun e w' => e = .returned (.int .i64 0) ∧ InAt lo g w' [] true ∧ OnlyG g w w' := by
  have HF := hide (fail_any w hI)
  have hn3 : 8 < (n : Int) := by omega
  clear hI hn
  go_enter Tryd.func77, Tryd.ntmps77
  go_wp2_with fail
  refine HF.out.mono ?_
  rintro e w1 ⟨rfl, h1, h2⟩
  have HA := hide (And.intro h1 h2)
  clear h1 h2
  go_wp2_with fail
  go_ret
  exact ⟨rfl, HA.out⟩
theorem dig_no {lo : Nat → Prop} {g : Nat} {l : List UInt8} {bad : Bool} (n : Nat) (w : World) (hI : InAt lo g w l bad) (hn2 : n ≤ 255) (h : ¬ GoodD l n) :
    Calls Tryd.prog 77 #[vI g, .int .i64 n] w fun e w' => e = .returned (.int .i64 0) ∧ InAt lo g w' [] true ∧ OnlyG g w w' := by
  by_cases h1 : n ≤ 8
  · by_cases h2 : n ≤ l.length
    · have hln : (l.take n).length = n := by rw [List.length_take]; omega
      have h3 : ¬ (lastB (l.take n) ≠ 0 ∧ valL (l.take n) < 9223372036854775808) := fun hh => h ⟨h1, h2, hh.1, hh.2⟩
      refine (dig_walk (bl := l.take n) (l2 := l.drop n) (b2 := bad) n w h1 (by omega) ((take_yes n w hI h2).mono fun e w' hh => ?_)).mono fun e w' hh => ⟨(hh.2.1 h3).1, (hh.2.1 h3).2, hh.2.2⟩
      obtain ⟨A, c, e1, _, _, e4, e5, e6⟩ := hh
      exact ⟨A, c, by rw [hln]; exact e1, e4, e5, e6⟩
    · refine (dig_walk (bl := []) (l2 := []) (b2 := true) n w h1 (by simp) ((take_no (n : Int) w hI (by omega) (by omega) (by omega)).mono fun e w' hh => ⟨none, 0, hh.1, Reads.nil _ _ _ _, hh.2.1, hh.2.2⟩)).mono fun e w' hh => ?_
      have := hh.1 ⟨by decide, by decide⟩
      exact ⟨this.1, this.2, hh.2.2⟩
  · exact dig_big n w hI h1 hn2
theorem readI_low {c : UInt8} {t : List UInt8} (h : ¬ 16 ≤ c.toNat) (hg : GoodD t c.toNat) : readI (c :: t) = some (((valL (t.take c.toNat) : Nat) : Int), 1 + c.toNat) := by
  obtain ⟨h1, h2, h3, h4⟩ := hg
  have e : c.toNat % 16 = c.toNat := by omega
  rw [readI, e, if_pos (by simp only [headOk, e, Bool.and_eq_true, decide_eq_true_eq]; omega), if_pos ⟨h3, h4⟩]
  unfold signI; rw [if_neg h]
theorem readI_low_no {c : UInt8} {t : List UInt8} (h : ¬ 16 ≤ c.toNat) (hg : ¬ GoodD t c.toNat) : readI (c :: t) = none := by
  have e : c.toNat % 16 = c.toNat := by omega
  rw [readI]
  simp only [e]
  split
  · rename_i ho
    simp only [headOk, e, Bool.and_eq_true, decide_eq_true_eq] at ho
    rw [if_neg fun hh => hg ⟨by omega, by omega, hh.1, hh.2⟩]
  · rfl
theorem readI_high {c : UInt8} {t : List UInt8} (h : 16 ≤ c.toNat) (hg : GoodD t (c.toNat - 16)) : readI (c :: t) = some (-1 - ((valL (t.take (c.toNat - 16)) : Nat) : Int), 1 + (c.toNat - 16)) := by
  obtain ⟨h1, h2, h3, h4⟩ := hg
  have e : c.toNat % 16 = c.toNat - 16 := by omega
  rw [readI, e, if_pos (by simp only [headOk, e, Bool.and_eq_true, decide_eq_true_eq]; omega), if_pos ⟨h3, h4⟩]
  unfold signI; rw [if_pos h]
theorem readI_high_no {c : UInt8} {t : List UInt8} (h : 16 ≤ c.toNat) (hg : ¬ GoodD t (c.toNat - 16)) : readI (c :: t) = none := by
  rw [readI]
  split
  · rename_i ho
    simp only [headOk, Bool.and_eq_true, decide_eq_true_eq] at ho
    have e : c.toNat % 16 = c.toNat - 16 := by omega
    rw [e, if_neg fun hh => hg ⟨by omega, by omega, hh.1, hh.2⟩]
  · rfl
/-- What Int gives; what is left; whether the decoder is bad. -/
def intN (l : List UInt8) : Int := (readI l).elim 0 (·.1)
def intL (l : List UInt8) : List UInt8 := (readI l).elim [] fun p => l.drop p.2
def intX (l : List UInt8) : Bool := (readI l).isNone
def IntRes (lo : Nat → Prop) (g : Nat) (w : World) (l : List UInt8) (e : Ending) (w' : World) : Prop := e = .returned (.int .i64 (intN l)) ∧ InAt lo g w' (intL l) (intX l) ∧ OnlyG g w w'
set_option maxHeartbeats 3200000 in
set_option maxRecDepth 100000 in
theorem inInt_any {lo : Nat → Prop} {g : Nat} {l : List UInt8} {bad : Bool} (w : World) (hI : InAt lo g w l bad) :
    Calls Tryd.prog 68 #[vI g] w (IntRes lo g w l) := by
  cases l with
  | nil =>
    have HN := hide (show intN [] = 0 from rfl)
    have HL := hide (show intL [] = [] from rfl)
    have HX := hide (show intX [] = true from rfl)
    have HT := hide (take_no 1 w hI (by omega) (by omega) (by simp))
    clear hI
    unfold IntRes
    go_enter Tryd.func68, Tryd.ntmps68
    go_wp2_with fail
    refine HT.out.mono ?_
    rintro e w1 ⟨rfl, hI1, ho1⟩
    have HA := hide (And.intro hI1 ho1)
    obtain ⟨_, _, A1, c1, hbx, _⟩ := hI1
    obtain ⟨k0, k1, f0, f1⟩ := InAt.cells hbx
    clear hbx ho1
    go_wp2_with fail
    go_ret
    exact ⟨rfl, HA.out⟩
  | cons c t =>
    have hbad : bad = false := by
      cases bad with
      | false => rfl
      | true => obtain ⟨_, h0, _⟩ := hI; cases h0 rfl
    subst hbad
    have hc := c.toNat_lt
    have hc1 : c.toNat < 256 := hc
    clear hc
    have HT := hide (take_yes 1 w hI (by simp))
    clear hI
    by_cases h16 : 16 ≤ c.toNat
    · by_cases hg : GoodD t (c.toNat - 16)
      · have HR := hide (readI_high h16 hg)
        have HN := hide (show intN (c :: t) = -1 - ((valL (t.take (c.toNat - 16)) : Nat) : Int) by unfold intN; rw [HR.out]; rfl)
        have HL := hide (show intL (c :: t) = t.drop (c.toNat - 16) by unfold intL; rw [HR.out]; show (c :: t).drop (1 + _) = _; rw [Nat.add_comm 1, List.drop_succ_cons])
        have HX := hide (show intX (c :: t) = false by unfold intX; rw [HR.out]; rfl)
        have HD := hide (fun w' (h : InAt lo g w' t false) => dig_yes (c.toNat - 16) w' h hg)
        have hv := hg.2.2.2
        generalize valL (t.take (c.toNat - 16)) = V at *
        have hm : (c.toNat : Int) - 16 = ((c.toNat - 16 : Nat) : Int) := by omega
        have h16' : (16 : Int) ≤ (c.toNat : Int) := by omega
        clear hg h16
        unfold IntRes
        generalize intN (c :: t) = rN at *
        generalize intL (c :: t) = rL at *
        generalize intX (c :: t) = rX at *
        go_enter Tryd.func68, Tryd.ntmps68
        go_wp2_with fail
        refine HT.out.mono ?_
        rintro e w1 ⟨A1, c1, rfl, hc1, hn1, hR1, hI1, ho1⟩
        obtain ⟨b, off, hA, _, _, _, cz⟩ := hR1 0 (by simp)
        subst hA
        rw [Nat.add_zero, List.take_succ_cons, List.getD_cons_zero] at cz
        have HD1 := hide (HD.out w1 hI1)
        have HO1 := hide ho1
        obtain ⟨_, _, A2, c2, hbx, _⟩ := hI1
        obtain ⟨k0, k1, f0, f1⟩ := InAt.cells hbx
        clear hbx hR1 hn1 ho1 HD HT
        go_wp2_with fail
        refine HD1.out.mono ?_
        rintro e w2 ⟨rfl, hI2, ho2⟩
        have HA := hide (show InAt lo g w2 rL rX ∧ OnlyG g w w2 from ⟨by rw [HL.out, HX.out]; exact hI2, HO1.out.trans ho2⟩)
        obtain ⟨_, _, A3, c3, hbx, _⟩ := hI2
        obtain ⟨m0, m1, f2, f3⟩ := InAt.cells hbx
        clear hbx ho2 k0 k1 f0 f1 cz HD1
        go_wp2_with fail
        go_ret
        exact ⟨ret_int HN.out.symm, HA.out⟩
      · have HR := hide (readI_high_no h16 hg)
        have HN := hide (show intN (c :: t) = 0 by unfold intN; rw [HR.out]; rfl)
        have HL := hide (show intL (c :: t) = [] by unfold intL; rw [HR.out]; rfl)
        have HX := hide (show intX (c :: t) = true by unfold intX; rw [HR.out]; rfl)
        have HD := hide (fun w' (h : InAt lo g w' t false) => dig_no (c.toNat - 16) w' h (by omega) hg)
        have hm : (c.toNat : Int) - 16 = ((c.toNat - 16 : Nat) : Int) := by omega
        have h16' : (16 : Int) ≤ (c.toNat : Int) := by omega
        clear hg h16
        unfold IntRes
        generalize intN (c :: t) = rN at *
        generalize intL (c :: t) = rL at *
        generalize intX (c :: t) = rX at *
        go_enter Tryd.func68, Tryd.ntmps68
        go_wp2_with fail
        refine HT.out.mono ?_
        rintro e w1 ⟨A1, c1, rfl, hc1, hn1, hR1, hI1, ho1⟩
        obtain ⟨b, off, hA, _, _, _, cz⟩ := hR1 0 (by simp)
        subst hA
        rw [Nat.add_zero, List.take_succ_cons, List.getD_cons_zero] at cz
        have HD1 := hide (HD.out w1 hI1)
        have HO1 := hide ho1
        obtain ⟨_, _, A2, c2, hbx, _⟩ := hI1
        obtain ⟨k0, k1, f0, f1⟩ := InAt.cells hbx
        clear hbx hR1 hn1 ho1 HD HT
        go_wp2_with fail
        refine HD1.out.mono ?_
        rintro e w2 ⟨rfl, hI2, ho2⟩
        have HA := hide (show InAt lo g w2 rL rX ∧ OnlyG g w w2 from ⟨by rw [HL.out, HX.out]; exact hI2, HO1.out.trans ho2⟩)
        obtain ⟨_, _, A3, c3, hbx, _⟩ := hI2
        obtain ⟨m0, m1, f2, f3⟩ := InAt.cells hbx
        clear hbx ho2 k0 k1 f0 f1 cz HD1
        go_wp2_with fail
        go_ret
        exact ⟨ret_int HN.out.symm, HA.out⟩
    · by_cases hg : GoodD t c.toNat
      · have HR := hide (readI_low h16 hg)
        have HN := hide (show intN (c :: t) = ((valL (t.take c.toNat) : Nat) : Int) by unfold intN; rw [HR.out]; rfl)
        have HL := hide (show intL (c :: t) = t.drop (c.toNat) by unfold intL; rw [HR.out]; show (c :: t).drop (1 + _) = _; rw [Nat.add_comm 1, List.drop_succ_cons])
        have HX := hide (show intX (c :: t) = false by unfold intX; rw [HR.out]; rfl)
        have HD := hide (fun w' (h : InAt lo g w' t false) => dig_yes (c.toNat) w' h hg)
        have hv := hg.2.2.2
        generalize valL (t.take (c.toNat)) = V at *
        have h16' : ¬ (16 : Int) ≤ (c.toNat : Int) := by omega
        clear hg h16
        unfold IntRes
        generalize intN (c :: t) = rN at *
        generalize intL (c :: t) = rL at *
        generalize intX (c :: t) = rX at *
        go_enter Tryd.func68, Tryd.ntmps68
        go_wp2_with fail
        refine HT.out.mono ?_
        rintro e w1 ⟨A1, c1, rfl, hc1, hn1, hR1, hI1, ho1⟩
        obtain ⟨b, off, hA, _, _, _, cz⟩ := hR1 0 (by simp)
        subst hA
        rw [Nat.add_zero, List.take_succ_cons, List.getD_cons_zero] at cz
        have HD1 := hide (HD.out w1 hI1)
        have HO1 := hide ho1
        obtain ⟨_, _, A2, c2, hbx, _⟩ := hI1
        obtain ⟨k0, k1, f0, f1⟩ := InAt.cells hbx
        clear hbx hR1 hn1 ho1 HD HT
        go_wp2_with fail
        refine HD1.out.mono ?_
        rintro e w2 ⟨rfl, hI2, ho2⟩
        have HA := hide (show InAt lo g w2 rL rX ∧ OnlyG g w w2 from ⟨by rw [HL.out, HX.out]; exact hI2, HO1.out.trans ho2⟩)
        obtain ⟨_, _, A3, c3, hbx, _⟩ := hI2
        obtain ⟨m0, m1, f2, f3⟩ := InAt.cells hbx
        clear hbx ho2 k0 k1 f0 f1 cz HD1
        go_wp2_with fail
        go_ret
        exact ⟨ret_int HN.out.symm, HA.out⟩
      · have HR := hide (readI_low_no h16 hg)
        have HN := hide (show intN (c :: t) = 0 by unfold intN; rw [HR.out]; rfl)
        have HL := hide (show intL (c :: t) = [] by unfold intL; rw [HR.out]; rfl)
        have HX := hide (show intX (c :: t) = true by unfold intX; rw [HR.out]; rfl)
        have HD := hide (fun w' (h : InAt lo g w' t false) => dig_no (c.toNat) w' h (by omega) hg)
        have h16' : ¬ (16 : Int) ≤ (c.toNat : Int) := by omega
        clear hg h16
        unfold IntRes
        generalize intN (c :: t) = rN at *
        generalize intL (c :: t) = rL at *
        generalize intX (c :: t) = rX at *
        go_enter Tryd.func68, Tryd.ntmps68
        go_wp2_with fail
        refine HT.out.mono ?_
        rintro e w1 ⟨A1, c1, rfl, hc1, hn1, hR1, hI1, ho1⟩
        obtain ⟨b, off, hA, _, _, _, cz⟩ := hR1 0 (by simp)
        subst hA
        rw [Nat.add_zero, List.take_succ_cons, List.getD_cons_zero] at cz
        have HD1 := hide (HD.out w1 hI1)
        have HO1 := hide ho1
        obtain ⟨_, _, A2, c2, hbx, _⟩ := hI1
        obtain ⟨k0, k1, f0, f1⟩ := InAt.cells hbx
        clear hbx hR1 hn1 ho1 HD HT
        go_wp2_with fail
        refine HD1.out.mono ?_
        rintro e w2 ⟨rfl, hI2, ho2⟩
        have HA := hide (show InAt lo g w2 rL rX ∧ OnlyG g w w2 from ⟨by rw [HL.out, HX.out]; exact hI2, HO1.out.trans ho2⟩)
        obtain ⟨_, _, A3, c3, hbx, _⟩ := hI2
        obtain ⟨m0, m1, f2, f3⟩ := InAt.cells hbx
        clear hbx ho2 k0 k1 f0 f1 cz HD1
        go_wp2_with fail
        go_ret
        exact ⟨ret_int HN.out.symm, HA.out⟩
end Go.Proofs.YtkdihekhdnnheaaDoor
