/-
  The decoder's frame.
-/
import Derived.Test.YtkdihekhdnnheaaDoorFPFrame
namespace Go.Proofs.YtkdihekhdnnheaaDoor
open Go.RowKit

def FrmRes (lo : Nat → Prop) (g : Nat) (w : World) (rl : List UInt8) (e : Ending) (w' : World) : Prop :=
  (FrmOk rl → ∃ A c, e = .returned (.slice A (txtS rl).length c) ∧ (A = none → c = 0) ∧ Reads lo g w' A (txtS rl) ∧ InAt lo g w' (frmR rl) false) ∧
  (¬ FrmOk rl → e = .returned (.slice none 0 0) ∧ InAt lo g w' [] true) ∧ OnlyG g w w'
theorem Reads.below {lo : Nat → Prop} {g : Nat} {w w' : World} {A : Option Addr} {l : List UInt8} (h : Reads lo g w A l) (hb : Below w.heap.size w w') : Reads lo g w' A l := h.keep hb.size fun b _ _ hlt => hb.block b hlt
set_option maxHeartbeats 6400000 in
set_option maxRecDepth 100000 in
theorem inFrm_any {lo : Nat → Prop} {g : Nat} {rl : List UInt8} {bad : Bool} (w : World) (hI : InAt lo g w rl bad) (hT : ∀ w', OnlyG g w w' → Tab w') (hl : rl.length ≤ 1073741824) :
    Calls Tryd.prog 66 #[vI g] w (FrmRes lo g w rl) := by
  have HT := hide hT
  have HInt := hide (inInt_any w hI)
  have hn := intN_i64 rl
  unfold Int64 at hn
  obtain ⟨hn0, hn1⟩ := hn
  have hil : (intL rl).length ≤ 1073741824 := by
    unfold intL
    cases readI rl with
    | none => simp
    | some p => simp only [Option.elim_some, List.length_drop]; omega
  unfold IntRes at HInt
  clear hT hI hl
  by_cases ok : TxtOk rl
  · have ok2 := ok
    unfold TxtOk at ok2
    obtain ⟨k, hk⟩ : ∃ k : Nat, intN rl = k := ⟨(intN rl).toNat, by omega⟩
    have hkl : k ≤ (intL rl).length := by omega
    have t1 : txtS rl = (intL rl).take k := by unfold txtS; rw [if_pos ok, hk, Int.toNat_natCast]
    have t2 : txtL rl = (intL rl).drop k := by unfold txtL; rw [if_pos ok, hk, Int.toNat_natCast]
    have t3 : txtX rl = intX rl := by unfold txtX; rw [if_pos ok]
    have hlen : (txtS rl).length = k := by rw [t1, List.length_take]; omega
    have HTk := hide (fun w' (h : InAt lo g w' (intL rl) (intX rl)) => take_yes k w' h hkl)
    rw [← t1, ← t2, ← t3] at HTk
    have hsl : (txtS rl).length ≤ 1073741824 := by omega
    rw [hk, ← t3] at HInt
    have HOk := hide ok
    have HX := hide (fun h => (frm_dec (rl := rl) h).2.1)
    clear ok ok2 hk hkl t1 t2 t3 hn0 hn1 hil
    have HLen := hide hlen
    clear hlen
    by_cases h4 : 4 ≤ (txtL rl).length
    · have HFrm := hide (show FrmOk rl ↔ (txtL rl).take 4 = sum4 (sumL (txtS rl)) from ⟨fun h => h.2.2, fun h => ⟨HOk.out, h4, h⟩⟩)
      have HR := hide (show frmR rl = (txtL rl).drop 4 from rfl)
      have HTk4 := hide (fun w' (h : InAt lo g w' (txtL rl) (txtX rl)) => take_yes 4 w' h h4)
      have hl4 : ((txtL rl).take 4).length = 4 := by rw [List.length_take]; omega
      have HL4 := hide hl4
      have HSo := hide (fun A c w' (h : BytesAt w'.heap.size w' A (txtS rl)) (ht : Tab w') => sumOf_any A c (txtS rl) w' h ht (by unfold maxLen; omega))
      unfold OwnRes at HSo
      have HS4 := hide (show (sum4 (sumL (txtS rl))).length = 4 from rfl)
      rw [HLen.out] at HSo
      unfold FrmRes
      rw [HR.out, HLen.out]
      clear hl4 h4 hsl
      generalize txtS rl = ts at *
      generalize sum4 (sumL ts) = s4 at *
      generalize txtL rl = tl at *
      generalize tl.take 4 = t4 at *
      generalize tl.drop 4 = r4 at *
      go_enter Tryd.func66, Tryd.ntmps66
      go_wp2_with fail
      refine HInt.out.mono ?_
      rintro e w1 ⟨rfl, hI1, ho1⟩
      have HI1 := hide hI1
      have HO1 := hide ho1
      clear hI1 ho1
      go_wp2_with fail
      refine (HTk.out w1 HI1.out).mono ?_
      rintro e w2 ⟨A2, c2, rfl, hc2, hn2, hR2, hI2, ho2⟩
      have HI2 := hide hI2
      have HR2 := hide hR2
      have HN2 := hide hn2
      have HO2 := hide (HO1.out.trans ho2)
      clear hI2 hR2 ho2 hn2
      go_wp2_with fail
      refine (HTk4.out w2 HI2.out).mono ?_
      rintro e w3 ⟨A3, c3, rfl, hc3, hn3, hR3, hI3, ho3⟩
      have HI3 := hide hI3
      have HR3 := hide hR3
      have HR23 := hide (HR2.out.turn ho3)
      have HO3 := hide (HO2.out.trans ho3)
      have HSo3 := hide (HSo.out A2 c2 w3 HR23.out.bytes (HT.out w3 HO3.out))
      clear hI3 hR3 ho3 hn3 hc3
      go_wp2_with fail
      refine HSo3.out.mono ?_
      rintro e w4 ⟨v4, rfl, hr4, hb4⟩
      have HI4 := hide (HI3.out.below hb4)
      have HR4 := hide (HR3.out.below hb4)
      have HR24 := hide (HR23.out.below hb4)
      have HO4 := hide (HO3.out.trans (OnlyG.of_below hb4))
      obtain ⟨A4, c4, rfl, hBy4, _, _, _⟩ := bytes_of_row hr4
      rw [HS4.out]
      have HEq := hide (equal_any A3 A4 4 4 c3 c4 t4 s4 w4 HL4.out.symm HS4.out.symm HR4.out.bytes hBy4)
      clear hr4 hb4 hBy4
      by_cases heq : t4 = s4
      · have HF := hide (HFrm.out.2 heq)
        have hbe : (t4 == s4) = true := by rw [heq, beq_self_eq_true]
        rw [hbe] at HEq
        have HX2 := hide (HX.out HF.out)
        rw [HX2.out] at HI4
        clear heq hbe
        go_wp2_with fail
        refine HEq.out.mono ?_
        rintro e w5 ⟨rfl, rfl⟩
        go_wp2_with fail
        go_ret
        exact ⟨fun _ => ⟨A2, c2, rfl, HN2.out, HR24.out, HI4.out⟩, fun h => absurd HF.out h, HO4.out⟩
      · have HF := hide (fun h => heq (HFrm.out.1 h))
        have hbe : (t4 == s4) = false := by rw [beq_eq_false_iff_ne]; exact heq
        rw [hbe] at HEq
        have HFl := hide (fail_any w4 HI4.out)
        clear heq hbe
        go_wp2_with fail
        refine HEq.out.mono ?_
        rintro e w5 ⟨rfl, rfl⟩
        go_wp2_with fail
        refine HFl.out.mono ?_
        rintro e w6 ⟨rfl, hI6, ho6⟩
        have HI6 := hide hI6
        have HO6 := hide (HO4.out.trans ho6)
        clear hI6 ho6
        go_wp2_with fail
        go_ret
        exact ⟨fun h => (HF.out h).elim, fun _ => ⟨rfl, HI6.out⟩, HO6.out⟩
    · have HF := hide (fun (h : FrmOk rl) => h4 h.2.1)
      have HTk4 := hide (fun w' (h : InAt lo g w' (txtL rl) (txtX rl)) => take_no 4 w' h (by omega) (by omega) (by omega))
      have HSo := hide (fun A c w' (h : BytesAt w'.heap.size w' A (txtS rl)) (ht : Tab w') => sumOf_any A c (txtS rl) w' h ht (by unfold maxLen; omega))
      unfold OwnRes at HSo
      have HS4 := hide (show (sum4 (sumL (txtS rl))).length = 4 from rfl)
      rw [HLen.out] at HSo
      unfold FrmRes
      rw [HLen.out]
      have hbe : (([] : List UInt8) == sum4 (sumL (txtS rl))) = false := rfl
      clear h4 hsl HX
      generalize txtS rl = ts at *
      generalize sum4 (sumL ts) = s4 at *
      generalize txtL rl = tl at *
      go_enter Tryd.func66, Tryd.ntmps66
      go_wp2_with fail
      refine HInt.out.mono ?_
      rintro e w1 ⟨rfl, hI1, ho1⟩
      have HI1 := hide hI1
      have HO1 := hide ho1
      clear hI1 ho1
      go_wp2_with fail
      refine (HTk.out w1 HI1.out).mono ?_
      rintro e w2 ⟨A2, c2, rfl, hc2, hn2, hR2, hI2, ho2⟩
      have HI2 := hide hI2
      have HR2 := hide hR2
      have HO2 := hide (HO1.out.trans ho2)
      clear hI2 hR2 ho2 hn2
      go_wp2_with fail
      refine (HTk4.out w2 HI2.out).mono ?_
      rintro e w3 ⟨rfl, hI3, ho3⟩
      have HI3 := hide hI3
      have HR23 := hide (HR2.out.turn ho3)
      have HO3 := hide (HO2.out.trans ho3)
      have HSo3 := hide (HSo.out A2 c2 w3 HR23.out.bytes (HT.out w3 HO3.out))
      clear hI3 ho3
      go_wp2_with fail
      refine HSo3.out.mono ?_
      rintro e w4 ⟨v4, rfl, hr4, hb4⟩
      have HI4 := hide (HI3.out.below hb4)
      have HO4 := hide (HO3.out.trans (OnlyG.of_below hb4))
      obtain ⟨A4, c4, rfl, hBy4, _, _, _⟩ := bytes_of_row hr4
      rw [HS4.out]
      have HEq := hide (equal_any none A4 0 4 0 c4 [] s4 w4 rfl HS4.out.symm (fun j hj => by simp at hj) hBy4)
      rw [hbe] at HEq
      have HFl := hide (fail_any w4 HI4.out)
      clear hr4 hb4 hBy4 hbe
      go_wp2_with fail
      refine HEq.out.mono ?_
      rintro e w5 ⟨rfl, rfl⟩
      go_wp2_with fail
      refine HFl.out.mono ?_
      rintro e w6 ⟨rfl, hI6, ho6⟩
      have HI6 := hide hI6
      have HO6 := hide (HO4.out.trans ho6)
      clear hI6 ho6
      go_wp2_with fail
      go_ret
      exact ⟨fun h => (HF.out h).elim, fun _ => ⟨rfl, HI6.out⟩, HO6.out⟩
  · have HF := hide (fun (h : FrmOk rl) => ok h.1)
    have HTk := hide (fun w' (h : InAt lo g w' (intL rl) (intX rl)) => take_no (intN rl) w' h hn0 hn1 ok)
    have HTk4 := hide (fun w' (h : InAt lo g w' [] true) => take_no 4 w' h (by omega) (by omega) (by simp))
    have HSo := hide (fun w' (ht : Tab w') => sumOf_any none 0 [] w' (fun j hj => by simp at hj) ht (by unfold maxLen; simp))
    unfold OwnRes at HSo
    have HS4 := hide (show (sum4 (sumL [])).length = 4 from rfl)
    have hbe : (([] : List UInt8) == sum4 (sumL [])) = false := rfl
    rw [show ([] : List UInt8).length = 0 from rfl] at HSo
    unfold FrmRes
    clear ok hil
    generalize sum4 (sumL []) = s4 at *
    generalize intN rl = k at *
    go_enter Tryd.func66, Tryd.ntmps66
    go_wp2_with fail
    refine HInt.out.mono ?_
    rintro e w1 ⟨rfl, hI1, ho1⟩
    have HI1 := hide hI1
    have HO1 := hide ho1
    clear hI1 ho1
    go_wp2_with fail
    refine (HTk.out w1 HI1.out).mono ?_
    rintro e w2 ⟨rfl, hI2, ho2⟩
    have HI2 := hide hI2
    have HO2 := hide (HO1.out.trans ho2)
    clear hI2 ho2
    go_wp2_with fail
    refine (HTk4.out w2 HI2.out).mono ?_
    rintro e w3 ⟨rfl, hI3, ho3⟩
    have HI3 := hide hI3
    have HO3 := hide (HO2.out.trans ho3)
    have HSo3 := hide (HSo.out w3 (HT.out w3 HO3.out))
    clear hI3 ho3
    go_wp2_with fail
    refine HSo3.out.mono ?_
    rintro e w4 ⟨v4, rfl, hr4, hb4⟩
    have HI4 := hide (HI3.out.below hb4)
    have HO4 := hide (HO3.out.trans (OnlyG.of_below hb4))
    obtain ⟨A4, c4, rfl, hBy4, _, _, _⟩ := bytes_of_row hr4
    rw [HS4.out]
    have HEq := hide (equal_any none A4 0 4 0 c4 [] s4 w4 rfl HS4.out.symm (fun j hj => by simp at hj) hBy4)
    rw [hbe] at HEq
    have HFl := hide (fail_any w4 HI4.out)
    clear hr4 hb4 hBy4 hbe
    go_wp2_with fail
    refine HEq.out.mono ?_
    rintro e w5 ⟨rfl, rfl⟩
    go_wp2_with fail
    refine HFl.out.mono ?_
    rintro e w6 ⟨rfl, hI6, ho6⟩
    have HI6 := hide hI6
    have HO6 := hide (HO4.out.trans ho6)
    clear hI6 ho6
    go_wp2_with fail
    go_ret
    exact ⟨fun h => (HF.out h).elim, fun _ => ⟨rfl, HI6.out⟩, HO6.out⟩
end Go.Proofs.YtkdihekhdnnheaaDoor
