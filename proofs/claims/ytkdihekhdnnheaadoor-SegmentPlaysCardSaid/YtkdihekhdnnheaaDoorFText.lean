/-
  The decoder: texts and counts.
-/
import Derived.Test.YtkdihekhdnnheaaDoorFInt
namespace Go.Proofs.YtkdihekhdnnheaaDoor
open Go.RowKit

theorem intN_i64 (l : List UInt8) : Int64 (intN l) := by
  unfold intN
  cases h : readI l with
  | none => exact ⟨by decide, by decide⟩
  | some p => obtain ⟨n, k⟩ := p; exact readI_i64 h
def TxtOk (l : List UInt8) : Prop := 0 ≤ intN l ∧ intN l ≤ (intL l).length
instance (l : List UInt8) : Decidable (TxtOk l) := by unfold TxtOk; infer_instance
def txtS (l : List UInt8) : List UInt8 := if TxtOk l then (intL l).take (intN l).toNat else []
def txtL (l : List UInt8) : List UInt8 := if TxtOk l then (intL l).drop (intN l).toNat else []
def txtX (l : List UInt8) : Bool := if TxtOk l then intX l else true
def TxtRes (lo : Nat → Prop) (g : Nat) (w : World) (l : List UInt8) (e : Ending) (w' : World) : Prop := e = .returned (.string ⟨(txtS l).toArray⟩) ∧ InAt lo g w' (txtL l) (txtX l) ∧ OnlyG g w w'
set_option maxHeartbeats 3200000 in
set_option maxRecDepth 100000 in
theorem inText_any {lo : Nat → Prop} {g : Nat} {l : List UInt8} {bad : Bool} (w : World) (hI : InAt lo g w l bad) :
    Calls Tryd.prog 69 #[vI g] w (TxtRes lo g w l) := by
  have HT := hide (inInt_any w hI)
  have hn := intN_i64 l
  unfold Int64 at hn
  obtain ⟨hn0, hn1⟩ := hn
  have HC := hide (fun (A : Option Addr) (c n : Nat) (l' : List UInt8) (w' : World) (h : BytesAt w'.heap.size w' A l') (hl : n = l'.length) => (show (convert 28 9 (.slice A n c)).run Tryd.prog w' = .ok (.string ⟨l'.toArray⟩) w' from hl ▸ conv_bytes A c l' w' h))
  clear hI
  by_cases ho : TxtOk l
  · have HS := hide (show txtS l = (intL l).take (intN l).toNat by unfold txtS; rw [if_pos ho])
    have HL := hide (show txtL l = (intL l).drop (intN l).toNat by unfold txtL; rw [if_pos ho])
    have HX := hide (show txtX l = intX l by unfold txtX; rw [if_pos ho])
    obtain ⟨o1, o2⟩ := ho
    have hnt : intN l = ((intN l).toNat : Nat) := by omega
    have HTk := hide (fun w' (h : InAt lo g w' (intL l) (intX l)) => take_yes (intN l).toNat w' h (by omega))
    unfold IntRes at HT
    unfold TxtRes
    rw [hnt] at HT
    have hk : (intN l).toNat ≤ (intL l).length := by omega
    clear hnt o1 o2 hn0 hn1
    generalize (intN l).toNat = k at *
    generalize intL l = tl at *
    go_enter Tryd.func69, Tryd.ntmps69
    go_wp2_with fail
    refine HT.out.mono ?_
    rintro e w1 ⟨rfl, hI1, ho1⟩
    have HI1 := hide hI1
    have HO1 := hide ho1
    clear hI1 ho1
    go_wp2_with fail
    refine (HTk.out w1 HI1.out).mono ?_
    rintro e w2 ⟨A, c, rfl, hc, hn, hR, hI2, ho2⟩
    have hcv := HC.out A c k (tl.take k) w2 hR.bytes (by rw [List.length_take]; omega)
    have HA := hide (show InAt lo g w2 (txtL l) (txtX l) ∧ OnlyG g w w2 from ⟨by rw [HL.out, HX.out]; exact hI2, HO1.out.trans ho2⟩)
    clear hR hI2 ho2 hc hn
    go_wp2_with fail
    go_ret
    exact ⟨ret_str (by rw [HS.out]), HA.out⟩
  · have HS := hide (show txtS l = [] by unfold txtS; rw [if_neg ho])
    have HL := hide (show txtL l = [] by unfold txtL; rw [if_neg ho])
    have HX := hide (show txtX l = true by unfold txtX; rw [if_neg ho])
    have HTk := hide (fun w' (h : InAt lo g w' (intL l) (intX l)) => take_no (intN l) w' h hn0 hn1 ho)
    unfold IntRes at HT
    unfold TxtRes
    clear ho
    generalize intN l = k at *
    generalize intL l = tl at *
    go_enter Tryd.func69, Tryd.ntmps69
    go_wp2_with fail
    refine HT.out.mono ?_
    rintro e w1 ⟨rfl, hI1, ho1⟩
    have HI1 := hide hI1
    have HO1 := hide ho1
    clear hI1 ho1
    go_wp2_with fail
    refine (HTk.out w1 HI1.out).mono ?_
    rintro e w2 ⟨rfl, hI2, ho2⟩
    have hcv := HC.out none 0 0 [] w2 (fun j hj => by simp at hj) rfl
    have HA := hide (show InAt lo g w2 (txtL l) (txtX l) ∧ OnlyG g w w2 from ⟨by rw [HL.out, HX.out]; exact hI2, HO1.out.trans ho2⟩)
    clear hI2 ho2
    go_wp2_with fail
    go_ret
    exact ⟨ret_str (by rw [HS.out]), HA.out⟩
def CntOk (l : List UInt8) (most : Int) : Prop := 0 ≤ intN l ∧ intN l ≤ most
instance (l : List UInt8) (m : Int) : Decidable (CntOk l m) := by unfold CntOk; infer_instance
def cntN (l : List UInt8) (m : Int) : Int := if CntOk l m then intN l else 0
def cntL (l : List UInt8) (m : Int) : List UInt8 := if CntOk l m then intL l else []
def cntX (l : List UInt8) (m : Int) : Bool := if CntOk l m then intX l else true
def CntRes (lo : Nat → Prop) (g : Nat) (w : World) (l : List UInt8) (m : Int) (e : Ending) (w' : World) : Prop := e = .returned (.int .i64 (cntN l m)) ∧ InAt lo g w' (cntL l m) (cntX l m) ∧ OnlyG g w w'
set_option maxHeartbeats 3200000 in
set_option maxRecDepth 100000 in
theorem inCount_any {lo : Nat → Prop} {g : Nat} {l : List UInt8} {bad : Bool} (m : Int) (w : World) (hI : InAt lo g w l bad) :
    Calls Tryd.prog 71 #[vI g, .int .i64 m] w (CntRes lo g w l m) := by
  have HT := hide (inInt_any w hI)
  clear hI
  unfold IntRes at HT
  unfold CntRes
  by_cases ho : CntOk l m
  · have HS := hide (show cntN l m = intN l by unfold cntN; rw [if_pos ho])
    have HL := hide (show cntL l m = intL l by unfold cntL; rw [if_pos ho])
    have HX := hide (show cntX l m = intX l by unfold cntX; rw [if_pos ho])
    obtain ⟨o1, o2⟩ := ho
    generalize intN l = k at *
    have o3 : ¬ k < 0 := by omega
    have o4 : ¬ m < k := by omega
    clear o1 o2
    go_enter Tryd.func71, Tryd.ntmps71
    go_wp2_with fail
    refine HT.out.mono ?_
    rintro e w1 ⟨rfl, hI1, ho1⟩
    have HA := hide (show InAt lo g w1 (cntL l m) (cntX l m) ∧ OnlyG g w w1 from ⟨by rw [HL.out, HX.out]; exact hI1, ho1⟩)
    clear hI1 ho1
    go_wp2_with fail
    go_ret
    exact ⟨ret_int HS.out.symm, HA.out⟩
  · have HS := hide (show cntN l m = 0 by unfold cntN; rw [if_neg ho])
    have HL := hide (show cntL l m = [] by unfold cntL; rw [if_neg ho])
    have HX := hide (show cntX l m = true by unfold cntX; rw [if_neg ho])
    unfold CntOk at ho
    generalize intN l = k at *
    by_cases o3 : k < 0
    · clear ho
      go_enter Tryd.func71, Tryd.ntmps71
      go_wp2_with fail
      refine HT.out.mono ?_
      rintro e w1 ⟨rfl, hI1, ho1⟩
      have HF := hide (fail_any w1 hI1)
      have HO := hide ho1
      clear hI1 ho1
      go_wp2_with fail
      refine HF.out.mono ?_
      rintro e w2 ⟨rfl, hI2, ho2⟩
      have HA := hide (show InAt lo g w2 (cntL l m) (cntX l m) ∧ OnlyG g w w2 from ⟨by rw [HL.out, HX.out]; exact hI2, HO.out.trans ho2⟩)
      clear hI2 ho2
      go_wp2_with fail
      go_ret
      exact ⟨ret_int HS.out.symm, HA.out⟩
    · have o4 : m < k := by omega
      clear ho
      go_enter Tryd.func71, Tryd.ntmps71
      go_wp2_with fail
      refine HT.out.mono ?_
      rintro e w1 ⟨rfl, hI1, ho1⟩
      have HF := hide (fail_any w1 hI1)
      have HO := hide ho1
      clear hI1 ho1
      go_wp2_with fail
      refine HF.out.mono ?_
      rintro e w2 ⟨rfl, hI2, ho2⟩
      have HA := hide (show InAt lo g w2 (cntL l m) (cntX l m) ∧ OnlyG g w w2 from ⟨by rw [HL.out, HX.out]; exact hI2, HO.out.trans ho2⟩)
      clear hI2 ho2
      go_wp2_with fail
      go_ret
      exact ⟨ret_int HS.out.symm, HA.out⟩
end Go.Proofs.YtkdihekhdnnheaaDoor
