/-
  The log's calls that set the files up: trim, rewrite, begin, prepare.
-/
import Derived.Test.YtkdebebpnkjmdaaDoorGLog
namespace Go.Proofs.YtkdebebpnkjmdaaDoor
open Go.RowKit

theorem emptyR_L (p : PD) (L : LV) (f : Nat) : (emptyR p L f).2.2 = L := by unfold emptyR; split <;> rfl
theorem emptyR_ok {p : PD} (h : p.Ok) (L : LV) (f : Nat) : (emptyR p L f).2.1.Ok ∧ p.done ≤ (emptyR p L f).2.1.done ∧ (emptyR p L f).2.1.done ≤ p.done + 1 := by
  unfold emptyR
  split
  · exact ⟨h, Int.le_refl _, by show p.done ≤ p.done + 1; omega⟩
  · exact ⟨ct_ok h _ _, ct_done p _ _⟩
/-- A head is synced and becomes the log's; a head is appended; a file is rewritten. -/
def rewS (p : PD) (L : LV) (f : Nat) (gen : Int) (cp : List UInt8) : Int × PD × LV := if synE p f = 0 then (0, synP p f, ⟨f, gen, (headB gen cp).length, false, L.down⟩) else (synE p f, synP p f, L)
def rewA (p : PD) (L : LV) (f : Nat) (gen : Int) (cp : List UInt8) : Int × PD × LV := if appE p f (headB gen cp).length = 0 then rewS (appP p f (headB gen cp)) L f gen cp else (appE p f (headB gen cp).length, appP p f (headB gen cp), L)
def rewR (p : PD) (L : LV) (f : Nat) (gen : Int) (cp : List UInt8) : Int × PD × LV := if (emptyR p L f).1 = 0 then rewA (emptyR p L f).2.1 L f gen cp else emptyR p L f
theorem ne_b {e : Int} (h : ¬ e = 0) : (e != 0) = true := by rw [bne_iff_ne]; exact h
theorem res_mk {base h g : Nat} {D D' : DS} {w w' : World} {r : Int × PD × LV} {e : Int} {p : PD} {L : LV} (hr : r = (e, p, L)) (h1 : D'.p = p) (h2 : LogAt base h g w' L D') (h3 : LTurn h g D D' w w') : LRes base h g D w r (.returned (.int .i64 e)) w' := by
  subst hr
  exact ⟨rfl, D', h1, h2, h3⟩
set_option maxHeartbeats 3200000 in
set_option maxRecDepth 100000 in
theorem rewrite_any {base h g : Nat} {L : LV} {D : DS} (f : Nat) (gen : Int) (A : Option Addr) (c : Nat) (cp : List UInt8) (w : World) (H : LogAt base h g w L D) (hO : D.p.Ok) (hd : D.p.done ≤ 999999999000) (hf : f < 4) (hg : Int64 gen)
    (hB : BytesIn (Off h g D) w A cp) (hT : Tab w) (hTo : Off h g D 0) (hl : cp.length ≤ 1073741824) :
    Calls Tryd.prog 54 #[vD h, .int .i64 f, .int .i64 gen, .slice A cp.length c] w (LRes base h g D w (rewR D.p L f gen cp)) := by
  have HE := hide (empty_any f w H hO (by omega) hf)
  have HEL := emptyR_L D.p L f
  obtain ⟨ho1, -, hd1⟩ := emptyR_ok hO L f
  have HO1 := hide ho1
  have HD1 := hide (show (emptyR D.p L f).2.1.done ≤ 999999999001 by omega)
  have HR := hide (show rewR D.p L f gen cp = if (emptyR D.p L f).1 = 0 then rewA (emptyR D.p L f).2.1 L f gen cp else emptyR D.p L f from rfl)
  have HTf := hide (And.intro hT hTo)
  have HBi := hide hB
  have hhb := (headB_bd gen cp).2
  have hhm : (headB gen cp).length ≤ 1073742000 := by omega
  have HG := hide hg
  have HF := hide hf
  have HL := hide hl
  unfold LRes at HE
  generalize rewR D.p L f gen cp = r at *
  generalize emptyR D.p L f = er at *
  obtain ⟨e1, p1, L1⟩ := er
  simp only at HE HEL HR HO1 HD1
  subst HEL
  clear H hO hd hB hT hTo ho1 hd1 hhb hg hf hl
  by_cases h1 : e1 = 0
  · have HQ := hide (show r = rewA p1 L1 f gen cp by rw [HR.out, if_pos h1])
    subst h1
    clear HR
    go_enter Tryd.func54, Tryd.ntmps54
    go_wp2_with fail
    refine HE.out.mono ?_
    rintro e w1 ⟨rfl, D1, rfl, hL1, ht1⟩
    have HL1 := hide hL1
    have HT1 := hide ht1
    have HF1 := hide (headFrame_any gen A c cp w1 HG.out (HBi.out.turn ht1).bytes (HTf.out.1.turn ht1 HTf.out.2) HL.out)
    unfold OwnRes at HF1
    obtain ⟨c0, c1, c2, c3, c4, c5⟩ := hL1.cells
    have HRA := hide (show rewA D1.p L1 f gen cp = if appE D1.p f (headB gen cp).length = 0 then rewS (appP D1.p f (headB gen cp)) L1 f gen cp else (appE D1.p f (headB gen cp).length, appP D1.p f (headB gen cp), L1) from rfl)
    have HRS := hide (show rewS (appP D1.p f (headB gen cp)) L1 f gen cp = if synE (appP D1.p f (headB gen cp)) f = 0 then (0, synP (appP D1.p f (headB gen cp)) f, (⟨f, gen, (headB gen cp).length, false, L1.down⟩ : LV)) else (synE (appP D1.p f (headB gen cp)) f, synP (appP D1.p f (headB gen cp)) f, L1) from rfl)
    have HAp := hide (fun (B : Option Addr) (d : Nat) (w2 : World) (hb : Below w1.heap.size w1 w2) (h1 : BytesAt w2.heap.size w2 B (headB gen cp)) (h2 : B = none → d = 0) => append_any f B d (headB gen cp) w2 (hL1.disk.below hb) HO1.out (by have := HD1.out; omega) h1 h2 (by omega))
    clear HE HTf HBi hL1 ht1
    generalize headB gen cp = fb at *
    go_wp2_with fail
    refine HF1.out.mono ?_
    rintro e w2 ⟨v2, rfl, hr2, hb2⟩
    obtain ⟨A2, k2, rfl, hy2, -, hn2, -⟩ := bytes_of_row hr2
    have HA2 := hide (HAp.out A2 k2 w2 hb2 hy2 hn2)
    have HB2 := hide hb2
    have k0 := (hb2.cell (p := ⟨h, 0, none⟩) HL1.out.lt).trans c0
    clear hr2 hb2 hy2 hn2 HAp c0 c1 c2 c3 c4 c5
    have hap := hide (app_ok HO1.out f fb)
    have had := hide (app_done D1.p f fb)
    generalize appE D1.p f fb.length = e3 at *
    generalize appP D1.p f fb = p3 at *
    by_cases h3 : e3 = 0
    · have HQ3 := hide (show r = rewS p3 L1 f gen cp by rw [HQ.out, HRA.out, if_pos h3])
      subst h3
      clear HRA HQ
      go_wp2_with fail
      refine HA2.out.mono ?_
      rintro e w3 ⟨rfl, D3, rfl, hD3, ht3⟩
      have HL3 := hide ((HL1.out.below HB2.out).turn hD3 ht3)
      have HT3 := hide ((HT1.out.trans (LTurn.of_below HB2.out)).trans (LTurn.of_turned ht3))
      obtain ⟨c0, c1, c2, c3, c4, c5⟩ := HL3.out.cells
      have HS3 := hide (sync_any f w3 hD3 hap.out (by have := HD1.out; have := had.out; omega))
      clear hD3 ht3 k0
      generalize synE D3.p f = e4 at *
      generalize synP D3.p f = p4 at *
      by_cases h4 : e4 = 0
      · have HQ4 := hide (show r = (0, p4, (⟨f, gen, fb.length, false, L1.down⟩ : LV)) by rw [HQ3.out, HRS.out, if_pos h4])
        subst h4
        clear HRS HQ3
        go_wp2_with fail
        refine HS3.out.mono ?_
        rintro e w4 ⟨rfl, D4, rfl, hD4, ht4⟩
        have HL4 := hide (HL3.out.turn hD4 ht4)
        have HT4 := hide (HT3.out.trans (LTurn.of_turned ht4))
        obtain ⟨m0, m1, m2, m3, m4, m5⟩ := HL4.out.cells
        have hlt := HL4.out.lt
        have f1 := HL4.out.frozen 1
        have f2 := HL4.out.frozen 2
        have f3 := HL4.out.frozen 3
        have f4 := HL4.out.frozen 4
        have HZ1 := hide (HL4.out.set 1 (.int .i64 (f : Nat)) ⟨f, L1.gen, L1.size, L1.loose, L1.down⟩ rfl)
        have HZ2 := hide (HZ1.out.1.set 2 (.int .i64 gen) ⟨f, gen, L1.size, L1.loose, L1.down⟩ rfl)
        have HZ3 := hide (HZ2.out.1.set 3 (.int .i64 (fb.length : Nat)) ⟨f, gen, fb.length, L1.loose, L1.down⟩ rfl)
        have HZ4 := hide (HZ3.out.1.set 4 (.bool false) ⟨f, gen, fb.length, false, L1.down⟩ rfl)
        clear hD4 ht4 c0 c1 c2 c3 c4 c5
        go_wp2_with fail
        go_ret
        exact res_mk HQ4.out rfl HZ4.out.1 ((((HT4.out.trans HZ1.out.2).trans HZ2.out.2).trans HZ3.out.2).trans HZ4.out.2)
      · have HQ4 := hide (show r = (e4, p4, L1) by rw [HQ3.out, HRS.out, if_neg h4])
        have hb := ne_b h4
        clear HRS HQ3 h4
        go_wp2_with fail
        refine HS3.out.mono ?_
        rintro e w4 ⟨rfl, D4, rfl, hD4, ht4⟩
        have HA := hide (And.intro (HL3.out.turn hD4 ht4) (HT3.out.trans (LTurn.of_turned ht4)))
        clear hD4 ht4
        go_wp2_with fail
        go_ret
        exact res_mk HQ4.out rfl HA.out.1 HA.out.2
    · have HQ3 := hide (show r = (e3, p3, L1) by rw [HQ.out, HRA.out, if_neg h3])
      have hb := ne_b h3
      clear HRA HRS HQ h3
      go_wp2_with fail
      refine HA2.out.mono ?_
      rintro e w3 ⟨rfl, D3, rfl, hD3, ht3⟩
      have HA := hide (And.intro ((HL1.out.below HB2.out).turn hD3 ht3) ((HT1.out.trans (LTurn.of_below HB2.out)).trans (LTurn.of_turned ht3)))
      clear hD3 ht3 k0
      go_wp2_with fail
      go_ret
      exact res_mk HQ3.out rfl HA.out.1 HA.out.2
  · have HQ := hide (show r = (e1, p1, L1) by rw [HR.out, if_neg h1])
    have hb := ne_b h1
    clear HR h1
    go_enter Tryd.func54, Tryd.ntmps54
    go_wp2_with fail
    refine HE.out.mono ?_
    rintro e w1 ⟨rfl, D1, rfl, hL1, ht1⟩
    have HA := hide (And.intro hL1 ht1)
    clear hL1 ht1
    go_wp2_with fail
    go_ret
    exact res_mk HQ.out rfl HA.out.1 HA.out.2
end Go.Proofs.YtkdebebpnkjmdaaDoor
