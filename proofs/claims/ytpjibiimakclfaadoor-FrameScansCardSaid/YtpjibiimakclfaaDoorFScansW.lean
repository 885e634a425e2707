/-
  The walk of FrameScans.
-/
import Derived.Test.YtpjibiimakclfaaDoorFTwo
import Derived.Test.YtpjibiimakclfaaDoorFRefScan
import Derived.Test.YtpjibiimakclfaaDoorFScan
import Derived.Test.YtpjibiimakclfaaDoorFPFrame
import Derived.Test.YtpjibiimakclfaaDoorFAwake
namespace Go.Proofs.YtpjibiimakclfaaDoor
open Go.RowKit

set_option maxHeartbeats 25600000 in
set_option maxRecDepth 100000 in
theorem frameScans_walk (A : Option Addr) (c : Nat) (hs : List BH) (B : Option Addr) (d : Nat) (jk : List UInt8) (cut : Int) (w : World) (hH : HeadsAt w.heap.size w A hs ∧ (A = none → c = 0)) (hw : WfHs hs) (hB : BytesAt w.heap.size w B jk) (hl : jk.length ≤ maxLen) (hnil : B = none → d = 0) (_c0 : -9223372036854775808 ≤ cut) (_c1 : cut ≤ 9223372036854775807) (hT : Tab w) :
    Calls Tryd.prog 5 #[.slice A hs.length c, .slice B jk.length d, .int .i64 cut] w fun e w' => e = .returned (.bool true) ∧ Below w.heap.size w w' := by
  have HAw := hide (fun w' (h : Below w.heap.size w w') => awake_any w' (hT.on h))
  have HT := hide hT
  have HH := hide hH.1
  have HW := hide hw
  have HB := hide hB
  have HNil := hide hnil
  have hl1 := hw.1
  unfold maxLen at hl hl1
  clear hH hw hB hT hnil
  have HB1 := hide (fun (w' : World) o => (Below.refl w'.heap.size w').alloc (Nat.le_refl _) o)
  by_cases hsm : hs.length ≤ 30 ∧ jk.length ≤ 300
  · obtain ⟨h30, h300⟩ := hsm
    have h30' : ¬ (30 : Int) < (hs.length : Int) := by omega
    have h300' : ¬ (300 : Int) < (jk.length : Int) := by omega
    go_enter Tryd.func5, Tryd.ntmps5
    go_wp2_with fail
    go_loopw [33, 7, 8] (fun i va ve wr => ∃ k : Nat, k ≤ hs.length ∧ i = .int .i64 k ∧ TwoR w.heap.size wr va ve (allB ((lsOf hs).take k)) (endsV (lsOf hs) k) ∧ Below w.heap.size w wr ∧ (allB ((lsOf hs).take k)).length ≤ 313 * k ∧ ∀ j, j < k → ((lsOf hs).getD j []).length ≤ 300) (fun i _ _ _ => hs.length - (intOf i).toNat)
    case atStart => exact ⟨0, Nat.zero_le _, rfl, ⟨World.ownsRow_nil _ _ _ _, World.ownsRow_nil _ _ _ _, fun b e => by cases e⟩, Below.refl _ _, Nat.zero_le _, fun j hj => by omega⟩
    case round =>
      obtain ⟨k, hk, rfl, hTw, hbw, hle, h3⟩ := hrel
      have HTw := hide hTw
      have HBw := hide hbw
      have H3 := hide h3
      have hsz := hbw.size
      clear hTw h3
      by_cases hlt : k < hs.length
      · have HLt := hide hlt
        obtain ⟨b, off, A0, c0, l0, rfl, hbb, hx, hB0, hget, hm0, hn0⟩ := (HH.out.below hbw).get HW.out hlt
        have HE1 := hide (show allB ((lsOf hs).take (k + 1)) = allB ((lsOf hs).take k) ++ frameB l0 by rw [← hget, List.take_succ_eq_append_getElem (by rw [lsOf_len]; exact hlt), allB_snoc, List.getD_eq_getElem?_getD, List.getElem?_eq_getElem (by rw [lsOf_len]; exact hlt)]; rfl)
        have HG := hide hget
        unfold maxLen at hm0
        by_cases hs3 : l0.length ≤ 300
        · have HF1 := hide (frame_any A0 c0 l0 wr (hB0.mono hsz) (HT.out.on hbw) (by omega) hn0)
          have HR1 := hide (fun w' (h : Below w.heap.size wr w') => refFrame_any A0 l0.length c0 l0 w' rfl ((hB0.below h).mono (by have := h.size; omega)) (by omega))
          unfold OwnRes at HF1 HR1
          have hs3' : ¬ (300 : Int) < (l0.length : Int) := by omega
          have hfl := (frameB_bd l0).2
          have HS3 := hide hs3
          clear hbw hB0 hget hs3 hm0
          have HN0 := hide hn0
          clear hn0
          generalize frameB l0 = fb at *
          generalize hla : allB ((lsOf hs).take k) = la at *
          have HLa := hide hla
          clear hla
          go_wp2_with fail
          refine HF1.out.mono ?_
          rintro e w1 ⟨v1, rfl, hr1, hb1⟩
          have HTw1 := hide (HTw.out.below hb1)
          have HR2 := hide (fun w' (h : Below w1.heap.size w1 w') => HR1.out w' ((hb1.trans (h.mono hb1.size)).mono hsz))
          have HB2 := hide (HBw.out.trans (hb1.mono hsz))
          obtain ⟨A1, c1, rfl, hBy1, _, hn1, _⟩ := bytes_of_row hr1
          have HBy1 := hide hBy1
          have hcA := conv_bytes A1 c1 fb w1.drew (hBy1.on (Below.refl _ _).drew)
          clear hr1 hb1 hBy1 HR1
          go_wp2_with fail
          go_region_with (go_at_call 21; refine (HR2.out _ (Below.refl _ _).drew).mono ?_; rintro e w5 ⟨v5, rfl, hr5, hb5⟩; have hb6 : Below w1.heap.size w1 w5 := (Below.refl _ _).drew.trans hb5; have HB6 := hide hb6; obtain ⟨A5, c5, rfl, hBy5, _, _, _⟩ := bytes_of_row hr5; have hcb := conv_bytes A5 c5 fb w5 hBy5; have hca2 := conv_bytes A1 c1 fb w5 (HBy1.out.on hb6); clear hr5 hb5 hBy5 hb6)
          all_goals
            have HTw5 := hide (HTw1.out.below HB6.out)
            have HB5 := hide (HB2.out.trans (HB6.out.mono HB2.out.size))
            have hs5 := HB5.out.size
            clear hcA hcb hca2
            go_wp2_with (at_builtin; go_must (refine append_bytes rfl _ _ rfl w.heap.size u7 la fb la.length rfl HTw5.out.ra _ A1 fb.length c1 rfl rfl (HBy1.out.on HB6.out) hn1 (by omega) hs5 ?_))
            intro v6 w6 hown6 hgrow6 hat6
            have HTw6 := hide (HTw5.out.appA _ (by rw [List.length_append]) hown6 hgrow6 hat6)
            have HB7 := hide (grow_below0 HB5.out HTw5.out.ra hs5 hgrow6)
            have hs6 := HB7.out.size
            obtain ⟨A6, c6, rfl, -⟩ := row_slice hown6
            clear hown6 hgrow6 hat6
            have HTw7 := hide (fun o => HTw6.out.below (HB1.out w6 o))
            go_wp2_with (at_builtin; go_must (refine append_int rfl _ _ rfl w.heap.size u8 (endsV (lsOf hs) k) k rfl (by have := (HTw7.out (.cells #[.int .i64 ((la.length + fb.length : Nat) : Int)] 3)).re; rw [endsV_len] at this; exact this) ((la.length + fb.length : Nat) : Int) w6.heap.size rfl (Lib.cell_of_heap (heap_alloc_new w6 _) 0) (by omega) (by simp; omega) ?_))
            intro v8 w8 hown8 hgrow8 hat8
            have HB8 := hide (grow_below HB7.out HTw6.out.re hs6 _ hgrow8)
            have HTw8 := hide ((HTw7.out _).appE _ (by rw [List.length_append, endsV_len]; rfl) hown8 hgrow8 (hat8.imp_right fun h => h.trans (by simp)))
            obtain ⟨A8, c8, rfl, -⟩ := row_slice hown8
            have HEn := hide (show ((la.length + fb.length : Nat) : Int) = ((endsL (lsOf hs) (k + 1) : Nat) : Int) by unfold endsL; rw [HE1.out, List.length_append])
            clear hown8 hgrow8 hat8
            go_wp2_with fail
            go_roundw
            case rel => exact ⟨k + 1, HLt.out, by go_num, by rw [HE1.out, endsV_succ, ← HEn.out]; exact HTw8.out, HB8.out, by rw [HE1.out, List.length_append]; have := HS3.out; omega, fun j hj => (Nat.lt_or_ge j k).elim (H3.out j) fun h => by rw [show j = k by omega, HG.out]; exact HS3.out⟩
            case measure => have := HLt.out; simp [intOf]; omega
        · have hs3' : (300 : Int) < (l0.length : Int) := by omega
          have HA2 := hide (HAw.out wr hbw)
          clear hbw hB0 hget hs3
          go_wp2_with fail
          refine HA2.out.mono ?_
          rintro e w6 ⟨rfl, hb6⟩
          have HF := hide (HBw.out.trans (hb6.mono hsz))
          clear hb6
          go_wp2_with fail
          go_ret
          exact ⟨rfl, HF.out⟩
      · obtain rfl : k = hs.length := by omega
        have hid : (lsOf hs).take hs.length = lsOf hs := by rw [← lsOf_len, List.take_length]
        rw [hid] at HTw hle
        clear hid hlt hk
        generalize hla : allB (lsOf hs) = la at *
        have HLa := hide hla
        clear hla
        have HE := hide (World.ownsRow_made (base := wr.heap.size) (e := 5) (size := 1) wr #[] 0 (Nat.le_refl _) (Nat.zero_le _) rfl)
        obtain ⟨A7, c7, rfl, hBy7, _, hn7, hc7⟩ := bytes_of_row HTw.out.ra
        have HBy7 := hide hBy7
        have hla3 : la.length ≤ 9390 := by omega
        obtain ⟨A9, c9, e9, hI9⟩ := ints_of_row HTw.out.re
        rw [endsV_len] at e9
        subst e9
        have HI9 := hide hI9
        have HRA := hide (row_addr HTw.out.ra)
        clear hBy7 hbw hI9
        go_wp2_with (at_builtin; go_must (refine append_bytes rfl _ _ rfl wr.heap.size (.slice (some ⟨wr.heap.size, 0, none⟩) 0 0) [] la 0 rfl HE.out _ A7 la.length c7 rfl rfl (HBy7.out.on (HB1.out wr _)) hn7 (by omega) (by simp) ?_))
        intro v2 w2 hown2 hgrow2 hat2
        have HL2 := hide ((HB1.out wr _).trans ((Below.refl wr.heap.size _).grown hgrow2 (by simp) (fun k e => by cases e; exact Nat.le_refl _)))
        have HO2 := hide hown2
        obtain ⟨A2, c2, rfl, -⟩ := row_slice hown2
        have hs2 := HL2.out.size
        have HBj := hide (HB.out.on (HBw.out.trans (HL2.out.mono hsz)))
        clear hown2 hgrow2 hat2 HE
        go_wp2_with (at_builtin; go_must (refine append_bytes rfl _ _ rfl wr.heap.size (.slice A2 la.length c2) la jk la.length rfl HO2.out _ B jk.length d rfl rfl HBj.out HNil.out (by omega) hs2 ?_))
        intro v3 w3 hown3 hgrow3 hat3
        have HL3 := hide (grow_below0 HL2.out HO2.out hs2 hgrow3)
        have hl3 : la.length + jk.length = (la ++ jk).length := by rw [List.length_append]
        rw [hl3] at hown3
        obtain ⟨mx, hmx⟩ : ∃ mx, mx = la ++ jk := ⟨_, rfl⟩
        rw [← hmx] at hown3 hl3
        obtain ⟨A3, c3, rfl, hB3, _, hn3, hc3⟩ := bytes_of_row hown3
        have hra := row_addr hown3
        have hcm : c3 ≤ maxLen := by obtain ⟨_, _, e, _, h⟩ := row_slice hown3; injection e with _ _ e; omega
        unfold maxLen at hcm
        have HB3 := hide (HBw.out.trans (HL3.out.mono hsz))
        have HS3 := hide (scan_any A3 c3 mx w3 hB3 (HT.out.on HB3.out) (by omega) hn3 hc3 (by omega) (fun a e => by have := hra.1 a e; rw [this]))
        have HR3 := hide (fun w' (h : Below w3.heap.size w3 w') => refScan_any A3 c3 mx w' (hB3.on h) (by omega) hc3)
        unfold ScanRes at HS3 HR3
        have HMl := hide (show mx.length ≤ 4294960000 by omega)
        have HMx := hide hmx
        have hs3 := HB3.out.size
        clear hown3 hgrow3 hat3 hB3 hra hmx
        clear hl3
        go_wp2_with fail
        refine HS3.out.mono ?_
        rintro e w4 ⟨v4, hs4, rfl, hsc4, hho4, hb4⟩
        have HR4 := hide (HR3.out w4 hb4)
        have HB4 := hide (HB3.out.trans (hb4.mono hs3))
        have HL4 := hide (HL3.out.trans (hb4.mono HL3.out.size))
        obtain ⟨A4, c4, rfl, ha4⟩ := heads_at hho4
        have HA4 := hide ha4
        have hn4 := heads_len hho4
        unfold maxLen at hn4
        have HSc4 := hide hsc4
        have hs4' := HB4.out.size
        clear hb4 hho4 ha4 hsc4 HR3 HS3
        go_wp2_with fail
        refine HR4.out.mono ?_
        rintro e w5 ⟨v5, hs5, rfl, hsc5, hho5, hb5⟩
        have HEq := hide (hsc5.one HSc4.out HMl.out)
        have HB5 := hide (HB4.out.trans (hb5.mono hs4'))
        have HL5 := hide (HL4.out.trans (hb5.mono HL4.out.size))
        have HA45 := hide (fun w' (h : Below w5.heap.size w5 w') => HA4.out.below (hb5.trans (h.mono hb5.size)))
        obtain ⟨A5, c5, rfl, ha5⟩ := heads_at hho5
        have HA5 := hide ha5
        have e5 : hs5.length = hs4.length := by rw [← lsOf_len hs5, HEq.out, lsOf_len]
        rw [e5, HEq.out]
        have HE5 := hide e5
        have hs5' := HB5.out.size
        have HS45 := hide hb5.size
        clear hb5 hho5 ha5 hsc5 HR4 e5 HSc4
        generalize (allB (lsOf hs4)).length = en at *
        go_wp2_with fail
        go_loopw [85] (fun i ws => ∃ k : Nat, k ≤ hs4.length ∧ i = .int .i64 k ∧ Below w5.heap.size w5 ws) (fun i _ => hs4.length - (intOf i).toNat)
        case atStart => exact ⟨0, Nat.zero_le _, rfl, Below.refl _ _⟩
        case round =>
          obtain ⟨k, hk, rfl, hbs⟩ := hrel
          have HBs := hide hbs
          have hss := hbs.size
          by_cases hlt : k < hs4.length
          · have HLt := hide hlt
            have HA4' := HA45.out wr hbs
            obtain ⟨b4, off4, A0, c0, l0, rfl, hbb4, hx4, hB0, hget4⟩ := HA4'.got hlt
            obtain ⟨b5, off5, A1, c1, l1, rfl, hbb5, hx5, hB1, hget5⟩ := (HA5.out.below hbs).got (show k < hs5.length by rw [HE5.out]; exact hlt)
            obtain rfl : l1 = l0 := by rw [← hget4, ← hget5, HEq.out]
            have hcv0 := fun n => conv_bytes A0 c0 l1 (wr.drewN n) ((hB0.mono (Nat.le_trans HS45.out hss)).on (below_drewN wr n))
            have hcv1 := fun n => conv_bytes A1 c1 l1 (wr.drewN n) ((hB1.mono hss).on (below_drewN wr n))
            have hk0 : (0 : Int) ≤ (k : Int) := by omega
            have hk1 : (k : Int) < (hs4.length : Int) := by omega
            clear hbs hB0 hB1 hget4 hget5 HA4' hk
            go_wp2_with fail
            go_quiet (fail)
            have HBn := hide (HBs.out.trans ((below_drewN wr nq).mono hss))
            go_wp2_with fail
            go_roundw
            case rel => exact ⟨k + 1, HLt.out, by go_num, HBn.out⟩
            case measure => have := HLt.out; simp [intOf]; omega
          · obtain rfl : k = hs4.length := by omega
            have HB6 := hide (HB5.out.trans (HBs.out.mono hs5'))
            have HL6 := hide (HL5.out.trans (HBs.out.mono HL5.out.size))
            have hs6' := HB6.out.size
            clear hbs hk hlt hss
            by_cases hc0 : cut < 0
            · have HA2 := hide (HAw.out wr HB6.out)
              go_wp2_with fail
              refine HA2.out.mono ?_
              rintro e w6 ⟨rfl, hb6⟩
              have HF := hide (HB6.out.trans (hb6.mono hs6'))
              clear hb6
              go_wp2_with fail
              go_ret
              exact ⟨rfl, HF.out⟩
            · by_cases hc1 : (la.length : Int) < cut
              · have HA2 := hide (HAw.out wr HB6.out)
                go_wp2_with fail
                refine HA2.out.mono ?_
                rintro e w6 ⟨rfl, hb6⟩
                have HF := hide (HB6.out.trans (hb6.mono hs6'))
                clear hb6
                go_wp2_with fail
                go_ret
                exact ⟨rfl, HF.out⟩
              · obtain ⟨cn, rfl⟩ : ∃ cn : Nat, cut = cn := ⟨cut.toNat, by omega⟩
                have hcn : cn ≤ la.length := by omega
                obtain ⟨mc, hmc⟩ : ∃ mc, mc = la.take cn := ⟨_, rfl⟩
                have hml : cn = mc.length := by rw [hmc, List.length_take]; omega
                subst hml
                have HMc := hide (show BytesAt _ _ A7 mc by have := HBy7.out.take mc.length; rw [← hmc] at this; exact this)
                have HMq := hide hmc
                clear hmc
                have HS6 := hide (scan_any A7 mc.length mc wr (HMc.out.on HL6.out) (HT.out.on HB6.out) (by omega) (fun e => by have := (HRA.out.2 e).1; omega) (Nat.le_refl _) (by omega) (fun a e => by have := HRA.out.1 a e; rw [this]))
                unfold ScanRes at HS6
                go_wp2_with fail
                go_loop [18, 19] (fun n l => ∃ k : Nat, k ≤ hs.length ∧ n = .int .i64 k ∧ l = .int .i64 ((endsL (lsOf hs) k : Nat) : Int) ∧ endsL (lsOf hs) k ≤ mc.length) (fun n _ => hs.length - (intOf n).toNat)
                case atStart => exact ⟨0, Nat.zero_le _, rfl, rfl, Nat.zero_le _⟩
                case round =>
                  obtain ⟨k, hk, rfl, rfl, hend⟩ := hrel
                  obtain ⟨e1, he1⟩ : ∃ e1, e1 = endsL (lsOf hs) (k + 1) := ⟨_, rfl⟩
                  have HE1 := hide he1
                  by_cases hgo : k < hs.length ∧ e1 ≤ mc.length
                  · obtain ⟨hlt, hle1⟩ := hgo
                    have HLt := hide hlt
                    obtain ⟨b9, off9, rfl, hb9, hc9⟩ := (HI9.out.below HL6.out) k (by rw [endsV_len]; exact hlt)
                    rw [endsV_get hlt, ← he1] at hc9
                    have hk0 : (0 : Int) ≤ (k : Int) := by omega
                    clear he1 hend
                    go_wp2_with fail
                    go_round
                    case rel => exact ⟨k + 1, HLt.out, by go_num, by rw [← HE1.out], by rw [← HE1.out]; assumption⟩
                    case measure => have := HLt.out; simp [intOf]; omega
                  · have H2 := hide (show k < (lsOf hs).length → mc.length < endsL (lsOf hs) (k + 1) by rw [lsOf_len, ← he1]; intro h; omega)
                    have HCut := hide (show Scanned mc ((lsOf hs).take k) by have := scanned_cut (ls := lsOf hs) (n := k) (cut := mc.length) (by rw [lsOf_len]; exact hk) hend H2.out (fun j hj => by have := H3.out j (by rw [lsOf_len] at hj; exact hj); omega); rw [HLa.out, ← HMq.out] at this; exact this)
                    have HEnd := hide (show endsL (lsOf hs) k = (allB ((lsOf hs).take k)).length from rfl)
                    generalize endsL (lsOf hs) k = ek at *
                    by_cases hlt : k < hs.length
                    · obtain ⟨b9, off9, rfl, hb9, hc9⟩ := (HI9.out.below HL6.out) k (by rw [endsV_len]; exact hlt)
                      rw [endsV_get hlt, ← he1] at hc9
                      have hk0 : (0 : Int) ≤ (k : Int) := by omega
                      have hk2 : ¬ (e1 : Int) ≤ (mc.length : Int) := by omega
                      clear he1 hend hgo H2
                      go_wp2_with fail
                      refine HS6.out.mono ?_
                      rintro e w6 ⟨v6, hs6, rfl, hsc6, hho6, hb6⟩
                      have HEq6 := hide (hsc6.one HCut.out (by omega))
                      obtain ⟨A6, c6, rfl, -⟩ := heads_at hho6
                      have e6 : hs6.length = k := by rw [← lsOf_len hs6, HEq6.out, List.length_take, lsOf_len]; omega
                      rw [e6, HEq6.out, ← HEnd.out]
                      have HB8 := hide (HB6.out.trans (hb6.mono hs6'))
                      have HA2 := hide (HAw.out w6 HB8.out)
                      have hs8 := HB8.out.size
                      clear hsc6 hho6 hb6 e6
                      go_wp2_with fail
                      refine HA2.out.mono ?_
                      rintro e w7 ⟨rfl, hb7⟩
                      have HF := hide (HB8.out.trans (hb7.mono hs8))
                      clear hb7
                      go_wp2_with fail
                      go_ret
                      exact ⟨rfl, HF.out⟩
                    · obtain rfl : k = hs.length := by omega
                      clear he1 hend hgo H2 hlt
                      go_wp2_with fail
                      refine HS6.out.mono ?_
                      rintro e w6 ⟨v6, hs6, rfl, hsc6, hho6, hb6⟩
                      have HEq6 := hide (hsc6.one HCut.out (by omega))
                      obtain ⟨A6, c6, rfl, -⟩ := heads_at hho6
                      have e6 : hs6.length = hs.length := by rw [← lsOf_len hs6, HEq6.out, List.length_take, lsOf_len]; omega
                      rw [e6, HEq6.out, ← HEnd.out]
                      have HB8 := hide (HB6.out.trans (hb6.mono hs6'))
                      have HA2 := hide (HAw.out w6 HB8.out)
                      have hs8 := HB8.out.size
                      clear hsc6 hho6 hb6 e6
                      go_wp2_with fail
                      refine HA2.out.mono ?_
                      rintro e w7 ⟨rfl, hb7⟩
                      have HF := hide (HB8.out.trans (hb7.mono hs8))
                      clear hb7
                      go_wp2_with fail
                      go_ret
                      exact ⟨rfl, HF.out⟩
  · have HA2 := hide (HAw.out w (Below.refl _ _))
    by_cases h30 : hs.length ≤ 30
    · have h30' : ¬ (30 : Int) < (hs.length : Int) := by omega
      have h300' : (300 : Int) < (jk.length : Int) := by omega
      clear hsm
      go_enter Tryd.func5, Tryd.ntmps5
      go_wp2_with fail
      refine HA2.out.mono ?_
      rintro e w6 ⟨rfl, hb6⟩
      have HF := hide (hb6)
      clear hb6
      go_wp2_with fail
      go_ret
      exact ⟨rfl, HF.out⟩
    · have h30' : (30 : Int) < (hs.length : Int) := by omega
      clear hsm
      go_enter Tryd.func5, Tryd.ntmps5
      go_wp2_with fail
      refine HA2.out.mono ?_
      rintro e w6 ⟨rfl, hb6⟩
      have HF := hide (hb6)
      clear hb6
      go_wp2_with fail
      go_ret
      exact ⟨rfl, HF.out⟩
end Go.Proofs.YtpjibiimakclfaaDoor
