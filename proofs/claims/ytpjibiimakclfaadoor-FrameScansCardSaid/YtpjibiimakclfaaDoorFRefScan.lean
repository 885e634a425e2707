/-
  The reference's Scan.
-/
import Derived.Test.YtpjibiimakclfaaDoorFRefFrm
namespace Go.Proofs.YtpjibiimakclfaaDoor
open Go.RowKit

set_option maxHeartbeats 25600000 in
set_option maxRecDepth 100000 in
theorem refScan_any (A : Option Addr) (c : Nat) (l : List UInt8) (w : World) (hB : BytesAt w.heap.size w A l) (hl : l.length ≤ 16777216) (hcap : l.length ≤ c) :
    Calls Tryd.prog 23 #[.slice A l.length c] w (ScanRes w.heap.size w l) := by
  have HB := hide hB
  clear hB
  have HB1 := hide (fun (w' : World) o => (Below.refl w'.heap.size w').alloc (Nat.le_refl _) o)
  unfold ScanRes
  go_enter Tryd.func23, Tryd.ntmps23
  go_wp2_with fail
  go_loopw [4, 5] (fun ov av wr => ∃ hs a, l = allB (lsOf hs) ++ l.drop a ∧ av = .int .i64 (a : Nat) ∧ a = (allB (lsOf hs)).length ∧ a ≤ l.length ∧ HeadsOwn w.heap.size wr ov hs ∧ Below w.heap.size w wr ∧ hs.length ≤ a) (fun _ av _ => l.length - (intOf av).toNat)
  case atStart => exact ⟨[], 0, rfl, rfl, rfl, Nat.zero_le _, HeadsOwn.nil _ _, Below.refl _ _, Nat.le_refl _⟩
  case round =>
    obtain ⟨hs, a, hsp, rfl, hend, hal, hho, hbw, hhl⟩ := hrel
    have HHo := hide hho
    have HBw := hide hbw
    have HSp := hide hsp
    have HEnd := hide (show (a : Int) = ((allB (lsOf hs)).length : Nat) by rw [hend])
    have hsz := hbw.size
    have HRd := hide (refRead_any A c l a wr (HB.out.on hbw) hcap (by omega) hal)
    unfold ReadRes at HRd
    clear hho hbw hsp hend
    rcases hr : readI (l.drop a) with _ | ⟨n, q⟩
    · have HSc := hide (show Scanned l (lsOf hs) from ⟨l.drop a, HSp.out, fun h => by obtain ⟨n, k, hk⟩ := frm_live h; rw [hr] at hk; cases hk⟩)
      have HN := hide (rd_none hr)
      rw [HN.out.1, HN.out.2] at HRd
      clear hr
      go_wp2_with fail
      refine HRd.out.mono ?_
      rintro e w2 ⟨rfl, hb2⟩
      have HHo2 := hide (HHo.out.below hb2)
      have HB2 := hide (HBw.out.trans (hb2.mono hsz))
      clear hb2
      go_wp2_with fail
      go_ret2
      exact ⟨_, hs, ret_pair HEnd.out, HSc.out, HHo2.out, HB2.out⟩
    · have hle := readI_le hr
      have hn64 := readI_i64 hr
      have hii := readI_iff.1 hr
      rw [List.length_drop] at hle
      have HN := hide (rd_some hr)
      rw [HN.out.1, HN.out.2] at HRd
      obtain ⟨n0, n1⟩ := hn64
      obtain ⟨i1, i2, i3⟩ := live_int hr
      rw [List.drop_drop] at i2
      obtain ⟨p, hp⟩ : ∃ p, p = a + q := ⟨_, rfl⟩
      rw [← hp] at HRd i2
      have hpl : p ≤ l.length := by omega
      have hl0 : 0 < l.length := by omega
      have bp : decide ((p : Int) < 0) = false := by simp
      have bp2 : ¬ (p : Int) < 0 := by omega
      by_cases ho : 0 ≤ n ∧ n ≤ (l.length : Int) - (p : Int)
      · obtain ⟨o1, o2⟩ := ho
        obtain ⟨v, hv⟩ : ∃ v : Nat, n = v := ⟨n.toNat, by omega⟩
        subst hv
        have ok : TxtOk (l.drop a) := by unfold TxtOk; rw [i1, i2, List.length_drop]; omega
        have hpv : p + v ≤ l.length := by omega
        have t1 : txtS (l.drop a) = (l.drop p).take v := by unfold txtS; rw [if_pos ok, i1, i2, Int.toNat_natCast]
        have hcl : ((l.drop p).take v).length = v := by rw [List.length_take, List.length_drop]; omega
        have hfl : (frameB ((l.drop p).take v)).length = q + v + 4 := by rw [frameB_len, hcl, ← hii.2.1]
        have HOk1 := hide (fun (h : FrmOk (l.drop a)) => (show a + (q + v + 4) ≤ l.length ∧ frameB ((l.drop p).take v) = (l.drop a).take (q + v + 4) from by
          have hd := (frm_dec h).1
          rw [t1] at hd
          have h2 := congrArg List.length hd
          rw [List.length_append, hfl, List.length_drop] at h2
          refine ⟨by omega, ?_⟩
          conv => rhs; rw [hd]
          rw [← hfl, List.take_left]))
        have HOk2 := hide (fun (h : frameB ((l.drop p).take v) = (l.drop a).take (q + v + 4)) => (show l.drop a = frameB ((l.drop p).take v) ++ l.drop (a + (q + v + 4)) from by
          rw [h, ← List.drop_drop, List.take_append_drop]))
        have HCl := hide hcl
        have HFl := hide hfl
        have HP := hide hp
        have b1 : decide ((v : Int) < 0) = false := by simp
        have b2 : decide ((l.length : Int) - (p : Int) < (v : Int)) = false := by simp; omega
        have o3 : ¬ (l.length : Int) - (p : Int) < (v : Int) := by omega
        have k1 : (p : Int) ≤ (p : Int) + (v : Int) := by omega
        have k2 : (p : Int) + (v : Int) ≤ (c : Int) := by omega
        clear hr i1 i2 i3 hii ok t1 hcl hfl o1 o2 hp
        by_cases hfit : a + (q + v + 4) ≤ l.length
        · have hcp : ¬ c = p := by have := HP.out; omega
          have hca : ¬ c = a := by omega
          obtain ⟨ba, offa, rfl⟩ := some_of HB.out hl0
          go_wp2_with fail
          refine HRd.out.mono ?_
          rintro e w2 ⟨rfl, hb2⟩
          have HHo2 := hide (HHo.out.below hb2)
          have HB2 := hide (HBw.out.trans (hb2.mono hsz))
          have hs2 := HB2.out.size
          have HFr := hide (refFrame_any (some ⟨ba, offa + p, none⟩) v (c - p) ((l.drop p).take v) w2 HCl.out.symm (part_at ba offa l p v w2 (HB.out.on HB2.out) hpv) (by rw [HCl.out]; omega))
          unfold OwnRes at HFr
          clear hb2
          go_wp2_with fail
          refine HFr.out.mono ?_
          rintro e w3 ⟨v3, rfl, hr3, hb3⟩
          have HHo3 := hide (HHo2.out.below hb3)
          have HB3 := hide (HB2.out.trans (hb3.mono hs2))
          have hs3 := HB3.out.size
          obtain ⟨A3, c3, rfl, hBy3, _, hn3, _⟩ := bytes_of_row hr3
          have hcv3 := fun n => conv_bytes A3 c3 (frameB ((l.drop p).take v)) (w3.drewN n) (hBy3.on (below_drewN w3 n))
          have hcvb := fun n => part_str2 ba offa l a (q + v + 4) (c - a) (w3.drewN n) (HB.out.on (HB3.out.trans ((below_drewN w3 n).mono hs3))) hfit
          have hcv4 := conv_bytes A3 c3 (frameB ((l.drop p).take v)) w3.drew (hBy3.on (Below.refl _ _).drew)
          have hcvc := part_str2 ba offa l a (q + v + 4) (c - a) w3.drew (HB.out.on HB3.out.drew) hfit
          have HSrc := hide (fun n => part_at ba offa l p v (w3.drewN n) (HB.out.on (HB3.out.trans ((below_drewN w3 n).mono hs3))) hpv)
          rw [HFl.out] at hcv3 hcv4 ⊢
          clear hr3 hb3 hBy3 hn3
          have HSl := hide (fun w' => slice_lh ba offa l.length c a (a + (q + v + 4)) (by omega) (by omega) (by omega) (a : Int) ((a : Int) + ((q + v + 4 : Nat) : Int)) rfl (by omega) w')
          rw [show a + (q + v + 4) - a = q + v + 4 by omega] at HSl
          have hslc := HSl.out
          have g1 : ¬ (l.length : Int) < (a : Int) + ((q + v + 4 : Nat) : Int) := by omega
          have g2 : decide ((l.length : Int) < (a : Int) + ((q + v + 4 : Nat) : Int)) = false := by simpa using g1
          have hwa : IntKind.i64.wrap ((a : Int) + ((q + v + 4 : Nat) : Int)) = (a : Int) + ((q + v + 4 : Nat) : Int) := IntWalk.i64_in _ (by omega)
          have hfl0 : q + v + 4 ≤ 1073741824 := by omega
          have hq4 : 0 < q + v + 4 := by omega
          by_cases heq : frameB ((l.drop p).take v) = (l.drop a).take (q + v + 4)
          · have hbe : (frameB ((l.drop p).take v) == (l.drop a).take (q + v + 4)) = true := by rw [heq, beq_self_eq_true]
            have HSp2 := hide (HOk2.out heq)
            generalize hfl : q + v + 4 = fl at *
            clear heq hfl
            have hvs : v ≤ 16777216 := by omega
            generalize hct : (l.drop p).take v = ct at *
            clear hct
            generalize hfb : frameB ct = fb at *
            have HFb := hide hfb
            clear hfb
            go_wp2_with fail
            go_quiet (fail)
            obtain ⟨w4, hw4⟩ : ∃ w4, w4 = w3.drewN nq := ⟨_, rfl⟩
            have HHo4 := hide (show HeadsOwn w.heap.size w4 u4 hs from hw4 ▸ HHo3.out.below (below_drewN _ _))
            have HB4 := hide (show Below w.heap.size w w4 from hw4 ▸ HB3.out.trans ((below_drewN w3 _).mono hs3))
            have HSrc4 := hide (show BytesAt w4.heap.size w4 (some ⟨ba, offa + p, none⟩) ct from hw4 ▸ HSrc.out nq)
            rw [← hw4]
            clear hw4 hcv3 hcvb hcv4 hcvc hslc hwa HSrc HHo3 HB3 HHo2 HB2 hbe
            have hs4 := HB4.out.size
            go_wp2_with (at_builtin; go_must (refine append_bytes rfl _ _ rfl w4.heap.size (.slice none 0 0) [] ct 0 rfl (World.ownsRow_nil _ _ _ _) _ (some ⟨ba, offa + p, none⟩) (p + v - p) (c - p) (by rw [HCl.out]; omega) rfl HSrc4.out (fun e => by cases e) (by omega) (Nat.le_refl _) ?_))
            intro v5 w5 hown5 hgrow5 hat5
            have hr5 : w5.ownsRow w4.heap.size 5 1 v5 ct.length (byC ct) := by rw [HCl.out]; simpa using hown5
            have hb5 : Below w4.heap.size w4 w5 := (Below.refl _ _).grown hgrow5 (Nat.le_refl _) (fun k e => by cases e)
            have HHo5 := hide (HHo4.out.below hb5)
            have HB5 := hide (HB4.out.trans (hb5.mono hs4))
            have hs5 := HB5.out.size
            obtain ⟨A5, c5, e5, hBy5, hA5, hn5, _⟩ := bytes_of_row hr5
            have HH5 := hide (show HAt w.heap.size w5 u4 ⟨A5, c5, ct⟩ from fun j hj => by
              obtain ⟨b, off, e, e1, e2⟩ := hBy5 j hj
              have h1 : w4.heap.size ≤ b := (hA5 _ e).1
              exact ⟨b, off, e, by omega, e1, fun e3 => by have := (HHo4.out.row.lt b e3).2; omega, e2⟩)
            have HHd := hide (show hdr ⟨A5, c5, ct⟩ = .slice A5 v c5 by unfold hdr; rw [HCl.out])
            rw [HCl.out] at e5
            subst e5
            clear hr5 hb5 hBy5 hA5 hn5 hown5 hgrow5 hat5
            go_wp2_with (at_builtin; go_must (refine append_head rfl _ _ rfl w.heap.size u4 hs hs.length rfl rfl (HHo5.out.below (HB1.out w5 _)) ⟨A5, c5, ct⟩ w5.heap.size rfl (by rw [HHd.out]; exact Lib.cell_of_heap (heap_alloc_new w5 _) 0) (HH5.out.keep (by simp) fun b _ h _ => Below.heap_alloc _ _ _ h) (by omega) (by simp; omega) ?_))
            intro v6 w6 hho6 hown6 hgrow6
            have HHo6 := hide hho6
            have HB6 := hide (HB5.out.trans (((HB1.out w5 _).mono hs5).trans ((Below.refl w.heap.size _).grown hgrow6 (by simp; omega) fun j e => (HHo5.out.row.lt j e).1)))
            obtain ⟨A6, c6, rfl, -⟩ := row_slice hown6
            have HNw := hide (show l = allB (lsOf (hs ++ [⟨A5, c5, ct⟩])) ++ l.drop (a + fl) by rw [lsOf_snoc, allB_snoc, HFb.out, List.append_assoc, ← HSp2.out]; exact HSp.out)
            have HNe := hide (show a + fl = (allB (lsOf (hs ++ [⟨A5, c5, ct⟩]))).length by rw [lsOf_snoc, allB_snoc, HFb.out, List.length_append, HFl.out]; have := HEnd.out; omega)
            clear hho6 hown6 hgrow6
            go_wp2_with fail
            go_roundw
            case rel => exact ⟨hs ++ [⟨A5, c5, ct⟩], a + fl, HNw.out, by go_num, HNe.out, hfit, HHo6.out, HB6.out, by rw [List.length_append]; simp; omega⟩
            case measure => simp [intOf]; omega
          · have hbe : (frameB ((l.drop p).take v) == (l.drop a).take (q + v + 4)) = false := by rw [beq_eq_false_iff_ne]; exact heq
            have HSc := hide (show Scanned l (lsOf hs) from ⟨l.drop a, HSp.out, fun h => heq (HOk1.out h).2⟩)
            generalize q + v + 4 = fl at *
            clear heq
            generalize frameB ((l.drop p).take v) = fb at *
            go_wp2_with fail
            go_quiet (fail)
            go_wp2_with fail
            go_ret2
            exact ⟨_, hs, ret_pair HEnd.out, HSc.out, HHo3.out.below (below_drewN _ _), HB3.out.trans ((below_drewN w3 _).mono hs3)⟩
        · have HSc := hide (show Scanned l (lsOf hs) from ⟨l.drop a, HSp.out, fun h => hfit (HOk1.out h).1⟩)
          have g1 : (l.length : Int) < (a : Int) + ((q + v + 4 : Nat) : Int) := by omega
          by_cases hcp : c = p
          · subst hcp
            obtain rfl : v = 0 := by omega
            have HEmp := hide (show (l.drop c).take 0 = [] from rfl)
            go_wp2_with fail
            refine HRd.out.mono ?_
            rintro e w2 ⟨rfl, hb2⟩
            have HHo2 := hide (HHo.out.below hb2)
            have HB2 := hide (HBw.out.trans (hb2.mono hsz))
            have hs2 := HB2.out.size
            have HFr := hide (refFrame_any A 0 0 [] w2 rfl (fun j hj => by simp at hj) (by simp))
            rw [← HEmp.out] at HFr
            unfold OwnRes at HFr
            clear hb2
            go_wp2_with fail
            refine HFr.out.mono ?_
            rintro e w3 ⟨v3, rfl, hr3, hb3⟩
            have HHo3 := hide (HHo2.out.below hb3)
            have HB3 := hide (HB2.out.trans (hb3.mono hs2))
            have hs3 := HB3.out.size
            obtain ⟨A3, c3, rfl, hBy3, _, hn3, _⟩ := bytes_of_row hr3
            rw [HFl.out]
            clear hr3 hb3 hBy3 hn3
            have g2 : decide ((l.length : Int) < (a : Int) + ((q + 0 + 4 : Nat) : Int)) = true := by simpa using g1
            have hwa : IntKind.i64.wrap ((a : Int) + ((q + 0 + 4 : Nat) : Int)) = (a : Int) + ((q + 0 + 4 : Nat) : Int) := IntWalk.i64_in _ (by omega)
            generalize q + 0 + 4 = fl at *
            go_wp2_with fail
            go_quiet (fail)
            go_wp2_with fail
            go_ret2
            exact ⟨_, hs, ret_pair HEnd.out, HSc.out, HHo3.out.below (below_drewN _ _), HB3.out.trans ((below_drewN w3 _).mono hs3)⟩
          · obtain ⟨ba, offa, rfl⟩ := some_of HB.out hl0
            go_wp2_with fail
            refine HRd.out.mono ?_
            rintro e w2 ⟨rfl, hb2⟩
            have HHo2 := hide (HHo.out.below hb2)
            have HB2 := hide (HBw.out.trans (hb2.mono hsz))
            have hs2 := HB2.out.size
            have HFr := hide (refFrame_any (some ⟨ba, offa + p, none⟩) v (c - p) ((l.drop p).take v) w2 HCl.out.symm (part_at ba offa l p v w2 (HB.out.on HB2.out) hpv) (by rw [HCl.out]; omega))
            unfold OwnRes at HFr
            clear hb2
            go_wp2_with fail
            refine HFr.out.mono ?_
            rintro e w3 ⟨v3, rfl, hr3, hb3⟩
            have HHo3 := hide (HHo2.out.below hb3)
            have HB3 := hide (HB2.out.trans (hb3.mono hs2))
            have hs3 := HB3.out.size
            obtain ⟨A3, c3, rfl, hBy3, _, hn3, _⟩ := bytes_of_row hr3
            rw [HFl.out]
            clear hr3 hb3 hBy3 hn3
            have g2 : decide ((l.length : Int) < (a : Int) + ((q + v + 4 : Nat) : Int)) = true := by simpa using g1
            have hwa : IntKind.i64.wrap ((a : Int) + ((q + v + 4 : Nat) : Int)) = (a : Int) + ((q + v + 4 : Nat) : Int) := IntWalk.i64_in _ (by omega)
            generalize q + v + 4 = fl at *
            go_wp2_with fail
            go_quiet (fail)
            go_wp2_with fail
            go_ret2
            exact ⟨_, hs, ret_pair HEnd.out, HSc.out, HHo3.out.below (below_drewN _ _), HB3.out.trans ((below_drewN w3 _).mono hs3)⟩
      · have hno : ¬ TxtOk (l.drop a) := by unfold TxtOk; rw [i1, i2, List.length_drop]; omega
        have HSc := hide (show Scanned l (lsOf hs) from ⟨l.drop a, HSp.out, fun h => hno h.1⟩)
        clear hr hno i1 i2 i3 hii hp hle
        by_cases hneg : n < 0
        · have b1 : decide (n < 0) = true := by simpa using hneg
          clear ho
          go_wp2_with fail
          refine HRd.out.mono ?_
          rintro e w2 ⟨rfl, hb2⟩
          have HHo2 := hide (HHo.out.below hb2)
          have HB2 := hide (HBw.out.trans (hb2.mono hsz))
          clear hb2
          go_wp2_with fail
          go_ret2
          exact ⟨_, hs, ret_pair HEnd.out, HSc.out, HHo2.out, HB2.out⟩
        · have hbig : (l.length : Int) - (p : Int) < n := by omega
          have b1 : decide (n < 0) = false := by simp; omega
          have b2 : decide ((l.length : Int) - (p : Int) < n) = true := by simpa using hbig
          clear ho
          go_wp2_with fail
          refine HRd.out.mono ?_
          rintro e w2 ⟨rfl, hb2⟩
          have HHo2 := hide (HHo.out.below hb2)
          have HB2 := hide (HBw.out.trans (hb2.mono hsz))
          clear hb2
          go_wp2_with fail
          go_ret2
          exact ⟨_, hs, ret_pair HEnd.out, HSc.out, HHo2.out, HB2.out⟩
end Go.Proofs.YtpjibiimakclfaaDoor
