/-
  The walk of TableCounts.
-/
import Derived.Test.YtaoeofnfmlckiaaDoorTBox
namespace Go.Proofs.YtaoeofnfmlckiaaDoor.tableCounts
open Go.RowKit

abbrev Done (S A B : Option Addr) (c cap d : Nat) (cs : List (ByteArray × Int)) (hs : List RH) (r : List (Int × Int × ByteArray)) (w : World) : Prop :=
  Calls Tryd.prog 5 #[vTab S cs.length c A hs.length cap, .slice B r.length d] w fun e w' => e = .returned (.bool true) ∧ Below w.heap.size w w'

set_option maxHeartbeats 3200000 in
set_option maxRecDepth 100000 in
theorem tableCounts_walk (S : Option Addr) (c : Nat) (cs : List (ByteArray × Int)) (A : Option Addr) (cap : Nat) (hs : List RH) (B : Option Addr) (d : Nat) (r : List (Int × Int × ByteArray)) (w : World)
    (hC : ColsAt w.heap.size w S cs) (hw : Wf cs) (_hn : S = none → c = 0) (hR : RowsAt w.heap.size w A hs) (hv : WfT (rowsOf hs)) (_hnA : A = none → cap = 0)
    (hr : RowAt w.heap.size w B r) (hwr : WfR r) (_hnr : B = none → d = 0) (hT : Tab w) : Done S A B c cap d cs hs r w := by
  have hal := boxW_below w (.slice S cs.length c) (.slice A hs.length cap)
  have HBox := hide (fun w' => boxW_at (w := w) (a := .slice S cs.length c) (b := .slice A hs.length cap) (w' := w'))
  have HWE := hide (show boxW w (.slice S cs.length c) (.slice A hs.length cap) = w.alloc (.cells #[.slice S cs.length c, .slice A hs.length cap] 26) from rfl)
  have HC := hide (hC.on hal); have HR := hide (hR.on hal); have HRr := hide (hr.on hal)
  generalize boxW w (.slice S cs.length c) (.slice A hs.length cap) = W at *
  have HL := hide hal; have HW := hide hw; have HV := hide hv; have HWr := hide hwr
  have HAw := hide (aw_later hT)
  have HSm := hide (small_any S A c cap cs hs W HC.out HR.out hw hv)
  clear hC hw hR hv hr hwr hT hal
  cases hsm : smallT cs (rowsOf hs)
  · have HS := hide hsm; clear hsm
    go_enter Tryd.func5, Tryd.ntmps5
    go_wp2_with fail
    rw [← HWE.out]
    refine HSm.out.mono ?_
    rintro e w1 ⟨rfl, hb1⟩
    rw [HS.out]
    have hq1 := then_below HL.out hb1
    go_wp2_with (go_at_call 9; refine (HAw.out _ hq1).mono ?_; rintro e wa ⟨rfl, hba⟩)
    go_ret
    exact ⟨rfl, then_below hq1 hba⟩
  · obtain ⟨hlc, hlr, hlv⟩ := smallT_yes hsm
    rw [rowsOf_len] at hlr
    have HS := hide hsm; have HLV := hide hlv; clear hsm hlv
    have HRi := hide (fun w' (h : Below W.heap.size W w') => right_any' S A c cap cs hs w' (HC.out.on h) (HR.out.on h) HW.out HV.out (by omega) (by omega) (fun x hx => by have := HLV.out x hx; omega))
    by_cases hz : fullT cs (rowsOf hs) = 0
    · have hz0 : (fullT cs (rowsOf hs) != 0) = false := by rw [bne_eq_false_iff_eq]; exact hz
      have hcc := (checkT_zero (fullT_zero hz).1).1
      have HFi := hide (fun w' (h : Below W.heap.size W w') => (fits_any S B c d cs r w' (HC.out.on h) (HRr.out.on h) HW.out HWr.out).mono fun e w1 (h : e = .returned (.bool (fitsB cs r)) ∧ Below w'.heap.size w' w1) => (⟨by rw [h.1, fits_of hcc], h.2⟩ : e = .returned (.bool (rowFits cs r)) ∧ Below w'.heap.size w' w1))
      clear hz hcc
      cases hf : rowFits cs r
      · have HF := hide hf; clear hf
        go_enter Tryd.func5, Tryd.ntmps5
        go_wp2_with fail
        rw [← HWE.out]
        refine HSm.out.mono ?_
        rintro e w1 ⟨rfl, hb1⟩
        rw [HS.out]
        obtain ⟨b0, b1, bz⟩ := HBox.out _ hb1
        have HB1 := hide hb1; clear hb1
        go_wp2_with fail
        refine (HRi.out _ HB1.out).mono ?_
        rintro e w2 ⟨rfl, hb2⟩
        have HB2 := hide (then_below HB1.out hb2)
        obtain ⟨b0', b1', bz'⟩ := HBox.out _ HB2.out
        clear hb2 b0 b1 bz
        go_wp2_with fail
        refine (HFi.out _ HB2.out).mono ?_
        rintro e w3 ⟨rfl, hb3⟩
        rw [HF.out]
        have hq3 := then_below HL.out (then_below HB2.out hb3)
        go_wp2_with (go_at_call 9; refine (HAw.out _ hq3).mono ?_; rintro e wa ⟨rfl, hba⟩)
        go_ret
        exact ⟨rfl, then_below hq3 hba⟩
      · have hrl := rowFits_length hf
        have hrl' : r.length ≤ 20 := by omega
        have HF := hide hf; clear hf hrl
        have HRw := hide (fun w' (h : Below W.heap.size W w') => refRows_any A cap hs w' (HR.out.on h) (by omega) (fun x hx => by have := HLV.out x hx; omega))
        go_enter Tryd.func5, Tryd.ntmps5
        go_wp2_with fail
        rw [← HWE.out]
        refine HSm.out.mono ?_
        rintro e w1 ⟨rfl, hb1⟩
        rw [HS.out]
        obtain ⟨b0, b1, bz⟩ := HBox.out _ hb1
        have HB1 := hide hb1; clear hb1
        go_wp2_with fail
        refine (HRi.out _ HB1.out).mono ?_
        rintro e w2 ⟨rfl, hb2⟩
        have HB2 := hide (then_below HB1.out hb2)
        obtain ⟨b0', b1', bz'⟩ := HBox.out _ HB2.out
        clear hb2 b0 b1 bz
        go_wp2_with fail
        refine (HFi.out _ HB2.out).mono ?_
        rintro e w3 ⟨rfl, hb3⟩
        rw [HF.out]
        have HB3 := hide (then_below HB2.out hb3)
        obtain ⟨b0, b1, bz⟩ := HBox.out _ HB3.out
        clear hb3 b0' b1' bz'
        go_wp2_with fail
        refine (HRw.out _ HB3.out).mono ?_
        rintro e w4 ⟨⟨A4, c4, ns, rfl, hA4, hns, -⟩, hb4⟩
        have HA4 := hide hA4; have HNS := hide hns
        have HB4 := hide (then_below HB3.out hb4)
        have hnl : ns.length = hs.length := by have := congrArg List.length hns; rwa [rowsOf_len, rowsOf_len] at this
        have HVn := hide (show WfT (rowsOf ns) by rw [hns]; exact HV.out)
        clear hb4 hA4 hns b0 b1 bz
        have hnl' : ns.length ≤ 60 := by omega
        clear hnl
        go_wp2_with fail
        go_loopw [5, 28] (fun v i wr => ∃ k : Nat, k ≤ ns.length ∧ i = .int .i64 k ∧ v = .int .i64 (countR ((rowsOf ns).take k) r : Nat) ∧ Below w4.heap.size w4 wr) (fun _ i _ => ns.length - (intOf i).toNat)
        case atStart => exact ⟨0, Nat.zero_le _, rfl, rfl, Below.refl _ _⟩
        case round =>
          obtain ⟨k, hk, rfl, rfl, hbw⟩ := hrel
          have hs0 := hbw.size
          by_cases hlt : k < ns.length
          · obtain ⟨b, off, A1, c1, r1, rfl, hb, d1, hr1, -, hg1⟩ := (HA4.out.below hbw).at hlt
            have HT1 := hide (take_rows hlt)
            rw [hg1] at HT1
            have hw1 := HVn.out.at hlt
            rw [hg1] at hw1
            have HW1 := hide hw1
            have HR1 := hide (hr1.mono hs0)
            have HSn := hide (countR_snoc ((rowsOf ns).take k) r1 r)
            have hle := countR_le ((rowsOf ns).take k) r
            rw [List.length_take] at hle
            generalize hcn : countR ((rowsOf ns).take k) r = m at *
            clear hcn hr1 hg1 hw1
            have hm1 : m < ns.length := by omega
            clear hle
            have HBr := hide (then_below HB4.out hbw)
            go_wp2_with fail
            refine (refRow_any B d r wr (HRr.out.on HBr.out) (by omega)).mono ?_
            rintro e w5 ⟨⟨A5, c5, rfl, hA5, -, -⟩, hb5⟩
            have HA5 := hide hA5
            have HB5 := hide hb5
            clear hA5 hb5
            by_cases hc : cmpR r1 r = 0
            all_goals
              have HCC := hide hc
              have hd : (cmpR r1 r == 0) = decide (cmpR r1 r = 0) := by rw [Bool.eq_iff_iff, beq_iff_eq, decide_eq_true_iff]
              first | rw [decide_eq_true hc] at hd | rw [decide_eq_false hc] at hd
              clear hc
              go_wp2_with fail
              refine (refCmpRows_any A1 A5 c1 c5 r1 r _ (HR1.out.on HB5.out) HA5.out HW1.out.1 HW1.out).mono ?_
              rintro e w6 ⟨rfl, hb6⟩
              go_wp2_with fail
              go_roundw
              case rel =>
                refine ⟨k + 1, by omega, by go_num, ?_, then_below hbw (then_below HB5.out hb6)⟩
                rw [HT1.out, HSn.out]
                unfold sameRw
                first | rw [decide_eq_true HCC.out] | rw [decide_eq_false HCC.out]
                simp
              case measure => simp [intOf]; omega
          · obtain rfl : k = ns.length := by omega
            have ht : (rowsOf ns).take ns.length = rowsOf hs := by rw [List.take_of_length_le (by rw [rowsOf_len]; exact Nat.le_refl _), HNS.out]
            rw [ht]
            clear ht
            have HB5 := hide (then_below HB4.out hbw)
            obtain ⟨b0, b1, bz⟩ := HBox.out _ HB5.out
            have hcl : countR (rowsOf hs) r ≤ hs.length := by have := countR_le (rowsOf hs) r; rwa [rowsOf_len] at this
            have HCo := hide (count_any S A B cs.length c cap d hs r wr (HR.out.on HB5.out) (HRr.out.on HB5.out) (by unfold maxLen; omega) (by unfold maxLen; omega))
            generalize countR (rowsOf hs) r = m at *
            go_wp2_with fail
            refine HCo.out.mono ?_
            rintro e w6 ⟨rfl, hb6⟩
            have hq6 := then_below HL.out (then_below HB5.out hb6)
            clear b0 b1 bz
            go_wp2_with (go_at_call 9; refine (HAw.out _ hq6).mono ?_; rintro e wa ⟨rfl, hba⟩)
            go_ret
            exact ⟨rfl, then_below hq6 hba⟩
    · have hz0 : (fullT cs (rowsOf hs) != 0) = true := by rw [bne_iff_ne]; exact hz
      clear hz
      go_enter Tryd.func5, Tryd.ntmps5
      go_wp2_with fail
      rw [← HWE.out]
      refine HSm.out.mono ?_
      rintro e w1 ⟨rfl, hb1⟩
      rw [HS.out]
      obtain ⟨b0, b1, bz⟩ := HBox.out _ hb1
      have HB1 := hide hb1; clear hb1
      go_wp2_with fail
      refine (HRi.out _ HB1.out).mono ?_
      rintro e w2 ⟨rfl, hb2⟩
      have hq2 := then_below HL.out (then_below HB1.out hb2)
      go_wp2_with (go_at_call 9; refine (HAw.out _ hq2).mono ?_; rintro e wa ⟨rfl, hba⟩)
      go_ret
      exact ⟨rfl, then_below hq2 hba⟩
end Go.Proofs.YtaoeofnfmlckiaaDoor.tableCounts
