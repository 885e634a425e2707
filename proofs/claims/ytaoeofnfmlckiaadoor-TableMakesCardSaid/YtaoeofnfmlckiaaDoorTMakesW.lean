/-
  The walk of TableMakes.
-/
import Derived.Test.YtaoeofnfmlckiaaDoorTBox
import Derived.Test.YtaoeofnfmlckiaaDoorTSortW
namespace Go.Proofs.YtaoeofnfmlckiaaDoor.tableMakes
open Go.RowKit

theorem wft_sort {rs : R3} (h : WfT rs) : WfT (sortR rs) := ⟨by rw [sortR_len]; exact h.1, fun r hr => h.2 r ((sortR_perm rs).mem_iff.1 hr)⟩

abbrev Done (S A : Option Addr) (c cap : Nat) (cs : List (ByteArray × Int)) (hs : List RH) (w : World) : Prop :=
  Calls Tryd.prog 3 #[vTab S cs.length c A hs.length cap] w fun e w' => e = .returned (.bool true) ∧ Below w.heap.size w w'

set_option maxHeartbeats 6400000 in
set_option maxRecDepth 100000 in
theorem tableMakes_walk (S : Option Addr) (c : Nat) (cs : List (ByteArray × Int)) (A : Option Addr) (cap : Nat) (hs : List RH) (w : World)
    (hC : ColsAt w.heap.size w S cs) (hw : Wf cs) (hn : S = none → c = 0) (hR : RowsAt w.heap.size w A hs) (hv : WfT (rowsOf hs)) (_hnA : A = none → cap = 0) (hT : Tab w) : Done S A c cap cs hs w := by
  have hal := boxW_below w (.slice S cs.length c) (.slice A hs.length cap)
  have HBox := hide (fun w' => boxW_at (w := w) (a := .slice S cs.length c) (b := .slice A hs.length cap) (w' := w'))
  have HWE := hide (show boxW w (.slice S cs.length c) (.slice A hs.length cap) = w.alloc (.cells #[.slice S cs.length c, .slice A hs.length cap] 26) from rfl)
  have HC := hide (hC.on hal); have HR := hide (hR.on hal)
  generalize boxW w (.slice S cs.length c) (.slice A hs.length cap) = W at *
  have HL := hide hal; have HW := hide hw; have HV := hide hv; have HN := hide hn
  have HAw := hide (aw_later hT)
  have HTW := hide hal.size
  have HSm := hide (small_any S A c cap cs hs W HC.out HR.out hw hv)
  clear hC hw hR hv hT hal hn
  cases hsm : smallT cs (rowsOf hs)
  · have HS := hide hsm; clear hsm
    go_enter Tryd.func3, Tryd.ntmps3
    go_wp2_with fail
    rw [← HWE.out]
    refine HSm.out.mono ?_
    rintro e w1 ⟨rfl, hb1⟩
    rw [HS.out]
    have hq1 := then_below HL.out hb1
    go_wp2_with (go_at_call 9; refine (HAw.out _ hq1).mono ?_; rintro e wa ⟨rfl, hba⟩)
    go_ret
    exact ⟨rfl, then_below hq1 hba⟩
  obtain ⟨hlc, hlr, hlv⟩ := smallT_yes hsm
  rw [rowsOf_len] at hlr
  have HS := hide hsm; have HLV := hide hlv; clear hsm hlv
  have HRw := hide (fun w' (h : Below W.heap.size W w') => refRows_any A cap hs w' (HR.out.on h) (by omega) (fun x hx => by have := HLV.out x hx; omega))
  have HMk := hide (fun w' (h : Below W.heap.size W w') => make_any S A c cap cs hs w' (HC.out.on h) HN.out (HR.out.on h) HW.out HV.out (by omega) (fun x hx => by have := HLV.out x hx; omega))
  have HTc := hide (fun w' (h : Below W.heap.size W w') => tabCheck_any S A c cap cs hs w' (HC.out.on h) (HR.out.on h) HW.out HV.out)
  have HRi := hide (fun w' (h : Below W.heap.size W w') => right_any' S A c cap cs hs w' (HC.out.on h) (HR.out.on h) HW.out HV.out (by omega) (by omega) (fun x hx => by have := HLV.out x hx; omega))
  have HSa := hide (fun rs (hvr : WfT rs) (hlr : rs.length ≤ 60) A' B' c' d' (xs ys : List RH) w' (hX : RowsAt w'.heap.size w' A' xs) (hY : RowsAt w'.heap.size w' B' ys) (hx : rowsOf xs = rs) (hy : rowsOf ys = rs) =>
    (same_any A' B' c' d' xs ys w' hX hY (hx ▸ hvr) (by have := congrArg List.length hy; rw [rowsOf_len] at this; unfold maxLen; omega)).mono fun e w1 (hh : e = .returned (.bool (sameRs (rowsOf xs) (rowsOf ys))) ∧ Below w'.heap.size w' w1) => (⟨by rw [hh.1, hx, hy, sameRs_self], hh.2⟩ : e = .returned (.bool true) ∧ Below w'.heap.size w' w1))
  have HEt := hide (fun w' (h : Below W.heap.size W w') => (tabEqual_any S A S A c cap c cap cs cs hs hs w' (HC.out.on h) (HR.out.on h) (HC.out.on h) (HR.out.on h) (by unfold maxLen; omega) HV.out).mono fun e w1 (hh : e = .returned (.bool (sameC cs cs && sameRs (rowsOf hs) (rowsOf hs))) ∧ Below w'.heap.size w' w1) =>
    (⟨by rw [hh.1, sameC_iff.2 rfl, sameRs_self]; rfl, hh.2⟩ : e = .returned (.bool true) ∧ Below w'.heap.size w' w1))
  have HCp := hide (fun w' (h : Below W.heap.size W w') => (copy_any S c cs A cap hs w' (HC.out.on h) HN.out (HR.out.on h) (by omega) (by omega) (fun x hx => by have := HLV.out x hx; omega)).mono fun e w1 (hh : CopyV cs (rowsOf hs) w' e w1) =>
    (by obtain ⟨⟨S', c', g, cap', ns', he, ho⟩, hb⟩ := hh; exact ⟨⟨S', c', some ⟨g, 0, none⟩, cap', ns', he, ho.1, ho.rowsAt, ho.2.2.1⟩, hb⟩ :
      (∃ S' c' A' d' ns', e = .returned (vTab S' cs.length c' A' (List.length ns') d') ∧ ColsAt w1.heap.size w1 S' cs ∧ RowsAt w1.heap.size w1 A' ns' ∧ rowsOf ns' = rowsOf hs) ∧ Below w'.heap.size w' w1))
  have HEq2 := hide (fun S' A' c' d' (ns' : List RH) w' (h : Below W.heap.size W w') (hC' : ColsAt w'.heap.size w' S' cs) (hR' : RowsAt w'.heap.size w' A' ns') (he : rowsOf ns' = rowsOf hs) =>
    (tabEqual_any S' A' S A c' d' c cap cs cs ns' hs w' hC' hR' (HC.out.on h) (HR.out.on h) (by unfold maxLen; omega) HV.out).mono fun e w1 (hh : e = .returned (.bool (sameC cs cs && sameRs (rowsOf ns') (rowsOf hs))) ∧ Below w'.heap.size w' w1) =>
    (⟨by rw [hh.1, sameC_iff.2 rfl, he, sameRs_self]; rfl, hh.2⟩ : e = .returned (.bool true) ∧ Below w'.heap.size w' w1))
  have HCk := hide (fun S' A' c' d' ns w' (h1 : ColsAt w'.heap.size w' S' cs) (h2 : RowsAt w'.heap.size w' A' ns) (h3 : rowsOf ns = rowsOf hs) => (refTabCheck_any S' A' c' d' cs ns w' h1 h2 HW.out (h3 ▸ HV.out)).mono fun e w1 (h : e = .returned (.int .i64 (checkT cs (rowsOf ns))) ∧ Below w'.heap.size w' w1) => (⟨by rw [h.1, h3], h.2⟩ : e = .returned (.int .i64 (checkT cs (rowsOf hs))) ∧ Below w'.heap.size w' w1))
  have HSch := hide (fun w' (h : Below W.heap.size W w') => refSchema_any S c cs w' (HC.out.on h) (by omega))
  have HEs := hide (fun S' c' w' (h : Below W.heap.size W w') (h1 : ColsAt w'.heap.size w' S' cs) => (equal_any S' S c' c cs cs w' h1 (HC.out.on h) (by unfold maxLen; omega)).mono fun e w1 (hh : e = .returned (.bool (sameC cs cs)) ∧ Below w'.heap.size w' w1) => (⟨by rw [hh.1, sameC_iff.2 rfl], hh.2⟩ : e = .returned (.bool true) ∧ Below w'.heap.size w' w1))
  have HSo := hide (fun A' d' ns w' (h2 : RowsAt w'.heap.size w' A' ns) (h3 : rowsOf ns = rowsOf hs) => (refSort_any A' d' ns w' h2 (h3 ▸ HV.out) (by have := congrArg List.length h3; rw [rowsOf_len, rowsOf_len] at this; omega)).mono fun e w1 (h : GivesRows (sortR (rowsOf ns)) w' e w1) => (h3 ▸ h : GivesRows (sortR (rowsOf hs)) w' e w1))
  have HRm := hide (fun A' d' ns w' (h2 : RowsAt w'.heap.size w' A' ns) (h3 : rowsOf ns = sortR (rowsOf hs)) => (refRows_any A' d' ns w' h2 (by have := congrArg List.length h3; rw [rowsOf_len, sortR_len, rowsOf_len] at this; omega) (fun x hx => by have := HLV.out x ((sortR_perm _).mem_iff.1 (h3 ▸ hx)); omega)).mono fun e w1 (h : GivesRows (rowsOf ns) w' e w1) => (h3 ▸ h : GivesRows (sortR (rowsOf hs)) w' e w1))
  have hV60 : (rowsOf hs).length ≤ 60 := by rw [rowsOf_len]; omega
  have hV60s : (sortR (rowsOf hs)).length ≤ 60 := by rw [sortR_len]; exact hV60
  have hff : (fullT cs (rowsOf hs) != fullT cs (rowsOf hs)) = false := by simp
  by_cases hz : checkT cs (rowsOf hs) = 0
  · have HMk2 := hide (fun w' h => (HMk.out w' h).mono fun e w1 (hh : MakeV cs (rowsOf hs) w' e w1) => (by
      obtain ⟨h1, hb⟩ := hh
      rw [if_pos hz] at h1
      obtain ⟨v, he, Sm, cm, g, capm, nm, rfl, a1, a2, a3, a4⟩ := h1
      exact ⟨⟨Sm, cm, some ⟨g, 0, none⟩, capm, nm, he, a1, a3, a4⟩, hb⟩ :
        (∃ Sm cm Am capm nm, e = .returned (.tuple #[vTab Sm cs.length cm Am (List.length nm) capm, .int .i64 0]) ∧ ColsAt w1.heap.size w1 Sm cs ∧ rowsOf nm = sortR (rowsOf hs) ∧ RowsAt w1.heap.size w1 Am nm) ∧ Below w'.heap.size w' w1))
    have HTm := hide (fun S' A' c' d' (ns : List RH) w' (h1 : ColsAt w'.heap.size w' S' cs) (h2 : RowsAt w'.heap.size w' A' ns) (h3 : rowsOf ns = sortR (rowsOf hs)) => (tabCheck_any S' A' c' d' cs ns w' h1 h2 HW.out (h3 ▸ wft_sort HV.out)).mono fun e w1 (h : e = .returned (.int .i64 (fullT cs (rowsOf ns))) ∧ Below w'.heap.size w' w1) =>
      (⟨by rw [h.1, h3, fullT_sortR hz], h.2⟩ : e = .returned (.int .i64 0) ∧ Below w'.heap.size w' w1))
    clear HMk
    rw [hz] at HCk
    clear hz
    generalize fullT cs (rowsOf hs) = full at HTc HRi hff
    go_enter Tryd.func3, Tryd.ntmps3
    go_wp2_with fail
    rw [← HWE.out]
    refine HSm.out.mono ?_
    rintro e w1 ⟨rfl, hb1⟩
    rw [HS.out]
    obtain ⟨b0, b1, bz⟩ := HBox.out _ hb1
    have HB1 := hide hb1; clear hb1
    go_wp2_with fail
    refine (HRw.out _ HB1.out).mono ?_
    rintro e w2 ⟨⟨A2, c2, n2, rfl, hA2, hn2, -⟩, hb2⟩
    have HB2 := hide (then_below HB1.out hb2)
    obtain ⟨b0', b1', bz'⟩ := HBox.out _ HB2.out
    clear b0 b1 bz hb2
    have HA2 := hide hA2; clear hA2
    go_wp2_with fail
    refine (HMk2.out _ HB2.out).mono ?_
    rintro e w3 ⟨⟨Sm, cm, Am, capm, nm, rfl, hSm, hnm, hAm⟩, hb3⟩
    have hal3 := Joins.below_alloc1 w3 (.cells #[.slice Sm cs.length cm, .slice Am nm.length capm] 26)
    have HQ3 := hide (then_below (then_below HB2.out hb3) hal3)
    have HA3 := hide ((HA2.out.on hb3).on hal3)
    have HSm3 := hide (hSm.on hal3); have HAm3 := hide (hAm.on hal3)
    have t0 : (w3.alloc (.cells #[.slice Sm cs.length cm, .slice Am nm.length capm] 26)).cell? ⟨w3.heap.size, 0, none⟩ = some (.slice Sm cs.length cm) := by simp
    have t1 : (w3.alloc (.cells #[.slice Sm cs.length cm, .slice Am nm.length capm] 26)).cell? ⟨w3.heap.size, 1, none⟩ = some (.slice Am nm.length capm) := by simp
    have tz : w3.heap.size < (w3.alloc (.cells #[.slice Sm cs.length cm, .slice Am nm.length capm] 26)).heap.size := by simp
    clear hb3 hSm hAm b0' b1' bz' HA2 HMk2 HB1 HB2
    go_wp2_with fail
    generalize hW3 : w3.alloc (.cells #[.slice Sm cs.length cm, .slice Am nm.length capm] 26) = W3 at *
    generalize w3.heap.size = P at *
    generalize hTt : w.heap.size = T at *
    have HALL := hide (fun w' (h : Below W3.heap.size W3 w') => (⟨(HBox.out _ (then_below HQ3.out h)).1, (HBox.out _ (then_below HQ3.out h)).2.1, (HBox.out _ (then_below HQ3.out h)).2.2, (h.cell (p := ⟨P, 0, none⟩) tz).trans t0, (h.cell (p := ⟨P, 1, none⟩) tz).trans t1, Nat.lt_of_lt_of_le tz h.size, h⟩ :
      w'.cell? ⟨T, 0, none⟩ = some (.slice S cs.length c) ∧ w'.cell? ⟨T, 1, none⟩ = some (.slice A hs.length cap) ∧ T < w'.heap.size ∧ w'.cell? ⟨P, 0, none⟩ = some (.slice Sm cs.length cm) ∧ w'.cell? ⟨P, 1, none⟩ = some (.slice Am nm.length capm) ∧ P < w'.heap.size ∧ Below W3.heap.size W3 w'))
    clear t0 t1 tz hW3
    go_region_held3 (fun w' => w'.cell? ⟨T, 0, none⟩ = some (.slice S cs.length c) ∧ w'.cell? ⟨T, 1, none⟩ = some (.slice A hs.length cap) ∧ T < w'.heap.size ∧ w'.cell? ⟨P, 0, none⟩ = some (.slice Sm cs.length cm) ∧ w'.cell? ⟨P, 1, none⟩ = some (.slice Am nm.length capm) ∧ P < w'.heap.size ∧ Below W3.heap.size W3 w')
      ((refine HALL.out _ ?_; first | assumption | exact (Below.refl _ _).drew | ((try go_split_ands); first | assumption | exact after_below (by assumption) (by assumption))))
      (first
        | (go_at_call 12; (try go_split_ands); refine (HTc.out _ (after_below (by assumption) HQ3.out)).mono ?_; rintro e w4 ⟨rfl, hbA⟩)
        | (go_at_call 13; (try go_split_ands); refine (HRi.out _ (after_below (by assumption) HQ3.out)).mono ?_; rintro e w5 ⟨rfl, hbB⟩)
        | (go_at_call 10; (try go_split_ands); refine (HRw.out _ (after_below (by assumption) HQ3.out)).mono ?_; rintro e w6 ⟨⟨A6, c6, n6, rfl, hA6, hn6, -⟩, hbC⟩)
        | (go_at_call 14; (try go_split_ands); refine (HSa.out _ HV.out hV60 _ _ _ _ _ _ _ hA6 (HA3.out.on (by first | assumption | exact after_below (by assumption) (by assumption))) hn6 hn2).mono ?_; rintro e w7 ⟨rfl, hbD⟩)
        | (go_at_call 16; (try go_split_ands); refine (HCp.out _ (after_below (by assumption) HQ3.out)).mono ?_; rintro e w9 ⟨⟨S9, c9, A9, d9, n9, rfl, hS9, hA9, hn9⟩, hbF⟩)
        | (go_at_call 15; (try go_split_ands); refine (HEq2.out _ _ _ _ _ _ (after_below (by first | assumption | exact after_below (by assumption) (by assumption)) HQ3.out) hS9 hA9 hn9).mono ?_; rintro e w10 ⟨rfl, hbG⟩)
        | (go_at_call 15; (try go_split_ands); refine (HEt.out _ (after_below (by assumption) HQ3.out)).mono ?_; rintro e w8 ⟨rfl, hbE⟩))
    all_goals
      go_split_ands
      go_wp2_with fail
      refine (HSch.out _ (after_below (by assumption) HQ3.out)).mono ?_
      rintro e wa ⟨⟨S5, c5, rfl, hS5⟩, hba⟩
      have hw3a : Below W3.heap.size W3 wa := after_below hba (by assumption)
      go_wp2_with fail
      refine (HCk.out _ _ _ _ _ _ hS5 (HA3.out.on hw3a) hn2).mono ?_
      rintro e wb ⟨rfl, hbb⟩
      have hw3b : Below W3.heap.size W3 wb := after_below hbb hw3a
      have ⟨q0, q1, q2, q3, q4, q5, _⟩ := HALL.out _ hw3b
      have HB := hide hw3b
      clear hbb hw3b hw3a hba hS5
      go_wp2_with fail
      refine (HEs.out _ _ _ (after_below HB.out HQ3.out) (HSm3.out.on HB.out)).mono ?_
      rintro e wc ⟨rfl, hbc⟩
      have HBc := hide (after_below hbc HB.out)
      have ⟨r0, r1, r2, r3, r4, r5, _⟩ := HALL.out _ HBc.out
      clear hbc q0 q1 q2 q3 q4 q5
      go_wp2_with fail
      refine (HRm.out _ _ _ _ (HAm3.out.on HBc.out) hnm).mono ?_
      rintro e wd ⟨⟨A6, c6, n6, rfl, hA6, hn6, -⟩, hbd⟩
      have HBd := hide (after_below hbd HBc.out)
      have HA6 := hide hA6
      have ⟨q0, q1, q2, q3, q4, q5, _⟩ := HALL.out _ HBd.out
      clear hbd hA6 r0 r1 r2 r3 r4 r5
      go_wp2_with fail
      refine (HSo.out _ _ _ _ (HA3.out.on HBd.out) hn2).mono ?_
      rintro e we ⟨⟨A7, c7, n7, rfl, hA7, hn7, -⟩, hbe⟩
      have HBe := hide (after_below hbe HBd.out)
      have HA7 := hide hA7
      have HA6e := hide (HA6.out.on hbe)
      have ⟨r0, r1, r2, r3, r4, r5, _⟩ := HALL.out _ HBe.out
      clear hbe hA7 q0 q1 q2 q3 q4 q5
      go_wp2_with fail
      refine (HSa.out _ (wft_sort HV.out) hV60s _ _ _ _ _ _ _ HA6e.out HA7.out hn6 hn7).mono ?_
      rintro e wf ⟨rfl, hbf⟩
      have HBf := hide (after_below hbf HBe.out)
      have ⟨q0, q1, q2, q3, q4, q5, _⟩ := HALL.out _ HBf.out
      clear hbf r0 r1 r2 r3 r4 r5
      go_wp2_with fail
      refine (HTm.out _ _ _ _ _ _ (HSm3.out.on HBf.out) (HAm3.out.on HBf.out) hnm).mono ?_
      rintro e wg ⟨rfl, hbg⟩
      have HBg := hide (after_below hbg HBf.out)
      clear hbg q0 q1 q2 q3 q4 q5
      have hq := hide (HL.out.trans (Below.mono (after_below HBg.out HQ3.out) HTW.out))
      go_wp2_with fail
      refine (HAw.out _ hq.out).mono ?_
      rintro e wh ⟨rfl, hbh⟩
      go_wp2_with fail
      go_ret
      have hfin := hq.out.trans (hbh.mono (Nat.le_trans HTW.out (after_below HBg.out HQ3.out).size))
      rw [← hTt] at hfin
      exact ⟨rfl, hfin⟩
  · have HMk2 := hide (fun w' h => (HMk.out w' h).mono fun e w1 (hh : MakeV cs (rowsOf hs) w' e w1) => (by
      obtain ⟨h1, hb⟩ := hh
      rw [if_neg hz] at h1
      exact ⟨h1, hb⟩ : e = .returned (.tuple #[vZero, .int .i64 (checkT cs (rowsOf hs))]) ∧ Below w'.heap.size w' w1))
    clear HMk
    have hz0 : (checkT cs (rowsOf hs) != 0) = true := by rw [bne_iff_ne]; exact hz
    have hzz : (checkT cs (rowsOf hs) == checkT cs (rowsOf hs)) = true := by simp
    clear hz
    generalize checkT cs (rowsOf hs) = z at HCk HMk2 hz0 hzz
    generalize fullT cs (rowsOf hs) = full at HTc HRi hff
    go_enter Tryd.func3, Tryd.ntmps3
    go_wp2_with fail
    rw [← HWE.out]
    refine HSm.out.mono ?_
    rintro e w1 ⟨rfl, hb1⟩
    rw [HS.out]
    obtain ⟨b0, b1, bz⟩ := HBox.out _ hb1
    have HB1 := hide hb1; clear hb1
    go_wp2_with fail
    refine (HRw.out _ HB1.out).mono ?_
    rintro e w2 ⟨⟨A2, c2, n2, rfl, hA2, hn2, -⟩, hb2⟩
    have HB2 := hide (then_below HB1.out hb2)
    obtain ⟨b0', b1', bz'⟩ := HBox.out _ HB2.out
    clear b0 b1 bz hb2
    have HA2 := hide hA2; clear hA2
    go_wp2_with fail
    refine (HMk2.out _ HB2.out).mono ?_
    rintro e w3 ⟨rfl, hb3⟩
    have hal3 := Joins.below_alloc1 w3 (.cells #[.slice none 0 0, .slice none 0 0] 26)
    have HQ3 := hide (then_below (then_below HB2.out hb3) hal3)
    have HA3 := hide ((HA2.out.on hb3).on hal3)
    have t0 : (w3.alloc (.cells #[.slice none 0 0, .slice none 0 0] 26)).cell? ⟨w3.heap.size, 0, none⟩ = some (.slice none 0 0) := by simp
    have t1 : (w3.alloc (.cells #[.slice none 0 0, .slice none 0 0] 26)).cell? ⟨w3.heap.size, 1, none⟩ = some (.slice none 0 0) := by simp
    have tz : w3.heap.size < (w3.alloc (.cells #[.slice none 0 0, .slice none 0 0] 26)).heap.size := by simp
    clear hb3 b0' b1' bz' HA2 HMk2 HB1 HB2
    go_wp2_with fail
    generalize hW3 : w3.alloc (.cells #[.slice none 0 0, .slice none 0 0] 26) = W3 at *
    generalize w3.heap.size = P at *
    generalize hTt : w.heap.size = T at *
    have HALL := hide (fun w' (h : Below W3.heap.size W3 w') => (⟨(HBox.out _ (then_below HQ3.out h)).1, (HBox.out _ (then_below HQ3.out h)).2.1, (HBox.out _ (then_below HQ3.out h)).2.2, (h.cell (p := ⟨P, 0, none⟩) tz).trans t0, (h.cell (p := ⟨P, 1, none⟩) tz).trans t1, Nat.lt_of_lt_of_le tz h.size, h⟩ :
      w'.cell? ⟨T, 0, none⟩ = some (.slice S cs.length c) ∧ w'.cell? ⟨T, 1, none⟩ = some (.slice A hs.length cap) ∧ T < w'.heap.size ∧ w'.cell? ⟨P, 0, none⟩ = some (.slice none 0 0) ∧ w'.cell? ⟨P, 1, none⟩ = some (.slice none 0 0) ∧ P < w'.heap.size ∧ Below W3.heap.size W3 w'))
    clear t0 t1 tz hW3
    go_region_held3 (fun w' => w'.cell? ⟨T, 0, none⟩ = some (.slice S cs.length c) ∧ w'.cell? ⟨T, 1, none⟩ = some (.slice A hs.length cap) ∧ T < w'.heap.size ∧ w'.cell? ⟨P, 0, none⟩ = some (.slice none 0 0) ∧ w'.cell? ⟨P, 1, none⟩ = some (.slice none 0 0) ∧ P < w'.heap.size ∧ Below W3.heap.size W3 w')
      ((refine HALL.out _ ?_; first | assumption | exact (Below.refl _ _).drew | ((try go_split_ands); first | assumption | exact after_below (by assumption) (by assumption))))
      (first
        | (go_at_call 12; (try go_split_ands); refine (HTc.out _ (after_below (by assumption) HQ3.out)).mono ?_; rintro e w4 ⟨rfl, hbA⟩)
        | (go_at_call 13; (try go_split_ands); refine (HRi.out _ (after_below (by assumption) HQ3.out)).mono ?_; rintro e w5 ⟨rfl, hbB⟩)
        | (go_at_call 10; (try go_split_ands); refine (HRw.out _ (after_below (by assumption) HQ3.out)).mono ?_; rintro e w6 ⟨⟨A6, c6, n6, rfl, hA6, hn6, -⟩, hbC⟩)
        | (go_at_call 14; (try go_split_ands); refine (HSa.out _ HV.out hV60 _ _ _ _ _ _ _ hA6 (HA3.out.on (by first | assumption | exact after_below (by assumption) (by assumption))) hn6 hn2).mono ?_; rintro e w7 ⟨rfl, hbD⟩)
        | (go_at_call 16; (try go_split_ands); refine (HCp.out _ (after_below (by assumption) HQ3.out)).mono ?_; rintro e w9 ⟨⟨S9, c9, A9, d9, n9, rfl, hS9, hA9, hn9⟩, hbF⟩)
        | (go_at_call 15; (try go_split_ands); refine (HEq2.out _ _ _ _ _ _ (after_below (by first | assumption | exact after_below (by assumption) (by assumption)) HQ3.out) hS9 hA9 hn9).mono ?_; rintro e w10 ⟨rfl, hbG⟩)
        | (go_at_call 15; (try go_split_ands); refine (HEt.out _ (after_below (by assumption) HQ3.out)).mono ?_; rintro e w8 ⟨rfl, hbE⟩))
    all_goals
      go_split_ands
      go_wp2_with fail
      refine (HSch.out _ (after_below (by assumption) HQ3.out)).mono ?_
      rintro e wa ⟨⟨S5, c5, rfl, hS5⟩, hba⟩
      have hw3a : Below W3.heap.size W3 wa := after_below hba (by assumption)
      go_wp2_with fail
      refine (HCk.out _ _ _ _ _ _ hS5 (HA3.out.on hw3a) hn2).mono ?_
      rintro e wb ⟨rfl, hbb⟩
      have hw3b : Below W3.heap.size W3 wb := after_below hbb hw3a
      have ⟨q0, q1, q2, q3, q4, q5, _⟩ := HALL.out _ hw3b
      have HB := hide hw3b
      clear hbb hw3b hw3a hba hS5
      go_wp2_with fail
      refine (empty_zero _).mono ?_
      rintro e wc ⟨rfl, hbc⟩
      have HBg := hide (after_below hbc HB.out)
      clear hbc q0 q1 q2 q3 q4 q5
      have hq := hide (HL.out.trans (Below.mono (after_below HBg.out HQ3.out) HTW.out))
      go_wp2_with fail
      refine (HAw.out _ hq.out).mono ?_
      rintro e wh ⟨rfl, hbh⟩
      go_wp2_with fail
      go_ret
      have hfin := hq.out.trans (hbh.mono (Nat.le_trans HTW.out (after_below HBg.out HQ3.out).size))
      rw [← hTt] at hfin
      exact ⟨rfl, hfin⟩
end Go.Proofs.YtaoeofnfmlckiaaDoor.tableMakes
