/-
  The walk of TableShows.
-/
import Derived.Test.YtfjhdfpdgjjcgaaGreatDoorTParsesW
namespace Go.Proofs.YtfjhdfpdgjjcgaaGreatDoor.tableShows
open Go.RowKit

theorem showX_len {cs : List (ByteArray × Int)} {rs : R3} (hf : fullT cs rs = 0) (hw : WfT rs) (hl : rs.length ≤ 60) : (showX cs rs).length ≤ 200000 := by
  have hz := checkT_zero (fullT_zero hf).1
  have hc := (checkC_ok hz.1).2.1
  have h1 := showK_len (check_names hz.1) cs.length
  have h2 := linesX_len (rs := rs) (fun r hr => ⟨hw.2 r hr, fits_len (fullT_zero hf).1 r hr⟩)
  unfold showX showC
  simp only [List.length_append, List.length_singleton]
  omega

set_option maxHeartbeats 6400000 in
set_option maxRecDepth 100000 in
theorem tableShows_walk (S : Option Addr) (c : Nat) (cs : List (ByteArray × Int)) (A : Option Addr) (cap : Nat) (hs : List RH) (w : World)
    (hC : ColsAt w.heap.size w S cs) (hw : Wf cs) (_hn : S = none → c = 0) (hR : RowsAt w.heap.size w A hs) (hv : WfT (rowsOf hs)) (_hnA : A = none → cap = 0) (hT : Tab w) (hE : Errs w) (hM : Mx w) :
    Calls Tryz.prog 4 #[vTab S cs.length c A hs.length cap] w fun e w' => e = .returned (.bool true) ∧ Below w.heap.size w w' := by
  have hal := boxW_below w (.slice S cs.length c) (.slice A hs.length cap)
  have HBox := hide (fun w' => boxW_at (w := w) (a := .slice S cs.length c) (b := .slice A hs.length cap) (w' := w'))
  have HWE := hide (show boxW w (.slice S cs.length c) (.slice A hs.length cap) = w.alloc (.cells #[.slice S cs.length c, .slice A hs.length cap] 26) from rfl)
  have HC := hide (hC.on hal); have HR := hide (hR.on hal)
  generalize boxW w (.slice S cs.length c) (.slice A hs.length cap) = W at *
  have HL := hide hal; have HW := hide hw; have HV := hide hv
  have HAw := hide (aw_later hT)
  have HT := hide hT; have HE := hide hE; have HM := hide hM
  have HSm := hide (small_any S A c cap cs hs W HC.out HR.out hw hv)
  clear hC hw hR hv hT hal hE hM
  cases hsm : smallT cs (rowsOf hs)
  · have HS := hide hsm; clear hsm
    go_enter Tryz.func4, Tryz.ntmps4
    go_wp2_with fail
    rw [← HWE.out]
    refine HSm.out.mono ?_
    rintro e w1 ⟨rfl, hb1⟩
    rw [HS.out]
    have hq1 := then_below HL.out hb1
    go_wp2_with (go_at_call 7; refine (HAw.out _ hq1).mono ?_; rintro e wa ⟨rfl, hba⟩)
    go_ret
    exact ⟨rfl, then_below hq1 hba⟩
  obtain ⟨hlc, hlr, hlv⟩ := smallT_yes hsm
  rw [rowsOf_len] at hlr
  have HS := hide hsm; have HLV := hide hlv; clear hsm hlv
  obtain ⟨l, hl⟩ : ∃ l, l = if fullT cs (rowsOf hs) = 0 then showX cs (rowsOf hs) else [] := ⟨_, rfl⟩
  have hll : l.length ≤ 200000 := by
    rw [hl]
    by_cases hf : fullT cs (rowsOf hs) = 0
    · rw [if_pos hf]; exact showX_len hf HV.out (by rw [rowsOf_len]; exact hlr)
    · rw [if_neg hf]; simp
  have HSh := hide (fun w' (h : Below W.heap.size W w') => (tabShow_any S A c cap cs hs w' (HC.out.on h) (HR.out.on h) HW.out HV.out (HT.out.stays (then_below HL.out h) (Nat.le_refl _))).mono fun e w1 (hh : e = .returned (.string ⟨(if fullT cs (rowsOf hs) = 0 then showX cs (rowsOf hs) else []).toArray⟩) ∧ Below w'.heap.size w' w1) => (⟨by rw [hh.1, ← hl], hh.2⟩ : e = .returned (.string ⟨l.toArray⟩) ∧ Below w'.heap.size w' w1))
  have HDg := hide (fun w' (h : Below W.heap.size W w') => tabDigest_any S A c cap cs hs l w' (HC.out.on h) (HR.out.on h) HW.out HV.out (HT.out.stays (then_below HL.out h) (Nat.le_refl _)) hl (by unfold maxLen; omega))
  have HRd := hide (fun w' => refDigest_any ⟨l.toArray⟩ w' (by rw [size_of]; unfold maxLen; omega))
  rw [list_of] at HRd
  generalize digL l = z at HDg HRd
  have HRi := hide (fun w' (h : Below W.heap.size W w') => right_any' S A c cap cs hs w' (HC.out.on h) (HR.out.on h) HW.out HV.out (by omega) (by omega) (fun x hx => by have := HLV.out x hx; omega))
  by_cases hf : fullT cs (rowsOf hs) = 0
  · have hk0 : (fullT cs (rowsOf hs) != 0) = false := by rw [bne_eq_false_iff_eq]; exact hf
    have hI : ∀ r ∈ rowsOf hs, ∀ v ∈ r, I64 v.1 ∧ I64 v.2.1 := fun r hr v hv' => valWf_i64 ((HV.out.2 r hr).2 v hv')
    have hps : parseT l = some (cs, rowsOf hs) := by rw [hl, if_pos hf, showX_T]; exact parseT_show hf hI
    have hgd := (parseT_sound hps).2.2
    have HPs := hide (fun w' (h : Below W.heap.size W w') => parseT_any ⟨l.toArray⟩ w' (by rw [size_of]; omega) (HT.out.stays (then_below HL.out h) (Nat.le_refl _)) (HE.out.stays (then_below HL.out h) (Nat.le_refl _)) (HM.out.stays (then_below HL.out h)))
    rw [list_of, hps] at HPs
    rw [if_pos hf] at hl
    have HGD := hide hgd; have HF := hide hf; have HLl := hide hl
    have htt : ((⟨l.toArray⟩ : ByteArray).toList == (⟨l.toArray⟩ : ByteArray).toList) = true := by simp
    rw [hf] at HRi
    clear hI hps hgd hf hl hk0
    go_enter Tryz.func4, Tryz.ntmps4
    go_wp2_with fail
    rw [← HWE.out]
    refine HSm.out.mono ?_
    rintro e w1 ⟨rfl, hb1⟩
    rw [HS.out]
    have HB1 := hide hb1
    obtain ⟨b0, b1, bz⟩ := HBox.out _ HB1.out
    clear hb1
    go_wp2_with fail
    refine (HSh.out _ HB1.out).mono ?_
    rintro e w2 ⟨rfl, hb2⟩
    have HB2 := hide (then_below HB1.out hb2)
    clear hb2 b0 b1 bz
    obtain ⟨b0, b1, bz⟩ := HBox.out _ HB2.out
    go_wp2_with fail
    refine (HDg.out _ HB2.out).mono ?_
    rintro e w3 ⟨rfl, hb3⟩
    have HB3 := hide (then_below HB2.out hb3)
    clear hb3 b0 b1 bz
    go_wp2_with fail
    refine (HRd.out _).mono ?_
    rintro e w4 ⟨rfl, hb4⟩
    have HB4 := hide (then_below HB3.out hb4)
    clear hb4
    obtain ⟨b0, b1, bz⟩ := HBox.out _ HB4.out
    go_wp2_with fail
    refine (HRi.out _ HB4.out).mono ?_
    rintro e w5 ⟨rfl, hb5⟩
    have HB5 := hide (then_below HB4.out hb5)
    clear hb5 b0 b1 bz
    go_wp2_with fail
    refine (HPs.out _ HB5.out).mono ?_
    rintro e w6 ⟨⟨S', c', A', cap', ns, rfl, hS, hA, hns⟩, hb6⟩
    simp only at hS hns
    have HB6 := hide (then_below HB5.out hb6)
    have hbP : TabBox (w6.alloc (.cells #[.slice S' cs.length c', .slice A' ns.length cap'] 26)) w6.heap.size (.slice S' cs.length c') (.slice A' ns.length cap') := heap_alloc_new w6 _
    have hb7 : Below w6.heap.size w6 (w6.alloc (.cells #[.slice S' cs.length c', .slice A' ns.length cap'] 26)) := Joins.below_alloc1 w6 _
    have HQ4 := hide (then_below HB6.out hb7)
    have hS4 := hide (hS.on hb7); have hA4 := hide (hA.on hb7); have HNS := hide hns
    have hPz : w6.heap.size < (w6.alloc (.cells #[.slice S' cs.length c', .slice A' ns.length cap'] 26)).heap.size := by simp
    clear hS hA hb6 hb7 hns
    obtain ⟨b0, b1, bz⟩ := HBox.out _ HQ4.out
    go_wp2_with fail
    generalize w6.alloc (.cells #[.slice S' cs.length c', .slice A' ns.length cap'] 26) = W4 at *
    generalize w6.heap.size = P at *
    have HBP := hide hbP; have HPZ := hide hPz
    have HSc := hide (fun w' (h : Below W4.heap.size W4 w') => refSchema_any S c cs w' (HC.out.on (then_below HQ4.out h)) (by omega))
    have HRw := hide (fun w' (h : Below W4.heap.size W4 w') => refRows_any A cap hs w' (HR.out.on (then_below HQ4.out h)) (by omega) (fun x hx => by have := HLV.out x hx; omega))
    have HSw := hide (fun S' A' c' d' ms w' h1 h2 h3 => refShow_copy S' A' c' d' cs ms (rowsOf hs) ⟨l.toArray⟩ w' HF.out HGD.out HV.out (by rw [list_of, HLl.out]) h1 h2 h3)
    have HEq := hide (fun w' (h : Below W4.heap.size W4 w') => (tabEqual_any S' A' S A c' cap' c cap cs cs ns hs w' (hS4.out.on h) (hA4.out.on h) (HC.out.on (then_below HQ4.out h)) (HR.out.on (then_below HQ4.out h)) (by unfold maxLen; omega) HV.out).mono fun e w1 hh => (⟨by rw [hh.1, HNS.out, sameC_iff.2 rfl, sameRs_self]; rfl, hh.2⟩ : e = .returned (.bool true) ∧ Below w'.heap.size w' w1))
    have HAw2 := hide (fun w' (h : Below W4.heap.size W4 w') => HAw.out w' (then_below HL.out (then_below HQ4.out h)))
    have HALL := hide (fun w' (h : Below W4.heap.size W4 w') => (⟨(HBox.out _ (then_below HQ4.out h)).1, (HBox.out _ (then_below HQ4.out h)).2.1, (HBox.out _ (then_below HQ4.out h)).2.2, (HBP.out.kept h HPZ.out).facts.1, (HBP.out.kept h HPZ.out).facts.2.1, (HBP.out.kept h HPZ.out).facts.2.2.2.2, h⟩ :
      w'.cell? ⟨w.heap.size, 0, none⟩ = some (.slice S cs.length c) ∧ w'.cell? ⟨w.heap.size, 1, none⟩ = some (.slice A hs.length cap) ∧ w.heap.size < w'.heap.size ∧ w'.cell? ⟨P, 0, none⟩ = some (.slice S' cs.length c') ∧ w'.cell? ⟨P, 1, none⟩ = some (.slice A' ns.length cap') ∧ P < w'.heap.size ∧ Below W4.heap.size W4 w'))
    clear hbP hPz HF HGD HV HW HLl HPs HRi HRd HDg HSh HSm HS HB1 HB2 HB3 HB4 HB5 HB6 HLV HC HR HNS hS4 hA4 HT HE HM b0 b1 bz
    have ⟨b0, b1, bz, d0, d1, dz, _⟩ := HALL.out _ (Below.refl _ _)
    go_region_held3 (fun w' => w'.cell? ⟨w.heap.size, 0, none⟩ = some (.slice S cs.length c) ∧ w'.cell? ⟨w.heap.size, 1, none⟩ = some (.slice A hs.length cap) ∧ w.heap.size < w'.heap.size ∧ w'.cell? ⟨P, 0, none⟩ = some (.slice S' cs.length c') ∧ w'.cell? ⟨P, 1, none⟩ = some (.slice A' ns.length cap') ∧ P < w'.heap.size ∧ Below W4.heap.size W4 w')
      ((refine HALL.out _ ?_; first | with_reducible assumption | exact Below.refl _ _ | exact (Below.refl _ _).drew | ((try go_split_ands); first | with_reducible assumption | with_reducible exact after_below hbE (by with_reducible assumption) | with_reducible exact after_below hbD (by with_reducible assumption) | with_reducible exact after_below hbC (by with_reducible assumption) | with_reducible exact after_below hbA (by with_reducible assumption) | with_reducible exact after_below hbB (by with_reducible assumption))))
      (first
        | (go_at_call 23; (try go_split_ands); refine (HSc.out _ (by with_reducible assumption)).mono ?_; rintro e w5 ⟨⟨A1, c1, rfl, hA1⟩, hbA⟩)
        | (go_at_call 12; (try go_split_ands); refine (HRw.out _ (by with_reducible assumption)).mono ?_; rintro e w6 ⟨⟨A2, c2, ms, rfl, hA2, hms, -⟩, hbB⟩)
        | (go_at_call 22; (try go_split_ands); refine (HSw.out _ _ _ _ _ _ (by first | with_reducible assumption | with_reducible exact hA1.on hbB) (by first | with_reducible assumption | with_reducible exact hA2.on hbA) (by with_reducible assumption)).mono ?_; rintro e w7 ⟨rfl, hbC⟩)
        | (go_at_call 13; (try go_split_ands); refine (HEq.out _ (by with_reducible assumption)).mono ?_; rintro e w8 ⟨rfl, hbD⟩)
        | (go_at_call 7; (try go_split_ands); refine (HAw2.out _ (by with_reducible assumption)).mono ?_; rintro e w9 ⟨rfl, hbE⟩))
    all_goals
      go_split_ands
      have hfin := then_below HL.out (then_below HQ4.out (by with_reducible assumption))
      go_wp2_with fail
      go_ret
      exact ⟨rfl, hfin⟩
  · have hk0 : (fullT cs (rowsOf hs) != 0) = true := by rw [bne_iff_ne]; exact hf
    rw [if_neg hf] at hl
    subst hl
    clear hf hll
    generalize fullT cs (rowsOf hs) = ft at hk0 HRi
    go_enter Tryz.func4, Tryz.ntmps4
    go_wp2_with fail
    rw [← HWE.out]
    refine HSm.out.mono ?_
    rintro e w1 ⟨rfl, hb1⟩
    rw [HS.out]
    have HB1 := hide hb1
    obtain ⟨b0, b1, bz⟩ := HBox.out _ HB1.out
    clear hb1
    go_wp2_with fail
    refine (HSh.out _ HB1.out).mono ?_
    rintro e w2 ⟨rfl, hb2⟩
    have HB2 := hide (then_below HB1.out hb2)
    clear hb2 b0 b1 bz
    obtain ⟨b0, b1, bz⟩ := HBox.out _ HB2.out
    go_wp2_with fail
    refine (HDg.out _ HB2.out).mono ?_
    rintro e w3 ⟨rfl, hb3⟩
    have HB3 := hide (then_below HB2.out hb3)
    clear hb3 b0 b1 bz
    go_wp2_with fail
    refine (HRd.out _).mono ?_
    rintro e w4 ⟨rfl, hb4⟩
    have HB4 := hide (then_below HB3.out hb4)
    clear hb4
    obtain ⟨b0, b1, bz⟩ := HBox.out _ HB4.out
    go_wp2_with fail
    refine (HRi.out _ HB4.out).mono ?_
    rintro e w5 ⟨rfl, hb5⟩
    have HB5 := hide (then_below HL.out (then_below HB4.out hb5))
    clear hb5 b0 b1 bz
    go_wp2_with fail
    refine (HAw.out _ HB5.out).mono ?_
    rintro e wa ⟨rfl, hba⟩
    go_wp2_with fail
    go_ret
    exact ⟨rfl, then_below HB5.out hba⟩
end Go.Proofs.YtfjhdfpdgjjcgaaGreatDoor.tableShows
