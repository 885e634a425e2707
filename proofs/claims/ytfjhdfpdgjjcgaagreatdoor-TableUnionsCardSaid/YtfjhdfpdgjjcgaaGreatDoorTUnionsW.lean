/-
  The walk of TableUnions, by the good way's.
-/
import Derived.Test.YtfjhdfpdgjjcgaaGreatDoorTUnionsG
namespace Go.Proofs.YtfjhdfpdgjjcgaaGreatDoor.tableUnions
open Go.RowKit

set_option maxHeartbeats 6400000 in
set_option maxRecDepth 100000 in
theorem tableUnions_walk (S : Option Addr) (c : Nat) (cs : List (ByteArray × Int)) (A : Option Addr) (cap : Nat) (hs : List RH) (S2 : Option Addr) (c2 : Nat) (ds : List (ByteArray × Int)) (A2 : Option Addr) (cap2 : Nat) (gs : List RH)
    (B : Option Addr) (d : Nat) (r : List (Int × Int × ByteArray)) (w : World)
    (hC : ColsAt w.heap.size w S cs) (hw : Wf cs) (hn : S = none → c = 0) (hR : RowsAt w.heap.size w A hs) (hv : WfT (rowsOf hs)) (hnA : A = none → cap = 0)
    (hC2 : ColsAt w.heap.size w S2 ds) (hw2 : Wf ds) (hn2 : S2 = none → c2 = 0) (hR2 : RowsAt w.heap.size w A2 gs) (hv2 : WfT (rowsOf gs)) (hnA2 : A2 = none → cap2 = 0)
    (hr : RowAt w.heap.size w B r) (hwr : WfR r) (hnr : B = none → d = 0) (hT : Tab w) : Done S A S2 A2 B c cap c2 cap2 d cs ds hs gs r w := by
  by_cases hgd : fullT cs (rowsOf hs) = 0 ∧ fullT ds (rowsOf gs) = 0 ∧ sameC cs ds = true
  · exact tableUnions_good S c cs A cap hs S2 c2 ds A2 cap2 gs B d r w hC hw hn hR hv hnA hC2 hw2 hn2 hR2 hv2 hnA2 hr hwr hnr hT hgd.1 hgd.2.1 hgd.2.2
  have HGD := hide hgd; clear hgd
  have hal : Below w.heap.size w (box2W w (.slice S cs.length c) (.slice A hs.length cap) (.slice S2 ds.length c2) (.slice A2 gs.length cap2)) := Joins.below_alloc2 w _ _
  have HAt := hide (fun w' => box2W_at (w := w) (a := .slice S cs.length c) (b := .slice A hs.length cap) (a' := .slice S2 ds.length c2) (b' := .slice A2 gs.length cap2) (w' := w'))
  have HWE := hide (show box2W w (.slice S cs.length c) (.slice A hs.length cap) (.slice S2 ds.length c2) (.slice A2 gs.length cap2) = (w.alloc (.cells #[.slice S cs.length c, .slice A hs.length cap] 26)).alloc (.cells #[.slice S2 ds.length c2, .slice A2 gs.length cap2] 26) from rfl)
  have HC := hide (hC.on hal); have HR := hide (hR.on hal); have HC2 := hide (hC2.on hal); have HR2 := hide (hR2.on hal); have HRr := hide (hr.on hal)
  generalize box2W w (.slice S cs.length c) (.slice A hs.length cap) (.slice S2 ds.length c2) (.slice A2 gs.length cap2) = W at *
  have HL := hide hal; have HW := hide hw; have HV := hide hv; have HW2 := hide hw2; have HV2 := hide hv2; have HWr := hide hwr
  have HN := hide hn; have HN2 := hide hn2; have HNA := hide hnA; have HNA2 := hide hnA2; have HNr := hide hnr
  have HAw := hide (aw_later hT)
  have HTW := hide hal.size
  have HSm := hide (small_any S A c cap cs hs W HC.out HR.out hw hv)
  have HSm2 := hide (fun w' (h : Below W.heap.size W w') => small_any S2 A2 c2 cap2 ds gs w' (HC2.out.on h) (HR2.out.on h) HW2.out HV2.out)
  clear hC hw hR hv hT hal hn hC2 hw2 hn2 hR2 hv2 hnA hnA2 hr hwr hnr
  cases hsm : smallT cs (rowsOf hs)
  · have HS := hide hsm; clear hsm
    go_enter Tryz.func3, Tryz.ntmps3
    go_wp2_with fail
    rw [← HWE.out]
    refine HSm.out.mono ?_
    rintro e w1 ⟨rfl, hb1⟩
    rw [HS.out]
    have hq1 := then_below HL.out hb1
    go_wp2_with (go_at_call 7; refine (HAw.out _ hq1).mono ?_; rintro e wa ⟨rfl, hba⟩)
    go_ret
    exact ⟨rfl, then_below hq1 hba⟩
  cases hsm2 : smallT ds (rowsOf gs)
  · have HS := hide hsm; have HS2 := hide hsm2; clear hsm hsm2
    go_enter Tryz.func3, Tryz.ntmps3
    go_wp2_with fail
    rw [← HWE.out]
    refine HSm.out.mono ?_
    rintro e w1 ⟨rfl, hb1⟩
    rw [HS.out]
    obtain ⟨a0, a1, a2, a3, hz1⟩ := HAt.out _ hb1
    have HB1 := hide hb1; clear hb1
    go_wp2_with fail
    refine (HSm2.out _ HB1.out).mono ?_
    rintro e w2 ⟨rfl, hb2⟩
    rw [HS2.out]
    have hq2 := then_below (then_below HL.out HB1.out) hb2
    go_wp2_with (go_at_call 7; refine (HAw.out _ hq2).mono ?_; rintro e wa ⟨rfl, hba⟩)
    go_ret
    exact ⟨rfl, then_below hq2 hba⟩
  by_cases hr20 : (20 : Int) < (r.length : Int)
  · have HS := hide hsm; have HS2 := hide hsm2; clear hsm hsm2
    go_enter Tryz.func3, Tryz.ntmps3
    go_wp2_with fail
    rw [← HWE.out]
    refine HSm.out.mono ?_
    rintro e w1 ⟨rfl, hb1⟩
    rw [HS.out]
    obtain ⟨a0, a1, a2, a3, hz1⟩ := HAt.out _ hb1
    have HB1 := hide hb1; clear hb1
    go_wp2_with fail
    refine (HSm2.out _ HB1.out).mono ?_
    rintro e w2 ⟨rfl, hb2⟩
    rw [HS2.out]
    have hq2 := then_below (then_below HL.out HB1.out) hb2
    go_wp2_with (go_at_call 7; refine (HAw.out _ hq2).mono ?_; rintro e wa ⟨rfl, hba⟩)
    go_ret
    exact ⟨rfl, then_below hq2 hba⟩
  obtain ⟨hlc, hlr, hlv⟩ := smallT_yes hsm
  obtain ⟨hlc2, hlr2, hlv2⟩ := smallT_yes hsm2
  rw [rowsOf_len] at hlr hlr2
  have HS := hide hsm; have HS2 := hide hsm2; have HLV := hide hlv; have HLV2 := hide hlv2; clear hsm hsm2 hlv hlv2
  have HRi := hide (fun w' (h : Below W.heap.size W w') => right_any' S A c cap cs hs w' (HC.out.on h) (HR.out.on h) HW.out HV.out (by omega) (by omega) (fun x hx => by have := HLV.out x hx; omega))
  have HRi2 := hide (fun w' (h : Below W.heap.size W w') => right_any' S2 A2 c2 cap2 ds gs w' (HC2.out.on h) (HR2.out.on h) HW2.out HV2.out (by omega) (by omega) (fun x hx => by have := HLV2.out x hx; omega))
  have HEq := hide (fun w' (h : Below W.heap.size W w') => equal_any S S2 c c2 cs ds w' (HC.out.on h) (HC2.out.on h) (by unfold maxLen; omega))
  have HUn := hide (fun w' (h : Below W.heap.size W w') => union_any S A S2 A2 c cap c2 cap2 cs ds hs gs w' (HC.out.on h) HN.out (HR.out.on h) HNA.out HW.out HV.out (by omega) (by omega) (fun x hx => by have := HLV.out x hx; omega)
    (HC2.out.on h) (HR2.out.on h) HNA2.out HW2.out HV2.out (by omega) (by omega) (fun x hx => by have := HLV2.out x hx; omega))
  have HUn2 := hide (fun w' (h : Below W.heap.size W w') => union_any S2 A2 S A c2 cap2 c cap ds cs gs hs w' (HC2.out.on h) HN2.out (HR2.out.on h) HNA2.out HW2.out HV2.out (by omega) (by omega) (fun x hx => by have := HLV2.out x hx; omega)
    (HC.out.on h) (HR.out.on h) HNA.out HW.out HV.out (by omega) (by omega) (fun x hx => by have := HLV.out x hx; omega))
  by_cases hf : fullT cs (rowsOf hs) = 0
  · by_cases hg : fullT ds (rowsOf gs) = 0
    · cases hsc : sameC cs ds
      · have HUnE := hide (fun w' h => (HUn.out w' h).mono fun e w1 (hh : UnionV cs ds (rowsOf hs) (rowsOf gs) w' e w1) => (by
          obtain ⟨h1, hb⟩ := hh
          have hE : unionE cs ds (rowsOf hs) (rowsOf gs) = 12 := by unfold unionE; rw [if_pos hf, if_pos hg, hsc]; rfl
          rw [hE, if_neg (by decide)] at h1
          exact ⟨h1, hb⟩ : e = .returned (.tuple #[vZero, .int .i64 12]) ∧ Below w'.heap.size w' w1))
        rw [hf] at HRi
        rw [hg] at HRi2
        rw [hsc] at HEq
        clear hf hg hsc
        go_enter Tryz.func3, Tryz.ntmps3
        go_wp2_with fail
        rw [← HWE.out]
        refine HSm.out.mono ?_
        rintro e w1 ⟨rfl, hb1⟩
        rw [HS.out]
        obtain ⟨a0, a1, a2, a3, hz1⟩ := HAt.out _ hb1
        have HB1 := hide hb1; clear hb1
        go_wp2_with fail
        refine (HSm2.out _ HB1.out).mono ?_
        rintro e w2 ⟨rfl, hb2⟩
        rw [HS2.out]
        have HB2 := hide (then_below HB1.out hb2)
        clear hb2 a0 a1 a2 a3 hz1
        obtain ⟨a0, a1, a2, a3, hz1⟩ := HAt.out _ HB2.out
        go_wp2_with fail
        refine (HUnE.out _ HB2.out).mono ?_
        rintro e w3 ⟨rfl, hb3⟩
        have hal3 := Joins.below_alloc1 w3 (.cells #[.slice none 0 0, .slice none 0 0] 26)
        have HQ3 := hide (then_below (then_below HB2.out hb3) hal3)
        have t0 : (w3.alloc (.cells #[.slice none 0 0, .slice none 0 0] 26)).cell? ⟨w3.heap.size, 0, none⟩ = some (.slice none 0 0) := by simp
        have t1 : (w3.alloc (.cells #[.slice none 0 0, .slice none 0 0] 26)).cell? ⟨w3.heap.size, 1, none⟩ = some (.slice none 0 0) := by simp
        have tz : w3.heap.size < (w3.alloc (.cells #[.slice none 0 0, .slice none 0 0] 26)).heap.size := by simp
        clear hb3 a0 a1 a2 a3 hz1
        obtain ⟨a0, a1, a2, a3, hz1⟩ := HAt.out _ HQ3.out
        go_wp2_with fail
        generalize w3.alloc (.cells #[.slice none 0 0, .slice none 0 0] 26) = W3 at *
        generalize w3.heap.size = P at *
        have HT0 := hide t0; have HT1 := hide t1; have HTZ := hide tz
        have HX3 := hide (Below.refl W3.heap.size W3)
        clear t0 t1 tz hal3
        refine (HRi.out _ HQ3.out).mono ?_
        rintro e w4 ⟨rfl, hb4⟩
        clear a0 a1 a2 a3 hz1
        have HX4 := hide (after_below hb4 HX3.out)
        clear hb4
        obtain ⟨a0, a1, a2, a3, hz1⟩ := HAt.out _ (after_below HX4.out HQ3.out)
        have b0 := (HX4.out.cell (p := ⟨P, 0, none⟩) HTZ.out).trans HT0.out
        have b1 := (HX4.out.cell (p := ⟨P, 1, none⟩) HTZ.out).trans HT1.out
        have bz := Nat.lt_of_lt_of_le HTZ.out HX4.out.size
        go_wp2_with fail
        clear a0 a1 a2 a3 hz1 b0 b1 bz
        refine (HRi2.out _ (after_below HX4.out HQ3.out)).mono ?_
        rintro e w5 ⟨rfl, hb5⟩
        have HX5 := hide (after_below hb5 HX4.out)
        clear hb5
        obtain ⟨a0, a1, a2, a3, hz1⟩ := HAt.out _ (after_below HX5.out HQ3.out)
        have b0 := (HX5.out.cell (p := ⟨P, 0, none⟩) HTZ.out).trans HT0.out
        have b1 := (HX5.out.cell (p := ⟨P, 1, none⟩) HTZ.out).trans HT1.out
        have bz := Nat.lt_of_lt_of_le HTZ.out HX5.out.size
        go_wp2_with fail
        clear a0 a1 a2 a3 hz1 b0 b1 bz
        refine (HEq.out _ (after_below HX5.out HQ3.out)).mono ?_
        rintro e w6 ⟨rfl, hb6⟩
        have HX6 := hide (after_below hb6 HX5.out)
        clear hb6
        obtain ⟨a0, a1, a2, a3, hz1⟩ := HAt.out _ (after_below HX6.out HQ3.out)
        have b0 := (HX6.out.cell (p := ⟨P, 0, none⟩) HTZ.out).trans HT0.out
        have b1 := (HX6.out.cell (p := ⟨P, 1, none⟩) HTZ.out).trans HT1.out
        have bz := Nat.lt_of_lt_of_le HTZ.out HX6.out.size
        go_wp2_with fail
        have HXL := hide HX6.out
        refine (empty_zero _).mono ?_
        rintro e w8 ⟨rfl, hb8⟩
        have hq := hide (HL.out.trans (Below.mono (after_below (after_below hb8 HXL.out) HQ3.out) HTW.out))
        have hsz := hide (Nat.le_trans HTW.out (after_below (after_below hb8 HXL.out) HQ3.out).size)
        clear hb8 a0 a1 a2 a3 hz1 b0 b1 bz
        go_wp2_with fail
        refine (HAw.out _ hq.out).mono ?_
        rintro e wh ⟨rfl, hbh⟩
        go_wp2_with fail
        go_ret
        exact ⟨rfl, hq.out.trans (hbh.mono hsz.out)⟩
      · exact absurd ⟨hf, hg, hsc⟩ HGD.out
    · have hk0 : (fullT ds (rowsOf gs) == 0) = false := by rw [beq_eq_false_iff_ne]; exact hg
      have hk1 : (fullT ds (rowsOf gs) != 0) = true := by rw [bne_iff_ne]; exact hg
      have hzz : (fullT ds (rowsOf gs) == fullT ds (rowsOf gs)) = true := by simp
      have HUnE := hide (fun w' h => (HUn.out w' h).mono fun e w1 (hh : UnionV cs ds (rowsOf hs) (rowsOf gs) w' e w1) => (by
        obtain ⟨h1, hb⟩ := hh
        have hE : unionE cs ds (rowsOf hs) (rowsOf gs) = (fullT ds (rowsOf gs)) := by unfold unionE; rw [if_pos hf, if_neg hg]
        rw [hE, if_neg hg] at h1
        exact ⟨h1, hb⟩ : e = .returned (.tuple #[vZero, .int .i64 (fullT ds (rowsOf gs))]) ∧ Below w'.heap.size w' w1))
      rw [hf] at HRi
      clear hf hg
      generalize fullT ds (rowsOf gs) = z at hk0 hk1 hzz HUnE HRi2
      go_enter Tryz.func3, Tryz.ntmps3
      go_wp2_with fail
      rw [← HWE.out]
      refine HSm.out.mono ?_
      rintro e w1 ⟨rfl, hb1⟩
      rw [HS.out]
      obtain ⟨a0, a1, a2, a3, hz1⟩ := HAt.out _ hb1
      have HB1 := hide hb1; clear hb1
      go_wp2_with fail
      refine (HSm2.out _ HB1.out).mono ?_
      rintro e w2 ⟨rfl, hb2⟩
      rw [HS2.out]
      have HB2 := hide (then_below HB1.out hb2)
      clear hb2 a0 a1 a2 a3 hz1
      obtain ⟨a0, a1, a2, a3, hz1⟩ := HAt.out _ HB2.out
      go_wp2_with fail
      refine (HUnE.out _ HB2.out).mono ?_
      rintro e w3 ⟨rfl, hb3⟩
      have hal3 := Joins.below_alloc1 w3 (.cells #[.slice none 0 0, .slice none 0 0] 26)
      have HQ3 := hide (then_below (then_below HB2.out hb3) hal3)
      have t0 : (w3.alloc (.cells #[.slice none 0 0, .slice none 0 0] 26)).cell? ⟨w3.heap.size, 0, none⟩ = some (.slice none 0 0) := by simp
      have t1 : (w3.alloc (.cells #[.slice none 0 0, .slice none 0 0] 26)).cell? ⟨w3.heap.size, 1, none⟩ = some (.slice none 0 0) := by simp
      have tz : w3.heap.size < (w3.alloc (.cells #[.slice none 0 0, .slice none 0 0] 26)).heap.size := by simp
      clear hb3 a0 a1 a2 a3 hz1
      obtain ⟨a0, a1, a2, a3, hz1⟩ := HAt.out _ HQ3.out
      go_wp2_with fail
      generalize w3.alloc (.cells #[.slice none 0 0, .slice none 0 0] 26) = W3 at *
      generalize w3.heap.size = P at *
      have HT0 := hide t0; have HT1 := hide t1; have HTZ := hide tz
      have HX3 := hide (Below.refl W3.heap.size W3)
      clear t0 t1 tz hal3
      refine (HRi.out _ HQ3.out).mono ?_
      rintro e w4 ⟨rfl, hb4⟩
      clear a0 a1 a2 a3 hz1
      have HX4 := hide (after_below hb4 HX3.out)
      clear hb4
      obtain ⟨a0, a1, a2, a3, hz1⟩ := HAt.out _ (after_below HX4.out HQ3.out)
      have b0 := (HX4.out.cell (p := ⟨P, 0, none⟩) HTZ.out).trans HT0.out
      have b1 := (HX4.out.cell (p := ⟨P, 1, none⟩) HTZ.out).trans HT1.out
      have bz := Nat.lt_of_lt_of_le HTZ.out HX4.out.size
      go_wp2_with fail
      clear a0 a1 a2 a3 hz1 b0 b1 bz
      refine (HRi2.out _ (after_below HX4.out HQ3.out)).mono ?_
      rintro e w5 ⟨rfl, hb5⟩
      have HX5 := hide (after_below hb5 HX4.out)
      clear hb5
      obtain ⟨a0, a1, a2, a3, hz1⟩ := HAt.out _ (after_below HX5.out HQ3.out)
      have b0 := (HX5.out.cell (p := ⟨P, 0, none⟩) HTZ.out).trans HT0.out
      have b1 := (HX5.out.cell (p := ⟨P, 1, none⟩) HTZ.out).trans HT1.out
      have bz := Nat.lt_of_lt_of_le HTZ.out HX5.out.size
      go_wp2_with fail
      have HXL := hide HX5.out
      refine (empty_zero _).mono ?_
      rintro e w8 ⟨rfl, hb8⟩
      have hq := hide (HL.out.trans (Below.mono (after_below (after_below hb8 HXL.out) HQ3.out) HTW.out))
      have hsz := hide (Nat.le_trans HTW.out (after_below (after_below hb8 HXL.out) HQ3.out).size)
      clear hb8 a0 a1 a2 a3 hz1 b0 b1 bz
      go_wp2_with fail
      refine (HAw.out _ hq.out).mono ?_
      rintro e wh ⟨rfl, hbh⟩
      go_wp2_with fail
      go_ret
      exact ⟨rfl, hq.out.trans (hbh.mono hsz.out)⟩
  · have hk0 : (fullT cs (rowsOf hs) == 0) = false := by rw [beq_eq_false_iff_ne]; exact hf
    have hk1 : (fullT cs (rowsOf hs) != 0) = true := by rw [bne_iff_ne]; exact hf
    have hzz : (fullT cs (rowsOf hs) == fullT cs (rowsOf hs)) = true := by simp
    have HUnE := hide (fun w' h => (HUn.out w' h).mono fun e w1 (hh : UnionV cs ds (rowsOf hs) (rowsOf gs) w' e w1) => (by
      obtain ⟨h1, hb⟩ := hh
      have hE : unionE cs ds (rowsOf hs) (rowsOf gs) = (fullT cs (rowsOf hs)) := by unfold unionE; rw [if_neg hf]
      rw [hE, if_neg hf] at h1
      exact ⟨h1, hb⟩ : e = .returned (.tuple #[vZero, .int .i64 (fullT cs (rowsOf hs))]) ∧ Below w'.heap.size w' w1))
    clear hf
    generalize fullT cs (rowsOf hs) = z at hk0 hk1 hzz HUnE HRi
    go_enter Tryz.func3, Tryz.ntmps3
    go_wp2_with fail
    rw [← HWE.out]
    refine HSm.out.mono ?_
    rintro e w1 ⟨rfl, hb1⟩
    rw [HS.out]
    obtain ⟨a0, a1, a2, a3, hz1⟩ := HAt.out _ hb1
    have HB1 := hide hb1; clear hb1
    go_wp2_with fail
    refine (HSm2.out _ HB1.out).mono ?_
    rintro e w2 ⟨rfl, hb2⟩
    rw [HS2.out]
    have HB2 := hide (then_below HB1.out hb2)
    clear hb2 a0 a1 a2 a3 hz1
    obtain ⟨a0, a1, a2, a3, hz1⟩ := HAt.out _ HB2.out
    go_wp2_with fail
    refine (HUnE.out _ HB2.out).mono ?_
    rintro e w3 ⟨rfl, hb3⟩
    have hal3 := Joins.below_alloc1 w3 (.cells #[.slice none 0 0, .slice none 0 0] 26)
    have HQ3 := hide (then_below (then_below HB2.out hb3) hal3)
    have t0 : (w3.alloc (.cells #[.slice none 0 0, .slice none 0 0] 26)).cell? ⟨w3.heap.size, 0, none⟩ = some (.slice none 0 0) := by simp
    have t1 : (w3.alloc (.cells #[.slice none 0 0, .slice none 0 0] 26)).cell? ⟨w3.heap.size, 1, none⟩ = some (.slice none 0 0) := by simp
    have tz : w3.heap.size < (w3.alloc (.cells #[.slice none 0 0, .slice none 0 0] 26)).heap.size := by simp
    clear hb3 a0 a1 a2 a3 hz1
    obtain ⟨a0, a1, a2, a3, hz1⟩ := HAt.out _ HQ3.out
    go_wp2_with fail
    generalize w3.alloc (.cells #[.slice none 0 0, .slice none 0 0] 26) = W3 at *
    generalize w3.heap.size = P at *
    have HT0 := hide t0; have HT1 := hide t1; have HTZ := hide tz
    have HX3 := hide (Below.refl W3.heap.size W3)
    clear t0 t1 tz hal3
    refine (HRi.out _ HQ3.out).mono ?_
    rintro e w4 ⟨rfl, hb4⟩
    clear a0 a1 a2 a3 hz1
    have HX4 := hide (after_below hb4 HX3.out)
    clear hb4
    obtain ⟨a0, a1, a2, a3, hz1⟩ := HAt.out _ (after_below HX4.out HQ3.out)
    have b0 := (HX4.out.cell (p := ⟨P, 0, none⟩) HTZ.out).trans HT0.out
    have b1 := (HX4.out.cell (p := ⟨P, 1, none⟩) HTZ.out).trans HT1.out
    have bz := Nat.lt_of_lt_of_le HTZ.out HX4.out.size
    go_wp2_with fail
    have HXL := hide HX4.out
    refine (empty_zero _).mono ?_
    rintro e w8 ⟨rfl, hb8⟩
    have hq := hide (HL.out.trans (Below.mono (after_below (after_below hb8 HXL.out) HQ3.out) HTW.out))
    have hsz := hide (Nat.le_trans HTW.out (after_below (after_below hb8 HXL.out) HQ3.out).size)
    clear hb8 a0 a1 a2 a3 hz1 b0 b1 bz
    go_wp2_with fail
    refine (HAw.out _ hq.out).mono ?_
    rintro e wh ⟨rfl, hbh⟩
    go_wp2_with fail
    go_ret
    exact ⟨rfl, hq.out.trans (hbh.mono hsz.out)⟩
end Go.Proofs.YtfjhdfpdgjjcgaaGreatDoor.tableUnions
