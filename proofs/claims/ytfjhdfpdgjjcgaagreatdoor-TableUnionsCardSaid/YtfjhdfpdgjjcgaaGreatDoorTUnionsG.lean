/-
  The walk of TableUnions.
-/
import Derived.Test.YtfjhdfpdgjjcgaaGreatDoorTUnion
import Derived.Test.YtfjhdfpdgjjcgaaGreatDoorTSortW
import Derived.Test.YtfjhdfpdgjjcgaaGreatDoorTZero
import Derived.Deep.DeepCutAuto
import Derived.Deep.RegionHeld3
namespace Go.Proofs.YtfjhdfpdgjjcgaaGreatDoor.tableUnions
open Go.RowKit

/-- The world in which two tables lie in boxes. -/
def box2W (w : World) (a b a' b' : Value) : World := (w.alloc (.cells #[a, b] 26)).alloc (.cells #[a', b'] 26)
theorem box2W_at {w : World} {a b a' b' : Value} {w' : World} (h : Below (box2W w a b a' b').heap.size (box2W w a b a' b') w') :
    w'.cell? ⟨w.heap.size, 0, none⟩ = some a ∧ w'.cell? ⟨w.heap.size, 1, none⟩ = some b ∧ w'.cell? ⟨w.heap.size + 1, 0, none⟩ = some a' ∧ w'.cell? ⟨w.heap.size + 1, 1, none⟩ = some b' ∧ w.heap.size + 1 < w'.heap.size := by
  have s1 : (w.alloc (.cells #[a, b] 26)).heap.size = w.heap.size + 1 := by simp
  have hz : (box2W w a b a' b').heap.size = w.heap.size + 2 := by simp [box2W]
  have h0 : ∀ i, (box2W w a b a' b').cell? ⟨w.heap.size, i, none⟩ = (#[a, b] : Array Value)[i]? := fun i => by
    unfold box2W
    rw [World.cell?_alloc_lt _ _ _ (by rw [s1]; simp only; omega)]
    exact World.cell?_alloc_mark w _ _ (0, 0) i
  have h1 : ∀ i, (box2W w a b a' b').cell? ⟨w.heap.size + 1, i, none⟩ = (#[a', b'] : Array Value)[i]? := fun i => by
    unfold box2W
    have m := World.cell?_alloc_mark (w.alloc (.cells #[a, b] 26)) #[a', b'] 26 (0, 0) i
    rw [s1] at m
    exact m
  refine ⟨(h.cell (p := ⟨w.heap.size, 0, none⟩) (by simp only; omega)).trans (h0 0), (h.cell (p := ⟨w.heap.size, 1, none⟩) (by simp only; omega)).trans (h0 1),
    (h.cell (p := ⟨w.heap.size + 1, 0, none⟩) (by simp only; omega)).trans (h1 0), (h.cell (p := ⟨w.heap.size + 1, 1, none⟩) (by simp only; omega)).trans (h1 1), ?_⟩
  have := h.size
  omega

theorem counts_add (rs ss : R3) (r : List (Int × Int × ByteArray)) : countR (sortR (rs ++ ss)) r = countR rs r + countR ss r := by
  unfold countR
  rw [(sortR_perm (rs ++ ss)).countP_eq, List.countP_append]
theorem both_zero {cs : List (ByteArray × Int)} {rs ss : R3} (h1 : fullT cs rs = 0) (h2 : fullT cs ss = 0) (hl : rs.length + ss.length ≤ 4096) : checkT cs (rs ++ ss) = 0 := by
  obtain ⟨a1, a2, a3⟩ := checkT_zero (fullT_zero h1).1
  obtain ⟨_, _, b3⟩ := checkT_zero (fullT_zero h2).1
  exact checkT_good a1 (by rw [List.length_append]; exact hl) (by rw [List.all_append, a3, b3]; rfl)

abbrev Done (S A S2 A2 B : Option Addr) (c cap c2 cap2 d : Nat) (cs ds : List (ByteArray × Int)) (hs gs : List RH) (r : List (Int × Int × ByteArray)) (w : World) : Prop :=
  Calls Tryz.prog 3 #[vTab S cs.length c A hs.length cap, vTab S2 ds.length c2 A2 gs.length cap2, .slice B r.length d] w fun e w' => e = .returned (.bool true) ∧ Below w.heap.size w w'

set_option maxHeartbeats 6400000 in
set_option maxRecDepth 100000 in
theorem tableUnions_good (S : Option Addr) (c : Nat) (cs : List (ByteArray × Int)) (A : Option Addr) (cap : Nat) (hs : List RH) (S2 : Option Addr) (c2 : Nat) (ds : List (ByteArray × Int)) (A2 : Option Addr) (cap2 : Nat) (gs : List RH)
    (B : Option Addr) (d : Nat) (r : List (Int × Int × ByteArray)) (w : World)
    (hC : ColsAt w.heap.size w S cs) (hw : Wf cs) (hn : S = none → c = 0) (hR : RowsAt w.heap.size w A hs) (hv : WfT (rowsOf hs)) (hnA : A = none → cap = 0)
    (hC2 : ColsAt w.heap.size w S2 ds) (hw2 : Wf ds) (hn2 : S2 = none → c2 = 0) (hR2 : RowsAt w.heap.size w A2 gs) (hv2 : WfT (rowsOf gs)) (hnA2 : A2 = none → cap2 = 0)
    (hr : RowAt w.heap.size w B r) (hwr : WfR r) (hnr : B = none → d = 0) (hT : Tab w) (hf : fullT cs (rowsOf hs) = 0) (hg : fullT ds (rowsOf gs) = 0) (hsc : sameC cs ds = true) : Done S A S2 A2 B c cap c2 cap2 d cs ds hs gs r w := by
  have hal : Below w.heap.size w (box2W w (.slice S cs.length c) (.slice A hs.length cap) (.slice S2 ds.length c2) (.slice A2 gs.length cap2)) := Joins.below_alloc2 w _ _
  have HAt := hide (fun w' => box2W_at (w := w) (a := .slice S cs.length c) (b := .slice A hs.length cap) (a' := .slice S2 ds.length c2) (b' := .slice A2 gs.length cap2) (w' := w'))
  have HWE := hide (show box2W w (.slice S cs.length c) (.slice A hs.length cap) (.slice S2 ds.length c2) (.slice A2 gs.length cap2) = (w.alloc (.cells #[.slice S cs.length c, .slice A hs.length cap] 26)).alloc (.cells #[.slice S2 ds.length c2, .slice A2 gs.length cap2] 26) from rfl)
  have HC := hide (hC.on hal); have HR := hide (hR.on hal); have HC2 := hide (hC2.on hal); have HR2 := hide (hR2.on hal); have HRr := hide (hr.on hal)
  generalize box2W w (.slice S cs.length c) (.slice A hs.length cap) (.slice S2 ds.length c2) (.slice A2 gs.length cap2) = W at *
  have HL := hide hal; have HW := hide hw; have HV := hide hv; have HW2 := hide hw2; have HV2 := hide hv2; have HWr := hide hwr
  have HN := hide hn; have HN2 := hide hn2; have HNA := hide hnA; have HNA2 := hide hnA2; have HNr := hide hnr
  have HAw := hide (aw_later hT)
  have HTW := hide hal.size
  have HSm := hide (small_any S A c cap cs hs W HC.out HR.out hw hv)
  have HSm2 := hide (fun w' (h : Below W.heap.size W w') => small_any S2 A2 c2 cap2 ds gs w' (HC2.out.on h) (HR2.out.on h) HW2.out HV2.out)
  clear hC hw hR hv hT hal hn hC2 hw2 hn2 hR2 hv2 hnA hnA2 hr hwr hnr
  cases hsm : smallT cs (rowsOf hs)
  · have HS := hide hsm; clear hsm
    go_enter Tryz.func3, Tryz.ntmps3
    go_wp2_with fail
    rw [← HWE.out]
    refine HSm.out.mono ?_
    rintro e w1 ⟨rfl, hb1⟩
    rw [HS.out]
    have hq1 := then_below HL.out hb1
    go_wp2_with (go_at_call 7; refine (HAw.out _ hq1).mono ?_; rintro e wa ⟨rfl, hba⟩)
    go_ret
    exact ⟨rfl, then_below hq1 hba⟩
  cases hsm2 : smallT ds (rowsOf gs)
  · have HS := hide hsm; have HS2 := hide hsm2; clear hsm hsm2
    go_enter Tryz.func3, Tryz.ntmps3
    go_wp2_with fail
    rw [← HWE.out]
    refine HSm.out.mono ?_
    rintro e w1 ⟨rfl, hb1⟩
    rw [HS.out]
    obtain ⟨a0, a1, a2, a3, hz1⟩ := HAt.out _ hb1
    have HB1 := hide hb1; clear hb1
    go_wp2_with fail
    refine (HSm2.out _ HB1.out).mono ?_
    rintro e w2 ⟨rfl, hb2⟩
    rw [HS2.out]
    have hq2 := then_below (then_below HL.out HB1.out) hb2
    go_wp2_with (go_at_call 7; refine (HAw.out _ hq2).mono ?_; rintro e wa ⟨rfl, hba⟩)
    go_ret
    exact ⟨rfl, then_below hq2 hba⟩
  by_cases hr20 : (20 : Int) < (r.length : Int)
  · have HS := hide hsm; have HS2 := hide hsm2; clear hsm hsm2
    go_enter Tryz.func3, Tryz.ntmps3
    go_wp2_with fail
    rw [← HWE.out]
    refine HSm.out.mono ?_
    rintro e w1 ⟨rfl, hb1⟩
    rw [HS.out]
    obtain ⟨a0, a1, a2, a3, hz1⟩ := HAt.out _ hb1
    have HB1 := hide hb1; clear hb1
    go_wp2_with fail
    refine (HSm2.out _ HB1.out).mono ?_
    rintro e w2 ⟨rfl, hb2⟩
    rw [HS2.out]
    have hq2 := then_below (then_below HL.out HB1.out) hb2
    go_wp2_with (go_at_call 7; refine (HAw.out _ hq2).mono ?_; rintro e wa ⟨rfl, hba⟩)
    go_ret
    exact ⟨rfl, then_below hq2 hba⟩
  obtain ⟨hlc, hlr, hlv⟩ := smallT_yes hsm
  obtain ⟨hlc2, hlr2, hlv2⟩ := smallT_yes hsm2
  rw [rowsOf_len] at hlr hlr2
  have HS := hide hsm; have HS2 := hide hsm2; have HLV := hide hlv; have HLV2 := hide hlv2; clear hsm hsm2 hlv hlv2
  have HRi := hide (fun w' (h : Below W.heap.size W w') => right_any' S A c cap cs hs w' (HC.out.on h) (HR.out.on h) HW.out HV.out (by omega) (by omega) (fun x hx => by have := HLV.out x hx; omega))
  have HRi2 := hide (fun w' (h : Below W.heap.size W w') => right_any' S2 A2 c2 cap2 ds gs w' (HC2.out.on h) (HR2.out.on h) HW2.out HV2.out (by omega) (by omega) (fun x hx => by have := HLV2.out x hx; omega))
  have HEq := hide (fun w' (h : Below W.heap.size W w') => equal_any S S2 c c2 cs ds w' (HC.out.on h) (HC2.out.on h) (by unfold maxLen; omega))
  have HUn := hide (fun w' (h : Below W.heap.size W w') => union_any S A S2 A2 c cap c2 cap2 cs ds hs gs w' (HC.out.on h) HN.out (HR.out.on h) HNA.out HW.out HV.out (by omega) (by omega) (fun x hx => by have := HLV.out x hx; omega)
    (HC2.out.on h) (HR2.out.on h) HNA2.out HW2.out HV2.out (by omega) (by omega) (fun x hx => by have := HLV2.out x hx; omega))
  have HUn2 := hide (fun w' (h : Below W.heap.size W w') => union_any S2 A2 S A c2 cap2 c cap ds cs gs hs w' (HC2.out.on h) HN2.out (HR2.out.on h) HNA2.out HW2.out HV2.out (by omega) (by omega) (fun x hx => by have := HLV2.out x hx; omega)
    (HC.out.on h) (HR.out.on h) HNA.out HW.out HV.out (by omega) (by omega) (fun x hx => by have := HLV.out x hx; omega))
  obtain rfl := sameC_iff.1 hsc
  have hcc := (checkT_zero (fullT_zero hf).1).1
  have hzz : checkT cs (rowsOf hs ++ rowsOf gs) = 0 := both_zero hf hg (by rw [rowsOf_len, rowsOf_len]; omega)
  have hzy : checkT cs (rowsOf gs ++ rowsOf hs) = 0 := both_zero hg hf (by rw [rowsOf_len, rowsOf_len]; omega)
  have HUnE := hide (fun w' h => (HUn.out w' h).mono fun e w1 (hh : UnionV cs cs (rowsOf hs) (rowsOf gs) w' e w1) => (by
    obtain ⟨h1, hb⟩ := hh
    have hE : unionE cs cs (rowsOf hs) (rowsOf gs) = 0 := by unfold unionE; rw [if_pos hf, if_pos hg, if_pos hsc]; exact hzz
    rw [hE, if_pos rfl] at h1
    exact ⟨h1, hb⟩ : (∃ v, e = .returned (.tuple #[v, .int .i64 0]) ∧ TabAt cs (sortR (rowsOf hs ++ rowsOf gs)) w1 v) ∧ Below w'.heap.size w' w1))
  have HUnF := hide (fun w' h => (HUn2.out w' h).mono fun e w1 (hh : UnionV cs cs (rowsOf gs) (rowsOf hs) w' e w1) => (by
    obtain ⟨h1, hb⟩ := hh
    have hE : unionE cs cs (rowsOf gs) (rowsOf hs) = 0 := by unfold unionE; rw [if_pos hg, if_pos hf, if_pos hsc]; exact hzy
    rw [hE, if_pos rfl, sortR_congr (List.perm_append_comm)] at h1
    exact ⟨h1, hb⟩ : (∃ v, e = .returned (.tuple #[v, .int .i64 0]) ∧ TabAt cs (sortR (rowsOf hs ++ rowsOf gs)) w1 v) ∧ Below w'.heap.size w' w1))
  rw [hf] at HRi
  rw [hg] at HRi2
  rw [hsc] at HEq
  have HWA := hide (show WfT (rowsOf hs ++ rowsOf gs) from wft_app HV.out HV2.out (by rw [rowsOf_len, rowsOf_len]; unfold maxLen; omega))
  clear hf hg hsc hzz hzy HUn HUn2
  have hlr7 : hs.length ≤ 65536 := by omega
  have hlr8 : gs.length ≤ 65536 := by omega
  go_enter Tryz.func3, Tryz.ntmps3
  go_wp2_with fail
  rw [← HWE.out]
  refine HSm.out.mono ?_
  rintro e w1 ⟨rfl, hb1⟩
  rw [HS.out]
  obtain ⟨a0, a1, a2, a3, hz1⟩ := HAt.out _ hb1
  have HB1 := hide hb1; clear hb1
  go_wp2_with fail
  refine (HSm2.out _ HB1.out).mono ?_
  rintro e w2 ⟨rfl, hb2⟩
  rw [HS2.out]
  have HB2 := hide (then_below HB1.out hb2)
  clear hb2 a0 a1 a2 a3 hz1
  obtain ⟨a0, a1, a2, a3, hz1⟩ := HAt.out _ HB2.out
  go_wp2_with fail
  refine (HUnE.out _ HB2.out).mono ?_
  rintro e w3 ⟨⟨_, rfl, Su, cu, gu, capu, nu, rfl, hSu, hSun, hnu, hAu⟩, hb3⟩
  have hal3 := Joins.below_alloc1 w3 (.cells #[.slice Su cs.length cu, .slice (some ⟨gu, 0, none⟩) nu.length capu] 26)
  have HQ3 := hide (then_below (then_below HB2.out hb3) hal3)
  have HSu := hide (hSu.on hal3); have HAu := hide (hAu.on hal3); have HNU := hide hnu
  have t0 : (w3.alloc (.cells #[.slice Su cs.length cu, .slice (some ⟨gu, 0, none⟩) nu.length capu] 26)).cell? ⟨w3.heap.size, 0, none⟩ = some (.slice Su cs.length cu) := by simp
  have t1 : (w3.alloc (.cells #[.slice Su cs.length cu, .slice (some ⟨gu, 0, none⟩) nu.length capu] 26)).cell? ⟨w3.heap.size, 1, none⟩ = some (.slice (some ⟨gu, 0, none⟩) nu.length capu) := by simp
  have tz : w3.heap.size < (w3.alloc (.cells #[.slice Su cs.length cu, .slice (some ⟨gu, 0, none⟩) nu.length capu] 26)).heap.size := by simp
  clear hb3 a0 a1 a2 a3 hz1 hSu hSun hnu hAu
  obtain ⟨a0, a1, a2, a3, hz1⟩ := HAt.out _ HQ3.out
  go_wp2_with fail
  generalize w3.alloc (.cells #[.slice Su cs.length cu, .slice (some ⟨gu, 0, none⟩) nu.length capu] 26) = W3 at *
  generalize w3.heap.size = P at *
  have HT0 := hide t0; have HT1 := hide t1; have HTZ := hide tz
  have HX3 := hide (Below.refl W3.heap.size W3)
  clear t0 t1 tz hal3
  refine (HRi.out _ HQ3.out).mono ?_
  rintro e w4 ⟨rfl, hb4⟩
  clear a0 a1 a2 a3 hz1
  have HX4 := hide (after_below hb4 HX3.out)
  clear hb4
  obtain ⟨a0, a1, a2, a3, hz1⟩ := HAt.out _ (after_below HX4.out HQ3.out)
  go_wp2_with fail
  clear a0 a1 a2 a3 hz1
  refine (HRi2.out _ (after_below HX4.out HQ3.out)).mono ?_
  rintro e w5 ⟨rfl, hb5⟩
  have HX5 := hide (after_below hb5 HX4.out)
  clear hb5
  obtain ⟨a0, a1, a2, a3, hz1⟩ := HAt.out _ (after_below HX5.out HQ3.out)
  go_wp2_with fail
  clear a0 a1 a2 a3 hz1
  refine (HEq.out _ (after_below HX5.out HQ3.out)).mono ?_
  rintro e w6 ⟨rfl, hb6⟩
  have HX6 := hide (after_below hb6 HX5.out)
  clear hb6
  have HALL := hide (fun w' (h : Below W3.heap.size W3 w') => (⟨(HAt.out _ (after_below h HQ3.out)).1, (HAt.out _ (after_below h HQ3.out)).2.1, (HAt.out _ (after_below h HQ3.out)).2.2.1, (HAt.out _ (after_below h HQ3.out)).2.2.2.1, (HAt.out _ (after_below h HQ3.out)).2.2.2.2, h⟩ :
    w'.cell? ⟨w.heap.size, 0, none⟩ = some (.slice S cs.length c) ∧ w'.cell? ⟨w.heap.size, 1, none⟩ = some (.slice A hs.length cap) ∧ w'.cell? ⟨w.heap.size + 1, 0, none⟩ = some (.slice S2 cs.length c2) ∧ w'.cell? ⟨w.heap.size + 1, 1, none⟩ = some (.slice A2 gs.length cap2) ∧ w.heap.size + 1 < w'.heap.size ∧ Below W3.heap.size W3 w'))
  have HF7 := hide (fun w' (h : Below W3.heap.size W3 w') => refRows_fresh A cap hs w' (HR.out.on (after_below h HQ3.out)) hlr7 (fun x hx => by have := HLV.out x hx; omega))
  have HF8 := hide (fun w' (h : Below W3.heap.size W3 w') => refRows_fresh A2 cap2 gs w' (HR2.out.on (after_below h HQ3.out)) hlr8 (fun x hx => by have := HLV2.out x hx; omega))
  obtain ⟨a0, a1, a2, a3, hz1, -⟩ := HALL.out _ HX6.out
  go_upto_region 11 with fail
  go_cut [10] (fun s wx => ∃ Ab cb, ∃ nb : List RH, s = .slice Ab nb.length cb ∧ RowsAt wx.heap.size wx Ab nb ∧ rowsOf nb = rowsOf hs ++ rowsOf gs ∧ Below W3.heap.size W3 wx)
  case first =>
    clear HSm HSm2 HRi HRi2 HEq HUnE HUnF HAw HRr HWr HNr HWA HB1 HB2 HX3 HX4 HX5 HL HW HV HV2 HW2 HN HN2 HNA HNA2 HS HS2 HC HC2 HR HR2 HLV HLV2 HSu HAu HNU HT0 HT1 HTZ hcc
    go_region_held3 (fun w' => w'.cell? ⟨w.heap.size, 0, none⟩ = some (.slice S cs.length c) ∧ w'.cell? ⟨w.heap.size, 1, none⟩ = some (.slice A hs.length cap) ∧ w'.cell? ⟨w.heap.size + 1, 0, none⟩ = some (.slice S2 cs.length c2) ∧ w'.cell? ⟨w.heap.size + 1, 1, none⟩ = some (.slice A2 gs.length cap2) ∧ w.heap.size + 1 < w'.heap.size ∧ Below W3.heap.size W3 w')
      ((refine HALL.out _ ?_; first | with_reducible assumption | with_reducible exact HX6.out | with_reducible exact HX6.out.drew | ((try go_split_ands); first | with_reducible assumption | with_reducible exact Below.trans (by with_reducible assumption) (hb9.mono hz5) | with_reducible exact after_below hb8 (by with_reducible assumption) | with_reducible exact after_below hb7 (by with_reducible assumption) | with_reducible exact after_below hb5 (by with_reducible assumption) | with_reducible exact alloc_after (by with_reducible assumption) _ | with_reducible exact alloc_after HX6.out _ | with_reducible exact (alloc_after HX6.out _).drew | with_reducible exact (alloc_after (by with_reducible assumption) _).drew)))
      (first
        | (go_at_call_of 12 (Value.slice A hs.length cap); (try go_split_ands); refine (HF7.out _ (by with_reducible assumption)).mono ?_; rintro e w7 ⟨⟨A7, c7, n7, rfl, hA7, hn7, hz7, hf7, hm7⟩, hb7⟩)
        | (go_at_call_of 12 (Value.slice A2 gs.length cap2); (try go_split_ands); refine (HF8.out _ (by with_reducible assumption)).mono ?_; rintro e w8 ⟨⟨A8, c8, n8, rfl, hA8, hn8, hz8, hf8, hm8⟩, hb8⟩)
        | ((try go_split_ands); refine step_rr_fst2 rfl (.tmp 63) (.tmp 66) rfl _ rfl n7 A7 c7 rfl (by first | with_reducible exact hA7 | with_reducible exact hA7.on (Joins.below_alloc1 _ _) | with_reducible exact hA7.on hb8 | with_reducible exact (hA7.on hb8).on (Joins.below_alloc1 _ _) | with_reducible exact (hA7.on (Joins.below_alloc1 _ _)).on hb8) (len_of hn7 hlr7) n8 A8 (by first | with_reducible exact hA8 | with_reducible exact hA8.on (Joins.below_alloc1 _ _) | with_reducible exact hA8.on hb7 | with_reducible exact (hA8.on hb7).on (Joins.below_alloc1 _ _) | with_reducible exact (hA8.on (Joins.below_alloc1 _ _)).on hb7) ?_; intro v5 w5 hfr5 hx5 hb5 hA8c hy5; have hz5 := chain_size (a := W3) hb5 (by with_reducible assumption))
        | ((try go_split_ands); refine step_rr_fst rfl (.tmp 63) (.tmp 66) rfl _ rfl n7 A7 c7 rfl (by first | with_reducible exact hA7 | with_reducible exact hA7.on (Joins.below_alloc1 _ _) | with_reducible exact hA7.on hb8 | with_reducible exact (hA7.on hb8).on (Joins.below_alloc1 _ _) | with_reducible exact (hA7.on (Joins.below_alloc1 _ _)).on hb8) (len_of hn7 hlr7) ?_; intro v5 w5 hfr5 hx5 hb5; have hz5 := chain_size (a := W3) hb5 (by with_reducible assumption))
        | ((try go_split_ands); refine step_rr_snd rfl (.tmp 67) (.tmp 70) rfl _ v5 n7 n8 rfl hfr5 A8 c8 rfl hA8c hz8 (len_two hn7 hn8 hlr hlr2) hb5.size hx5 (fun h0 y hy => apH_low (hy5 y hy) (fun g hg => (hfr5.low h0 g hg).1)) ?_; intro A9 c9 w9 hA9 hb9)
        | ((try go_split_ands); refine step_rr_snd rfl (.tmp 67) (.tmp 70) rfl _ v5 n7 n8 rfl (hfr5.kept hb8) A8 c8 rfl hA8 hz8 (len_two hn7 hn8 hlr hlr2) (Nat.le_trans hb5.size hb8.size) (fun h hh => (hx5 h hh).below (hb8.mono hb5.size)) (fun h0 y hy a e1 e2 => by exfalso; have := (hfr5.low h0 _ e2).2; have := hm8 y hy a e1; omega) ?_; intro A9 c9 w9 hA9 hb9))
    all_goals
      go_split_ands
      go_wp2_with fail
      go_meet
      exact ⟨A9, c9, n7 ++ n8, by rw [List.length_append], hA9, rows_app hn7 hn8, by with_reducible assumption⟩
  case rest =>
    obtain ⟨Ab, cb, nb, rfl, hAb, hnb, hbx⟩ := hcut
    have HAB := hide hAb; have HNB := hide hnb; have HX7 := hide hbx
    clear hAb hnb hbx HF7 HF8 HSm HSm2 HRi HRi2 HEq HUnE HX3 HX4 HX5 HX6 HB1 HB2 HS HS2
    obtain ⟨a0, a1, a2, a3, hz1, -⟩ := HALL.out _ HX7.out
    go_wp2_with fail
    refine (HUnF.out _ (after_below HX7.out HQ3.out)).mono ?_
    rintro e w8 ⟨⟨_, rfl, Sv, cv, gv, capv, nv, rfl, hSv, -, hnv, hAv⟩, hb8⟩
    have hal8 := Joins.below_alloc1 w8 (.cells #[.slice Sv cs.length cv, .slice (some ⟨gv, 0, none⟩) nv.length capv] 26)
    have HX8 := hide (after_below hal8 (after_below hb8 HX7.out))
    have HY8 := hide (after_below hal8 hb8)
    have HSv := hide (hSv.on hal8); have HAv := hide (hAv.on hal8); have HNV := hide hnv
    have v0 : (w8.alloc (.cells #[.slice Sv cs.length cv, .slice (some ⟨gv, 0, none⟩) nv.length capv] 26)).cell? ⟨w8.heap.size, 0, none⟩ = some (.slice Sv cs.length cv) := by simp
    have v1 : (w8.alloc (.cells #[.slice Sv cs.length cv, .slice (some ⟨gv, 0, none⟩) nv.length capv] 26)).cell? ⟨w8.heap.size, 1, none⟩ = some (.slice (some ⟨gv, 0, none⟩) nv.length capv) := by simp
    have vz : w8.heap.size < (w8.alloc (.cells #[.slice Sv cs.length cv, .slice (some ⟨gv, 0, none⟩) nv.length capv] 26)).heap.size := by simp
    clear hb8 a0 a1 a2 a3 hz1 hSv hnv hAv HUnF hal8
    have b0 := (HX8.out.cell (p := ⟨P, 0, none⟩) HTZ.out).trans HT0.out
    have b1 := (HX8.out.cell (p := ⟨P, 1, none⟩) HTZ.out).trans HT1.out
    have bz := Nat.lt_of_lt_of_le HTZ.out HX8.out.size
    go_wp2_with fail
    generalize w8.alloc (.cells #[.slice Sv cs.length cv, .slice (some ⟨gv, 0, none⟩) nv.length capv] 26) = W8 at *
    generalize w8.heap.size = Q at *
    have HEqu := hide ((tabEqual_any Su (some ⟨gu, 0, none⟩) Sv (some ⟨gv, 0, none⟩) cu capu cv capv cs cs nu nv W8 (HSu.out.on HX8.out) (HAu.out.on HX8.out) HSv.out HAv.out (by unfold maxLen; omega) (by rw [HNV.out]; exact wft_sort HWA.out)).mono fun e w1 hh => (⟨by rw [hh.1, HNU.out, HNV.out, sameC_iff.2 rfl, sameRs_self]; rfl, hh.2⟩ : e = .returned (.bool true) ∧ Below W8.heap.size W8 w1))
    clear v0 v1 vz b0 b1 bz
    refine HEqu.out.mono ?_
    rintro e w9 ⟨rfl, hb9⟩
    have HX9 := hide (after_below hb9 HX8.out)
    have HY9 := hide (after_below hb9 HY8.out)
    clear hb9 HEqu
    have b0 := (HX9.out.cell (p := ⟨P, 0, none⟩) HTZ.out).trans HT0.out
    have b1 := (HX9.out.cell (p := ⟨P, 1, none⟩) HTZ.out).trans HT1.out
    have bz := Nat.lt_of_lt_of_le HTZ.out HX9.out.size
    have hnul : nu.length ≤ 120 := by
      have := congrArg List.length HNU.out
      rw [rowsOf_len, sortR_len, List.length_append, rowsOf_len, rowsOf_len] at this
      omega
    have hnbl : nb.length ≤ 120 := by
      have := congrArg List.length HNB.out
      rw [rowsOf_len, List.length_append, rowsOf_len, rowsOf_len] at this
      omega
    have HLU := hide (show ∀ x ∈ rowsOf nu, x.length ≤ 20 from fun x hx => by
      rw [HNU.out] at hx
      rcases List.mem_append.1 ((sortR_perm _).mem_iff.1 hx) with hx | hx
      · exact HLV.out x hx
      · exact HLV2.out x hx)
    go_wp2_with fail
    refine (refRows_any (some ⟨gu, 0, none⟩) capu nu w9 (HAu.out.on HX9.out) (by omega) (fun x hx => by have := HLU.out x hx; omega)).mono ?_
    rintro e w10 ⟨⟨A10, c10, n10, rfl, hA10, hn10, -⟩, hb10⟩
    have HX10 := hide (after_below hb10 HX9.out)
    have HY10 := hide (after_below hb10 HY9.out)
    have HA10 := hide hA10; have HN10 := hide hn10
    have HB10 := hide hb10
    clear hA10 hn10 hb10 b0 b1 bz
    go_wp2_with fail
    refine (refSort_any Ab cb nb w10 (HAB.out.on HY10.out) (by rw [HNB.out]; exact HWA.out) (by omega)).mono ?_
    rintro e w11 ⟨⟨A11, c11, n11, rfl, hA11, hn11, -⟩, hb11⟩
    have hn11l : n11.length ≤ 120 := by
      have := congrArg List.length hn11
      rw [rowsOf_len, sortR_len, rowsOf_len] at this
      omega
    have HSame := hide ((same_any A10 A11 c10 c11 n10 n11 w11 (HA10.out.on hb11) hA11 (by rw [HN10.out, HNU.out]; exact wft_sort HWA.out) (by unfold maxLen; omega)).mono fun e w1 hh => (⟨by rw [hh.1, HN10.out, HNU.out, hn11, HNB.out, sameRs_self], hh.2⟩ : e = .returned (.bool true) ∧ Below w11.heap.size w11 w1))
    have HX11 := hide (after_below hb11 HX10.out)
    clear hA11 hn11 hb11
    go_wp2_with fail
    refine HSame.out.mono ?_
    rintro e w12 ⟨rfl, hb12⟩
    have HX12 := hide (after_below hb12 HX11.out)
    clear hb12 HSame HA10 HN10 HB10 HAB HNB HY8 HY9 HY10 HSv HAv HNV
    have b0 := (HX12.out.cell (p := ⟨P, 0, none⟩) HTZ.out).trans HT0.out
    have b1 := (HX12.out.cell (p := ⟨P, 1, none⟩) HTZ.out).trans HT1.out
    have bz := Nat.lt_of_lt_of_le HTZ.out HX12.out.size
    have HAu12 := hide (HAu.out.on HX12.out)
    have HAu13 := hide (HAu12.out.on (Joins.below_alloc1 w12 (.cells #[hdr (B, d, r)] 27)))
    have HRr12 := hide (HRr.out.on (after_below HX12.out HQ3.out))
    go_wp2_with (at_builtin; go_must (refine append_rows rfl _ _ rfl w12.heap.size _ 1 [(B, d, r)] nu rfl (own_rows1 w12 (B, d, r)) _ (some ⟨gu, 0, none⟩) capu rfl HAu13.out (fun h => by cases h) (by omega) (by simp) ?_))
    intro v5 w13 hown13 hgrow13
    have hb13 : Below w12.heap.size w12 w13 := ((Below.refl _ _).alloc (Nat.le_refl _) _).grown hgrow13 (by simp) (fun k hk => by simp [Value.ownBlock] at hk; omega)
    have hln : ([((B, d, r) : RH)] ++ nu).length = nu.length + 1 := by simp
    obtain ⟨AL, cL, eL, hAL, -⟩ := rows_of_row (hs := [(B, d, r)] ++ nu) (B := w12.heap.size) (by rw [hln, Nat.add_comm]; exact hown13) (fun h hh => by
      rcases List.mem_append.1 hh with hh | hh
      · simp at hh
        subst hh
        exact HdrOk.below (h := (B, d, r)) ⟨HRr12.out, HNr.out⟩ hb13
      · exact (HAu12.out.2 h hh).below hb13) hb13.size
    rw [hln] at eL
    subst eL
    have HWL := hide (show ∀ h ∈ [((B, d, r) : RH)] ++ nu, WfR h.2.2 from fun h hh => by
      rcases List.mem_append.1 hh with hh | hh
      · simp at hh
        subst hh
        exact HWr.out
      · exact (wft_sort HWA.out).2 _ (by rw [← HNU.out]; unfold rowsOf; exact List.mem_map.2 ⟨h, hh, rfl⟩))
    have HX13 := hide (after_below hb13 HX12.out)
    have HAL := hide hAL; have HLn := hide hln
    have HCnt := hide (fun x => (by rw [HNU.out]; exact counts_add _ _ _ : countR (rowsOf nu) x = countR (rowsOf hs) x + countR (rowsOf gs) x))
    clear b0 b1 bz hown13 hgrow13 hb13 hAL hln HAu12 HAu13 HRr12
    generalize [((B, d, r) : RH)] ++ nu = L at *
    go_wp2_with fail
    go_loopw [105] (fun i wr => ∃ k : Nat, k ≤ nu.length + 1 ∧ i = .int .i64 k ∧ Below w13.heap.size w13 wr) (fun i _ => nu.length + 1 - (intOf i).toNat)
    case atStart => exact ⟨0, Nat.zero_le _, rfl, Below.refl _ _⟩
    case round =>
      obtain ⟨k, hk, rfl, hbw⟩ := hrel
      have HXr := hide (after_below hbw HX13.out)
      have HQr := hide (after_below HXr.out HQ3.out)
      have hs0 := hbw.size
      by_cases hlt : k < nu.length + 1
      · have hltL : k < L.length := by rw [HLn.out]; exact hlt
        obtain ⟨b, off, A1, c1, r1, rfl, hb, d1, hr1, -, hg1⟩ := (HAL.out.below hbw).at hltL
        have hw1 := HWL.out _ (getH_mem hltL)
        rw [hg1] at hw1
        have HW1 := hide hw1
        have HR1 := hide (hr1.mono hs0)
        have HFi := hide ((fits_any S A1 c c1 cs r1 wr (HC.out.on HQr.out) HR1.out HW.out HW1.out).mono fun e w1 (h : e = .returned (.bool (fitsB cs r1)) ∧ Below wr.heap.size wr w1) => (⟨by rw [h.1, fits_of hcc], h.2⟩ : e = .returned (.bool (rowFits cs r1)) ∧ Below wr.heap.size wr w1))
        obtain ⟨a0, a1, a2, a3, hz1, -⟩ := HALL.out _ HXr.out
        clear hr1 hg1 hw1 hltL
        cases hf : rowFits cs r1
        · have HF := hide hf; clear hf
          go_wp2_with fail
          refine HFi.out.mono ?_
          rintro e w14 ⟨rfl, hb14⟩
          rw [HF.out]
          have hq := hide (after_below hb14 hbw)
          clear hb14 a0 a1 a2 a3 hz1 d1
          go_wp2_with fail
          go_roundw
          case rel => exact ⟨k + 1, by omega, by go_num, hq.out⟩
          case measure => simp [intOf]; omega
        · have HF := hide hf; clear hf
          go_wp2_with fail
          refine HFi.out.mono ?_
          rintro e w14 ⟨rfl, hb14⟩
          rw [HF.out]
          have HX14 := hide (after_below hb14 HXr.out)
          have hq := hide (after_below hb14 hbw)
          have HR14 := hide (HR1.out.on hb14)
          clear hb14 a0 a1 a2 a3 hz1 d1
          obtain ⟨a0, a1, a2, a3, hz1, -⟩ := HALL.out _ HX14.out
          have b0 := (HX14.out.cell (p := ⟨P, 0, none⟩) HTZ.out).trans HT0.out
          have b1 := (HX14.out.cell (p := ⟨P, 1, none⟩) HTZ.out).trans HT1.out
          have bz := Nat.lt_of_lt_of_le HTZ.out HX14.out.size
          have hl1 : r1.length ≤ maxLen := HW1.out.1
          have HCu := hide (fun w' (h : Below w14.heap.size w14 w') => count_any Su (some ⟨gu, 0, none⟩) A1 cs.length cu capu c1 nu r1 w' (HAu.out.on (after_below h HX14.out)) (HR14.out.on h) (by unfold maxLen; omega) hl1)
          have HCt := hide (fun w' (h : Below w14.heap.size w14 w') => count_any S A A1 cs.length c cap c1 hs r1 w' (HR.out.on (after_below (after_below h HX14.out) HQ3.out)) (HR14.out.on h) (by unfold maxLen; omega) hl1)
          have HCo := hide (fun w' (h : Below w14.heap.size w14 w') => count_any S2 A2 A1 cs.length c2 cap2 c1 gs r1 w' (HR2.out.on (after_below (after_below h HX14.out) HQ3.out)) (HR14.out.on h) (by unfold maxLen; omega) hl1)
          rw [HCnt.out r1] at HCu
          have hx1 := countR_le (rowsOf hs) r1
          have hx2 := countR_le (rowsOf gs) r1
          rw [rowsOf_len] at hx1 hx2
          generalize countR (rowsOf hs) r1 = x at *
          generalize countR (rowsOf gs) r1 = y at *
          have hwr : IntKind.i64.wrap ((x : Int) + (y : Int)) = ((x + y : Nat) : Int) := by rw [IntKind.wrap_i64]; omega
          have hne : (((x + y : Nat) : Int) != ((x + y : Nat) : Int)) = false := by simp
          have a0r := fun d os => cell_regrown a0 d os
          have a1r := fun d os => cell_regrown a1 d os
          have a2r := fun d os => cell_regrown a2 d os
          have a3r := fun d os => cell_regrown a3 d os
          have b0r := fun d os => cell_regrown b0 d os
          have b1r := fun d os => cell_regrown b1 d os
          go_wp2_with fail
          refine wp_region_quiet_below (by kernel_rfl) (by kernel_rfl) ?_
          repeat (go_big_quiet_step (first
            | (go_at_call_of 17 (Value.slice A hs.length cap); exact Calls.regrown_of (HCt.out _ (below_regrown _ _ _)))
            | (go_at_call_of 17 (Value.slice A2 gs.length cap2); exact Calls.regrown_of (HCo.out _ (below_regrown _ _ _)))
            | (go_at_call 17; exact Calls.regrown_of (HCu.out _ (below_regrown _ _ _)))))
          refine wpQuiet_nil ?_
          intro _ hw'
          obtain ⟨⟨dq, osq⟩, hw''⟩ := hw'
          subst hw''
          have hq9 := hide (after_below (below_regrown _ dq osq) hq.out)
          clear a0 a1 a2 a3 hz1 b0 b1 bz a0r a1r a2r a3r b0r b1r
          go_wp2_with fail
          go_roundw
          case rel => exact ⟨k + 1, by omega, by go_num, hq9.out⟩
          case measure => simp [intOf]; omega
      · have hqf := hide (HL.out.trans (Below.mono HQr.out HTW.out))
        go_wp2_with fail
        refine (HAw.out _ hqf.out).mono ?_
        rintro e wh ⟨rfl, hbh⟩
        go_wp2_with fail
        go_ret
        exact ⟨rfl, then_below hqf.out hbh⟩
end Go.Proofs.YtfjhdfpdgjjcgaaGreatDoor.tableUnions
