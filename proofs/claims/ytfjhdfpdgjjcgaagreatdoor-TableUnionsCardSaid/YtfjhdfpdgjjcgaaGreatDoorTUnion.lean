/-
  Union of two tables.
-/
import Derived.Test.YtfjhdfpdgjjcgaaGreatDoorTConcat
namespace Go.Proofs.YtfjhdfpdgjjcgaaGreatDoor
open Go.RowKit

def unionE (cs ds : List (ByteArray × Int)) (rs ss : R3) : Int := if fullT cs rs = 0 then if fullT ds ss = 0 then if sameC cs ds = true then checkT cs (rs ++ ss) else 12 else fullT ds ss else fullT cs rs
def UnionV (cs ds : List (ByteArray × Int)) (rs ss : R3) (w : World) (e : Ending) (w' : World) : Prop :=
  (if unionE cs ds rs ss = 0 then ∃ v, e = .returned (.tuple #[v, .int .i64 0]) ∧ TabAt cs (sortR (rs ++ ss)) w' v else e = .returned (.tuple #[vZero, .int .i64 (unionE cs ds rs ss)])) ∧ Below w.heap.size w w'

def unionW (w : World) (a b a' b' : Value) : World := ((w.alloc (.cells #[a, b] 26)).alloc (.cells #[a', b'] 26)).alloc (.cells #[.slice none 0 0, .slice none 0 0] 26)
theorem unionW_size (w : World) (a b a' b' : Value) : (unionW w a b a' b').heap.size = w.heap.size + 3 := by simp [unionW]
theorem unionW_below (w : World) (a b a' b' : Value) : Below w.heap.size w (unionW w a b a' b') := alloc_after (Joins.below_alloc2 w _ _) _
theorem unionW_cells (w : World) (a b a' b' : Value) : (∀ i, (unionW w a b a' b').cell? ⟨w.heap.size, i, none⟩ = (#[a, b] : Array Value)[i]?) ∧ (∀ i, (unionW w a b a' b').cell? ⟨w.heap.size + 1, i, none⟩ = (#[a', b'] : Array Value)[i]?) ∧
    (unionW w a b a' b').heap[w.heap.size + 2]? = some (.cells #[.slice none 0 0, .slice none 0 0] 26) := by
  have s1 : (w.alloc (.cells #[a, b] 26)).heap.size = w.heap.size + 1 := by simp
  have s2 : ((w.alloc (.cells #[a, b] 26)).alloc (.cells #[a', b'] 26)).heap.size = w.heap.size + 2 := by simp
  refine ⟨fun i => ?_, fun i => ?_, ?_⟩
  · unfold unionW
    rw [World.cell?_alloc_lt _ _ _ (by rw [s2]; simp only; omega), World.cell?_alloc_lt _ _ _ (by rw [s1]; simp only; omega)]
    exact World.cell?_alloc_mark w _ _ (0, 0) i
  · unfold unionW
    rw [World.cell?_alloc_lt _ _ _ (by rw [s2]; simp only; omega)]
    have m := World.cell?_alloc_mark (w.alloc (.cells #[a, b] 26)) #[a', b'] 26 (0, 0) i
    rw [s1] at m
    exact m
  · have m := heap_alloc_new ((w.alloc (.cells #[a, b] 26)).alloc (.cells #[a', b'] 26)) (.cells #[.slice none 0 0, .slice none 0 0] 26)
    rw [s2] at m
    exact m
/-- What holds behind anything that leaves alone all below the result's cell. -/
theorem unionW_at {w : World} {a b a' b' : Value} {w' : World} (h : Below (w.heap.size + 2) (unionW w a b a' b') w') :
    w'.cell? ⟨w.heap.size, 0, none⟩ = some a ∧ w'.cell? ⟨w.heap.size, 1, none⟩ = some b ∧ w'.cell? ⟨w.heap.size + 1, 0, none⟩ = some a' ∧ w'.cell? ⟨w.heap.size + 1, 1, none⟩ = some b' ∧ w.heap.size + 2 < w'.heap.size := by
  have hz := unionW_size w a b a' b'
  obtain ⟨h0, h1, -⟩ := unionW_cells w a b a' b'
  refine ⟨(h.cell (p := ⟨w.heap.size, 0, none⟩) (by simp only; omega)).trans (h0 0), (h.cell (p := ⟨w.heap.size, 1, none⟩) (by simp only; omega)).trans (h0 1),
    (h.cell (p := ⟨w.heap.size + 1, 0, none⟩) (by simp only; omega)).trans (h1 0), (h.cell (p := ⟨w.heap.size + 1, 1, none⟩) (by simp only; omega)).trans (h1 1), ?_⟩
  have := h.size
  omega
/-- What holds of the result's cell behind anything that leaves alone all that was there. -/
theorem unionW_res {w : World} {a b a' b' : Value} {w' : World} (h : Below (unionW w a b a' b').heap.size (unionW w a b a' b') w') :
    w'.cell? ⟨w.heap.size + 2, 0, none⟩ = some (.slice none 0 0) ∧ w'.cell? ⟨w.heap.size + 2, 1, none⟩ = some (.slice none 0 0) ∧ w'.frozen? ⟨w.heap.size + 2, 0, none⟩ = false ∧ w'.frozen? ⟨w.heap.size + 2, 1, none⟩ = false ∧ ResAt w' (w.heap.size + 2) := by
  have hz := unionW_size w a b a' b'
  obtain ⟨-, -, h2⟩ := unionW_cells w a b a' b'
  have hr : ResAt (unionW w a b a' b') (w.heap.size + 2) := ⟨(0, 0), h2⟩
  exact ⟨(h.cell (p := ⟨w.heap.size + 2, 0, none⟩) (by simp only; omega)).trans (Lib.cell_of_heap h2 0), (h.cell (p := ⟨w.heap.size + 2, 1, none⟩) (by simp only; omega)).trans (Lib.cell_of_heap h2 1),
    (h.frozen (p := ⟨w.heap.size + 2, 0, none⟩) (by simp only; omega)).trans (Lib.frozen_of_heap h2 0), (h.frozen (p := ⟨w.heap.size + 2, 1, none⟩) (by simp only; omega)).trans (Lib.frozen_of_heap h2 1), hr.below h (by omega)⟩

abbrev DoneU (S A S2 A2 : Option Addr) (c cap c2 cap2 : Nat) (cs ds : List (ByteArray × Int)) (hs gs : List RH) (w : World) : Prop :=
  Calls Tryz.prog 8 #[vTab S cs.length c A hs.length cap, vTab S2 ds.length c2 A2 gs.length cap2] w (UnionV cs ds (rowsOf hs) (rowsOf gs) w)

set_option maxHeartbeats 6400000 in
set_option maxRecDepth 100000 in
theorem union_any (S A S2 A2 : Option Addr) (c cap c2 cap2 : Nat) (cs ds : List (ByteArray × Int)) (hs gs : List RH) (w : World)
    (hC : ColsAt w.heap.size w S cs) (hn : S = none → c = 0) (hR : RowsAt w.heap.size w A hs) (hnA : A = none → cap = 0) (hw : Wf cs) (hv : WfT (rowsOf hs)) (hlc : cs.length ≤ 65536) (hl : hs.length ≤ 16384) (hlr : ∀ r ∈ rowsOf hs, r.length ≤ 65536)
    (hC2 : ColsAt w.heap.size w S2 ds) (hR2 : RowsAt w.heap.size w A2 gs) (hnA2 : A2 = none → cap2 = 0) (hw2 : Wf ds) (hv2 : WfT (rowsOf gs)) (hlc2 : ds.length ≤ 65536) (hl2 : gs.length ≤ 16384) (hlr2 : ∀ r ∈ rowsOf gs, r.length ≤ 65536) :
    DoneU S A S2 A2 c cap c2 cap2 cs ds hs gs w := by
  have hal := unionW_below w (.slice S cs.length c) (.slice A hs.length cap) (.slice S2 ds.length c2) (.slice A2 gs.length cap2)
  have HAt := hide (fun w' => unionW_at (w := w) (a := .slice S cs.length c) (b := .slice A hs.length cap) (a' := .slice S2 ds.length c2) (b' := .slice A2 gs.length cap2) (w' := w'))
  have HRes := hide (fun w' => unionW_res (w := w) (a := .slice S cs.length c) (b := .slice A hs.length cap) (a' := .slice S2 ds.length c2) (b' := .slice A2 gs.length cap2) (w' := w'))
  have HWE := hide (show unionW w (.slice S cs.length c) (.slice A hs.length cap) (.slice S2 ds.length c2) (.slice A2 gs.length cap2) = ((w.alloc (.cells #[.slice S cs.length c, .slice A hs.length cap] 26)).alloc (.cells #[.slice S2 ds.length c2, .slice A2 gs.length cap2] 26)).alloc (.cells #[.slice none 0 0, .slice none 0 0] 26) from rfl)
  have HWZ := hide (unionW_size w (.slice S cs.length c) (.slice A hs.length cap) (.slice S2 ds.length c2) (.slice A2 gs.length cap2))
  generalize unionW w (.slice S cs.length c) (.slice A hs.length cap) (.slice S2 ds.length c2) (.slice A2 gs.length cap2) = W at *
  have HL := hide hal
  have HM := hide (fun w' (h : Below W.heap.size W w') => (h.mono (by rw [HWZ.out]; omega) : Below (w.heap.size + 2) W w'))
  have HC := hide (fun w' (h : Below (w.heap.size + 2) W w') => (hC.below (HL.out.trans (h.mono (by omega)))).mono (HL.out.trans (h.mono (by omega))).size)
  have HR := hide (fun w' (h : Below (w.heap.size + 2) W w') => (hR.below (HL.out.trans (h.mono (by omega)))).mono (HL.out.trans (h.mono (by omega))).size)
  have HC2 := hide (fun w' (h : Below (w.heap.size + 2) W w') => (hC2.below (HL.out.trans (h.mono (by omega)))).mono (HL.out.trans (h.mono (by omega))).size)
  have HR2 := hide (fun w' (h : Below (w.heap.size + 2) W w') => (hR2.below (HL.out.trans (h.mono (by omega)))).mono (HL.out.trans (h.mono (by omega))).size)
  have HP := hide (show ∀ e w', ((if unionE cs ds (rowsOf hs) (rowsOf gs) = 0 then ∃ v, e = Ending.returned (.tuple #[v, .int .i64 0]) ∧ TabAt cs (sortR (rowsOf hs ++ rowsOf gs)) w' v else e = .returned (.tuple #[vZero, .int .i64 (unionE cs ds (rowsOf hs) (rowsOf gs))])) ∧ Below w.heap.size w w') → UnionV cs ds (rowsOf hs) (rowsOf gs) w e w' from fun _ _ h => h)
  have HCk := hide (tabCheck_any S A c cap cs hs W (HC.out _ (Below.refl _ _)) (HR.out _ (Below.refl _ _)) hw hv)
  have HCk2 := hide (fun w' (h : Below W.heap.size W w') => tabCheck_any S2 A2 c2 cap2 ds gs w' (HC2.out _ (HM.out _ h)) (HR2.out _ (HM.out _ h)) hw2 hv2)
  have HEq := hide (fun w' (h : Below W.heap.size W w') => equal_any S S2 c c2 cs ds w' (HC.out _ (HM.out _ h)) (HC2.out _ (HM.out _ h)) (by unfold maxLen; omega))
  have HV := hide hv; have HV2 := hide hv2; have HW := hide hw; have HN := hide hn; have HNA := hide hnA; have HNA2 := hide hnA2; have HLR := hide hlr; have HLR2 := hide hlr2
  clear hal hC hR hC2 hR2 hv hv2 hw hw2 hn hnA hnA2 hlr hlr2
  by_cases hf : fullT cs (rowsOf hs) = 0
  · have hk1 : (fullT cs (rowsOf hs) != 0) = false := by rw [bne_eq_false_iff_eq]; exact hf
    by_cases hg : fullT ds (rowsOf gs) = 0
    · have hk2 : (fullT ds (rowsOf gs) != 0) = false := by rw [bne_eq_false_iff_eq]; exact hg
      have hlm : hs.length ≤ 4096 := by have := (checkT_zero (fullT_zero hf).1).2.1; rwa [rowsOf_len] at this
      cases hsc : sameC cs ds
      · have HE := hide (show unionE cs ds (rowsOf hs) (rowsOf gs) = 12 by unfold unionE; rw [if_pos hf, if_pos hg, hsc]; rfl)
        have HSC := hide hsc
        clear hf hg hsc
        go_enter Tryz.func8, Tryz.ntmps8
        go_wp2_with fail
        rw [← HWE.out]
        refine HCk.out.mono ?_
        rintro e w1 ⟨rfl, hb1⟩
        obtain ⟨a0, a1, a2, a3, hz1⟩ := HAt.out _ (HM.out _ hb1)
        have HB1 := hide hb1; clear hb1
        go_wp2_with fail
        refine (HCk2.out _ HB1.out).mono ?_
        rintro e w2 ⟨rfl, hb2⟩
        have HB2 := hide (then_below HB1.out hb2)
        clear hb2 a0 a1 a2 a3 hz1
        obtain ⟨a0, a1, a2, a3, hz1⟩ := HAt.out _ (HM.out _ HB2.out)
        go_wp2_with fail
        refine (HEq.out _ HB2.out).mono ?_
        rintro e w3 ⟨rfl, hb3⟩
        rw [HSC.out]
        have HB := hide (then_below HB2.out hb3)
        clear hb3 a0 a1 a2 a3 hz1
        obtain ⟨r0, r1, f0, f1, -⟩ := HRes.out _ HB.out
        obtain ⟨-, -, -, -, hz⟩ := HAt.out _ (HM.out _ HB.out)
        go_wp2_with fail
        refine bodyPost_ret (v := .tuple #[vZero, .int .i64 12]) (by simp [results, Tryz.results8, go_sem, r0, r1]) rfl ?_
        refine HP.out _ _ ⟨by rw [HE.out, if_neg (by decide)], ?_⟩
        exact ((HL.out.trans (HB.out.mono (by rw [HWZ.out]; omega))).setCell (p := ⟨w.heap.size + 2, 0, none⟩) (by simp only; omega) _).setCell (p := ⟨w.heap.size + 2, 1, none⟩) (by simp only; omega) _
      · have HSC := hide hsc
        have HE := hide (show unionE cs ds (rowsOf hs) (rowsOf gs) = checkT cs (rowsOf hs ++ rowsOf gs) by unfold unionE; rw [if_pos hf, if_pos hg, hsc]; rfl)
        have happ : rowsOf (hs ++ gs) = rowsOf hs ++ rowsOf gs := by unfold rowsOf; exact List.map_append
        have HWT := hide (show WfT (rowsOf hs ++ rowsOf gs) from ⟨by rw [List.length_append, rowsOf_len, rowsOf_len]; unfold maxLen; omega, fun r hr => by
          rcases List.mem_append.1 hr with hr | hr
          · exact HV.out.2 r hr
          · exact HV2.out.2 r hr⟩)
        have HCc := hide (fun g (w' : World) (hg : g < w'.heap.size) (h1 : w'.cell? ⟨g, 0, none⟩ = some (.slice A hs.length cap)) (h2 : w'.cell? ⟨g, 1, none⟩ = some (.slice A2 gs.length cap2)) (h : Below (w.heap.size + 2) W w') => (concatRows_two g A A2 cap cap2 hs gs w' hg h1 h2 (HR.out _ h) (HR2.out _ h) HNA.out HNA2.out (by omega) (by omega)).mono fun e w1 (hh : GivesHdr (hs ++ gs) w' e w1) => (by
          obtain ⟨⟨A5, c5, h1, h2, _⟩, h3⟩ := hh
          rw [List.length_append] at h1
          exact ⟨⟨A5, c5, h1, h2⟩, h3⟩ : (∃ A5 c5, e = .returned (.slice A5 (hs.length + gs.length) c5) ∧ RowsAt w1.heap.size w1 A5 (hs ++ gs)) ∧ Below w'.heap.size w' w1))
        have HMk := hide (fun A' d w' (h : Below (w.heap.size + 2) W w') (hA : RowsAt w'.heap.size w' A' (hs ++ gs)) => (by
          have hmk := make_fresh S A' c d cs (hs ++ gs) w' (HC.out _ h) HN.out hA HW.out (by rw [happ]; exact HWT.out) hlc (fun x hx => by
            rw [happ] at hx
            rcases List.mem_append.1 hx with hx | hx
            · exact HLR.out x hx
            · exact HLR2.out x hx)
          rw [happ, List.length_append] at hmk
          exact hmk : Calls Tryz.prog 24 #[.slice S cs.length c, .slice A' (hs.length + gs.length) d] w' (MakeF cs (rowsOf hs ++ rowsOf gs) w')))
        clear hf hg hsc
        by_cases hz : checkT cs (rowsOf hs ++ rowsOf gs) = 0
        · have HMk2 := hide (fun A' d w' h hA => (HMk.out A' d w' h hA).mono fun e w1 (hh : MakeF cs (rowsOf hs ++ rowsOf gs) w' e w1) => (by
            obtain ⟨h1, hb⟩ := hh
            rw [if_pos hz] at h1
            exact ⟨h1, hb⟩ : (∃ v, e = .returned (.tuple #[v, .int .i64 0]) ∧ TabF cs (sortR (rowsOf hs ++ rowsOf gs)) w'.heap.size w1 v) ∧ Below w'.heap.size w' w1))
          have HZ := hide hz
          clear HMk hz
          go_enter Tryz.func8, Tryz.ntmps8
          go_wp2_with fail
          rw [← HWE.out]
          refine HCk.out.mono ?_
          rintro e w1 ⟨rfl, hb1⟩
          obtain ⟨a0, a1, a2, a3, hz1⟩ := HAt.out _ (HM.out _ hb1)
          have HB1 := hide hb1; clear hb1
          go_wp2_with fail
          refine (HCk2.out _ HB1.out).mono ?_
          rintro e w2 ⟨rfl, hb2⟩
          have HB2 := hide (then_below HB1.out hb2)
          clear hb2 a0 a1 a2 a3 hz1
          obtain ⟨a0, a1, a2, a3, hz1⟩ := HAt.out _ (HM.out _ HB2.out)
          go_wp2_with fail
          refine (HEq.out _ HB2.out).mono ?_
          rintro e w3 ⟨rfl, hb3⟩
          rw [HSC.out]
          have HB3 := hide (then_below HB2.out hb3)
          clear hb3 a0 a1 a2 a3 hz1
          go_wp2_with fail
          have HALL := hide (fun w' (h : Below (w.heap.size + 2) W w') => (⟨(HAt.out _ h).1, (HAt.out _ h).2.1, (HAt.out _ h).2.2.1, (HAt.out _ h).2.2.2.1, (HAt.out _ h).2.2.2.2, h⟩ :
            w'.cell? ⟨w.heap.size, 0, none⟩ = some (.slice S cs.length c) ∧ w'.cell? ⟨w.heap.size, 1, none⟩ = some (.slice A hs.length cap) ∧ w'.cell? ⟨w.heap.size + 1, 0, none⟩ = some (.slice S2 ds.length c2) ∧ w'.cell? ⟨w.heap.size + 1, 1, none⟩ = some (.slice A2 gs.length cap2) ∧ w.heap.size + 2 < w'.heap.size ∧ Below (w.heap.size + 2) W w'))
          go_region_held3 (fun w' => w'.cell? ⟨w.heap.size, 0, none⟩ = some (.slice S cs.length c) ∧ w'.cell? ⟨w.heap.size, 1, none⟩ = some (.slice A hs.length cap) ∧ w'.cell? ⟨w.heap.size + 1, 0, none⟩ = some (.slice S2 ds.length c2) ∧ w'.cell? ⟨w.heap.size + 1, 1, none⟩ = some (.slice A2 gs.length cap2) ∧ w.heap.size + 2 < w'.heap.size ∧ Below (w.heap.size + 2) W w')
            ((refine HALL.out _ ?_; first | with_reducible assumption | with_reducible exact HM.out _ HB3.out | with_reducible exact (HM.out _ HB3.out).drew | with_reducible exact HM.out _ (alloc_after HB3.out _) | with_reducible exact (HM.out _ (alloc_after HB3.out _)).drew | with_reducible exact HM.out _ hB6 | with_reducible exact HM.out _ hB5 | with_reducible exact ((HM.out _ hB6).setCell (p := ⟨w.heap.size + 2, 0, none⟩) (Nat.le_refl _) _).setCell (p := ⟨w.heap.size + 2, 1, none⟩) (Nat.le_refl _) _))
            (first
              | (go_at_call 28; (try go_split_ands); have hq3 := (alloc_after HB3.out (.cells #[.slice A hs.length cap, .slice A2 gs.length cap2] 24)).drew; refine (HCc.out w3.heap.size _ (by simp) (by simp) (by simp) (HM.out _ hq3)).mono ?_; rintro e w5 ⟨⟨A5, c5, rfl, hA5⟩, hb5⟩; have hB5 : Below W.heap.size W w5 := after_below hb5 hq3)
              | (go_at_call 24; (try go_split_ands); refine (HMk2.out _ _ _ (HM.out _ hB5) hA5).mono ?_; rintro e w6 ⟨⟨v, rfl, S6, c6, g6, cap6, n6, rfl, hS6, hSn6, hn6, hA6, hg6⟩, hb6⟩; have hB6 : Below W.heap.size W w6 := after_below hb6 hB5; obtain ⟨r0, r1, f0, f1, hres⟩ := HRes.out _ hB6; have hz6 := (HAt.out _ (HM.out _ hB6)).2.2.2.2))
          all_goals
            go_split_ands
            go_wp2_with fail
            have hbut : ButAt (w.heap.size + 2) w6 ((w6.setCell ⟨w.heap.size + 2, 0, none⟩ (.slice S6 cs.length c6)).setCell ⟨w.heap.size + 2, 1, none⟩ (.slice (some ⟨g6, 0, none⟩) n6.length cap6)) := (butAt_set _ _ _ _).trans (butAt_set _ _ _ _)
            refine bodyPost_ret (v := .tuple #[.agg #[.slice S6 cs.length c6, .slice (some ⟨g6, 0, none⟩) n6.length cap6], .int .i64 0]) (by simp [results, Tryz.results8, go_sem, r0, r1]) rfl ?_
            refine HP.out _ _ ⟨?_, ?_⟩
            · rw [HE.out, if_pos HZ.out]
              refine ⟨_, rfl, S6, c6, g6, cap6, n6, rfl, ?_, hSn6, hn6, ?_⟩
              · rw [hbut.2]; exact hS6.but hres hbut
              · have hz5 := (HAt.out _ (HM.out _ hB5)).2.2.2.2
                rw [hbut.2]; exact hA6.but hres hbut (by omega)
            · exact ((HL.out.trans (hB6.mono (by rw [HWZ.out]; omega))).setCell (p := ⟨w.heap.size + 2, 0, none⟩) (by simp only; omega) _).setCell (p := ⟨w.heap.size + 2, 1, none⟩) (by simp only; omega) _
        · have HMk2 := hide (fun A' d w' h hA => (HMk.out A' d w' h hA).mono fun e w1 (hh : MakeF cs (rowsOf hs ++ rowsOf gs) w' e w1) => (by
            obtain ⟨h1, hb⟩ := hh
            rw [if_neg hz] at h1
            exact ⟨h1, hb⟩ : e = .returned (.tuple #[vZero, .int .i64 (checkT cs (rowsOf hs ++ rowsOf gs))]) ∧ Below w'.heap.size w' w1))
          have HZ := hide hz
          clear HMk hz
          go_enter Tryz.func8, Tryz.ntmps8
          go_wp2_with fail
          rw [← HWE.out]
          refine HCk.out.mono ?_
          rintro e w1 ⟨rfl, hb1⟩
          obtain ⟨a0, a1, a2, a3, hz1⟩ := HAt.out _ (HM.out _ hb1)
          have HB1 := hide hb1; clear hb1
          go_wp2_with fail
          refine (HCk2.out _ HB1.out).mono ?_
          rintro e w2 ⟨rfl, hb2⟩
          have HB2 := hide (then_below HB1.out hb2)
          clear hb2 a0 a1 a2 a3 hz1
          obtain ⟨a0, a1, a2, a3, hz1⟩ := HAt.out _ (HM.out _ HB2.out)
          go_wp2_with fail
          refine (HEq.out _ HB2.out).mono ?_
          rintro e w3 ⟨rfl, hb3⟩
          rw [HSC.out]
          have HB3 := hide (then_below HB2.out hb3)
          clear hb3 a0 a1 a2 a3 hz1
          go_wp2_with fail
          have HALL := hide (fun w' (h : Below (w.heap.size + 2) W w') => (⟨(HAt.out _ h).1, (HAt.out _ h).2.1, (HAt.out _ h).2.2.1, (HAt.out _ h).2.2.2.1, (HAt.out _ h).2.2.2.2, h⟩ :
            w'.cell? ⟨w.heap.size, 0, none⟩ = some (.slice S cs.length c) ∧ w'.cell? ⟨w.heap.size, 1, none⟩ = some (.slice A hs.length cap) ∧ w'.cell? ⟨w.heap.size + 1, 0, none⟩ = some (.slice S2 ds.length c2) ∧ w'.cell? ⟨w.heap.size + 1, 1, none⟩ = some (.slice A2 gs.length cap2) ∧ w.heap.size + 2 < w'.heap.size ∧ Below (w.heap.size + 2) W w'))
          go_region_held3 (fun w' => w'.cell? ⟨w.heap.size, 0, none⟩ = some (.slice S cs.length c) ∧ w'.cell? ⟨w.heap.size, 1, none⟩ = some (.slice A hs.length cap) ∧ w'.cell? ⟨w.heap.size + 1, 0, none⟩ = some (.slice S2 ds.length c2) ∧ w'.cell? ⟨w.heap.size + 1, 1, none⟩ = some (.slice A2 gs.length cap2) ∧ w.heap.size + 2 < w'.heap.size ∧ Below (w.heap.size + 2) W w')
            ((refine HALL.out _ ?_; first | with_reducible assumption | with_reducible exact HM.out _ HB3.out | with_reducible exact (HM.out _ HB3.out).drew | with_reducible exact HM.out _ (alloc_after HB3.out _) | with_reducible exact (HM.out _ (alloc_after HB3.out _)).drew | with_reducible exact HM.out _ hB6 | with_reducible exact HM.out _ hB5 | with_reducible exact ((HM.out _ hB6).setCell (p := ⟨w.heap.size + 2, 0, none⟩) (Nat.le_refl _) _).setCell (p := ⟨w.heap.size + 2, 1, none⟩) (Nat.le_refl _) _))
            (first
              | (go_at_call 28; (try go_split_ands); have hq3 := (alloc_after HB3.out (.cells #[.slice A hs.length cap, .slice A2 gs.length cap2] 24)).drew; refine (HCc.out w3.heap.size _ (by simp) (by simp) (by simp) (HM.out _ hq3)).mono ?_; rintro e w5 ⟨⟨A5, c5, rfl, hA5⟩, hb5⟩; have hB5 : Below W.heap.size W w5 := after_below hb5 hq3)
              | (go_at_call 24; (try go_split_ands); refine (HMk2.out _ _ _ (HM.out _ hB5) hA5).mono ?_; rintro e w6 ⟨rfl, hb6⟩; have hB6 : Below W.heap.size W w6 := after_below hb6 hB5; obtain ⟨r0, r1, f0, f1, hres⟩ := HRes.out _ hB6; have hz6 := (HAt.out _ (HM.out _ hB6)).2.2.2.2))
          all_goals
            go_split_ands
            go_wp2_with fail
            refine bodyPost_ret (v := .tuple #[vZero, .int .i64 (checkT cs (rowsOf hs ++ rowsOf gs))]) (by simp [results, Tryz.results8, go_sem, r0, r1]) rfl ?_
            refine HP.out _ _ ⟨by rw [HE.out, if_neg HZ.out], ?_⟩
            exact ((HL.out.trans (hB6.mono (by rw [HWZ.out]; omega))).setCell (p := ⟨w.heap.size + 2, 0, none⟩) (by simp only; omega) _).setCell (p := ⟨w.heap.size + 2, 1, none⟩) (by simp only; omega) _
    · have hk2 : (fullT ds (rowsOf gs) != 0) = true := by rw [bne_iff_ne]; exact hg
      have HE := hide (show unionE cs ds (rowsOf hs) (rowsOf gs) = fullT ds (rowsOf gs) by unfold unionE; rw [if_pos hf, if_neg hg])
      have HF := hide hg
      clear hf hg
      go_enter Tryz.func8, Tryz.ntmps8
      go_wp2_with fail
      rw [← HWE.out]
      refine HCk.out.mono ?_
      rintro e w1 ⟨rfl, hb1⟩
      obtain ⟨a0, a1, a2, a3, hz1⟩ := HAt.out _ (HM.out _ hb1)
      have HB1 := hide hb1; clear hb1
      go_wp2_with fail
      refine (HCk2.out _ HB1.out).mono ?_
      rintro e w2 ⟨rfl, hb2⟩
      have HB := hide (then_below HB1.out hb2)
      clear hb2 a0 a1 a2 a3 hz1
      obtain ⟨r0, r1, f0, f1, -⟩ := HRes.out _ HB.out
      obtain ⟨-, -, -, -, hz⟩ := HAt.out _ (HM.out _ HB.out)
      go_wp2_with fail
      refine bodyPost_ret (v := .tuple #[vZero, .int .i64 (fullT ds (rowsOf gs))]) (by simp [results, Tryz.results8, go_sem, r0, r1]) rfl ?_
      refine HP.out _ _ ⟨by rw [HE.out, if_neg HF.out], ?_⟩
      exact ((HL.out.trans (HB.out.mono (by rw [HWZ.out]; omega))).setCell (p := ⟨w.heap.size + 2, 0, none⟩) (by simp only; omega) _).setCell (p := ⟨w.heap.size + 2, 1, none⟩) (by simp only; omega) _
  · have hk0 : (fullT cs (rowsOf hs) != 0) = true := by rw [bne_iff_ne]; exact hf
    have HE := hide (show unionE cs ds (rowsOf hs) (rowsOf gs) = fullT cs (rowsOf hs) by unfold unionE; rw [if_neg hf])
    have HF := hide hf
    clear hf
    go_enter Tryz.func8, Tryz.ntmps8
    go_wp2_with fail
    rw [← HWE.out]
    refine HCk.out.mono ?_
    rintro e w1 ⟨rfl, hb1⟩
    obtain ⟨r0, r1, f0, f1, -⟩ := HRes.out _ hb1
    obtain ⟨-, -, -, -, hz⟩ := HAt.out _ (HM.out _ hb1)
    have HB1 := hide hb1; clear hb1
    go_wp2_with fail
    refine bodyPost_ret (v := .tuple #[vZero, .int .i64 (fullT cs (rowsOf hs))]) (by simp [results, Tryz.results8, go_sem, r0, r1]) rfl ?_
    refine HP.out _ _ ⟨by rw [HE.out, if_neg HF.out], ?_⟩
    exact ((HL.out.trans (HB1.out.mono (by rw [HWZ.out]; omega))).setCell (p := ⟨w.heap.size + 2, 0, none⟩) (by simp only; omega) _).setCell (p := ⟨w.heap.size + 2, 1, none⟩) (by simp only; omega) _
end Go.Proofs.YtfjhdfpdgjjcgaaGreatDoor
