/-
  The rule of an expression: the walk of rule.
-/
import Derived.Test.YtpohofcfmllghaaDoorERule
import Derived.Test.YtpohofcfmllghaaDoorSHolds
namespace Go.Proofs.YtpohofcfmllghaaDoor
open Go.RowKit

theorem ruleX_free {x : XT} (h : x.kind = 1 ∨ x.kind = 2) : ruleX x = (dR, true) := by unfold ruleX; rw [if_pos h]
theorem ruleX_hit {x : XT} {r : RL} (h : ¬ (x.kind = 1 ∨ x.kind = 2)) (hr : ruleOf x.kind (wordX x) = some r) : ruleX x = (r, true) := by unfold ruleX; rw [if_neg h, hr]
theorem ruleX_miss {x : XT} (h : ¬ (x.kind = 1 ∨ x.kind = 2)) (hr : ruleOf x.kind (wordX x) = none) : ruleX x = (dR, false) := by unfold ruleX; rw [if_neg h, hr]
/-- The world of rule ahead of its loop: the expression's box, and the result's. -/
def ruleW (w : World) (x : XT) : World := (boxE w x).alloc (.cells (rCells dR) 75)
theorem ruleW_at {w : World} {x : XT} {w' : World} (h : Below (ruleW w x).heap.size (ruleW w x) w') :
    Below (boxE w x).heap.size (boxE w x) w' ∧ (∀ i, w'.cell? ⟨w.heap.size + 1, i, none⟩ = (rCells dR)[i]?) ∧ (∀ i, i < 7 → w'.frozen? ⟨w.heap.size + 1, i, none⟩ = false) ∧ w.heap.size + 1 < w'.heap.size := by
  have hz : (boxE w x).heap.size = w.heap.size + 1 := by simp [boxE]
  have hz2 : (ruleW w x).heap.size = w.heap.size + 2 := by unfold ruleW; simp [hz]
  have hn : (ruleW w x).heap[w.heap.size + 1]? = some (.cells (rCells dR) 75 (0, 0)) := by rw [← hz]; exact heap_alloc_new _ _
  have hs := h.size
  refine ⟨then_below (Joins.below_alloc1 _ _) h, fun i => (h.cell (p := ⟨w.heap.size + 1, i, none⟩) (by simp only; omega)).trans (Lib.cell_of_heap hn i), fun i _ => (h.frozen (p := ⟨w.heap.size + 1, i, none⟩) (by simp only; omega)).trans (Lib.frozen_of_heap hn i), by omega⟩

set_option maxHeartbeats 3200000 in
set_option maxRecDepth 100000 in
theorem rule_any (x : XT) (w : World) (hR : Rls w) :
    Calls Tryd.prog 34 #[vX x] w fun e w' => e = .returned (.tuple #[.agg (rCells (ruleX x).1), .bool (ruleX x).2]) ∧ Below w.heap.size w w' := by
  have hal : Below w.heap.size w (ruleW w x) := then_below (boxE_below w x) (Joins.below_alloc1 _ _)
  have HBox := hide (fun w' h => boxE_at (w := w) (x := x) (w' := w') (ruleW_at h).1)
  have HRes := hide (fun w' h => (ruleW_at (w := w) (x := x) (w' := w') h).2)
  have HRl := hide (hR.stays hal)
  have HWd := hide (fun w' => word_any x w')
  obtain ⟨kd, nm, v, o, A, c, ts⟩ := x
  have HWE := hide (show ruleW w (.mk kd nm v o A c ts) = (w.alloc (.cells (eCells kd nm v o A ts.length c) 29)).alloc (.cells #[.int .i64 0, .string ⟨#[]⟩, .int .i64 0, .int .i64 0, .int .i64 0, .int .i64 0, .int .i64 0] 75) from rfl)
  have HL := hide hal
  by_cases h12 : kd = 1 ∨ kd = 2
  · have HX := hide (ruleX_free (x := .mk kd nm v o A c ts) h12)
    generalize ruleX (.mk kd nm v o A c ts) = q at HX ⊢
    have HQ := hide (show ((kd == 1) = true) ∨ ((kd == 1) = false ∧ (kd == 2) = true) by
      rcases h12 with rfl | rfl
      · exact .inl rfl
      · exact .inr ⟨rfl, rfl⟩)
    show Calls Tryd.prog 34 #[.agg (eCells kd nm v o A ts.length c)] w _
    clear hal hR h12
    rcases HQ.out with hk | ⟨hk, hk2⟩
    all_goals
      clear HQ
      go_enter Tryd.func34, Tryd.ntmps34
      go_wp2_with fail
      go_returns
      refine ⟨by rw [HX.out]; rfl, by go_grown⟩
  · have hk1 : (kd == 1) = false := by rw [beq_eq_false_iff_ne]; exact fun e => h12 (.inl e)
    have hk2 : (kd == 2) = false := by rw [beq_eq_false_iff_ne]; exact fun e => h12 (.inr e)
    have HHit := hide (fun r hr => ruleX_hit (x := .mk kd nm v o A c ts) (r := r) h12 hr)
    have HMiss := hide (fun hr => ruleX_miss (x := .mk kd nm v o A c ts) h12 hr)
    have HFh := hide (fun k (hk : k < 21) h1 h2 => find_hit (p := hitR kd (wordX (.mk kd nm v o A c ts))) (d := dR) rulesL k hk h1 h2)
    have HFm := hide (fun h => find_miss (p := hitR kd (wordX (.mk kd nm v o A c ts))) (d := dR) (l := rulesL) h)
    have HRu := hide (show ∀ kd wd, ruleOf kd wd = rulesL.find? (hitR kd wd) from fun _ _ => rfl)
    generalize ruleX (.mk kd nm v o A c ts) = q at HHit HMiss ⊢
    simp only [XT.kind] at HHit HMiss
    generalize wordX (.mk kd nm v o A c ts) = wd at *
    have HVx : vX (.mk kd nm v o A c ts) = .agg (eCells kd nm v o A ts.length c) := rfl
    rw [HVx] at HWd
    show Calls Tryd.prog 34 #[.agg (eCells kd nm v o A ts.length c)] w _
    generalize ruleW w (.mk kd nm v o A c ts) = W at *
    simp only [XT.kind, XT.name, XT.val, XT.op, XT.adr, XT.args, XT.cap] at HBox
    have HLn := hide (show rulesL.length = 21 from rfl)
    clear hal hR h12 HVx
    go_enter Tryd.func34, Tryd.ntmps34
    go_wp2_with fail
    rw [← HWE.out]
    go_loopw [14] (fun i wr => ∃ k : Nat, k ≤ 21 ∧ i = .int .i64 k ∧ (∀ j, j < k → hitR kd wd (rulesL.getD j dR) = false) ∧ Below W.heap.size W wr) (fun i _ => 21 - (intOf i).toNat)
    case atStart => exact ⟨0, by omega, rfl, fun j h => by omega, Below.refl _ _⟩
    case round =>
      obtain ⟨k, hk, rfl, hno, hbw⟩ := hrel
      have HNo := hide hno
      have HB := hide hbw
      clear hno
      by_cases hlt : k < 21
      · obtain ⟨g0, g1, g2, g3, g4, g5, g6⟩ := (HRl.out.stays HB.out) k hlt
        obtain ⟨b0, b1, b2, b3, b4, b5, b6, bz⟩ := HBox.out _ HB.out
        have HH := hide (HFh.out k hlt HNo.out)
        have HS := hide (fun (h : hitR kd wd (rulesL.getD k dR) = false) j (hj : j < k + 1) => (by
          by_cases e : j = k
          · rw [e]; exact h
          · exact HNo.out j (by omega) : hitR kd wd (rulesL.getD j dR) = false))
        generalize rulesL.getD k dR = r at g0 g1 g2 g3 g4 g5 g6 HH HS
        have hkk : (k : Int) < 21 := by omega
        cases hrk : (r.k == kd)
        · have HNh := hide (show hitR kd wd r = false by unfold hitR; rw [hrk]; rfl)
          have q0 := fun d os => cell_regrown g0 d os
          have e0 := fun d os => cell_regrown b0 d os
          go_wp2_with fail
          refine wp_region_quiet_below (by kernel_rfl) (by kernel_rfl) ?_
          repeat (go_big_quiet_step (fail))
          refine wpQuiet_nil ?_
          intro _ hw'
          obtain ⟨⟨dq, osq⟩, hw''⟩ := hw'
          subst hw''
          have hq := hide (then_below HB.out (below_regrown _ dq osq))
          clear q0 e0 g0 g1 g2 g3 g4 g5 g6 b0 b1 b2 b3 b4 b5 b6 bz
          go_wp2_with fail
          go_roundw
          case rel => exact ⟨k + 1, by omega, by go_num, HS.out HNh.out, hq.out⟩
          case measure => simp [intOf]; omega
        · have HKd := hide (beq_iff_eq.1 hrk)
          have q0 := fun d os => cell_regrown g0 d os
          have q1 := fun d os => cell_regrown g1 d os
          have e0 := fun d os => cell_regrown b0 d os
          have e1 := fun d os => cell_regrown b1 d os
          have e2 := fun d os => cell_regrown b2 d os
          have e3 := fun d os => cell_regrown b3 d os
          have e4 := fun d os => cell_regrown b4 d os
          have e5 := fun d os => cell_regrown b5 d os
          have e6 := fun d os => cell_regrown b6 d os
          cases hrw : (r.w.toList == wd.toList)
          · have HNh := hide (show hitR kd wd r = false by unfold hitR; rw [hrw]; simp)
            go_wp2_with fail
            refine wp_region_quiet_below (by kernel_rfl) (by kernel_rfl) ?_
            repeat (go_big_quiet_step (first | (go_at_call 38; exact Calls.regrown_of (HWd.out _))))
            refine wpQuiet_nil ?_
            intro _ hw'
            obtain ⟨⟨dq, osq⟩, hw''⟩ := hw'
            subst hw''
            have hq := hide (then_below HB.out (below_regrown _ dq osq))
            clear q0 q1 e0 e1 e2 e3 e4 e5 e6 g0 g1 g2 g3 g4 g5 g6 b0 b1 b2 b3 b4 b5 b6 bz
            go_wp2_with fail
            go_roundw
            case rel => exact ⟨k + 1, by omega, by go_num, HS.out HNh.out, hq.out⟩
            case measure => simp [intOf]; omega
          · have HYs := hide (HHit.out r (by rw [HRu.out]; exact HH.out (by unfold hitR; rw [hrk, hrw]; rfl)))
            go_wp2_with fail
            refine wp_region_quiet_below (by kernel_rfl) (by kernel_rfl) ?_
            repeat (go_big_quiet_step (first | (go_at_call 38; exact Calls.regrown_of (HWd.out _))))
            refine wpQuiet_nil ?_
            intro _ hw'
            obtain ⟨⟨dq, osq⟩, hw''⟩ := hw'
            subst hw''
            have q1' : Below wr.heap.size wr (Go.Sort.grow (redrawn wr dq) osq) := below_regrown _ dq osq
            generalize Go.Sort.grow (redrawn wr dq) osq = w1 at q1' ⊢
            have HQ1 := hide (then_below HB.out q1')
            have f : ∀ i u, wr.cell? ⟨1, i, none⟩ = some u → w1.cell? ⟨1, i, none⟩ = some u := fun i u hu => by
              have := (HRl.out.stays HQ1.out)
              exact (q1'.cell (p := ⟨1, i, none⟩) (by
                rcases Nat.lt_or_ge 1 wr.heap.size with h' | h'
                · exact h'
                · exfalso
                  have : wr.heap[1]? = none := Array.getElem?_eq_none h'
                  simp [World.cell?, this] at hu)).trans hu
            have g0' := f _ _ g0; have g1' := f _ _ g1; have g2' := f _ _ g2; have g3' := f _ _ g3; have g4' := f _ _ g4; have g5' := f _ _ g5; have g6' := f _ _ g6
            obtain ⟨rc, rf, rz⟩ := HRes.out _ HQ1.out
            have r0 := rc 0; have r1 := rc 1; have r2 := rc 2; have r3 := rc 3; have r4 := rc 4; have r5 := rc 5; have r6 := rc 6
            have f0 := rf 0 (by omega); have f1 := rf 1 (by omega); have f2 := rf 2 (by omega); have f3 := rf 3 (by omega); have f4 := rf 4 (by omega); have f5 := rf 5 (by omega); have f6 := rf 6 (by omega)
            simp only [rCells, dR, List.getElem?_toArray, List.getElem?_cons_zero, List.getElem?_cons_succ] at r0 r1 r2 r3 r4 r5 r6
            clear rc rf f q0 q1 e0 e1 e2 e3 e4 e5 e6 g0 g1 g2 g3 g4 g5 g6 b0 b1 b2 b3 b4 b5 b6 bz q1'
            go_wp2_with fail
            refine bodyPost_ret (v := .tuple #[.agg (rCells r), .bool true]) (by simp [results, Tryd.results34, go_sem, r0, r1, r2, r3, r4, r5, r6]) rfl ?_
            refine ⟨by rw [HYs.out], ?_⟩
            exact (((((((HL.out.trans (HQ1.out.mono HL.out.size)).setCell (p := ⟨w.heap.size + 1, 0, none⟩) (by simp only; omega) _).setCell (p := ⟨w.heap.size + 1, 1, none⟩) (by simp only; omega) _).setCell (p := ⟨w.heap.size + 1, 2, none⟩) (by simp only; omega) _).setCell (p := ⟨w.heap.size + 1, 3, none⟩) (by simp only; omega) _).setCell (p := ⟨w.heap.size + 1, 4, none⟩) (by simp only; omega) _).setCell (p := ⟨w.heap.size + 1, 5, none⟩) (by simp only; omega) _).setCell (p := ⟨w.heap.size + 1, 6, none⟩) (by simp only; omega) _
      · have HYs := hide (HMiss.out (by rw [HRu.out]; exact HFm.out (fun j hj => HNo.out j (by rw [HLn.out] at hj; omega))))
        obtain ⟨rc, rf, rz⟩ := HRes.out _ HB.out
        have r0 := rc 0; have r1 := rc 1; have r2 := rc 2; have r3 := rc 3; have r4 := rc 4; have r5 := rc 5; have r6 := rc 6
        have f0 := rf 0 (by omega); have f1 := rf 1 (by omega); have f2 := rf 2 (by omega); have f3 := rf 3 (by omega); have f4 := rf 4 (by omega); have f5 := rf 5 (by omega); have f6 := rf 6 (by omega)
        simp only [rCells, dR, List.getElem?_toArray, List.getElem?_cons_zero, List.getElem?_cons_succ] at r0 r1 r2 r3 r4 r5 r6
        clear rc rf
        have hk21 : ¬ (k : Int) < 21 := by omega
        go_wp2_with fail
        refine bodyPost_ret (v := .tuple #[.agg (rCells dR), .bool false]) (by simp [results, Tryd.results34, go_sem, r0, r1, r2, r3, r4, r5, r6, dR]) rfl ?_
        refine ⟨by rw [HYs.out], ?_⟩
        exact (((((((HL.out.trans (HB.out.mono HL.out.size)).setCell (p := ⟨w.heap.size + 1, 0, none⟩) (by simp only; omega) _).setCell (p := ⟨w.heap.size + 1, 1, none⟩) (by simp only; omega) _).setCell (p := ⟨w.heap.size + 1, 2, none⟩) (by simp only; omega) _).setCell (p := ⟨w.heap.size + 1, 3, none⟩) (by simp only; omega) _).setCell (p := ⟨w.heap.size + 1, 4, none⟩) (by simp only; omega) _).setCell (p := ⟨w.heap.size + 1, 5, none⟩) (by simp only; omega) _).setCell (p := ⟨w.heap.size + 1, 6, none⟩) (by simp only; omega) _
end Go.Proofs.YtpohofcfmllghaaDoor
