/-
  The type of an expression: the walk of typeAt, by the number of expressions.
-/
import Derived.Test.YtpohofcfmllghaaDoorEType
namespace Go.Proofs.YtpohofcfmllghaaDoor
open Go.RowKit

mutual
/-- No text within is longer than a text may be. -/
def wfX : XT → Prop
  | .mk _ _ v _ _ _ ts => v.2.2.size ≤ maxLen ∧ wfXs ts
def wfXs : List XT → Prop
  | [] => True
  | x :: r => wfX x ∧ wfXs r
end
theorem wfXs_at : ∀ {l : List XT} {k : Nat}, wfXs l → k < l.length → wfX (l.getD k dX)
  | [], k, _, h => by simp at h
  | _ :: _, 0, h, _ => h.1
  | _ :: r, k + 1, h, hk => wfXs_at (l := r) (k := k) h.2 (by simpa using hk)
/-- The types that the first k arguments have. -/
def yT (l : List (Int × Int)) (j k : Nat) : Int := if j < k then tyAt l j else 0
abbrev yArr (l : List (Int × Int)) (k : Nat) : Array Value := #[.int .i64 (yT l 0 k), .int .i64 (yT l 1 k), .int .i64 (yT l 2 k)]
theorem yArr_set (l : List (Int × Int)) {k : Nat} (hk : k < 3) : (yArr l k).setIfInBounds k (.int .i64 (tyAt l k)) = yArr l (k + 1) := by
  rcases (by omega : k = 0 ∨ k = 1 ∨ k = 2) with rfl | rfl | rfl <;> simp [yArr, yT]
theorem yT_len {l : List (Int × Int)} {j k : Nat} (h : l.length = k) : yT l j k = tyAt l j := by
  unfold yT
  split
  · rfl
  · rename_i hj
    unfold tyAt
    rw [List.getD_eq_getElem?_getD, List.getElem?_eq_none (by omega)]; rfl
/-- The box of the types. -/
def TyBox (w : World) (P : Nat) (c : Array Value) : Prop := w.heap[P]? = some (.cells c 73 (0, 0))
theorem TyBox.kept {w w' : World} {P B : Nat} {c : Array Value} (h : TyBox w P c) (hb : Below B w w') (hP : P < B) : TyBox w' P c := (hb.block P hP).trans h
theorem TyBox.lt {w : World} {P : Nat} {c : Array Value} (h : TyBox w P c) : P < w.heap.size := by
  rcases Nat.lt_or_ge P w.heap.size with h' | h'
  · exact h'
  · unfold TyBox at h; rw [Array.getElem?_eq_none h'] at h; cases h

set_option maxHeartbeats 6400000 in
set_option maxRecDepth 100000 in
theorem typeAt_any (S : Option Addr) (c0 : Nat) (cs : List (ByteArray × Int)) (hl : cs.length ≤ maxLen) : ∀ (N : Nat) (x : XT) (d : Int) (w : World), szX x ≤ N → 1 ≤ d → d ≤ 33 → LiesX w.heap.size w x → wfX x → ColsAt w.heap.size w S cs → Rls w →
    Calls Tryd.prog 24 #[vX x, .slice S cs.length c0, .int .i64 d] w fun e w' => e = .returned (.tuple #[.int .i64 (typeX cs x d).1, .int .i64 (typeX cs x d).2]) ∧ Below w.heap.size w w'
  | 0, x, d, w, hN, _, _, _, _, _, _ => by have := szX_pos x; omega
  | N + 1, .mk kd nm v o A c ts, d, w, hN, hd1, hd2, hx, hwf, hC, hR => by
    have ih := hide (fun y d w (h : szX y ≤ N) h1 h2 h3 h4 h5 h6 => typeAt_any S c0 cs hl N y d w h h1 h2 h3 h4 h5 h6)
    have hal := boxE_below w (.mk kd nm v o A c ts)
    have HBox := hide (fun w' => boxE_at (w := w) (x := .mk kd nm v o A c ts) (w' := w'))
    have HWE := hide (show boxE w (.mk kd nm v o A c ts) = w.alloc (.cells (eCells kd nm v o A ts.length c) 29) from rfl)
    have HX := hide (hx.on hal)
    have HCo := hide (hC.on hal)
    have HRl := hide (hR.stays hal)
    have HL := hide hal
    have HSA := hide (fun k (h : k < ts.length) => szX_arg (x := .mk kd nm v o A c ts) h)
    have hvs : v.2.2.size ≤ maxLen := hwf.1
    have HWf := hide (fun k (h : k < ts.length) => wfXs_at hwf.2 h)
    have HFo := hide (formed_any (.mk kd nm v o A c ts) _ HRl.out hvs)
    have HTX := hide (show typeX cs (.mk kd nm v o A c ts) d = _ from by rw [typeX])
    have HFl := hide (fun h => formed_len (x := .mk kd nm v o A c ts) h)
    have HRn := hide (ruleX_n (.mk kd nm v o A c ts))
    have HRu := hide (fun w' h => rule_any (.mk kd nm v o A c ts) w' h)
    have HLl := hide (typesX_len cs (d + 1) ts)
    have HLa := hide (fun k h => typesX_at cs (d + 1) ts k h)
    have HEh := hide (fun k => errOf_hit (typesX cs ts (d + 1)) k)
    have HEn := hide (errOf_none (typesX cs ts (d + 1)))
    have hVx : vX (.mk kd nm v o A c ts) = .agg (eCells kd nm v o A ts.length c) := rfl
    rw [hVx] at HFo HRu
    show Calls Tryd.prog 24 #[.agg (eCells kd nm v o A ts.length c), .slice S cs.length c0, .int .i64 d] w _
    simp only [XT.kind, XT.name, XT.val, XT.op, XT.adr, XT.args, XT.cap] at HBox HSA HFl
    generalize typeX cs (.mk kd nm v o A c ts) d = q at HTX ⊢
    generalize hfo : formedX (.mk kd nm v o A c ts) = fo at *
    generalize ruleX (.mk kd nm v o A c ts) = ru at *
    generalize typesX cs ts (d + 1) = L at *
    generalize boxE w (.mk kd nm v o A c ts) = W at *
    have hZ : ∀ k, k < ts.length → szX (ts.getD k dX) ≤ N := fun k hk => by have := HSA.out k hk; omega
    have HZ := hide hZ
    clear hx hwf hC hR hal HSA hZ hVx hfo hN
    by_cases hd : 32 < d
    · have HQ := hide (show q = (0, 52) by rw [HTX.out, if_pos hd])
      clear HTX
      go_enter Tryd.func24, Tryd.ntmps24
      go_wp2_with fail
      go_ret2
      exact ⟨by rw [HQ.out]; rfl, by go_grown⟩
    rw [if_neg hd] at HTX
    cases fo
    · have HQ := hide (show q = (0, 20) by rw [HTX.out, if_pos rfl])
      clear HTX
      obtain ⟨c0', c1, c2, c3, c4, c5, c6, cz⟩ := HBox.out _ (Below.refl _ _)
      go_enter Tryd.func24, Tryd.ntmps24
      go_wp2_with fail
      rw [← HWE.out]
      refine HFo.out.mono ?_
      rintro e w2 ⟨rfl, hb2⟩
      have HB := hide (then_below HL.out hb2)
      clear hb2 c0' c1 c2 c3 c4 c5 c6 cz
      go_wp2_with fail
      go_ret2
      exact ⟨by rw [HQ.out]; rfl, HB.out⟩
    rw [if_neg (by simp)] at HTX
    by_cases h1 : kd = 1
    · have b1 : (kd == 1) = true := by rw [beq_iff_eq]; exact h1
      have HQ := hide (show q = typeOfX cs nm by rw [HTX.out, if_pos h1])
      clear HTX h1
      obtain ⟨c0', c1, c2, c3, c4, c5, c6, cz⟩ := HBox.out _ (Below.refl _ _)
      go_enter Tryd.func24, Tryd.ntmps24
      go_wp2_with fail
      rw [← HWE.out]
      refine HFo.out.mono ?_
      rintro e w2 ⟨rfl, hb2⟩
      have HB := hide (then_below HL.out hb2)
      have HTo := hide (typeOf_any S c0 cs nm w2 (HCo.out.on hb2) hl)
      clear c0' c1 c2 c3 c4 c5 c6 cz
      obtain ⟨c0', c1, c2, c3, c4, c5, c6, cz⟩ := HBox.out _ hb2
      clear hb2
      go_wp2_with fail
      refine HTo.out.mono ?_
      rintro e w3 ⟨rfl, hb3⟩
      have HB3 := hide (then_below HB.out hb3)
      clear hb3 c0' c1 c2 c3 c4 c5 c6 cz
      go_wp2_with fail
      go_ret2
      exact ⟨by rw [HQ.out]; rfl, HB3.out⟩
    have b1 : (kd == 1) = false := by rw [beq_eq_false_iff_ne]; exact h1
    rw [if_neg h1] at HTX
    by_cases h2 : kd = 2
    · have b2 : (kd == 2) = true := by rw [beq_iff_eq]; exact h2
      have HQ := hide (show q = (v.1, 0) by rw [HTX.out, if_pos h2])
      clear HTX h1 h2
      go_enter Tryd.func24, Tryd.ntmps24
      go_wp2_with fail
      rw [← HWE.out]
      refine HFo.out.mono ?_
      rintro e w2 ⟨rfl, hb2⟩
      have HB := hide (then_below HL.out hb2)
      obtain ⟨c0', c1, c2, c3, c4, c5, c6, cz⟩ := HBox.out _ hb2
      clear hb2
      go_wp2_with fail
      go_ret2
      exact ⟨by rw [HQ.out]; rfl, HB.out⟩
    have b2 : (kd == 2) = false := by rw [beq_eq_false_iff_ne]; exact h2
    rw [if_neg h2] at HTX
    obtain ⟨hfl, hf3⟩ := HFl.out rfl
    have HFL := hide hfl
    have hf3' : (ts.length : Int) ≤ 3 := by omega
    clear h1 h2 hfl
    obtain ⟨c0', c1, c2, c3, c4, c5, c6, cz⟩ := HBox.out _ (Below.refl _ _)
    go_enter Tryd.func24, Tryd.ntmps24
    go_wp2_with fail
    rw [← HWE.out]
    refine HFo.out.mono ?_
    rintro e w2 ⟨rfl, hb2⟩
    clear c0' c1 c2 c3 c4 c5 c6 cz
    have hbP : TyBox (w2.alloc (.cells #[.int .i64 0, .int .i64 0, .int .i64 0] 73)) w2.heap.size (yArr L 0) := by
      have h := heap_alloc_new w2 (.cells #[.int .i64 0, .int .i64 0, .int .i64 0] 73)
      unfold TyBox
      rw [show yArr L 0 = #[.int .i64 0, .int .i64 0, .int .i64 0] by simp [yArr, yT]]
      exact h
    have hb4 : Below w2.heap.size w2 (w2.alloc (.cells #[.int .i64 0, .int .i64 0, .int .i64 0] 73)) := Joins.below_alloc1 w2 _
    have hz4 : (w2.alloc (.cells #[.int .i64 0, .int .i64 0, .int .i64 0] 73)).heap.size = w2.heap.size + 1 := by simp
    have hq4 := then_below hb2 hb4
    have hWP : W.heap.size ≤ w2.heap.size := hb2.size
    obtain ⟨c0', c1, c2, c3, c4, c5, c6, cz⟩ := HBox.out _ hb2
    clear hb2 hb4
    go_wp2_with fail
    generalize (w2.alloc (.cells #[.int .i64 0, .int .i64 0, .int .i64 0] 73)) = W4 at *
    generalize w2.heap.size = P at *
    have HBP := hide hbP; have HQ4 := hide hq4; have HZ4 := hide hz4
    clear hbP hq4 hz4 c0' c1 c2 c3 c4 c5 c6 cz
    go_loopw [40] (fun i wr => ∃ k : Nat, k ≤ ts.length ∧ i = .int .i64 k ∧ (∀ j, j < k → (L.getD j (0, 0)).2 = 0) ∧ TyBox wr P (yArr L k) ∧ Below P W4 wr ∧ W4.heap.size ≤ wr.heap.size) (fun i _ => ts.length - (intOf i).toNat)
    case atStart => exact ⟨0, Nat.zero_le _, rfl, fun j h => by omega, HBP.out, Below.refl _ _, Nat.le_refl _⟩
    case round =>
      obtain ⟨k, hk, rfl, hno, hbx, hbw, hsz⟩ := hrel
      have HNo := hide hno; have HBx := hide hbx; have HBw := hide hbw
      have HQ := hide (HQ4.out.trans (hbw.mono hWP))
      have hs0 := HQ.out.size
      clear hno hbx hbw
      by_cases hlt : k < ts.length
      · obtain ⟨b, off, hadr, hb, h7, hly⟩ := (HX.out.keep HQ.out).at (j := k) hlt
        simp only [XT.adr, XT.args] at hadr h7 hly
        subst hadr
        have HLk := hide (HLa.out k hlt)
        have HIh := hide (fun w' h4 h6 h7 => ih.out (ts.getD k dX) (d + 1) w' (HZ.out k hlt) (by omega) (by omega) h4 (HWf.out k hlt) h6 h7)
        have HEk := hide (fun h => HEh.out k (by rw [HLl.out]; exact hlt) HNo.out h)
        have HLY := hide (hly.mono hs0)
        generalize ts.getD k dX = y at *
        generalize typeX cs y (d + 1) = pr at *
        obtain ⟨p1, p2⟩ := pr
        rw [HLk.out] at HEk
        have HTy := hide (show tyAt L k = p1 by unfold tyAt; rw [HLk.out])
        simp only at HIh HEk
        obtain ⟨g0, g1, g2, g3, g4, g5, g6⟩ := h7
        have hal2 := Joins.below_alloc1 wr (.cells (eCells y.kind y.name y.val y.op y.adr y.args.length y.cap) 29)
        have HCall := hide (HIh.out _ (HLY.out.on hal2) (HCo.out.on (then_below HQ.out hal2)) (HRl.out.stays (then_below HQ.out hal2)))
        have HA2 := hide hal2
        have hk3 : (k : Int) < 3 := by omega
        clear hly hal2 HIh HLY
        by_cases he : p2 = 0
        · subst he
          go_wp2_with fail
          refine HCall.out.mono ?_
          rintro e w3 ⟨rfl, hb3⟩
          have HW3 := hide (then_below HA2.out hb3)
          have hPl := HBx.out.lt
          have hbx3 := HBx.out.kept HW3.out hPl
          have HX3 := hide hbx3
          obtain ⟨u, hu⟩ : ∃ u, w3.cell? ⟨P, k, none⟩ = some u := by
            have h := Lib.cell_of_heap hbx3 k
            rcases (by omega : k = 0 ∨ k = 1 ∨ k = 2) with rfl | rfl | rfl
            · exact ⟨_, h⟩
            · exact ⟨_, h⟩
            · exact ⟨_, h⟩
          have hfz : w3.frozen? ⟨P, k, none⟩ = false := by
            have h := Lib.frozen_of_heap hbx3 k
            exact h
          have hPl3 := hbx3.lt
          clear hb3 hbx3 g0 g1 g2 g3 g4 g5 g6
          go_wp2_with fail
          go_roundw
          case rel =>
            have hz4 := HZ4.out
            have hsz3 := HW3.out.size
            refine ⟨k + 1, by omega, by go_num, fun j hj => ?_, ?_, ?_, by simp; omega⟩
            · by_cases e : j = k
              · rw [e, HLk.out]
              · exact HNo.out j (by omega)
            · have h := Joins.block_setCell (i := k) HX3.out (.int .i64 p1)
              rw [← HTy.out, yArr_set L (by omega), HTy.out] at h
              exact h
            · exact (HBw.out.trans (HW3.out.mono (by omega))).setCell (p := ⟨P, k, none⟩) (Nat.le_refl _) _
          case measure => simp [intOf]; omega
        · have bne : (p2 != 0) = true := by rw [bne_iff_ne]; exact he
          have HErr := hide (HEk.out he)
          have HQf := hide (show q = (0, p2) by rw [HTX.out, if_neg (by rw [HErr.out]; exact he), HErr.out])
          clear he
          go_wp2_with fail
          refine HCall.out.mono ?_
          rintro e w3 ⟨rfl, hb3⟩
          have HW3 := hide (HL.out.trans (Below.mono (then_below HQ.out (then_below HA2.out hb3)) HL.out.size))
          clear hb3 g0 g1 g2 g3 g4 g5 g6
          go_wp2_with fail
          go_ret2
          exact ⟨by rw [HQf.out]; rfl, HW3.out⟩
      · obtain rfl : k = ts.length := by omega
        have hE0 : errOf L = 0 := HEn.out (fun j hj => HNo.out j (by rw [HLl.out] at hj; exact hj))
        have HRe := hide (fun w' => result_any ru.1 (tyAt L 0) (tyAt L 1) (tyAt L 2) w' HRn.out.1 HRn.out.2)
        rw [if_pos hE0] at HTX
        have HY := hide (show yArr L ts.length = #[.int .i64 (tyAt L 0), .int .i64 (tyAt L 1), .int .i64 (tyAt L 2)] by unfold yArr; rw [yT_len HLl.out, yT_len HLl.out, yT_len HLl.out])
        have HRw := hide (HRu.out wr (HRl.out.stays HQ.out))
        generalize resX ru.1 [tyAt L 0, tyAt L 1, tyAt L 2] = rx at *
        obtain ⟨rt, rb⟩ := rx
        obtain ⟨r, rk⟩ := ru
        simp only at HTX HRe HRw
        clear hE0
        obtain ⟨c0', c1, c2, c3, c4, c5, c6, cz⟩ := HBox.out _ HQ.out
        go_wp2_with fail
        refine HRw.out.mono ?_
        rintro e w3 ⟨rfl, hb3⟩
        have HW3 := hide (then_below hb3 (Joins.below_alloc1 w3 (.cells (rCells r) 75)))
        have hbx3 := HBx.out.kept HW3.out HBx.out.lt
        rw [HY.out] at hbx3
        have x0 := Lib.cell_of_heap hbx3 0; have x1 := Lib.cell_of_heap hbx3 1; have x2 := Lib.cell_of_heap hbx3 2
        have xz := hbx3.lt
        simp only [List.getElem?_toArray, List.getElem?_cons_zero, List.getElem?_cons_succ] at x0 x1 x2
        clear hb3 hbx3 c0' c1 c2 c3 c4 c5 c6 cz
        go_wp2_with fail
        refine (HRe.out _).mono ?_
        rintro e w5 ⟨rfl, hb5⟩
        have HW5 := hide (HL.out.trans (Below.mono (then_below HQ.out (then_below HW3.out hb5)) HL.out.size))
        clear hb5 x0 x1 x2 xz
        cases rb
        · have HQf := hide (show q = (0, 12) by rw [HTX.out]; rfl)
          go_wp2_with fail
          go_ret2
          exact ⟨by rw [HQf.out]; rfl, HW5.out⟩
        · have HQf := hide (show q = (rt, 0) by rw [HTX.out]; rfl)
          go_wp2_with fail
          go_ret2
          exact ⟨by rw [HQf.out]; rfl, HW5.out⟩
end Go.Proofs.YtpohofcfmllghaaDoor
