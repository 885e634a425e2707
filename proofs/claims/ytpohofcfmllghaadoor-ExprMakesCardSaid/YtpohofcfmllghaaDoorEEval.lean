/-
  eval: the value of an expression that has a type, for a row that fits; by the number of expressions.
-/
import Derived.Test.YtpohofcfmllghaaDoorEEvalS
import Derived.Test.YtpohofcfmllghaaDoorETwoX
import Derived.Test.YtpohofcfmllghaaDoorETypeAt
namespace Go.Proofs.YtpohofcfmllghaaDoor
open Go.RowKit

/-- The world of eval ahead of its calls: the expression's box, and the result's. -/
def evlW (w : World) (x : XT) : World := (boxE w x).alloc (.cells #[.int .i64 0, .int .i64 0, .string ⟨#[]⟩] 26)
theorem evlW_below (w : World) (x : XT) : Below w.heap.size w (evlW w x) := then_below (boxE_below w x) (Joins.below_alloc1 _ _)
theorem evlW_at {w : World} {x : XT} {w' : World} (h : Below (evlW w x).heap.size (evlW w x) w') :
    w'.cell? ⟨w.heap.size, 0, none⟩ = some (.int .i64 x.kind) ∧ w'.cell? ⟨w.heap.size, 1, none⟩ = some (.string x.name) ∧ w'.cell? ⟨w.heap.size, 2, none⟩ = some (.int .i64 x.val.1) ∧ w'.cell? ⟨w.heap.size, 3, none⟩ = some (.int .i64 x.val.2.1) ∧
    w'.cell? ⟨w.heap.size, 4, none⟩ = some (.string x.val.2.2) ∧ w'.cell? ⟨w.heap.size, 5, none⟩ = some (.string x.op) ∧ w'.cell? ⟨w.heap.size, 6, none⟩ = some (.slice x.adr x.args.length x.cap) ∧
    w'.cell? ⟨w.heap.size + 1, 0, none⟩ = some (.int .i64 0) ∧ w'.cell? ⟨w.heap.size + 1, 1, none⟩ = some (.int .i64 0) ∧ w'.cell? ⟨w.heap.size + 1, 2, none⟩ = some (.string ⟨#[]⟩) ∧
    w'.frozen? ⟨w.heap.size + 1, 0, none⟩ = false ∧ w'.frozen? ⟨w.heap.size + 1, 1, none⟩ = false ∧ w'.frozen? ⟨w.heap.size + 1, 2, none⟩ = false ∧ w.heap.size < w'.heap.size ∧ w.heap.size + 1 < w'.heap.size := by
  have hz : (boxE w x).heap.size = w.heap.size + 1 := by simp [boxE]
  have hz2 : (evlW w x).heap.size = w.heap.size + 2 := by unfold evlW; simp [hz]
  have hn : (evlW w x).heap[w.heap.size + 1]? = some (.cells #[.int .i64 0, .int .i64 0, .string ⟨#[]⟩] 26 (0, 0)) := by rw [← hz]; exact heap_alloc_new _ _
  have hs := h.size
  obtain ⟨c0, c1, c2, c3, c4, c5, c6, -⟩ := boxE_at (w := w) (x := x) (then_below (Joins.below_alloc1 _ _) h)
  have k1 := (h.block (w.heap.size + 1) (by omega)).trans hn
  exact ⟨c0, c1, c2, c3, c4, c5, c6, Lib.cell_of_heap k1 0, Lib.cell_of_heap k1 1, Lib.cell_of_heap k1 2, Lib.frozen_of_heap k1 0, Lib.frozen_of_heap k1 1, Lib.frozen_of_heap k1 2, by omega, by omega⟩
/-- The three cells of a value. -/
def At3 (w : World) (b : Nat) (v : Int × Int × ByteArray) : Prop := w.cell? ⟨b, 0, none⟩ = some (.int .i64 v.1) ∧ w.cell? ⟨b, 1, none⟩ = some (.int .i64 v.2.1) ∧ w.cell? ⟨b, 2, none⟩ = some (.string v.2.2) ∧ b < w.heap.size
theorem At3.on {w w' : World} {b : Nat} {v : Int × Int × ByteArray} (h : At3 w b v) (hb : Below w.heap.size w w') : At3 w' b v :=
  ⟨(hb.cell (p := ⟨b, 0, none⟩) h.2.2.2).trans h.1, (hb.cell (p := ⟨b, 1, none⟩) h.2.2.2).trans h.2.1, (hb.cell (p := ⟨b, 2, none⟩) h.2.2.2).trans h.2.2.1, Nat.lt_of_lt_of_le h.2.2.2 hb.size⟩

/-- What eval does at expressions up to this size. -/
def EvalOk (S : Option Addr) (c0 : Nat) (cs : List (ByteArray × Int)) (R : Option Addr) (c1 : Nat) (row : List (Int × Int × ByteArray)) (N : Nat) : Prop :=
  ∀ (x : XT) (d : Int) (w : World), szX x ≤ N → (typeX cs x d).2 = 0 → LiesX w.heap.size w x → wfX x → wfI x → ColsAt w.heap.size w S cs → RowAt w.heap.size w R row → Cmps w →
    Calls Tryd.prog 22 #[vX x, .slice S cs.length c0, .slice R row.length c1] w fun e w' => e = .returned (.tuple #[vOf (evalX cs row x).1, .int .i64 (evalX cs row x).2]) ∧ Below w.heap.size w w'
set_option maxHeartbeats 3200000 in
set_option maxRecDepth 100000 in
theorem eval_step (S : Option Addr) (c0 : Nat) (cs : List (ByteArray × Int)) (hwf : Wf cs) (R : Option Addr) (c1 : Nat) (row : List (Int × Int × ByteArray)) (hfit : rowFits cs row = true) (hw : WfR row) (N : Nat) (hih : EvalOk S c0 cs R c1 row N)
    (kd : Int) (nm : ByteArray) (v : Int × Int × ByteArray) (o : ByteArray) (A : Option Addr) (c : Nat) (ts : List XT) (d : Int) (w : World) (hN : szX (.mk kd nm v o A c ts) ≤ N + 1) (ht : (typeX cs (.mk kd nm v o A c ts) d).2 = 0) (hx : LiesX w.heap.size w (.mk kd nm v o A c ts)) (hfx : wfX (.mk kd nm v o A c ts)) (hfi : wfI (.mk kd nm v o A c ts))
    (hC : ColsAt w.heap.size w S cs) (hR : RowAt w.heap.size w R row) (hM : Cmps w) :
    Calls Tryd.prog 22 #[vX (.mk kd nm v o A c ts), .slice S cs.length c0, .slice R row.length c1] w fun e w' => e = .returned (.tuple #[vOf (evalX cs row (.mk kd nm v o A c ts)).1, .int .i64 (evalX cs row (.mk kd nm v o A c ts)).2]) ∧ Below w.heap.size w w' := by
  have ih := hide hih
  clear hih
  have hal := evlW_below w (.mk kd nm v o A c ts)
  have HAt := hide (fun w' => evlW_at (w := w) (x := .mk kd nm v o A c ts) (w' := w'))
  have HWE := hide (show evlW w (.mk kd nm v o A c ts) = (w.alloc (.cells (eCells kd nm v o A ts.length c) 29)).alloc (.cells #[.int .i64 0, .int .i64 0, .string ⟨#[]⟩] 26) from rfl)
  have HX0 := hide hx
  have HX := hide (hx.on hal)
  have HCo := hide (hC.on hal)
  have HRo := hide (hR.on hal)
  have HM := hide (hM.stays hal)
  have HL := hide hal
  have HEX := hide (show evalX cs row (.mk kd nm v o A c ts) = _ from by rw [evalX])
  have hVx : vX (.mk kd nm v o A c ts) = .agg (eCells kd nm v o A ts.length c) := rfl
  have hl := hwf.1
  have HRL := hide (fits_len hfit)
  unfold maxLen at hl
  show Calls Tryd.prog 22 #[.agg (eCells kd nm v o A ts.length c), .slice S cs.length c0, .slice R row.length c1] w _
  simp only [XT.kind, XT.name, XT.val, XT.op, XT.adr, XT.args, XT.cap] at HAt
  generalize hq : evalX cs row (.mk kd nm v o A c ts) = q at HEX ⊢
  by_cases h1 : kd = 1
  · have b1 : (kd == 1) = true := by rw [beq_iff_eq]; exact h1
    obtain ⟨hk, -⟩ := typeX_col ht h1
    simp only [XT.name] at hk
    have HFi := hide (fun w' h => (find_any S c0 cs nm w' h hwf.1).mono fun e w1 hh => (⟨by rw [hh.1, foundV_at hk rfl], hh.2⟩ : e = .returned (.tuple #[.int .i64 (findK cs nm : Nat), .bool true]) ∧ Below w'.heap.size w' w1))
    have HQ := hide (show q = (row.getD (findK cs nm) d3, 0) by rw [HEX.out, if_pos h1])
    generalize findK cs nm = i at *
    generalize evlW w (.mk kd nm v o A c ts) = W at *
    have hi1 : (i : Int) < (row.length : Int) := by have := HRL.out; omega
    have hi0 : (0 : Int) ≤ (i : Int) := by omega
    clear hx hfx hfi hC hR hal hVx h1 hM ht hN HEX
    go_enter Tryd.func22, Tryd.ntmps22
    obtain ⟨a0, a1, a2, a3, a4, a5, a6, r0, r1, r2, f0, f1, f2, hy, hz⟩ := HAt.out _ (Below.refl _ _)
    go_wp2_with fail
    rw [← HWE.out]
    refine (HFi.out _ HCo.out).mono ?_
    rintro e w2 ⟨rfl, hb2⟩
    have HB2 := hide hb2
    clear a0 a1 a2 a3 a4 a5 a6 r0 r1 r2 f0 f1 f2 hy hz
    obtain ⟨a0, a1, a2, a3, a4, a5, a6, r0, r1, r2, f0, f1, f2, hy, hz⟩ := HAt.out _ hb2
    obtain ⟨b, off, rfl, hb, g0, g1, g2⟩ := HRo.out.below hb2 i (by omega)
    generalize row.getD i (0, 0, ⟨#[]⟩) = y at *
    clear hb2
    go_wp2_with fail
    refine bodyPost_ret (v := .tuple #[vVal y.1 y.2.1 y.2.2, .int .i64 0]) (by simp [results, Tryd.results22, go_sem, r0, r1, r2]) rfl ⟨by rw [HQ.out], ?_⟩
    have hfin := HL.out.trans (HB2.out.mono HL.out.size)
    exact ((hfin.setCell (p := ⟨w.heap.size + 1, 0, none⟩) (by simp only; omega) _).setCell (p := ⟨w.heap.size + 1, 1, none⟩) (by simp only; omega) _).setCell (p := ⟨w.heap.size + 1, 2, none⟩) (by simp only; omega) _
  have b1 : (kd == 1) = false := by rw [beq_eq_false_iff_ne]; exact h1
  by_cases h2 : kd = 2
  · have b2 : (kd == 2) = true := by rw [beq_iff_eq]; exact h2
    have HQ := hide (show q = (v, 0) by rw [HEX.out, if_neg h1, if_pos h2])
    generalize evlW w (.mk kd nm v o A c ts) = W at *
    clear hx hfx hfi hC hR hal hVx h1 h2 hM ht hN HEX
    go_enter Tryd.func22, Tryd.ntmps22
    obtain ⟨a0, a1, a2, a3, a4, a5, a6, r0, r1, r2, f0, f1, f2, hy, hz⟩ := HAt.out _ (Below.refl _ _)
    go_wp2_with fail
    go_returns
    exact ⟨by rw [HQ.out], by go_grown⟩
  have b2 : (kd == 2) = false := by rw [beq_eq_false_iff_ne]; exact h2
  have hnl : ¬ ((XT.mk kd nm v o A c ts).kind = 1 ∨ (XT.mk kd nm v o A c ts).kind = 2) := by rintro (h | h); exact h1 h; exact h2 h
  obtain ⟨hd, hr, hk, hwd, hln, hsub, hXr⟩ := typeX_parts ht hnl
  have hrn := rule_n hr
  have HQ := hide (show q = partX (wordX (.mk kd nm v o A c ts)) o ts.length (evalsX cs row ts) by rw [HEX.out, if_neg h1, if_neg h2])
  have hop : (ruleX (.mk kd nm v o A c ts)).1.k = 4 → o = (ruleX (.mk kd nm v o A c ts)).1.w := fun h => by
    rw [← hwd]
    have : kd = 4 := hk.symm.trans h
    show o = if kd = 5 then nm else o
    rw [if_neg (by omega)]
  simp only [XT.args] at hln hsub
  have hIh := fun k (hk : k < ts.length) w' h4 h5 h6 h7 => ih.out (ts.getD k dX) (d + 1) w' (by have := szX_arg (x := .mk kd nm v o A c ts) hk; simp only [XT.args] at this; omega) (hsub k hk) h4 (wfXs_at hfx.2 hk) (wfIs_at hfi.2 hk) h5 h6 h7
  have HIh := hide (fun k (hk : k < ts.length) w' h4 h5 h6 h7 => (hIh k hk w' h4 h5 h6 h7).mono fun e w1 hh => (⟨by rw [hh.1, evalsX_at cs row ts k hk], hh.2⟩ : e = .returned (.tuple #[vOf ((evalsX cs row ts).getD k (d3, 0)).1, .int .i64 ((evalsX cs row ts).getD k (d3, 0)).2]) ∧ Below w'.heap.size w' w1))
  have HOk := hide (fun k (hk : k < ts.length) (h : ((evalsX cs row ts).getD k (d3, 0)).2 = 0) => (by
    have e := argT_at (cs := cs) (x := .mk kd nm v o A c ts) (d := d) hk
    simp only [XT.args] at e
    rw [e]
    rw [evalsX_at cs row ts k hk] at h ⊢
    exact eval_sound hfit hw _ (ts.getD k dX) (d + 1) (Nat.le_refl _) (wfIs_at hfi.2 hk) (hsub k hk) h : okV (argT cs (.mk kd nm v o A c ts) d k) ((evalsX cs row ts).getD k (d3, 0)).1))
  have HOne := hide (fun v' w' h1 h2 => ofOne_any (.mk kd nm v o A c ts) v' w' h1 h2)
  have HSet := hide (fun v' w' => settle_any (.mk kd nm v o A c ts) v' w')
  have HNx := hide (show ∀ (v' : Int × Int × ByteArray) (w' : World), LiesX w'.heap.size w' (.mk kd nm v o A c ts) → nextW (wordX (.mk kd nm v o A c ts)) v' < ts.length → Calls Tryd.prog 29 #[vX (.mk kd nm v o A c ts), vOf v'] w' fun e w1 => e = .returned (vX (ts.getD (nextW (wordX (.mk kd nm v o A c ts)) v') dX)) ∧ Below w'.heap.size w' w1 from fun v' w' h1 h2 => next_any (.mk kd nm v o A c ts) v'.1 v'.2.1 v'.2.2 w' h1 h2)
  have HTwo := hide (fun a b w' h1 h2 h3 h4 h5 h6 => ofTwo_any (.mk kd nm v o A c ts) a b w' h1 h2 h3 h4 h5 h6)
  simp only [XT.op] at HTwo
  rw [hwd] at HQ HOne HSet HNx HTwo
  rw [hVx] at HOne HSet HNx HTwo
  have H1s := hide (fun (hn : (ruleX (.mk kd nm v o A c ts)).1.n = 1) a ha => (one_sound (v := a) hr hn hXr ha).1)
  have H2s := hide (fun (hn : (ruleX (.mk kd nm v o A c ts)).1.n = 2 ∨ (ruleX (.mk kd nm v o A c ts)).1.n = 3) a b ha hb => (two_sound (a := a) (b := b) (op := o) hr hn hop hXr ha hb).1)
  have HLt := hide (fun (hn : (ruleX (.mk kd nm v o A c ts)).1.n = 2 ∨ (ruleX (.mk kd nm v o A c ts)).1.n = 3) a => next_lt (v := a) hr hn)
  have HN12 := hide (fun a => nextW_12 (ruleX (.mk kd nm v o A c ts)).1.w a)
  generalize evalsX cs row ts = L at *
  generalize (ruleX (.mk kd nm v o A c ts)).1 = r at *
  generalize argT cs (.mk kd nm v o A c ts) d = tt at *
  generalize evlW w (.mk kd nm v o A c ts) = W at *
  have hlen0 : 0 < ts.length := by omega
  have hlen0' : (0 : Int) < (ts.length : Int) := by omega
  have HLN := hide hln
  have HRN := hide hrn
  clear hx hfx hfi hC hR hal hVx hM ht hN HEX hIh ih hr hk hwd hln hrn hsub hXr hop hnl h1 h2 hd hq
  obtain ⟨b, off, hadr, hb, h7, -⟩ := HX0.out.at (j := 0) hlen0
  obtain ⟨-, -, -, -, -, hly⟩ := HX.out.at (j := 0) hlen0
  simp only [XT.adr, XT.args] at hadr h7 hly
  subst hadr
  rw [show off + 0 * 7 = off by omega] at h7
  have HLY := hide hly
  clear HX0
  have HI0 := hide (HIh.out 0 hlen0)
  have HO0 := hide (HOk.out 0 hlen0)
  generalize ts.getD 0 dX = y at *
  obtain ⟨g0, g1, g2, g3, g4, g5, g6⟩ := h7
  unfold partX at HQ
  generalize L.getD 0 (d3, 0) = f at *
  obtain ⟨f, fe⟩ := f
  simp only at HQ HI0 HO0
  go_enter Tryd.func22, Tryd.ntmps22
  obtain ⟨a0, a1, a2, a3, a4, a5, a6, r0, r1, r2, f0, f1, f2, hy, hz⟩ := HAt.out _ (Below.refl _ _)
  go_wp2_with fail
  rw [← HWE.out]
  refine (HI0.out _ HLY.out HCo.out HRo.out HM.out).mono ?_
  rintro e w3 ⟨rfl, hb3⟩
  have HB3 := hide hb3
  clear a0 a1 a2 a3 a4 a5 a6 r0 r1 r2 f0 f1 f2 hy hz
  clear g0 g1 g2 g3 g4 g5 g6 hly
  obtain ⟨a0, a1, a2, a3, a4, a5, a6, r0, r1, r2, f0, f1, f2, hy, hz⟩ := HAt.out _ hb3
  clear hb3
  by_cases hf : fe = 0
  · subst hf
    rw [if_pos rfl] at HQ
    have HO := hide (HO0.out rfl)
    have HSz := hide (okV_size HO.out)
    have hb4 := Joins.below_alloc1 w3 (.cells #[.int .i64 f.1, .int .i64 f.2.1, .string f.2.2] 26)
    have HB4 := hide (then_below HB3.out hb4)
    have HB4N := hide (show At3 (w3.alloc (.cells #[.int .i64 f.1, .int .i64 f.2.1, .string f.2.2] 26)) w3.heap.size f from ⟨by simp, by simp, by simp, by simp⟩)
    clear hb4
    by_cases hn1 : ts.length = 1
    · have bl : ((ts.length : Int) == 1) = true := by rw [beq_iff_eq]; omega
      rw [if_pos hn1] at HQ
      have HP := hide (H1s.out (by have := HLN.out; omega) f HO.out)
      clear hn1
      go_wp2_with fail
      generalize (w3.alloc (.cells #[.int .i64 f.1, .int .i64 f.2.1, .string f.2.2] 26)) = W4 at *
      refine (HOne.out f W4 (by have := HSz.out; unfold maxLen; omega) HP.out).mono ?_
      rintro e w5 ⟨rfl, hb5⟩
      have HB5 := hide (then_below HB4.out hb5)
      clear a0 a1 a2 a3 a4 a5 a6 r0 r1 r2 f0 f1 f2 hy hz
      obtain ⟨a0, a1, a2, a3, a4, a5, a6, r0, r1, r2, f0, f1, f2, hy, hz⟩ := HAt.out _ HB5.out
      clear hb5
      generalize oneX r.w f = z at *
      go_wp2_with fail
      refine bodyPost_ret (v := .tuple #[vOf z.1, .int .i64 z.2]) (by simp [results, Tryd.results22, go_sem, r0, r1, r2]) rfl ⟨by rw [HQ.out], ?_⟩
      have hfin := HL.out.trans (HB5.out.mono HL.out.size)
      exact ((hfin.setCell (p := ⟨w.heap.size + 1, 0, none⟩) (by simp only; omega) _).setCell (p := ⟨w.heap.size + 1, 1, none⟩) (by simp only; omega) _).setCell (p := ⟨w.heap.size + 1, 2, none⟩) (by simp only; omega) _
    · have bl : ((ts.length : Int) == 1) = false := by rw [beq_eq_false_iff_ne]; omega
      rw [if_neg hn1] at HQ
      have HN23 := hide (show r.n = 2 ∨ r.n = 3 by have := HLN.out; have := HRN.out; omega)
      clear hn1
      go_wp2_with fail
      generalize (w3.alloc (.cells #[.int .i64 f.1, .int .i64 f.2.1, .string f.2.2] 26)) = W4 at *
      generalize w3.heap.size = Q at *
      refine (HSet.out f W4).mono ?_
      rintro e w5 ⟨rfl, hb5⟩
      have HB5 := hide (then_below HB4.out hb5)
      have HB5N := hide (HB4N.out.on hb5)
      clear a0 a1 a2 a3 a4 a5 a6 r0 r1 r2 f0 f1 f2 hy hz
      obtain ⟨a0, a1, a2, a3, a4, a5, a6, r0, r1, r2, f0, f1, f2, hy, hz⟩ := HAt.out _ HB5.out
      obtain ⟨x0, x1, x2, xz⟩ := HB5N.out
      clear hb5
      generalize settleV r.w f = sv at *
      obtain ⟨sv, sb⟩ := sv
      simp only at HQ
      cases sb
      · rw [if_neg (by simp)] at HQ
        have hb6 := Joins.below_alloc1 w5 (.cells #[.int .i64 sv.1, .int .i64 sv.2.1, .string sv.2.2] 26)
        have HB6 := hide (then_below HB5.out hb6)
        have HB6N := hide (HB5N.out.on hb6)
        have HL2 := hide (HLt.out HN23.out f)
        have HNk := hide (HN12.out f)
        clear hb6
        go_wp2_with fail
        generalize (w5.alloc (.cells #[.int .i64 sv.1, .int .i64 sv.2.1, .string sv.2.2] 26)) = W6 at *
        have hnl2 : nextW r.w f < ts.length := by have h1 := HL2.out; have h2 := HLN.out; omega
        have HI2 := hide (HIh.out (nextW r.w f) hnl2)
        have HO2 := hide (HOk.out (nextW r.w f) hnl2)
        have HN6 := hide (HNx.out f W6 (HX.out.on HB6.out) hnl2)
        have HL6 := hide ((HX.out.on HB6.out).at (j := nextW r.w f) hnl2)
        simp only [XT.args] at HL6
        generalize ts.getD (nextW r.w f) dX = y2 at *
        refine HN6.out.mono ?_
        rintro e w7 ⟨rfl, hb7⟩
        have HB7 := hide (then_below HB6.out hb7)
        have HB7N := hide (HB6N.out.on hb7)
        have HL7 := hide (show LiesX w7.heap.size w7 y2 by obtain ⟨_, _, _, _, _, h⟩ := HL6.out; exact h.on hb7)
        clear a0 a1 a2 a3 a4 a5 a6 r0 r1 r2 f0 f1 f2 hy hz
        clear x0 x1 x2 xz
        obtain ⟨a0, a1, a2, a3, a4, a5, a6, r0, r1, r2, f0, f1, f2, hy, hz⟩ := HAt.out _ HB7.out
        obtain ⟨x0, x1, x2, xz⟩ := HB7N.out
        clear hb7
        go_wp2_with fail
        refine (HI2.out _ HL7.out (HCo.out.on HB7.out) (HRo.out.on HB7.out) (HM.out.stays HB7.out)).mono ?_
        rintro e w8 ⟨rfl, hb8⟩
        have HB8 := hide (then_below HB7.out hb8)
        have HB8N := hide (HB7N.out.on hb8)
        clear a0 a1 a2 a3 a4 a5 a6 r0 r1 r2 f0 f1 f2 hy hz
        clear x0 x1 x2 xz
        obtain ⟨a0, a1, a2, a3, a4, a5, a6, r0, r1, r2, f0, f1, f2, hy, hz⟩ := HAt.out _ HB8.out
        obtain ⟨x0, x1, x2, xz⟩ := HB8N.out
        clear hb8
        have HTy := hide (show okV (if nextW r.w f = 2 then tt 2 else tt 1) (L.getD (nextW r.w f) (d3, 0)).1 ∨ ¬ (L.getD (nextW r.w f) (d3, 0)).2 = 0 by
          by_cases hg : (L.getD (nextW r.w f) (d3, 0)).2 = 0
          · left
            have := HO2.out hg
            rcases HNk.out with h | h <;> (rw [h] at this ⊢; exact this)
          · exact .inr hg)
        generalize L.getD (nextW r.w f) (d3, 0) = g at *
        obtain ⟨g, ge⟩ := g
        simp only at HQ HTy
        by_cases hg : ge = 0
        · subst hg
          rw [if_pos rfl] at HQ
          have HG := hide (show okV (if nextW r.w f = 2 then tt 2 else tt 1) g by rcases HTy.out with h | h; exact h; exact absurd rfl h)
          have hb9 := Joins.below_alloc1 w8 (.cells #[.int .i64 g.1, .int .i64 g.2.1, .string g.2.2] 26)
          have HB9 := hide (then_below HB8.out hb9)
          clear hb9
          go_wp2_with fail
          generalize (w8.alloc (.cells #[.int .i64 g.1, .int .i64 g.2.1, .string g.2.2] 26)) = W9 at *
          refine (HTwo.out f g W9 (HM.out.stays HB9.out) HSz.out (okV_size HG.out) (okV_i64 HO.out) (okV_i64 HG.out) (H2s.out HN23.out f g HO.out HG.out)).mono ?_
          rintro e w10 ⟨rfl, hb10⟩
          have HB10 := hide (then_below HB9.out hb10)
          clear a0 a1 a2 a3 a4 a5 a6 r0 r1 r2 f0 f1 f2 hy hz
          clear x0 x1 x2 xz
          obtain ⟨a0, a1, a2, a3, a4, a5, a6, r0, r1, r2, f0, f1, f2, hy, hz⟩ := HAt.out _ HB10.out
          clear hb10
          generalize twoX r.w o f g = z at *
          go_wp2_with fail
          refine bodyPost_ret (v := .tuple #[vOf z.1, .int .i64 z.2]) (by simp [results, Tryd.results22, go_sem, r0, r1, r2]) rfl ⟨by rw [HQ.out], ?_⟩
          have hfin := HL.out.trans (HB10.out.mono HL.out.size)
          exact ((hfin.setCell (p := ⟨w.heap.size + 1, 0, none⟩) (by simp only; omega) _).setCell (p := ⟨w.heap.size + 1, 1, none⟩) (by simp only; omega) _).setCell (p := ⟨w.heap.size + 1, 2, none⟩) (by simp only; omega) _
        · rw [if_neg hg] at HQ
          have bg : (ge != 0) = true := by rw [bne_iff_ne]; exact hg
          have hb9 := Joins.below_alloc1 w8 (.cells #[.int .i64 g.1, .int .i64 g.2.1, .string g.2.2] 26)
          have HB9 := hide (then_below HB8.out hb9)
          clear hb9
          go_wp2_with fail
          refine bodyPost_ret (v := .tuple #[vVal 0 0 ⟨#[]⟩, .int .i64 ge]) (by simp [results, Tryd.results22, go_sem, r0, r1, r2, hz]) rfl ⟨by rw [HQ.out], ?_⟩
          have hfin := HL.out.trans (HB8.out.mono HL.out.size)
          have hfz := hfin.size
          refine Below.alloc (((hfin.setCell (p := ⟨w.heap.size + 1, 0, none⟩) (by simp only; omega) _).setCell (p := ⟨w.heap.size + 1, 1, none⟩) (by simp only; omega) _).setCell (p := ⟨w.heap.size + 1, 2, none⟩) (by simp only; omega) _) ?_ _
          simp <;> omega
      · rw [if_pos rfl] at HQ
        have hb6 := Joins.below_alloc1 w5 (.cells #[.int .i64 sv.1, .int .i64 sv.2.1, .string sv.2.2] 26)
        have HB6 := hide (then_below HB5.out hb6)
        clear hb6
        go_wp2_with fail
        refine bodyPost_ret (v := .tuple #[vOf sv, .int .i64 0]) (by simp [results, Tryd.results22, go_sem, r0, r1, r2, hz]) rfl ⟨by rw [HQ.out], ?_⟩
        have hfin := HL.out.trans (HB5.out.mono HL.out.size)
        have hfz := hfin.size
        refine Below.alloc (((hfin.setCell (p := ⟨w.heap.size + 1, 0, none⟩) (by simp only; omega) _).setCell (p := ⟨w.heap.size + 1, 1, none⟩) (by simp only; omega) _).setCell (p := ⟨w.heap.size + 1, 2, none⟩) (by simp only; omega) _) ?_ _
        simp <;> omega
  · rw [if_neg hf] at HQ
    have bf : (fe != 0) = true := by rw [bne_iff_ne]; exact hf
    have hb4 := Joins.below_alloc1 w3 (.cells #[.int .i64 f.1, .int .i64 f.2.1, .string f.2.2] 26)
    have HB4 := hide (then_below HB3.out hb4)
    have HB4N := hide (show At3 (w3.alloc (.cells #[.int .i64 f.1, .int .i64 f.2.1, .string f.2.2] 26)) w3.heap.size f from ⟨by simp, by simp, by simp, by simp⟩)
    clear hb4
    go_wp2_with fail
    refine bodyPost_ret (v := .tuple #[vVal 0 0 ⟨#[]⟩, .int .i64 fe]) (by simp [results, Tryd.results22, go_sem, r0, r1, r2, hz]) rfl ⟨by rw [HQ.out], ?_⟩
    have hfin := HL.out.trans (HB3.out.mono HL.out.size)
    have hfz := hfin.size
    refine Below.alloc (((hfin.setCell (p := ⟨w.heap.size + 1, 0, none⟩) (by simp only; omega) _).setCell (p := ⟨w.heap.size + 1, 1, none⟩) (by simp only; omega) _).setCell (p := ⟨w.heap.size + 1, 2, none⟩) (by simp only; omega) _) ?_ _
    simp <;> omega
theorem eval_any (S : Option Addr) (c0 : Nat) (cs : List (ByteArray × Int)) (hwf : Wf cs) (R : Option Addr) (c1 : Nat) (row : List (Int × Int × ByteArray)) (hfit : rowFits cs row = true) (hw : WfR row) (N : Nat) : EvalOk S c0 cs R c1 row N := by
  induction N with
  | zero => intro x _ _ hN; have := szX_pos x; omega
  | succ N ih =>
    intro x d w hN ht hx hfx hfi hC hR hM
    obtain ⟨kd, nm, v, o, A, c, ts⟩ := x
    exact eval_step S c0 cs hwf R c1 row hfit hw N ih kd nm v o A c ts d w hN ht hx hfx hfi hC hR hM
end Go.Proofs.YtpohofcfmllghaaDoor
