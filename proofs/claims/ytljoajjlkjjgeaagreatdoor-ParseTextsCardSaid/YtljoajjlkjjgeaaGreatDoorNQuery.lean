/-
  query: steps one behind the other.
-/
import Derived.Test.YtljoajjlkjjgeaaGreatDoorMP3
import Derived.Test.YtljoajjlkjjgeaaGreatDoorMP1
import Derived.Test.YtljoajjlkjjgeaaGreatDoorMP2
namespace Go.Proofs.YtljoajjlkjjgeaaGreatDoor
open Go.RowKit Go.Sort LM Go

set_option maxHeartbeats 8000000 in
set_option maxRecDepth 100000 in
theorem query_any {q : Nat} {TL : List Tk} {E : Nat} {X : Rule XT} {P : Rule Pl} {G : PSt → Prop} {F : Nat} (hG : Good F G) (hNP : Nice P) (hNX : Nice X)
  (HP : ∀ s1 w1, G s1 → ParAt q TL E w1 s1 → Calls Tryz.prog 56 #[pP q] w1 (AggTo q TL E w1 (P s1).1.enc (P s1).2))
  (HS : ∀ (Pq : Nat → Prop) (_ : ¬ Pq q) (p : Pl) (vq : List Value) s1 w1, G s1 → ParAt q TL E w1 s1 → RepC Pq w1 p.enc vq → Calls Tryz.prog 58 #[pP q, .agg vq.toArray] w1 (PlanTo q TL E Pq w1 (stepS F X P p.enc s1).1.enc (stepS F X P p.enc s1).2)) (s : PSt) (w : World) (hs : G s) (H : ParAt q TL E w s) :
  Calls Tryz.prog 33 #[pP q] w (AggTo q TL E w (stepsG F X P F (P s).1 (P s).2).1.enc (stepsG F X P F (P s).1 (P s).2).2) := by
 have HG := hide hG
 have HNX := hide hNX
 have HNP := hide hNP
 have HPh := hide HP
 have HSh := hide HS
 obtain ⟨RES, hR⟩ : ∃ R, R = stepsG F X P F (P s).1 (P s).2 := ⟨_, rfl⟩
 rw [← hR]
 have HR := hide hR
 have hT1 := hNP.tr s H.wf
 have HG1 := hide (hG.tr _ _ hs hT1)
 have hl1 := hG.len _ HG1.out
 have HC := hide (fun s1 w1 (h : ParAt q TL E w1 s1) => accept_any [124] w1 h)
 have cq := H.lt
 have hqq : q < w.heap.size + 1 := by omega
 obtain ⟨W0, hW0⟩ : ∃ W0, W0 = w.alloc (.cells #[.int .i64 0, .string ⟨#[]⟩, .slice none 0 0, .int .i64 0, .string ⟨#[]⟩, .int .i64 0, .int .i64 0, .string ⟨#[]⟩, .string ⟨#[]⟩, .slice none 0 0, .slice none 0 0, .slice none 0 0, .slice none 0 0, .slice none 0 0, .slice none 0 0, .int .i64 0] 41) := ⟨_, rfl⟩
 have H0 := hide (show ParAt q TL E W0 s by rw [hW0]; exact H.alloc _)
 have HT0 := hide (show Turn q w W0 by rw [hW0]; exact (Turn.refl _ _).alloc _)
 have HB0 := hide (show BoxAt w.heap.size 41 16 W0 by rw [hW0]; exact box_new _ _ _ rfl)
 have hz0 : w.heap.size + 1 ≤ W0.heap.size := by rw [hW0]; simp
 have HW0 := hide hW0
 clear hW0
 have HM1 := hide (HP s W0 hs H0.out)
 clear HP HS hG hNP hNX hT1 H hs hR
 unfold AggTo
 unfold AggTo at HM1 HPh
 unfold PlanTo at HSh
 unfold StepTo at HC
 skip
 go_enter Tryz.func33, Tryz.ntmps33
 go_wp2_with fail
 rw [← HW0.out]
 refine (HM1.out).mono ?_
 rintro e w1 ⟨vs1, rfl, hv, h, ht⟩
 have H1 := hide h
 have HT1 := hide (HT0.out.trans ht)
 have HB1 := hide (HB0.out.turn ht cq)
 have hz1 : w.heap.size + 1 ≤ w1.heap.size := Nat.le_trans hz0 ht.size
 have HV1 := hide (hv.stay (Stay.at (fun _ hb => Nat.le_trans hz0 hb) _))
 clear hv
 clear h ht H0 HT0 HB0 HM1
 have hlen1 : vs1.length = 16 := HV1.out.1.trans (enc_len _)
 have hone1 := HV1.out.one_cell
 have HV1k := HV1
 obtain ⟨w2, hw2⟩ : ∃ W, W = w1.alloc (.cells vs1.toArray 41) := ⟨_, rfl⟩
 have HW2 := hide (show w2 = (w1.alloc (.cells #[.int .i64 0, .string ⟨#[]⟩, .slice none 0 0, .int .i64 0, .string ⟨#[]⟩, .int .i64 0, .int .i64 0, .string ⟨#[]⟩, .string ⟨#[]⟩, .slice none 0 0, .slice none 0 0, .slice none 0 0, .slice none 0 0, .slice none 0 0, .slice none 0 0, .int .i64 0] 41)).setRow w1.heap.size vs1.toArray by rw [hw2, World.setRow_alloc_new])
 have H2 := hide (show ParAt q TL E w2 _ by rw [hw2]; exact H1.out.alloc _)
 have HT2 := hide (show Turn q w w2 by rw [hw2]; exact HT1.out.alloc _)
 have HX2 := hide (show HoldB w1.heap.size 41 vs1 w2 by rw [hw2]; exact heap_alloc_new _ _)
 have hz2 : w.heap.size + 1 ≤ w2.heap.size := by rw [hw2]; simp; omega
 have HY2 := hide (show Below w1.heap.size w1 w2 by rw [hw2]; exact Joins.below_alloc1 _ _)
 have hq2 : q < w1.heap.size := by omega
 have HB2 := hide (show BoxAt w.heap.size 41 16 w2 by rw [hw2]; exact HB1.out.turn ((Turn.refl q _).alloc _) cq)
 have HV1' := hide (show RepC _ w2 _ _ by rw [hw2]; exact HV1.out.stay (Stay.below (Joins.below_alloc1 _ _)))
 clear HV1 hw2 H1 HT1 HB1
 have HV1 := HV1'
 clear HV1'
 obtain ⟨B, hB⟩ : ∃ B, B = w1.heap.size := ⟨_, rfl⟩
 have HBE := hide hB
 have hB1 : w.heap.size < B := by omega
 have HVx2 := hide (show RepC (PX w.heap.size B w2) w2 (P s).1.enc vs1 from HV1k.out.stay ⟨fun b hb k => ⟨k, Nat.lt_of_lt_of_le hb HY2.out.size, by omega⟩, HY2.out.size, fun b _ hb => HY2.out.block b hb⟩)
 have HX := hide (show HoldB B 41 vs1 w2 by rw [hB]; exact HX2.out)
 clear HV1 HV1k HY2 HX2 hB
 go_wp2_with (refine wpList_storeBig rfl 41 _ _ rfl w1.heap.size 16 vs1 big_plan hlen1 hone1 rfl rfl (box_new _ _ _ rfl) ?_; rw [← HW2.out, ← HBE.out])
 clear HW2
 simp only [Act.put]
 go_loopw [7] (fun _ wr => ∃ (n : Nat) (x : Pl) (s1 : PSt) (vs : List Value), Hid (RES = stepsG F X P n x s1) ∧ s1.L.length ≤ n ∧ Hid (ParAt q TL E wr s1) ∧ Hid (G s1) ∧ vs.length = 16 ∧ Hid (HoldB B 41 vs wr) ∧ Hid (RepC (PX w.heap.size B wr) wr x.enc vs) ∧ Hid (Turn q w wr) ∧ Hid (BoxAt w.heap.size 41 16 wr)) (fun _ wr => measL wr q)
 case atStart => exact ⟨F, (P s).1, (P s).2, vs1, HR, hl1, H2, HG1, hlen1, HX, HVx2, HT2, HB2⟩
 case round =>
  obtain ⟨n, x, s1, vs, HRn, hln, HP, HGs, hlen, HXx, HVx, HTr, HBx⟩ := hrel
  clear HR HG1 HX HVx2 HT2 HB2 H2
  have hmeas := hide (meas_eq HP.out)
  have hone := hide HVx.out.one_cell
  have hBr : B < wr.heap.size := holds_size HXx.out
  have HCs := hide (HC.out s1 wr HP.out)
  cases hb : isT (aheadS 0 s1) [124]
  ·have HE := hide (show RES = (x, s1) from HRn.out.trans (by cases n with | zero => rfl | succ n => rw [stepsG, if_neg (by simp [hb])]))
   rw [hb] at HCs
   rw [if_neg (by simp)] at HCs
   clear HRn HC HSh HPh hmeas hb
   go_wp2_with fail
   refine HCs.out.mono ?_
   rintro e w3 ⟨rfl, h3, ht3⟩
   have H3 := hide h3
   have HT3 := hide (HTr.out.trans ht3)
   have HB3 := hide (HBx.out.turn ht3 cq)
   have HX3 := hide (holds_turn HXx.out ht3 (by omega))
   have HV3 := hide (HVx.out.stay (PX.turn ht3 cq))
   clear h3 ht3 HXx HVx HTr HBx HP
   go_wp2_with (first | (refine wpList_loadBig rfl 41 _ rfl B 16 vs big_plan hlen rfl HX3.out ?_) | (refine wpList_storeBig rfl 41 _ _ rfl w.heap.size 16 vs big_plan hlen hone.out rfl rfl HB3.out ?_))
   refine bodyPost_ret (v := .agg vs.toArray) (results_big rfl rfl big_plan hlen (set_row _ HB3.out.choose_spec.1)) rfl ?_
   rw [HE.out]
   exact ⟨vs, rfl, HV3.out.stay ⟨fun b _ k => Nat.le_of_lt k.1, by rw [set_row_size]; exact Nat.le_refl _, fun b k _ => set_row_other _ _ (by omega)⟩, H3.out.row cq _, HT3.out.row (Nat.le_refl _) _⟩
  ·have hlt := take_lt HP.out.wf hb
   obtain ⟨n, rfl⟩ : ∃ m, n = m + 1 := ⟨n - 1, by omega⟩
   have HE := hide (show RES = stepsG F X P n (stepS F X P x.enc (takeS s1).2).1 (stepS F X P x.enc (takeS s1).2).2 from HRn.out.trans (by rw [stepsG, if_pos hb]))
   rw [hb] at HCs
   rw [if_pos rfl] at HCs
   have hTs := take_tr HP.out.wf
   have HG2 := hide (HG.out.tr _ _ HGs.out hTs)
   have hTm := (nice_step F HNX.out HNP.out x.enc).tr (takeS s1).2 hTs.wf
   have HG3 := hide (HG.out.tr _ _ HG2.out hTm)
   have hlm := hTm.len
   generalize (takeS s1).2 = s2 at *
   clear HRn HC hb hTs hTm HPh
   go_wp2_with fail
   refine HCs.out.mono ?_
   rintro e w3 ⟨rfl, h3, ht3⟩
   have H3 := hide h3
   have HT3 := hide (HTr.out.trans ht3)
   have HB3 := hide (HBx.out.turn ht3 cq)
   have HX3 := hide (holds_turn HXx.out ht3 (by omega))
   have HV3 := hide (HVx.out.stay (PX.turn ht3 cq))
   have hs3 : wr.heap.size ≤ w3.heap.size := ht3.size
   clear h3 ht3 HXx HVx HTr HBx HP HCs
   go_wp2_with (refine wpList_loadBig rfl 41 _ rfl B 16 vs big_plan hlen rfl HX3.out ?_)
   refine (HSh.out (PX w.heap.size B w3) (fun h => by omega) x vs s2 w3 HG2.out H3.out HV3.out).mono ?_
   rintro e w4 ⟨us, rfl, hr, h4, ht4⟩
   have hus : us.length = 16 := hr.1.trans (enc_len _)
   have hou := hr.one_cell
   have hs4 := ht4.size
   obtain ⟨w5, hw5⟩ : ∃ w5, w5 = w4.setRow B us.toArray := ⟨_, rfl⟩
   have HW5 := hide hw5
   have HX4 := hide (holds_turn HX3.out ht4 (by omega))
   have H5 := hide (show ParAt q TL E w5 _ by rw [hw5]; exact h4.row (by omega) _)
   have HT5 := hide (show Turn q w w5 by rw [hw5]; exact (HT3.out.trans ht4).row (Nat.le_of_lt hB1) _)
   have HX5 := hide (show HoldB B 41 us w5 by rw [hw5]; exact set_row _ HX4.out)
   have HB5 := hide (show BoxAt w.heap.size 41 16 w5 by
    rw [hw5]
    obtain ⟨o, h, hn⟩ := HB3.out.turn ht4 cq
    exact ⟨o, (set_row_other _ _ (by omega)).trans h, hn⟩)
   have HV5 := hide (show RepC (PX w.heap.size B w5) w5 _ us by
    rw [hw5]
    exact hr.stay ⟨fun b hb k => ⟨by rcases k with k | k; exact k.1; omega, by rw [set_row_size]; exact hb, by rcases k with k | k; exact k.2.2; omega⟩, by rw [set_row_size]; exact Nat.le_refl _, fun b k _ => set_row_other _ _ (by rcases k with k | k; exact k.2.2; omega)⟩)
   have hm5 := hide (meas_eq H5.out)
   clear hw5 hr h4 ht4 HX3 HT3 HB3 HV3 H3
   go_wp2_with (first | rw [← HW5.out] | (refine wpList_storeBig rfl 41 _ _ rfl B 16 us big_plan hus hou rfl rfl (holds_box HX4.out hlen) ?_))
   simp only [Act.put]
   go_roundw
   case rel => exact ⟨n, _, _, us, HE, by omega, H5, HG3, hus, HX5, HV5, HT5, HB5⟩
   case measure => rw [hm5.out, hmeas.out]; omega

theorem listG_len {α : Type} (r : Rule α) : ∀ n l s, (listG r n l s).1.length ≤ l.length + n
 | 0, l, s => Nat.le_refl _
 | n + 1, l, s => by
  rw [listG]
  split
  ·have := listG_len r n (l ++ [(r (takeS s).2).1]) (r (takeS s).2).2
   rw [List.length_append, List.length_singleton] at this
   omega
  ·show l.length ≤ _; omega
theorem listS_len {α : Type} (F : Nat) (r : Rule α) (s : PSt) : (listS F r s).1.length ≤ F + 1 := by
 have := listG_len r F [(r s).1] (r s).2
 rw [List.length_singleton] at this
 show (listG r F [(r s).1] (r s).2).1.length ≤ _
 omega
theorem Ok.up {F n : Nat} {s : PSt} (h : Ok F n s) : Ok F (F + 1) s := ⟨h.len, Nat.lt_succ_of_le h.len, h.d0, h.d1⟩
section
variable {q : Nat} {TL : List Tk} {E F n : Nat}
theorem optStr_ok (hF : F ≤ 20000) (s : PSt) (w : World) (hs : Ok F (F + 1) s) (H : ParAt q TL E w s) :
  Calls Tryz.prog 78 #[pP q, .func (.func 70) #[pP q] #[]] w (OneTo q TL E w (dStrs (optionalS F nameS s).1) (optionalS F nameS s).2) := by
 unfold optionalS
 by_cases hk : (aheadS 0 s).1 = 1
 ·rw [if_pos hk]
  exact optionalStrY _ _ s w H hk fun w1 h1 => listStr_any (good_ok F (F + 1)) nice_name hF (fun s1 w1 _ h => nameO_any s1 w1 h) s w1 hs h1
 ·rw [if_neg hk]
  exact optionalStrN 1 s w H hk
theorem optAgg_ok (hF : F ≤ 20000) (s : PSt) (w : World) (hs : Ok F (F + 1) s) (H : ParAt q TL E w s) :
  Calls Tryz.prog 79 #[pP q, .func (.func 80) #[pP q] #[]] w (OneTo q TL E w (.row 3 ((optionalS F aggS s).1.map dAgg)) (optionalS F aggS s).2) := by
 unfold optionalS
 by_cases hk : (aheadS 0 s).1 = 1
 ·rw [if_pos hk]
  exact optionalAggY _ _ s w H hk fun w1 h1 => listAgg_any dAgg (good_ok F (F + 1)) nice_agg hF (fun _ => rfl) (fun s1 w1 _ h => agg_any s1 w1 h) s w1 hs h1
 ·rw [if_neg hk]
  exact optionalAggN 3 s w H hk
/-- What is asked of query at n. -/
def Cquery (q : Nat) (TL : List Tk) (E F n : Nat) : Prop := ∀ s w, Ok F n s → ParAt q TL E w s → Calls Tryz.prog 33 #[pP q] w (AggTo q TL E w (queryG F n s).1.enc (queryG F n s).2)
theorem part_ok (HQ : Cquery q TL E F n) (s : PSt) (w : World) (hs : Ok F (n + 1) s) (H : ParAt q TL E w s) :
  Calls Tryz.prog 56 #[pP q] w (AggTo q TL E w (partS (queryG F n) s).1.enc (partS (queryG F n) s).2) := by
 have hw := H.wf
 unfold partS
 cases hc : isT (aheadS 0 s) [40]
 ·rw [if_neg (by simp)]
  exact partNo s w H hc
 ·rw [if_pos rfl]
  refine partYes (nestedS (enclosedS (queryG F n)) s) s w H hc fun w1 h1 => ?_
  refine nestedPlan_any Pl.enc enc_len (nice_enclosed (nice_queryG F n)) s w1 hs.d0 hs.big h1 fun w2 h2 => ?_
  have hx : (expectS [40] ⟨s.L, s.d + 1, s.b⟩).L.length < s.L.length := expect_lt (s := ⟨s.L, s.d + 1, s.b⟩) hw hc
  have hd : (expectS [40] ⟨s.L, s.d + 1, s.b⟩).d = s.d + 1 := ((nice_expect [40]).tr ⟨s.L, s.d + 1, s.b⟩ hw).d
  refine enclosedQueryW (enclosedS (queryG F n) ⟨s.L, s.d + 1, s.b⟩) _ w2 h2 fun w3 h3 => ?_
  exact enclosedPlan_any Pl.enc enc_len _ w3 h3 fun w4 h4 => HQ _ w4 ⟨by have := hs.len; omega, by have := hs.lt; omega, by rw [hd]; have := hs.d0; omega, by rw [hd]; have := hs.d1; omega⟩ h4
theorem oneOf_range (xs : List (List UInt8)) (s : PSt) : 0 ≤ (oneOfS xs s).1 ∧ (oneOfS xs s).1 ≤ xs.length := by
 unfold oneOfS
 cases hw : whichS xs s with
 | mk o s1 =>
  cases o with
  | none => exact ⟨Int.le_refl _, by simp⟩
  | some i =>
   have : i < xs.length := by
    unfold whichS at hw
    cases hf : findW xs (aheadS 0 s) with
    | none => rw [hf] at hw; cases hw
    | some j => rw [hf] at hw; injection hw with h1 h2; injection h1 with h1; subst h1; exact findW_lt hf
   exact ⟨by simp; omega, by simp; omega⟩
theorem step_ok (hF : F ≤ 19000) (hT : TokOk TL) (HQ : Cquery q TL E F n) (Pq : Nat → Prop) (hPq : ¬ Pq q) (p : Pl) (vq : List Value) (s : PSt) (w : World) (hs : Ok F (n + 1) s) (H : ParAt q TL E w s) (hq : RepC Pq w p.enc vq) :
  Calls Tryz.prog 58 #[pP q, .agg vq.toArray] w (PlanTo q TL E Pq w (stepS F (exprG F (F + 1)) (partS (queryG F n)) p.enc s).1.enc (stepS F (exprG F (F + 1)) (partS (queryG F n)) p.enc s).2) := by
 have hF2 : F ≤ 20000 := by omega
 have hTr := (nice_oneOf stepWords).tr s H.wf
 have hs1 : Ok F (n + 1) (oneOfS stepWords s).2 := (good_ok F (n + 1)).tr _ _ hs hTr
 have hX : ∀ s1 w1, Ok F (F + 1) s1 → ParAt q TL E w1 s1 → Calls Tryz.prog 73 #[pP q] w1 (AggTo q TL E w1 (dE (exprG F (F + 1) s1).1) (exprG F (F + 1) s1).2) := fun s1 w1 h k => expr_any hF2 hT (F + 1) s1 w1 h k
 have hr := oneOf_range stepWords s
 have h8 : (stepWords.length : Int) = 8 := rfl
 unfold stepS stepK
 have hcase : (oneOfS stepWords s).1 = 0 ∨ (oneOfS stepWords s).1 = 1 ∨ (oneOfS stepWords s).1 = 2 ∨ (oneOfS stepWords s).1 = 3 ∨ (oneOfS stepWords s).1 = 4 ∨ (oneOfS stepWords s).1 = 5 ∨ (oneOfS stepWords s).1 = 6 ∨ (oneOfS stepWords s).1 = 7 ∨ (oneOfS stepWords s).1 = 8 := by omega
 have en := enc_len p
 have nX := nice_expr F (F + 1)
 have nP := nice_part (nice_queryG F n)
 rcases hcase with hk | hk | hk | hk | hk | hk | hk | hk | hk
 ·rw [hk]
  exact stepNone hPq p.enc en vq s w H hq hk
 ·rw [hk]
  exact stepWhere hPq (exprG F (F + 1) (oneOfS stepWords s).2) p.enc en vq s w H hq hk fun w1 h1 => hX _ w1 hs1.up h1
 ·rw [hk]
  exact stepKeep hPq (listS F (keptS (exprG F (F + 1))) (oneOfS stepWords s).2) p.enc en vq s w H hq hk (by have := listS_len F (keptS (exprG F (F + 1))) (oneOfS stepWords s).2; omega) fun w1 h1 =>
   listNamed_any dK (good_ok F (F + 1)) (nice_kept nX) hF2 dK_len (fun s2 w2 ok h => kept_any _ s2 w2 h fun w3 h3 => hX s2 w3 ok h3) _ w1 hs1.up h1
 ·rw [hk]
  have tp := nP.tr _ hTr.wf
  have te := (nice_expect [111, 110]).tr _ tp.wf
  exact stepJoin hPq (partS (queryG F n) (oneOfS stepWords s).2) (listS F pairS (expectS [111, 110] (partS (queryG F n) (oneOfS stepWords s).2).2)) p.enc en vq s w H hq hk (fun w1 h1 => part_ok HQ _ w1 hs1 h1)
   fun w1 h1 => listPair_any dPair (good_ok F (F + 1)) nice_pair hF2 (fun _ => rfl) (fun s2 w2 _ h => pair_any s2 w2 h) _ w1 ((good_ok F (F + 1)).tr _ _ ((good_ok F (F + 1)).tr _ _ hs1.up tp) te) h1
 ·rw [hk]
  have tp := nP.tr _ hTr.wf
  have te := (nice_expect [111, 110]).tr _ tp.wf
  exact stepLeft hPq (partS (queryG F n) (oneOfS stepWords s).2) (listS F pairS (expectS [111, 110] (partS (queryG F n) (oneOfS stepWords s).2).2)) p.enc en vq s w H hq hk (fun w1 h1 => part_ok HQ _ w1 hs1 h1)
   fun w1 h1 => listPair_any dPair (good_ok F (F + 1)) nice_pair hF2 (fun _ => rfl) (fun s2 w2 _ h => pair_any s2 w2 h) _ w1 ((good_ok F (F + 1)).tr _ _ ((good_ok F (F + 1)).tr _ _ hs1.up tp) te) h1
 ·rw [hk]
  have tp := (nice_optional F nice_name).tr _ hTr.wf
  have te := (nice_expect [58]).tr _ tp.wf
  exact stepGroup hPq (optionalS F nameS (oneOfS stepWords s).2) (optionalS F aggS (expectS [58] (optionalS F nameS (oneOfS stepWords s).2).2)) p.enc en vq s w H hq hk (fun w1 h1 => optStr_ok hF2 _ w1 hs1.up h1)
   fun w1 h1 => optAgg_ok hF2 _ w1 ((good_ok F (F + 1)).tr _ _ ((good_ok F (F + 1)).tr _ _ hs1.up tp) te) h1
 ·rw [hk]
  exact stepUnion hPq (partS (queryG F n) (oneOfS stepWords s).2) p.enc en vq s w H hq hk fun w1 h1 => part_ok HQ _ w1 hs1 h1
 ·rw [hk]
  exact stepDistinct hPq p.enc en vq s w H hq hk
 ·rw [hk]
  have tn := nice_number.tr _ hTr.wf
  cases hc : isT (aheadS 0 (numberS (oneOfS stepWords s).2).2) [98, 121]
  ·have := stepFirst hPq p.enc en vq s w H hq hk hc
   simpa [hc] using this
  ·have := stepFirstBy hPq (listS F orderS (takeS (numberS (oneOfS stepWords s).2).2).2) p.enc en vq s w H hq hk hc fun w1 h1 => listOrd_any dOrd (good_ok F (F + 1)) nice_order hF2 (fun _ => rfl) (fun s2 w2 _ h => order_any s2 w2 h) _ w1 ((good_ok F (F + 1)).tr _ _ ((good_ok F (F + 1)).tr _ _ hs1.up tn) (take_tr tn.wf)) h1
   simpa [hc] using this
theorem query_ok (hF : F ≤ 19000) (hT : TokOk TL) : ∀ n, Cquery q TL E F n
 | 0 => fun s w hs _ => by have := hs.lt; omega
 | n + 1 => fun s w hs H => query_any (good_ok F (n + 1)) (nice_part (nice_queryG F n)) (nice_expr F (F + 1)) (fun s1 w1 ok h => part_ok (query_ok hF hT n) s1 w1 ok h) (fun Pq hPq p vq s1 w1 ok h hq => step_ok hF hT (query_ok hF hT n) Pq hPq p vq s1 w1 ok h hq) s w hs H
end
end Go.Proofs.YtljoajjlkjjgeaaGreatDoor
