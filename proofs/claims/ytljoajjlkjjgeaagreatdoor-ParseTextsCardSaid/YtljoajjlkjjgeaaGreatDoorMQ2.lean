/-
  Inputs, kept columns, aggregates, and optional lists.
  Aggregates, optional lists.
-/
import Derived.Test.YtljoajjlkjjgeaaGreatDoorMQ1
import Derived.Test.YtljoajjlkjjgeaaGreatDoorML4
import Derived.Test.YtljoajjlkjjgeaaGreatDoorML5
namespace Go.Proofs.YtljoajjlkjjgeaaGreatDoor
open Go.RowKit Go.Sort LM Go

attribute [local go_sem] fld_tok0 fld_tok1 fld_tok2
theorem distance_any {q : Nat} {TL : List Tk} {E : Nat} (s : PSt) (w : World) (hT : TokOk TL) (H : ParAt q TL E w s) :
  Calls Tryz.prog 130 #[pP q] w (StepTo q TL E w (.int .i64 (distS s).1) (distS s).2) := by
 unfold distS
 cases hc : isT (aheadS 0 s) [45]
 ·rw [if_neg (by simp)]
  exact distanceN s w H hc
 ·rw [if_pos rfl]
  have ht := take_tr H.wf
  have hb := ((H.nb hT).tr ht).number ht.wf
  exact distanceY s w H hc hb.1 hb.2
theorem mapping_any {q : Nat} {TL : List Tk} {E : Nat} (s : PSt) (w : World) (hT : TokOk TL) (H : ParAt q TL E w s) :
  Calls Tryz.prog 115 #[pP q] w (AggTo q TL E w [dI (mappingS s).1.1, dI (mappingS s).1.2] (mappingS s).2) := by
 unfold mappingS
 simp only
 by_cases h2 : (oneOfS mapWords s).1 = 2
 ·rw [if_pos h2]; exact mapping2 s w H h2
 rw [if_neg h2]
 by_cases h3 : (oneOfS mapWords s).1 = 3
 ·rw [if_pos h3]; exact mapping3 s w H h3 (fun w1 h1 => distance_any _ w1 hT h1)
 ·rw [if_neg h3]; exact mapping0 s w H h2 h3
theorem two_ints {P : Nat → Prop} {w : World} {a b : Int} {vs : List Value} (h : RepC P w [dI a, dI b] vs) : vs = [.int .i64 a, .int .i64 b] := by
 obtain ⟨v1, vs, rfl, h1, h⟩ := h.uncons
 obtain ⟨v2, vs, rfl, h2, h⟩ := h.uncons
 rw [h.unnil, h1.int, h2.int]
theorem three_ints {P : Nat → Prop} {w : World} {a b c : Int} {vs : List Value} (h : RepC P w [dI a, dI b, dI c] vs) : vs = [.int .i64 a, .int .i64 b, .int .i64 c] := by
 obtain ⟨v1, vs, rfl, h1, h⟩ := h.uncons
 obtain ⟨v2, vs, rfl, h2, h⟩ := h.uncons
 obtain ⟨v3, vs, rfl, h3, h⟩ := h.uncons
 rw [h.unnil, h1.int, h2.int, h3.int]
theorem cells7 {P : Nat → Prop} {w : World} {x : XT} {vs : List Value} (h : RepC P w (dE x) vs) : ∃ A m cap, vs = [.int .i64 x.kind, .string x.name, .int .i64 x.val.1, .int .i64 x.val.2.1, .string x.val.2.2, .string x.op, .slice A m cap] := by
 obtain ⟨k, n, u, o, A, c, ts⟩ := x
 obtain ⟨v1, vs, rfl, h1, h⟩ := RepC.uncons (show RepC P w [dI k, dS n, dI u.1, dI u.2.1, dS u.2.2, dS o, .row 7 (dEs ts)] vs from h)
 obtain ⟨v2, vs, rfl, h2, h⟩ := h.uncons
 obtain ⟨v3, vs, rfl, h3, h⟩ := h.uncons
 obtain ⟨v4, vs, rfl, h4, h⟩ := h.uncons
 obtain ⟨v5, vs, rfl, h5, h⟩ := h.uncons
 obtain ⟨v6, vs, rfl, h6, h⟩ := h.uncons
 obtain ⟨v7, vs, rfl, h7, h⟩ := h.uncons
 rw [h.unnil, h1.int, h2.str, h3.int, h4.int, h5.str, h6.str]
 obtain ⟨A', cap, e, -, -⟩ := h7.row_inv
 rw [e]
 exact ⟨A', _, cap, rfl⟩
set_option maxHeartbeats 8000000 in
set_option maxRecDepth 100000 in
theorem input_any {q : Nat} {TL : List Tk} {E : Nat} (s : PSt) (w : World) (H : ParAt q TL E w s) (hT : TokOk TL) :
  Calls Tryz.prog 88 #[pP q] w (AggTo q TL E w (dInp (inputS s).1) (inputS s).2) := by
 have HNm := hide (fun s1 w1 (h : ParAt q TL E w1 s1) => name_any w1 h)
 unfold StepTo at HNm
 have cq := H.lt
 have hqq : q < w.heap.size + 1 := by omega
 obtain ⟨W0, hW0⟩ : ∃ W0, W0 = w.alloc (.cells #[.string ⟨#[]⟩, .int .i64 0, .int .i64 0, .string ⟨#[]⟩] 56) := ⟨_, rfl⟩
 have H0 := hide (show ParAt q TL E W0 s by rw [hW0]; exact H.alloc _)
 have HT0 := hide (show Turn q w W0 by rw [hW0]; exact (Turn.refl _ _).alloc _)
 have HB0 := hide (show BoxAt w.heap.size 56 4 W0 by rw [hW0]; exact box_new _ _ _ rfl)
 have hz0 : w.heap.size + 1 ≤ W0.heap.size := by rw [hW0]; simp
 have HW0 := hide hW0
 clear hW0
 unfold AggTo
 have HMa := hide (fun w1 (h : ParAt q TL E w1 (nameS s).2) => mapping_any (nameS s).2 w1 hT h)
 have HAs := hide (fun s1 w1 (h : ParAt q TL E w1 s1) => as_any s1 w1 h)
 unfold AggTo at HMa
 unfold StepTo at HAs
 clear H
 go_enter Tryz.func88, Tryz.ntmps88
 go_wp2_with fail
 rw [← HW0.out]
 refine (HNm.out _ W0 H0.out).mono ?_
 rintro e w1 ⟨rfl, h, ht⟩
 have H1 := hide h
 have HT1 := hide (HT0.out.trans ht)
 have HB1 := hide (HB0.out.turn ht cq)
 have hz1 : w.heap.size + 1 ≤ w1.heap.size := Nat.le_trans hz0 ht.size
 clear h ht H0 HT0 HB0 HNm
 go_wp2_with fail
 refine (HMa.out w1 H1.out).mono ?_
 rintro e w2 ⟨vs2, rfl, hv, h, ht⟩
 have H2 := hide h
 have HT2 := hide (HT1.out.trans ht)
 have HB2 := hide (HB1.out.turn ht cq)
 have hz2 : w.heap.size + 1 ≤ w2.heap.size := Nat.le_trans hz1 ht.size
 have HV2 := hide (hv.stay (Stay.at (fun _ hb => Nat.le_trans hz1 hb) _))
 clear hv
 clear h ht H1 HT1 HB1 HMa
 obtain rfl := two_ints HV2.out
 clear HV2
 obtain ⟨w3, hw3⟩ : ∃ W, W = w2.alloc (.cells #[.string (nameS s).1, .int .i64 (mappingS (nameS s).2).1.1, .int .i64 (mappingS (nameS s).2).1.2, .string ⟨#[]⟩] 56) := ⟨_, rfl⟩
 have HW3 := hide hw3
 have H3 := hide (show ParAt q TL E w3 _ by rw [hw3]; exact H2.out.alloc _)
 have HT3 := hide (show Turn q w w3 by rw [hw3]; exact HT2.out.alloc _)
 obtain ⟨tb, htb⟩ : ∃ tb, tb = w2.heap.size := ⟨_, rfl⟩
 have HTB := hide htb
 have HX := hide (show HoldB tb 56 [.string (nameS s).1, .int .i64 (mappingS (nameS s).2).1.1, .int .i64 (mappingS (nameS s).2).1.2, .string ⟨#[]⟩] w3 by rw [hw3, htb]; exact heap_alloc_new _ _)
 have hz3 : w.heap.size + 1 ≤ w3.heap.size := by rw [hw3]; simp; omega
 have hze := hide (show w3.heap.size = tb + 1 by rw [hw3, htb]; simp)
 have hqt : q < tb := by omega
 have hrt : w.heap.size < tb := by omega
 have HB3 := hide (show BoxAt w.heap.size 56 4 w3 by rw [hw3]; exact HB2.out.turn ((Turn.refl q _).alloc _) cq)
 clear hw3 htb H2 HT2 HB2
 have x0 := Lib.cell_of_heap HX.out 0
 have x1 := Lib.cell_of_heap HX.out 1
 have x2 := Lib.cell_of_heap HX.out 2
 have x3 := Lib.cell_of_heap HX.out 3
 have xf := Lib.frozen_of_heap HX.out
 have xs := holds_size HX.out
 simp only [List.getElem?_toArray, List.getElem?_cons_zero, List.getElem?_cons_succ] at x0 x1 x2 x3
 go_wp2_with (first | rw [← HW3.out, ← HTB.out])
 clear xf xs x0 x1 x2 x3
 clear HW3
 refine (HAs.out _ w3 H3.out).mono ?_
 rintro e w4 ⟨rfl, h, ht⟩
 have H4 := hide h
 have HT4 := hide (HT3.out.trans ht)
 have HB4 := hide (HB3.out.turn ht cq)
 have hz4 : w.heap.size + 1 ≤ w4.heap.size := Nat.le_trans hz3 ht.size
 replace HX := hide (holds_turn HX.out ht hqt)
 clear h ht H3 HT3 HB3 HAs
 obtain ⟨w5, hw5⟩ : ∃ W, W = w4.setCell ⟨tb, 3, none⟩ (.string (asS (mappingS (nameS s).2).2).1) := ⟨_, rfl⟩
 have HW5 := hide hw5
 have H5 := hide (show ParAt q TL E w5 _ by rw [hw5]; exact H4.out.put (p := ⟨tb, 3, none⟩) hqt _)
 have HT5 := hide (show Turn q w w5 by rw [hw5]; exact HT4.out.put (p := ⟨tb, 3, none⟩) (by simp; omega) _)
 have HX' := hide (show HoldB tb 56 [.string (nameS s).1, .int .i64 (mappingS (nameS s).2).1.1, .int .i64 (mappingS (nameS s).2).1.2, .string (asS (mappingS (nameS s).2).2).1] w5 by rw [hw5]; exact Joins.block_setCell (i := 3) HX.out _)
 have hz5 : w.heap.size + 1 ≤ w5.heap.size := by rw [hw5]; simp; omega
 have HB5 := hide (show BoxAt w.heap.size 56 4 w5 by rw [hw5]; exact HB4.out.set (by omega) _ _)
 have x0 := Lib.cell_of_heap HX.out 0
 have x1 := Lib.cell_of_heap HX.out 1
 have x2 := Lib.cell_of_heap HX.out 2
 have x3 := Lib.cell_of_heap HX.out 3
 have xf := Lib.frozen_of_heap HX.out
 have xs := holds_size HX.out
 simp only [List.getElem?_toArray, List.getElem?_cons_zero, List.getElem?_cons_succ] at x0 x1 x2 x3
 clear hw5
 go_wp2_with (first | rw [← HW5.out] | (refine wpList_loadBig rfl 56 _ rfl tb 4 [.string (nameS s).1, .int .i64 (mappingS (nameS s).2).1.1, .int .i64 (mappingS (nameS s).2).1.2, .string (asS (mappingS (nameS s).2).2).1] big_inp rfl rfl HX'.out ?_) | (refine wpList_storeBig rfl 56 _ _ rfl w.heap.size 4 [.string (nameS s).1, .int .i64 (mappingS (nameS s).2).1.1, .int .i64 (mappingS (nameS s).2).1.2, .string (asS (mappingS (nameS s).2).2).1] big_inp rfl (by simp [Value.oneCell']) rfl rfl HB5.out ?_))
 clear xf xs x0 x1 x2 x3
 clear HX H4 HT4 HB4 HW5
 have HX := HX'
 clear HX'
 refine bodyPost_ret (v := .agg #[.string (nameS s).1, .int .i64 (mappingS (nameS s).2).1.1, .int .i64 (mappingS (nameS s).2).1.2, .string (asS (mappingS (nameS s).2).2).1]) (results_big (vs := [.string (nameS s).1, .int .i64 (mappingS (nameS s).2).1.1, .int .i64 (mappingS (nameS s).2).1.2, .string (asS (mappingS (nameS s).2).2).1]) rfl rfl big_inp rfl (set_row _ HB5.out.choose_spec.1)) rfl ?_
 exact ⟨[.string (nameS s).1, .int .i64 (mappingS (nameS s).2).1.1, .int .i64 (mappingS (nameS s).2).1.2, .string (asS (mappingS (nameS s).2).2).1], rfl, RepC.cons (rep_str _ _ _) (RepC.cons (rep_int _ _ _) (RepC.cons (rep_int _ _ _) (RepC.cons (rep_str _ _ _) (RepC.nil _ _)))), H5.out.row cq _, HT5.out.row (Nat.le_refl _) _⟩
set_option maxHeartbeats 8000000 in
set_option maxRecDepth 100000 in
theorem kept_any {q : Nat} {TL : List Tk} {E : Nat} (X : Rule XT) (s : PSt) (w : World) (H : ParAt q TL E w s)
  (HM : ∀ w1, ParAt q TL E w1 s → Calls Tryz.prog 73 #[pP q] w1 (AggTo q TL E w1 (dE (X s).1) (X s).2)) :
  Calls Tryz.prog 75 #[pP q] w (AggTo q TL E w (dE (keptS X s).1.1 ++ [dS (keptS X s).1.2]) (keptS X s).2) := by
 have cq := H.lt
 have hqq : q < w.heap.size + 1 := by omega
 obtain ⟨W0, hW0⟩ : ∃ W0, W0 = w.alloc (.cells #[.int .i64 0, .string ⟨#[]⟩, .int .i64 0, .int .i64 0, .string ⟨#[]⟩, .string ⟨#[]⟩, .slice none 0 0, .string ⟨#[]⟩] 146) := ⟨_, rfl⟩
 have H0 := hide (show ParAt q TL E W0 s by rw [hW0]; exact H.alloc _)
 have HT0 := hide (show Turn q w W0 by rw [hW0]; exact (Turn.refl _ _).alloc _)
 have HB0 := hide (show BoxAt w.heap.size 146 8 W0 by rw [hW0]; exact box_new _ _ _ rfl)
 have hz0 : w.heap.size + 1 ≤ W0.heap.size := by rw [hW0]; simp
 have HW0 := hide hW0
 clear hW0
 unfold AggTo
 have HAs := hide (fun s1 w1 (h : ParAt q TL E w1 s1) => as_any s1 w1 h)
 unfold AggTo at HM
 unfold StepTo at HAs
 replace HM := hide HM
 clear H
 go_enter Tryz.func75, Tryz.ntmps75
 go_wp2_with fail
 rw [← HW0.out]
 refine (HM.out W0 H0.out).mono ?_
 rintro e w1 ⟨vs1, rfl, hv, h, ht⟩
 have H1 := hide h
 have HT1 := hide (HT0.out.trans ht)
 have HB1 := hide (HB0.out.turn ht cq)
 have hz1 : w.heap.size + 1 ≤ w1.heap.size := Nat.le_trans hz0 ht.size
 have HV1 := hide (hv.stay (Stay.at (fun _ hb => Nat.le_trans hz0 hb) _))
 clear hv
 clear h ht H0 HT0 HB0 HM
 obtain ⟨a7, n7, c7, hvs⟩ := cells7 HV1.out
 subst hvs
 go_wp2_with fail
 refine (HAs.out _ w1 H1.out).mono ?_
 rintro e w2 ⟨rfl, h, ht⟩
 have H2 := hide h
 have HT2 := hide (HT1.out.trans ht)
 have HB2 := hide (HB1.out.turn ht cq)
 have hz2 : w.heap.size + 1 ≤ w2.heap.size := Nat.le_trans hz1 ht.size
 replace HV1 := hide (HV1.out.stay (Stay.new ht hqq (Nat.le_refl _)))
 clear h ht H1 HT1 HB1 HAs
 go_wp2_with (refine wpList_storeBig rfl 146 _ _ rfl w.heap.size 8 [.int .i64 (X s).1.kind, .string (X s).1.name, .int .i64 (X s).1.val.1, .int .i64 (X s).1.val.2.1, .string (X s).1.val.2.2, .string (X s).1.op, .slice a7 n7 c7, .string (asS (X s).2).1] big_named rfl (by intro u hu; simp only [List.mem_cons, List.not_mem_nil, or_false] at hu; rcases hu with rfl | rfl | rfl | rfl | rfl | rfl | rfl | rfl <;> rfl) rfl rfl HB2.out ?_)
 refine bodyPost_ret (v := .agg #[.int .i64 (X s).1.kind, .string (X s).1.name, .int .i64 (X s).1.val.1, .int .i64 (X s).1.val.2.1, .string (X s).1.val.2.2, .string (X s).1.op, .slice a7 n7 c7, .string (asS (X s).2).1]) (results_big (vs := [.int .i64 (X s).1.kind, .string (X s).1.name, .int .i64 (X s).1.val.1, .int .i64 (X s).1.val.2.1, .string (X s).1.val.2.2, .string (X s).1.op, .slice a7 n7 c7, .string (asS (X s).2).1]) rfl rfl big_named rfl (set_row _ HB2.out.choose_spec.1)) rfl ?_
 exact ⟨[.int .i64 (X s).1.kind, .string (X s).1.name, .int .i64 (X s).1.val.1, .int .i64 (X s).1.val.2.1, .string (X s).1.val.2.2, .string (X s).1.op, .slice a7 n7 c7, .string (asS (X s).2).1], rfl, RepC.append (HV1.out.ret (Nat.lt_succ_self _) (Nat.le_succ _) _) (RepC.cons (rep_str _ _ _) (RepC.nil _ _)), H2.out.row cq _, HT2.out.row (Nat.le_refl _) _⟩
end Go.Proofs.YtljoajjlkjjgeaaGreatDoor
namespace Go.Proofs.YtljoajjlkjjgeaaGreatDoor
open Go.RowKit Go.Sort LM Go

attribute [local go_sem] fld_tok0 fld_tok1 fld_tok2
set_option maxHeartbeats 8000000 in
set_option maxRecDepth 100000 in
theorem agg_any {q : Nat} {TL : List Tk} {E : Nat} (s : PSt) (w : World) (H : ParAt q TL E w s) :
  Calls Tryz.prog 80 #[pP q] w (AggTo q TL E w (dAgg (aggS s).1) (aggS s).2) := by
 show Calls _ _ _ _ (AggTo q TL E w [dS (ba (aheadS 0 s).2.1), dS (enclosedS optNameS (oneOfS aggWords s).2).1, dS (asS (enclosedS optNameS (oneOfS aggWords s).2).2).1] (asS (enclosedS optNameS (oneOfS aggWords s).2).2).2)
 have cq := H.lt
 have hqq : q < w.heap.size + 1 := by omega
 obtain ⟨W0, hW0⟩ : ∃ W0, W0 = w.alloc (.cells #[.string ⟨#[]⟩, .string ⟨#[]⟩, .string ⟨#[]⟩] 72) := ⟨_, rfl⟩
 have H0 := hide (show ParAt q TL E W0 s by rw [hW0]; exact H.alloc _)
 have HT0 := hide (show Turn q w W0 by rw [hW0]; exact (Turn.refl _ _).alloc _)
 have HB0 := hide (show BoxAt w.heap.size 72 3 W0 by rw [hW0]; exact box_new _ _ _ rfl)
 have hz0 : w.heap.size + 1 ≤ W0.heap.size := by rw [hW0]; simp
 have HW0 := hide hW0
 clear hW0
 unfold AggTo
 have HEn := hide (fun s1 w1 (h : ParAt q TL E w1 s1) => enclosedStr_any dS s1 w1 h (fun w2 h2 => optName_any _ w2 h2))
 have HAs := hide (fun s1 w1 (h : ParAt q TL E w1 s1) => as_any s1 w1 h)
 unfold OneTo at HEn
 unfold StepTo at HAs
 have HAh := hide (fun w1 (h : ParAt q TL E w1 s) => aheadI_any 0 (by decide) w1 h)
 generalize aheadS 0 s = t3 at *
 obtain ⟨tk, tt, tn⟩ := t3
 clear H
 go_enter Tryz.func80, Tryz.ntmps80
 go_wp2_with fail
 rw [← HW0.out]
 refine (HAh.out W0 H0.out).mono ?_
 rintro e w1 ⟨⟨a1, rfl⟩, hb⟩
 have ht : Turn q W0 w1 := Turn.of hb
 have H1 := hide (H0.out.on hb)
 have HT1 := hide (HT0.out.trans ht)
 have HB1 := hide (HB0.out.turn ht cq)
 have hz1 : w.heap.size + 1 ≤ w1.heap.size := Nat.le_trans hz0 ht.size
 clear hb ht H0 HT0 HB0 HAh
 simp only [tok3]
 obtain ⟨w2, hw2⟩ : ∃ W, W = w1.alloc (.cells #[.string ⟨tt.toArray⟩, .string ⟨#[]⟩, .string ⟨#[]⟩] 72) := ⟨_, rfl⟩
 have HW2 := hide hw2
 have H2 := hide (show ParAt q TL E w2 _ by rw [hw2]; exact H1.out.alloc _)
 have HT2 := hide (show Turn q w w2 by rw [hw2]; exact HT1.out.alloc _)
 obtain ⟨tb, htb⟩ : ∃ tb, tb = w1.heap.size := ⟨_, rfl⟩
 have HTB := hide htb
 have HX := hide (show HoldB tb 72 [.string ⟨tt.toArray⟩, .string ⟨#[]⟩, .string ⟨#[]⟩] w2 by rw [hw2, htb]; exact heap_alloc_new _ _)
 have hz2 : w.heap.size + 1 ≤ w2.heap.size := by rw [hw2]; simp; omega
 have hze := hide (show w2.heap.size = tb + 1 by rw [hw2, htb]; simp)
 have hqt : q < tb := by omega
 have hrt : w.heap.size < tb := by omega
 have HB2 := hide (show BoxAt w.heap.size 72 3 w2 by rw [hw2]; exact HB1.out.turn ((Turn.refl q _).alloc _) cq)
 clear hw2 htb H1 HT1 HB1
 obtain ⟨w3, hw3⟩ : ∃ W, W = w2.alloc (.cells #[.string ⟨#[99, 111, 117, 110, 116]⟩, .string ⟨#[115, 117, 109]⟩, .string ⟨#[109, 105, 110]⟩, .string ⟨#[109, 97, 120]⟩] 9) := ⟨_, rfl⟩
 have HW3 := hide hw3
 have H3 := hide (show ParAt q TL E w3 _ by rw [hw3]; exact H2.out.alloc _)
 have HT3 := hide (show Turn q w w3 by rw [hw3]; exact HT2.out.alloc _)
 have hz3 : w.heap.size + 1 ≤ w3.heap.size := by rw [hw3]; simp; omega
 have HB3 := hide (show BoxAt w.heap.size 72 3 w3 by rw [hw3]; exact HB2.out.turn ((Turn.refl q _).alloc _) cq)
 replace HX := hide (show HoldB _ _ _ w3 by rw [hw3]; exact holds_turn HX.out ((Turn.refl q _).alloc _) hqt)
 have HS3 := hide (show StrW q w3 (some ⟨w2.heap.size, 0, none⟩) aggWords by rw [hw3]; exact strW_new w2 q aggWords _ (by omega))
 clear hw3 H2 HT2 HB2
 rw [hze.out] at HS3
 go_wp2_with fail
 rw [← HW2.out, ← HW3.out, ← HTB.out]
 clear HW2 HW3
 refine (oneOf_any _ 4 aggWords w3 H3.out HS3.out (by decide)).mono ?_
 rintro e w4 ⟨rfl, h, ht⟩
 have H4 := hide h
 have HT4 := hide (HT3.out.trans ht)
 have HB4 := hide (HB3.out.turn ht cq)
 have hz4 : w.heap.size + 1 ≤ w4.heap.size := Nat.le_trans hz3 ht.size
 replace HX := hide (holds_turn HX.out ht hqt)
 clear h ht H3 HT3 HB3 HS3
 go_wp2_with fail
 refine (HEn.out _ w4 H4.out).mono ?_
 rintro e w5 ⟨v5, rfl, hv, h, ht⟩
 have H5 := hide h
 have HT5 := hide (HT4.out.trans ht)
 have HB5 := hide (HB4.out.turn ht cq)
 have hz5 : w.heap.size + 1 ≤ w5.heap.size := Nat.le_trans hz4 ht.size
 replace HX := hide (holds_turn HX.out ht hqt)
 have HV5 := hide (hv.stay (Stay.at (fun _ hb => Nat.le_trans hz4 hb) _))
 clear hv
 clear h ht H4 HT4 HB4 HEn
 obtain rfl := HV5.out.str
 clear HV5
 obtain ⟨w6, hw6⟩ : ∃ W, W = w5.setCell ⟨tb, 1, none⟩ (.string (enclosedS optNameS (oneOfS aggWords s).2).1) := ⟨_, rfl⟩
 have HW6 := hide hw6
 have H6 := hide (show ParAt q TL E w6 _ by rw [hw6]; exact H5.out.put (p := ⟨tb, 1, none⟩) hqt _)
 have HT6 := hide (show Turn q w w6 by rw [hw6]; exact HT5.out.put (p := ⟨tb, 1, none⟩) (by simp; omega) _)
 have HX' := hide (show HoldB tb 72 [.string ⟨tt.toArray⟩, .string (enclosedS optNameS (oneOfS aggWords s).2).1, .string ⟨#[]⟩] w6 by rw [hw6]; exact Joins.block_setCell (i := 1) HX.out _)
 have hz6 : w.heap.size + 1 ≤ w6.heap.size := by rw [hw6]; simp; omega
 have HB6 := hide (show BoxAt w.heap.size 72 3 w6 by rw [hw6]; exact HB5.out.set (by omega) _ _)
 have x0 := Lib.cell_of_heap HX.out 0
 have x1 := Lib.cell_of_heap HX.out 1
 have x2 := Lib.cell_of_heap HX.out 2
 have xf := Lib.frozen_of_heap HX.out
 have xs := holds_size HX.out
 simp only [List.getElem?_toArray, List.getElem?_cons_zero, List.getElem?_cons_succ] at x0 x1 x2
 clear hw6
 go_wp2_with (first | rw [← HW6.out])
 clear xf xs x0 x1 x2
 clear HX H5 HT5 HB5 HW6
 have HX := HX'
 clear HX'
 refine (HAs.out _ w6 H6.out).mono ?_
 rintro e w7 ⟨rfl, h, ht⟩
 have H7 := hide h
 have HT7 := hide (HT6.out.trans ht)
 have HB7 := hide (HB6.out.turn ht cq)
 have hz7 : w.heap.size + 1 ≤ w7.heap.size := Nat.le_trans hz6 ht.size
 replace HX := hide (holds_turn HX.out ht hqt)
 clear h ht H6 HT6 HB6 HAs
 obtain ⟨w8, hw8⟩ : ∃ W, W = w7.setCell ⟨tb, 2, none⟩ (.string (asS (enclosedS optNameS (oneOfS aggWords s).2).2).1) := ⟨_, rfl⟩
 have HW8 := hide hw8
 have H8 := hide (show ParAt q TL E w8 _ by rw [hw8]; exact H7.out.put (p := ⟨tb, 2, none⟩) hqt _)
 have HT8 := hide (show Turn q w w8 by rw [hw8]; exact HT7.out.put (p := ⟨tb, 2, none⟩) (by simp; omega) _)
 have HX' := hide (show HoldB tb 72 [.string ⟨tt.toArray⟩, .string (enclosedS optNameS (oneOfS aggWords s).2).1, .string (asS (enclosedS optNameS (oneOfS aggWords s).2).2).1] w8 by rw [hw8]; exact Joins.block_setCell (i := 2) HX.out _)
 have hz8 : w.heap.size + 1 ≤ w8.heap.size := by rw [hw8]; simp; omega
 have HB8 := hide (show BoxAt w.heap.size 72 3 w8 by rw [hw8]; exact HB7.out.set (by omega) _ _)
 have x0 := Lib.cell_of_heap HX.out 0
 have x1 := Lib.cell_of_heap HX.out 1
 have x2 := Lib.cell_of_heap HX.out 2
 have xf := Lib.frozen_of_heap HX.out
 have xs := holds_size HX.out
 simp only [List.getElem?_toArray, List.getElem?_cons_zero, List.getElem?_cons_succ] at x0 x1 x2
 clear hw8
 go_wp2_with (first | rw [← HW8.out] | (refine wpList_loadBig rfl 72 _ rfl tb 3 [.string ⟨tt.toArray⟩, .string (enclosedS optNameS (oneOfS aggWords s).2).1, .string (asS (enclosedS optNameS (oneOfS aggWords s).2).2).1] big_agg rfl rfl HX'.out ?_) | (refine wpList_storeBig rfl 72 _ _ rfl w.heap.size 3 [.string ⟨tt.toArray⟩, .string (enclosedS optNameS (oneOfS aggWords s).2).1, .string (asS (enclosedS optNameS (oneOfS aggWords s).2).2).1] big_agg rfl (by simp [Value.oneCell']) rfl rfl HB8.out ?_))
 clear xf xs x0 x1 x2
 clear HX H7 HT7 HB7 HW8
 have HX := HX'
 clear HX'
 refine bodyPost_ret (v := .agg #[.string ⟨tt.toArray⟩, .string (enclosedS optNameS (oneOfS aggWords s).2).1, .string (asS (enclosedS optNameS (oneOfS aggWords s).2).2).1]) (results_big (vs := [.string ⟨tt.toArray⟩, .string (enclosedS optNameS (oneOfS aggWords s).2).1, .string (asS (enclosedS optNameS (oneOfS aggWords s).2).2).1]) rfl rfl big_agg rfl (set_row _ HB8.out.choose_spec.1)) rfl ?_
 exact ⟨[.string ⟨tt.toArray⟩, .string (enclosedS optNameS (oneOfS aggWords s).2).1, .string (asS (enclosedS optNameS (oneOfS aggWords s).2).2).1], rfl, RepC.cons (rep_str _ _ _) (RepC.cons (rep_str _ _ _) (RepC.cons (rep_str _ _ _) (RepC.nil _ _))), H8.out.row cq _, HT8.out.row (Nat.le_refl _) _⟩
set_option maxHeartbeats 8000000 in
set_option maxRecDepth 100000 in
theorem optionalStrY {q : Nat} {TL : List Tk} {E : Nat} (d : Dt) (s2 : PSt) (s : PSt) (w : World) (H : ParAt q TL E w s) (hk : (aheadS 0 s).1 = 1)
  (HM : ∀ w1, ParAt q TL E w1 s → Calls Tryz.prog 90 #[pP q, .func (.func 70) #[pP q] #[]] w1 (OneTo q TL E w1 d s2)) :
  Calls Tryz.prog 78 #[pP q, .func (.func 70) #[pP q] #[]] w (OneTo q TL E w d s2) := by
 unfold OneTo at HM
 replace HM := hide HM
 unfold OneTo
 have HAh := hide (fun w1 (h : ParAt q TL E w1 s) => aheadI_any 0 (by decide) w1 h)
 generalize aheadS 0 s = t3 at *
 obtain ⟨tk, tt, tn⟩ := t3
 have hk1 : (tk != 1) = false := by simpa using hk
 clear hk
 have cq := H.lt
 have hqq : q < w.heap.size := cq
 have H0 := hide H
 have HT0 := hide (Turn.refl q w)
 have hz0 : w.heap.size ≤ w.heap.size := Nat.le_refl _
 clear H
 go_enter Tryz.func78, Tryz.ntmps78
 go_wp2_with fail
 refine (HAh.out w H0.out).mono ?_
 rintro e w1 ⟨⟨a1, rfl⟩, hb⟩
 have ht : Turn q w w1 := Turn.of hb
 have H1 := hide (H0.out.on hb)
 have HT1 := hide (HT0.out.trans ht)
 have hz1 : w.heap.size ≤ w1.heap.size := Nat.le_trans hz0 ht.size
 clear hb ht H0 HT0 HAh
 simp only [tok3]
 go_wp2_with fail
 refine (HM.out w1 H1.out).mono ?_
 rintro e w2 ⟨v2, rfl, hv, h, ht⟩
 have H2 := hide h
 have HT2 := hide (HT1.out.trans ht)
 have hz2 : w.heap.size ≤ w2.heap.size := Nat.le_trans hz1 ht.size
 have HV2 := hide (hv.stay (Stay.at (fun _ hb => Nat.le_trans hz1 hb) _))
 clear hv
 clear h ht H1 HT1 HM
 go_wp2_with fail
 go_ret
 exact ⟨v2, rfl, HV2.out, H2.out, HT2.out⟩
set_option maxHeartbeats 8000000 in
set_option maxRecDepth 100000 in
theorem optionalStrN {q : Nat} {TL : List Tk} {E : Nat} (sz : Nat) (s : PSt) (w : World) (H : ParAt q TL E w s) (hk : (aheadS 0 s).1 ≠ 1) :
  Calls Tryz.prog 78 #[pP q, .func (.func 70) #[pP q] #[]] w (OneTo q TL E w (.row sz []) s) := by
 unfold OneTo
 have HAh := hide (fun w1 (h : ParAt q TL E w1 s) => aheadI_any 0 (by decide) w1 h)
 generalize aheadS 0 s = t3 at *
 obtain ⟨tk, tt, tn⟩ := t3
 have hk1 : (tk != 1) = true := by simpa using hk
 clear hk
 have cq := H.lt
 have hqq : q < w.heap.size := cq
 have H0 := hide H
 have HT0 := hide (Turn.refl q w)
 have hz0 : w.heap.size ≤ w.heap.size := Nat.le_refl _
 clear H
 go_enter Tryz.func78, Tryz.ntmps78
 go_wp2_with fail
 refine (HAh.out w H0.out).mono ?_
 rintro e w1 ⟨⟨a1, rfl⟩, hb⟩
 have ht : Turn q w w1 := Turn.of hb
 have H1 := hide (H0.out.on hb)
 have HT1 := hide (HT0.out.trans ht)
 have hz1 : w.heap.size ≤ w1.heap.size := Nat.le_trans hz0 ht.size
 clear hb ht H0 HT0 HAh
 simp only [tok3]
 go_wp2_with fail
 go_ret
 exact ⟨_, rfl, rep_nil _ _ _, H1.out, HT1.out⟩
set_option maxHeartbeats 8000000 in
set_option maxRecDepth 100000 in
theorem optionalAggY {q : Nat} {TL : List Tk} {E : Nat} (d : Dt) (s2 : PSt) (s : PSt) (w : World) (H : ParAt q TL E w s) (hk : (aheadS 0 s).1 = 1)
  (HM : ∀ w1, ParAt q TL E w1 s → Calls Tryz.prog 110 #[pP q, .func (.func 80) #[pP q] #[]] w1 (OneTo q TL E w1 d s2)) :
  Calls Tryz.prog 79 #[pP q, .func (.func 80) #[pP q] #[]] w (OneTo q TL E w d s2) := by
 unfold OneTo at HM
 replace HM := hide HM
 unfold OneTo
 have HAh := hide (fun w1 (h : ParAt q TL E w1 s) => aheadI_any 0 (by decide) w1 h)
 generalize aheadS 0 s = t3 at *
 obtain ⟨tk, tt, tn⟩ := t3
 have hk1 : (tk != 1) = false := by simpa using hk
 clear hk
 have cq := H.lt
 have hqq : q < w.heap.size := cq
 have H0 := hide H
 have HT0 := hide (Turn.refl q w)
 have hz0 : w.heap.size ≤ w.heap.size := Nat.le_refl _
 clear H
 go_enter Tryz.func79, Tryz.ntmps79
 go_wp2_with fail
 refine (HAh.out w H0.out).mono ?_
 rintro e w1 ⟨⟨a1, rfl⟩, hb⟩
 have ht : Turn q w w1 := Turn.of hb
 have H1 := hide (H0.out.on hb)
 have HT1 := hide (HT0.out.trans ht)
 have hz1 : w.heap.size ≤ w1.heap.size := Nat.le_trans hz0 ht.size
 clear hb ht H0 HT0 HAh
 simp only [tok3]
 go_wp2_with fail
 refine (HM.out w1 H1.out).mono ?_
 rintro e w2 ⟨v2, rfl, hv, h, ht⟩
 have H2 := hide h
 have HT2 := hide (HT1.out.trans ht)
 have hz2 : w.heap.size ≤ w2.heap.size := Nat.le_trans hz1 ht.size
 have HV2 := hide (hv.stay (Stay.at (fun _ hb => Nat.le_trans hz1 hb) _))
 clear hv
 clear h ht H1 HT1 HM
 go_wp2_with fail
 go_ret
 exact ⟨v2, rfl, HV2.out, H2.out, HT2.out⟩
set_option maxHeartbeats 8000000 in
set_option maxRecDepth 100000 in
theorem optionalAggN {q : Nat} {TL : List Tk} {E : Nat} (sz : Nat) (s : PSt) (w : World) (H : ParAt q TL E w s) (hk : (aheadS 0 s).1 ≠ 1) :
  Calls Tryz.prog 79 #[pP q, .func (.func 80) #[pP q] #[]] w (OneTo q TL E w (.row sz []) s) := by
 unfold OneTo
 have HAh := hide (fun w1 (h : ParAt q TL E w1 s) => aheadI_any 0 (by decide) w1 h)
 generalize aheadS 0 s = t3 at *
 obtain ⟨tk, tt, tn⟩ := t3
 have hk1 : (tk != 1) = true := by simpa using hk
 clear hk
 have cq := H.lt
 have hqq : q < w.heap.size := cq
 have H0 := hide H
 have HT0 := hide (Turn.refl q w)
 have hz0 : w.heap.size ≤ w.heap.size := Nat.le_refl _
 clear H
 go_enter Tryz.func79, Tryz.ntmps79
 go_wp2_with fail
 refine (HAh.out w H0.out).mono ?_
 rintro e w1 ⟨⟨a1, rfl⟩, hb⟩
 have ht : Turn q w w1 := Turn.of hb
 have H1 := hide (H0.out.on hb)
 have HT1 := hide (HT0.out.trans ht)
 have hz1 : w.heap.size ≤ w1.heap.size := Nat.le_trans hz0 ht.size
 clear hb ht H0 HT0 HAh
 simp only [tok3]
 go_wp2_with fail
 go_ret
 exact ⟨_, rfl, rep_nil _ _ _, H1.out, HT1.out⟩
end Go.Proofs.YtljoajjlkjjgeaaGreatDoor
