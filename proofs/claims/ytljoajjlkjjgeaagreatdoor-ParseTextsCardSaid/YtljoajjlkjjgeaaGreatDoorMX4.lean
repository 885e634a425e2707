/-
  minus: one step.
  primary: numbers, texts, brackets.
  primary: null, columns, and the words that are none.
  expr: whole, by the number of tokens that are left.
-/
import Derived.Test.YtljoajjlkjjgeaaGreatDoorMX3
namespace Go.Proofs.YtljoajjlkjjgeaaGreatDoor
open Go.RowKit Go.Sort LM Go

set_option maxHeartbeats 8000000 in
set_option maxRecDepth 100000 in
theorem minusYes {q : Nat} {TL : List Tk} {E : Nat} (X : XT × PSt) (s : PSt) (w : World) (H : ParAt q TL E w s) (hc : isT (aheadS 0 s) [45] = true) (hz : szX X.1 ≤ 1000000) (hn : ¬ ((aheadS 0 (takeS s).2).1 = 2 ∧ 0 < (aheadS 0 (takeS s).2).2.2))
  (HM : ∀ w1, ParAt q TL E w1 (takeS s).2 → Calls Tryz.prog 139 #[pP q, .func (.func 154) #[pP q] #[]] w1 (AggTo q TL E w1 (dE X.1) X.2)) :
  Calls Tryz.prog 154 #[pP q] w (AggTo q TL E w (dE (unE (ba [45]) X.1)) X.2) := by
 have HMh := hide HM
 have HC := hide (fun w1 (h : ParAt q TL E w1 s) => accept_any [45] w1 h)
 have hac : (if isT (aheadS 0 s) [45] = true then (takeS s).2 else s) = (takeS s).2 := if_pos hc
 rw [hac, hc] at HC
 have HAh := hide (fun w1 (h : ParAt q TL E w1 (takeS s).2) => aheadI_any 0 (by decide) w1 h)
 generalize (takeS s).2 = s1 at *
 generalize aheadS 0 s1 = tk3 at *
 obtain ⟨tk, tt, tn⟩ := tk3
 simp only at hn
 have cq := H.lt
 have hqq : q < w.heap.size + 1 := by omega
 obtain ⟨W0, hW0⟩ : ∃ W0, W0 = w.alloc (.cells #[.int .i64 0, .string ⟨#[]⟩, .int .i64 0, .int .i64 0, .string ⟨#[]⟩, .string ⟨#[]⟩, .slice none 0 0] 36) := ⟨_, rfl⟩
 have H0 := hide (show ParAt q TL E W0 s by rw [hW0]; exact H.alloc _)
 have HT0 := hide (show Turn q w W0 by rw [hW0]; exact (Turn.refl _ _).alloc _)
 have HB0 := hide (show BoxAt w.heap.size 36 7 W0 by rw [hW0]; exact box_new _ _ _ rfl)
 have hz0 : w.heap.size + 1 ≤ W0.heap.size := by rw [hW0]; simp
 have HW0 := hide hW0
 clear hW0
 unfold AggTo at HMh ⊢
 unfold StepTo at HC
 clear HM hac hc
 have hcase : (tk == 2) = false ∨ ((tk == 2) = true ∧ tn ≤ 0) := by
  by_cases h : tk = 2
  ·exact Or.inr ⟨by simpa using h, by omega⟩
  ·exact Or.inl (by simpa using h)
 clear hn
 rcases hcase with hk | ⟨hk, hle⟩
 all_goals
  clear H
  go_enter Tryz.func154, Tryz.ntmps154
  go_wp2_with fail
  rw [← HW0.out]
  refine (HC.out W0 H0.out).mono ?_
  rintro e w1 ⟨rfl, h, ht⟩
  have H1 := hide h
  have HT1 := hide (HT0.out.trans ht)
  have HB1 := hide (HB0.out.turn ht cq)
  have hz1 : w.heap.size + 1 ≤ w1.heap.size := Nat.le_trans hz0 ht.size
  clear h ht H0 HT0 HB0 HC
  go_wp2_with fail
  refine (HAh.out w1 H1.out).mono ?_
  rintro e w2 ⟨⟨a2, rfl⟩, hb⟩
  have ht : Turn q w1 w2 := Turn.of hb
  have H2 := hide (H1.out.on hb)
  have HT2 := hide (HT1.out.trans ht)
  have HB2 := hide (HB1.out.turn ht cq)
  have hz2 : w.heap.size + 1 ≤ w2.heap.size := Nat.le_trans hz1 ht.size
  clear hb ht H1 HT1 HB1 HAh
  obtain ⟨w3, hw3⟩ : ∃ W, W = w2.alloc (.cells #[.int .i64 tk, txt tt, .int .i64 tn, .int .i64 a2] 134) := ⟨_, rfl⟩
  have HW3 := hide hw3
  have H3 := hide (show ParAt q TL E w3 _ by rw [hw3]; exact H2.out.alloc _)
  have HT3 := hide (show Turn q w w3 by rw [hw3]; exact HT2.out.alloc _)
  obtain ⟨tb, htb⟩ : ∃ tb, tb = w2.heap.size := ⟨_, rfl⟩
  have HTB := hide htb
  have HX := hide (show HoldB tb 134 [.int .i64 tk, txt tt, .int .i64 tn, .int .i64 a2] w3 by rw [hw3, htb]; exact heap_alloc_new _ _)
  have hz3 : w.heap.size + 1 ≤ w3.heap.size := by rw [hw3]; simp; omega
  have hqt : q < tb := by omega
  have hrt : w.heap.size < tb := by omega
  have HB3 := hide (show BoxAt w.heap.size 36 7 w3 by rw [hw3]; exact HB2.out.turn ((Turn.refl q _).alloc _) cq)
  clear hw3 htb H2 HT2 HB2
  have x0 := Lib.cell_of_heap HX.out 0
  have x1 := Lib.cell_of_heap HX.out 1
  have x2 := Lib.cell_of_heap HX.out 2
  have x3 := Lib.cell_of_heap HX.out 3
  simp only [List.getElem?_toArray, List.getElem?_cons_zero, List.getElem?_cons_succ] at x0 x1 x2 x3
  go_wp2_with (first | rw [← HW3.out, ← HTB.out] | (refine wpList_loadBig rfl 134 _ rfl tb 4 [.int .i64 tk, txt tt, .int .i64 tn, .int .i64 a2] big_tok rfl rfl HX.out ?_))
  clear x0 x1 x2 x3 HW3
  refine (HMh.out w3 H3.out).mono ?_
  rintro e w4 ⟨vs4, rfl, hv, h, ht⟩
  have H4 := hide h
  have HT4 := hide (HT3.out.trans ht)
  have HB4 := hide (HB3.out.turn ht cq)
  have hz4 : w.heap.size + 1 ≤ w4.heap.size := Nat.le_trans hz3 ht.size
  replace HX := hide (holds_turn HX.out ht hqt)
  have HV4 := hide (hv.stay (Stay.at (fun _ hb => Nat.le_trans hz3 hb) _))
  clear hv
  clear h ht H3 HT3 HB3 HMh
  go_wp2_with fail
  refine (unD_any (ba [45]) X.1 vs4 w4 HV4.out hz).mono ?_
  rintro e w5 ⟨⟨vs5, rfl, hv⟩, hb⟩
  have ht : Turn q w4 w5 := Turn.of hb
  have H5 := hide (H4.out.on hb)
  have HT5 := hide (HT4.out.trans ht)
  have HB5 := hide (HB4.out.turn ht cq)
  have hz5 : w.heap.size + 1 ≤ w5.heap.size := Nat.le_trans hz4 ht.size
  replace HV4 := hide (HV4.out.stay (Stay.new ht hqq (Nat.le_refl _)))
  replace HX := hide (holds_turn HX.out ht hqt)
  have HV5 := hide (hv.stay (Stay.at (fun _ hb => Nat.le_trans hz4 hb) _))
  clear hv
  clear hb ht H4 HT4 HB4
  have hlen : vs5.length = 7 := HV5.out.1.trans (dE_len _)
  have hone := HV5.out.one_cell
  go_wp2_with ((refine wpList_storeBig rfl 36 _ _ rfl w.heap.size 7 vs5 big_expr hlen hone rfl rfl HB5.out ?_))
  refine bodyPost_ret (v := .agg vs5.toArray) (results_big rfl rfl big_expr hlen (set_row _ HB5.out.choose_spec.1)) rfl ?_
  exact ⟨vs5, rfl, HV5.out.ret (Nat.lt_succ_self _) (Nat.le_succ _) _, H5.out.row cq _, HT5.out.row (Nat.le_refl _) _⟩
set_option maxHeartbeats 8000000 in
set_option maxRecDepth 100000 in
theorem minusNo {q : Nat} {TL : List Tk} {E : Nat} (X : XT × PSt) (s : PSt) (w : World) (H : ParAt q TL E w s) (hc : isT (aheadS 0 s) [45] = false)
  (HM : ∀ w1, ParAt q TL E w1 s → Calls Tryz.prog 155 #[pP q] w1 (AggTo q TL E w1 (dE X.1) X.2)) :
  Calls Tryz.prog 154 #[pP q] w (AggTo q TL E w (dE X.1) X.2) := by
 have HMh := hide HM
 have HC := hide (fun w1 (h : ParAt q TL E w1 s) => accept_any [45] w1 h)
 have hac : (if isT (aheadS 0 s) [45] = true then (takeS s).2 else s) = s := if_neg (by rw [hc]; simp)
 rw [hac, hc] at HC
 have cq := H.lt
 have hqq : q < w.heap.size + 1 := by omega
 obtain ⟨W0, hW0⟩ : ∃ W0, W0 = w.alloc (.cells #[.int .i64 0, .string ⟨#[]⟩, .int .i64 0, .int .i64 0, .string ⟨#[]⟩, .string ⟨#[]⟩, .slice none 0 0] 36) := ⟨_, rfl⟩
 have H0 := hide (show ParAt q TL E W0 s by rw [hW0]; exact H.alloc _)
 have HT0 := hide (show Turn q w W0 by rw [hW0]; exact (Turn.refl _ _).alloc _)
 have HB0 := hide (show BoxAt w.heap.size 36 7 W0 by rw [hW0]; exact box_new _ _ _ rfl)
 have hz0 : w.heap.size + 1 ≤ W0.heap.size := by rw [hW0]; simp
 have HW0 := hide hW0
 clear hW0
 unfold AggTo at HMh ⊢
 unfold StepTo at HC
 clear HM hac hc
 clear H
 go_enter Tryz.func154, Tryz.ntmps154
 go_wp2_with fail
 rw [← HW0.out]
 refine (HC.out W0 H0.out).mono ?_
 rintro e w1 ⟨rfl, h, ht⟩
 have H1 := hide h
 have HT1 := hide (HT0.out.trans ht)
 have HB1 := hide (HB0.out.turn ht cq)
 have hz1 : w.heap.size + 1 ≤ w1.heap.size := Nat.le_trans hz0 ht.size
 clear h ht H0 HT0 HB0 HC
 go_wp2_with fail
 refine (HMh.out w1 H1.out).mono ?_
 rintro e w2 ⟨vs2, rfl, hv, h, ht⟩
 have H2 := hide h
 have HT2 := hide (HT1.out.trans ht)
 have HB2 := hide (HB1.out.turn ht cq)
 have hz2 : w.heap.size + 1 ≤ w2.heap.size := Nat.le_trans hz1 ht.size
 have HV2 := hide (hv.stay (Stay.at (fun _ hb => Nat.le_trans hz1 hb) _))
 clear hv
 clear h ht H1 HT1 HB1 HMh
 have hlen : vs2.length = 7 := HV2.out.1.trans (dE_len _)
 have hone := HV2.out.one_cell
 go_wp2_with ((refine wpList_storeBig rfl 36 _ _ rfl w.heap.size 7 vs2 big_expr hlen hone rfl rfl HB2.out ?_))
 refine bodyPost_ret (v := .agg vs2.toArray) (results_big rfl rfl big_expr hlen (set_row _ HB2.out.choose_spec.1)) rfl ?_
 exact ⟨vs2, rfl, HV2.out.ret (Nat.lt_succ_self _) (Nat.le_succ _) _, H2.out.row cq _, HT2.out.row (Nat.le_refl _) _⟩
set_option maxHeartbeats 8000000 in
set_option maxRecDepth 100000 in
theorem minusNum {q : Nat} {TL : List Tk} {E : Nat} (s : PSt) (w : World) (H : ParAt q TL E w s) (hc : isT (aheadS 0 s) [45] = true) (hn : (aheadS 0 (takeS s).2).1 = 2 ∧ 0 < (aheadS 0 (takeS s).2).2.2) (hb0 : 0 ≤ (numberS (takeS s).2).1) (hb1 : (numberS (takeS s).2).1 ≤ 9223372036854775807) :
  Calls Tryz.prog 154 #[pP q] w (AggTo q TL E w (dE (conE (1, -(numberS (takeS s).2).1, z0))) (numberS (takeS s).2).2) := by
 have HNm := hide (fun w1 (h : ParAt q TL E w1 (takeS s).2) => number_any w1 h)
 generalize numberS (takeS s).2 = NR at *
 obtain ⟨nv, s9⟩ := NR
 simp only at hb0 hb1 HNm ⊢
 have HC := hide (fun w1 (h : ParAt q TL E w1 s) => accept_any [45] w1 h)
 have hac : (if isT (aheadS 0 s) [45] = true then (takeS s).2 else s) = (takeS s).2 := if_pos hc
 rw [hac, hc] at HC
 have HAh := hide (fun w1 (h : ParAt q TL E w1 (takeS s).2) => aheadI_any 0 (by decide) w1 h)
 generalize (takeS s).2 = s1 at *
 generalize aheadS 0 s1 = tk3 at *
 obtain ⟨tk, tt, tn⟩ := tk3
 simp only at hn
 have cq := H.lt
 have hqq : q < w.heap.size + 1 := by omega
 obtain ⟨W0, hW0⟩ : ∃ W0, W0 = w.alloc (.cells #[.int .i64 0, .string ⟨#[]⟩, .int .i64 0, .int .i64 0, .string ⟨#[]⟩, .string ⟨#[]⟩, .slice none 0 0] 36) := ⟨_, rfl⟩
 have H0 := hide (show ParAt q TL E W0 s by rw [hW0]; exact H.alloc _)
 have HT0 := hide (show Turn q w W0 by rw [hW0]; exact (Turn.refl _ _).alloc _)
 have HB0 := hide (show BoxAt w.heap.size 36 7 W0 by rw [hW0]; exact box_new _ _ _ rfl)
 have hz0 : w.heap.size + 1 ≤ W0.heap.size := by rw [hW0]; simp
 have HW0 := hide hW0
 clear hW0
 unfold AggTo
 unfold StepTo at HC HNm
 clear hac hc
 have hk : (tk == 2) = true := by simpa using hn.1
 have hle : 0 < tn := hn.2
 clear hn
 clear H
 go_enter Tryz.func154, Tryz.ntmps154
 go_wp2_with fail
 rw [← HW0.out]
 refine (HC.out W0 H0.out).mono ?_
 rintro e w1 ⟨rfl, h, ht⟩
 have H1 := hide h
 have HT1 := hide (HT0.out.trans ht)
 have HB1 := hide (HB0.out.turn ht cq)
 have hz1 : w.heap.size + 1 ≤ w1.heap.size := Nat.le_trans hz0 ht.size
 clear h ht H0 HT0 HB0 HC
 go_wp2_with fail
 refine (HAh.out w1 H1.out).mono ?_
 rintro e w2 ⟨⟨a2, rfl⟩, hb⟩
 have ht : Turn q w1 w2 := Turn.of hb
 have H2 := hide (H1.out.on hb)
 have HT2 := hide (HT1.out.trans ht)
 have HB2 := hide (HB1.out.turn ht cq)
 have hz2 : w.heap.size + 1 ≤ w2.heap.size := Nat.le_trans hz1 ht.size
 clear hb ht H1 HT1 HB1 HAh
 obtain ⟨w3, hw3⟩ : ∃ W, W = w2.alloc (.cells #[.int .i64 tk, txt tt, .int .i64 tn, .int .i64 a2] 134) := ⟨_, rfl⟩
 have HW3 := hide hw3
 have H3 := hide (show ParAt q TL E w3 _ by rw [hw3]; exact H2.out.alloc _)
 have HT3 := hide (show Turn q w w3 by rw [hw3]; exact HT2.out.alloc _)
 obtain ⟨tb, htb⟩ : ∃ tb, tb = w2.heap.size := ⟨_, rfl⟩
 have HTB := hide htb
 have HX := hide (show HoldB tb 134 [.int .i64 tk, txt tt, .int .i64 tn, .int .i64 a2] w3 by rw [hw3, htb]; exact heap_alloc_new _ _)
 have hz3 : w.heap.size + 1 ≤ w3.heap.size := by rw [hw3]; simp; omega
 have hqt : q < tb := by omega
 have hrt : w.heap.size < tb := by omega
 have HB3 := hide (show BoxAt w.heap.size 36 7 w3 by rw [hw3]; exact HB2.out.turn ((Turn.refl q _).alloc _) cq)
 clear hw3 htb H2 HT2 HB2
 have x0 := Lib.cell_of_heap HX.out 0
 have x1 := Lib.cell_of_heap HX.out 1
 have x2 := Lib.cell_of_heap HX.out 2
 have x3 := Lib.cell_of_heap HX.out 3
 simp only [List.getElem?_toArray, List.getElem?_cons_zero, List.getElem?_cons_succ] at x0 x1 x2 x3
 go_wp2_with (first | rw [← HW3.out, ← HTB.out] | (refine wpList_loadBig rfl 134 _ rfl tb 4 [.int .i64 tk, txt tt, .int .i64 tn, .int .i64 a2] big_tok rfl rfl HX.out ?_))
 clear x0 x1 x2 x3 HW3
 refine (HNm.out w3 H3.out).mono ?_
 rintro e w4 ⟨rfl, h, ht⟩
 have H4 := hide h
 have HT4 := hide (HT3.out.trans ht)
 have HB4 := hide (HB3.out.turn ht cq)
 have hz4 : w.heap.size + 1 ≤ w4.heap.size := Nat.le_trans hz3 ht.size
 replace HX := hide (holds_turn HX.out ht hqt)
 clear h ht H3 HT3 HB3 HNm
 go_wp2_with fail
 refine (ofV_any (-nv) w4).mono ?_
 rintro e w5 ⟨rfl, hb⟩
 have ht : Turn q w4 w5 := Turn.of hb
 have H5 := hide (H4.out.on hb)
 have HT5 := hide (HT4.out.trans ht)
 have HB5 := hide (HB4.out.turn ht cq)
 have hz5 : w.heap.size + 1 ≤ w5.heap.size := Nat.le_trans hz4 ht.size
 replace HX := hide (holds_turn HX.out ht hqt)
 clear hb ht H4 HT4 HB4
 go_wp2_with fail
 refine (conD_any 1 (-nv) ⟨#[]⟩ w5).mono ?_
 rintro e w6 ⟨⟨vs6, rfl, hv⟩, hb⟩
 have ht : Turn q w5 w6 := Turn.of hb
 have H6 := hide (H5.out.on hb)
 have HT6 := hide (HT5.out.trans ht)
 have HB6 := hide (HB5.out.turn ht cq)
 have hz6 : w.heap.size + 1 ≤ w6.heap.size := Nat.le_trans hz5 ht.size
 replace HX := hide (holds_turn HX.out ht hqt)
 have HV6 := hide (hv.stay (Stay.at (fun _ hb => Nat.le_trans hz5 hb) _))
 clear hv
 clear hb ht H5 HT5 HB5
 have hlen : vs6.length = 7 := HV6.out.1.trans (dE_len _)
 have hone := HV6.out.one_cell
 go_wp2_with ((refine wpList_storeBig rfl 36 _ _ rfl w.heap.size 7 vs6 big_expr hlen hone rfl rfl HB6.out ?_))
 refine bodyPost_ret (v := .agg vs6.toArray) (results_big rfl rfl big_expr hlen (set_row _ HB6.out.choose_spec.1)) rfl ?_
 exact ⟨vs6, rfl, HV6.out.ret (Nat.lt_succ_self _) (Nat.le_succ _) _, H6.out.row cq _, HT6.out.row (Nat.le_refl _) _⟩
end Go.Proofs.YtljoajjlkjjgeaaGreatDoor
namespace Go.Proofs.YtljoajjlkjjgeaaGreatDoor
open Go.RowKit Go.Sort LM Go

set_option maxHeartbeats 8000000 in
set_option maxRecDepth 100000 in
theorem primNum {q : Nat} {TL : List Tk} {E : Nat} (s : PSt) (w : World) (H : ParAt q TL E w s) (hk : (aheadS 0 s).1 = 2) :
  Calls Tryz.prog 155 #[pP q] w (AggTo q TL E w (dE (conE (1, (numberS s).1, z0))) (numberS s).2) := by
 have HNm := hide (fun w1 (h : ParAt q TL E w1 s) => number_any w1 h)
 generalize numberS s = NR at *
 obtain ⟨nv, s9⟩ := NR
 simp only at HNm ⊢
 have HAh := hide (fun w1 (h : ParAt q TL E w1 s) => aheadI_any 0 (by decide) w1 h)

 generalize aheadS 0 s = tk3 at *
 obtain ⟨tk, tt, tn⟩ := tk3
 have cq := H.lt
 have hqq : q < w.heap.size + 1 := by omega
 obtain ⟨W0, hW0⟩ : ∃ W0, W0 = w.alloc (.cells #[.int .i64 0, .string ⟨#[]⟩, .int .i64 0, .int .i64 0, .string ⟨#[]⟩, .string ⟨#[]⟩, .slice none 0 0] 36) := ⟨_, rfl⟩
 have H0 := hide (show ParAt q TL E W0 s by rw [hW0]; exact H.alloc _)
 have HT0 := hide (show Turn q w W0 by rw [hW0]; exact (Turn.refl _ _).alloc _)
 have HB0 := hide (show BoxAt w.heap.size 36 7 W0 by rw [hW0]; exact box_new _ _ _ rfl)
 have hz0 : w.heap.size + 1 ≤ W0.heap.size := by rw [hW0]; simp
 have HW0 := hide hW0
 clear hW0
 unfold AggTo
 unfold StepTo at HNm
 have hk2 : (tk == 2) = true := by simpa using hk
 clear hk
 clear H
 go_enter Tryz.func155, Tryz.ntmps155
 go_wp2_with fail
 rw [← HW0.out]
 refine (HAh.out W0 H0.out).mono ?_
 rintro e w1 ⟨⟨a1, rfl⟩, hb⟩
 have ht : Turn q W0 w1 := Turn.of hb
 have H1 := hide (H0.out.on hb)
 have HT1 := hide (HT0.out.trans ht)
 have HB1 := hide (HB0.out.turn ht cq)
 have hz1 : w.heap.size + 1 ≤ w1.heap.size := Nat.le_trans hz0 ht.size
 clear hb ht H0 HT0 HB0 HAh
 obtain ⟨w2, hw2⟩ : ∃ W, W = w1.alloc (.cells #[.int .i64 tk, txt tt, .int .i64 tn, .int .i64 a1] 134) := ⟨_, rfl⟩
 have HW2 := hide hw2
 have H2 := hide (show ParAt q TL E w2 _ by rw [hw2]; exact H1.out.alloc _)
 have HT2 := hide (show Turn q w w2 by rw [hw2]; exact HT1.out.alloc _)
 obtain ⟨tb, htb⟩ : ∃ tb, tb = w1.heap.size := ⟨_, rfl⟩
 have HTB := hide htb
 have HX := hide (show HoldB tb 134 [.int .i64 tk, txt tt, .int .i64 tn, .int .i64 a1] w2 by rw [hw2, htb]; exact heap_alloc_new _ _)
 have hz2 : w.heap.size + 1 ≤ w2.heap.size := by rw [hw2]; simp; omega
 have hqt : q < tb := by omega
 have hrt : w.heap.size < tb := by omega
 have HB2 := hide (show BoxAt w.heap.size 36 7 w2 by rw [hw2]; exact HB1.out.turn ((Turn.refl q _).alloc _) cq)
 clear hw2 htb H1 HT1 HB1
 have x0 := Lib.cell_of_heap HX.out 0
 have x1 := Lib.cell_of_heap HX.out 1
 have x2 := Lib.cell_of_heap HX.out 2
 have x3 := Lib.cell_of_heap HX.out 3
 simp only [List.getElem?_toArray, List.getElem?_cons_zero, List.getElem?_cons_succ] at x0 x1 x2 x3
 go_wp2_with (first | rw [← HW2.out, ← HTB.out] | (refine wpList_loadBig rfl 134 _ rfl tb 4 [.int .i64 tk, txt tt, .int .i64 tn, .int .i64 a1] big_tok rfl rfl HX.out ?_))
 clear x0 x1 x2 x3 HW2
 refine (HNm.out w2 H2.out).mono ?_
 rintro e w3 ⟨rfl, h, ht⟩
 have H3 := hide h
 have HT3 := hide (HT2.out.trans ht)
 have HB3 := hide (HB2.out.turn ht cq)
 have hz3 : w.heap.size + 1 ≤ w3.heap.size := Nat.le_trans hz2 ht.size
 replace HX := hide (holds_turn HX.out ht hqt)
 clear h ht H2 HT2 HB2 HNm
 go_wp2_with fail
 refine (ofV_any nv w3).mono ?_
 rintro e w4 ⟨rfl, hb⟩
 have ht : Turn q w3 w4 := Turn.of hb
 have H4 := hide (H3.out.on hb)
 have HT4 := hide (HT3.out.trans ht)
 have HB4 := hide (HB3.out.turn ht cq)
 have hz4 : w.heap.size + 1 ≤ w4.heap.size := Nat.le_trans hz3 ht.size
 replace HX := hide (holds_turn HX.out ht hqt)
 clear hb ht H3 HT3 HB3
 go_wp2_with fail
 refine (conD_any 1 nv ⟨#[]⟩ w4).mono ?_
 rintro e w5 ⟨⟨vs5, rfl, hv⟩, hb⟩
 have ht : Turn q w4 w5 := Turn.of hb
 have H5 := hide (H4.out.on hb)
 have HT5 := hide (HT4.out.trans ht)
 have HB5 := hide (HB4.out.turn ht cq)
 have hz5 : w.heap.size + 1 ≤ w5.heap.size := Nat.le_trans hz4 ht.size
 replace HX := hide (holds_turn HX.out ht hqt)
 have HV5 := hide (hv.stay (Stay.at (fun _ hb => Nat.le_trans hz4 hb) _))
 clear hv
 clear hb ht H4 HT4 HB4
 have hlen : vs5.length = 7 := HV5.out.1.trans (dE_len _)
 have hone := HV5.out.one_cell
 go_wp2_with ((refine wpList_storeBig rfl 36 _ _ rfl w.heap.size 7 vs5 big_expr hlen hone rfl rfl HB5.out ?_))
 refine bodyPost_ret (v := .agg vs5.toArray) (results_big rfl rfl big_expr hlen (set_row _ HB5.out.choose_spec.1)) rfl ?_
 exact ⟨vs5, rfl, HV5.out.ret (Nat.lt_succ_self _) (Nat.le_succ _) _, H5.out.row cq _, HT5.out.row (Nat.le_refl _) _⟩
set_option maxHeartbeats 8000000 in
set_option maxRecDepth 100000 in
theorem primLit {q : Nat} {TL : List Tk} {E : Nat} (s : PSt) (w : World) (H : ParAt q TL E w s) (hk : (aheadS 0 s).1 = 3) :
  Calls Tryz.prog 155 #[pP q] w (AggTo q TL E w (dE (conE (2, 0, (literalS s).1))) (literalS s).2) := by
 have HNm := hide (fun w1 (h : ParAt q TL E w1 s) => literal_any w1 h)
 generalize literalS s = NR at *
 obtain ⟨nv, s9⟩ := NR
 simp only at HNm ⊢
 have HAh := hide (fun w1 (h : ParAt q TL E w1 s) => aheadI_any 0 (by decide) w1 h)

 generalize aheadS 0 s = tk3 at *
 obtain ⟨tk, tt, tn⟩ := tk3
 have cq := H.lt
 have hqq : q < w.heap.size + 1 := by omega
 obtain ⟨W0, hW0⟩ : ∃ W0, W0 = w.alloc (.cells #[.int .i64 0, .string ⟨#[]⟩, .int .i64 0, .int .i64 0, .string ⟨#[]⟩, .string ⟨#[]⟩, .slice none 0 0] 36) := ⟨_, rfl⟩
 have H0 := hide (show ParAt q TL E W0 s by rw [hW0]; exact H.alloc _)
 have HT0 := hide (show Turn q w W0 by rw [hW0]; exact (Turn.refl _ _).alloc _)
 have HB0 := hide (show BoxAt w.heap.size 36 7 W0 by rw [hW0]; exact box_new _ _ _ rfl)
 have hz0 : w.heap.size + 1 ≤ W0.heap.size := by rw [hW0]; simp
 have HW0 := hide hW0
 clear hW0
 unfold AggTo
 unfold StepTo at HNm
 have hk2 : (tk == 2) = false := by have : tk = 3 := hk; subst this; rfl
 have hk3 : (tk == 3) = true := by simpa using hk
 clear hk
 clear H
 go_enter Tryz.func155, Tryz.ntmps155
 go_wp2_with fail
 rw [← HW0.out]
 refine (HAh.out W0 H0.out).mono ?_
 rintro e w1 ⟨⟨a1, rfl⟩, hb⟩
 have ht : Turn q W0 w1 := Turn.of hb
 have H1 := hide (H0.out.on hb)
 have HT1 := hide (HT0.out.trans ht)
 have HB1 := hide (HB0.out.turn ht cq)
 have hz1 : w.heap.size + 1 ≤ w1.heap.size := Nat.le_trans hz0 ht.size
 clear hb ht H0 HT0 HB0 HAh
 obtain ⟨w2, hw2⟩ : ∃ W, W = w1.alloc (.cells #[.int .i64 tk, txt tt, .int .i64 tn, .int .i64 a1] 134) := ⟨_, rfl⟩
 have HW2 := hide hw2
 have H2 := hide (show ParAt q TL E w2 _ by rw [hw2]; exact H1.out.alloc _)
 have HT2 := hide (show Turn q w w2 by rw [hw2]; exact HT1.out.alloc _)
 obtain ⟨tb, htb⟩ : ∃ tb, tb = w1.heap.size := ⟨_, rfl⟩
 have HTB := hide htb
 have HX := hide (show HoldB tb 134 [.int .i64 tk, txt tt, .int .i64 tn, .int .i64 a1] w2 by rw [hw2, htb]; exact heap_alloc_new _ _)
 have hz2 : w.heap.size + 1 ≤ w2.heap.size := by rw [hw2]; simp; omega
 have hqt : q < tb := by omega
 have hrt : w.heap.size < tb := by omega
 have HB2 := hide (show BoxAt w.heap.size 36 7 w2 by rw [hw2]; exact HB1.out.turn ((Turn.refl q _).alloc _) cq)
 clear hw2 htb H1 HT1 HB1
 have x0 := Lib.cell_of_heap HX.out 0
 have x1 := Lib.cell_of_heap HX.out 1
 have x2 := Lib.cell_of_heap HX.out 2
 have x3 := Lib.cell_of_heap HX.out 3
 simp only [List.getElem?_toArray, List.getElem?_cons_zero, List.getElem?_cons_succ] at x0 x1 x2 x3
 go_wp2_with (first | rw [← HW2.out, ← HTB.out] | (refine wpList_loadBig rfl 134 _ rfl tb 4 [.int .i64 tk, txt tt, .int .i64 tn, .int .i64 a1] big_tok rfl rfl HX.out ?_))
 clear x0 x1 x2 x3 HW2
 refine (HNm.out w2 H2.out).mono ?_
 rintro e w3 ⟨rfl, h, ht⟩
 have H3 := hide h
 have HT3 := hide (HT2.out.trans ht)
 have HB3 := hide (HB2.out.turn ht cq)
 have hz3 : w.heap.size + 1 ≤ w3.heap.size := Nat.le_trans hz2 ht.size
 replace HX := hide (holds_turn HX.out ht hqt)
 clear h ht H2 HT2 HB2 HNm
 go_wp2_with fail
 refine (textV_any nv w3).mono ?_
 rintro e w4 ⟨rfl, hb⟩
 have ht : Turn q w3 w4 := Turn.of hb
 have H4 := hide (H3.out.on hb)
 have HT4 := hide (HT3.out.trans ht)
 have HB4 := hide (HB3.out.turn ht cq)
 have hz4 : w.heap.size + 1 ≤ w4.heap.size := Nat.le_trans hz3 ht.size
 replace HX := hide (holds_turn HX.out ht hqt)
 clear hb ht H3 HT3 HB3
 go_wp2_with fail
 refine (conD_any 2 0 nv w4).mono ?_
 rintro e w5 ⟨⟨vs5, rfl, hv⟩, hb⟩
 have ht : Turn q w4 w5 := Turn.of hb
 have H5 := hide (H4.out.on hb)
 have HT5 := hide (HT4.out.trans ht)
 have HB5 := hide (HB4.out.turn ht cq)
 have hz5 : w.heap.size + 1 ≤ w5.heap.size := Nat.le_trans hz4 ht.size
 replace HX := hide (holds_turn HX.out ht hqt)
 have HV5 := hide (hv.stay (Stay.at (fun _ hb => Nat.le_trans hz4 hb) _))
 clear hv
 clear hb ht H4 HT4 HB4
 have hlen : vs5.length = 7 := HV5.out.1.trans (dE_len _)
 have hone := HV5.out.one_cell
 go_wp2_with ((refine wpList_storeBig rfl 36 _ _ rfl w.heap.size 7 vs5 big_expr hlen hone rfl rfl HB5.out ?_))
 refine bodyPost_ret (v := .agg vs5.toArray) (results_big rfl rfl big_expr hlen (set_row _ HB5.out.choose_spec.1)) rfl ?_
 exact ⟨vs5, rfl, HV5.out.ret (Nat.lt_succ_self _) (Nat.le_succ _) _, H5.out.row cq _, HT5.out.row (Nat.le_refl _) _⟩
set_option maxHeartbeats 8000000 in
set_option maxRecDepth 100000 in
theorem primParen {q : Nat} {TL : List Tk} {E : Nat} (X : XT × PSt) (s : PSt) (w : World) (H : ParAt q TL E w s) (hn2 : (aheadS 0 s).1 ≠ 2) (hn3 : (aheadS 0 s).1 ≠ 3) (hp : isT (aheadS 0 s) [40] = true)
  (HM : ∀ w1, ParAt q TL E w1 s → Calls Tryz.prog 139 #[pP q, .func (.func 156) #[pP q] #[]] w1 (AggTo q TL E w1 (dE X.1) X.2)) :
  Calls Tryz.prog 155 #[pP q] w (AggTo q TL E w (dE X.1) X.2) := by
 have HMh := hide HM
 have HIs := hide (fun a w1 => is_any (aheadS 0 s) a [40] w1)
 rw [hp] at HIs
 have HAh := hide (fun w1 (h : ParAt q TL E w1 s) => aheadI_any 0 (by decide) w1 h)

 generalize aheadS 0 s = tk3 at *
 obtain ⟨tk, tt, tn⟩ := tk3
 have cq := H.lt
 have hqq : q < w.heap.size + 1 := by omega
 obtain ⟨W0, hW0⟩ : ∃ W0, W0 = w.alloc (.cells #[.int .i64 0, .string ⟨#[]⟩, .int .i64 0, .int .i64 0, .string ⟨#[]⟩, .string ⟨#[]⟩, .slice none 0 0] 36) := ⟨_, rfl⟩
 have H0 := hide (show ParAt q TL E W0 s by rw [hW0]; exact H.alloc _)
 have HT0 := hide (show Turn q w W0 by rw [hW0]; exact (Turn.refl _ _).alloc _)
 have HB0 := hide (show BoxAt w.heap.size 36 7 W0 by rw [hW0]; exact box_new _ _ _ rfl)
 have hz0 : w.heap.size + 1 ≤ W0.heap.size := by rw [hW0]; simp
 have HW0 := hide hW0
 clear hW0
 unfold AggTo at HMh ⊢
 have hk2 : (tk == 2) = false := by simpa using hn2
 have hk3 : (tk == 3) = false := by simpa using hn3
 clear hn2 hn3 hp HM
 clear H
 go_enter Tryz.func155, Tryz.ntmps155
 go_wp2_with fail
 rw [← HW0.out]
 refine (HAh.out W0 H0.out).mono ?_
 rintro e w1 ⟨⟨a1, rfl⟩, hb⟩
 have ht : Turn q W0 w1 := Turn.of hb
 have H1 := hide (H0.out.on hb)
 have HT1 := hide (HT0.out.trans ht)
 have HB1 := hide (HB0.out.turn ht cq)
 have hz1 : w.heap.size + 1 ≤ w1.heap.size := Nat.le_trans hz0 ht.size
 clear hb ht H0 HT0 HB0 HAh
 obtain ⟨w2, hw2⟩ : ∃ W, W = w1.alloc (.cells #[.int .i64 tk, txt tt, .int .i64 tn, .int .i64 a1] 134) := ⟨_, rfl⟩
 have HW2 := hide hw2
 have H2 := hide (show ParAt q TL E w2 _ by rw [hw2]; exact H1.out.alloc _)
 have HT2 := hide (show Turn q w w2 by rw [hw2]; exact HT1.out.alloc _)
 obtain ⟨tb, htb⟩ : ∃ tb, tb = w1.heap.size := ⟨_, rfl⟩
 have HTB := hide htb
 have HX := hide (show HoldB tb 134 [.int .i64 tk, txt tt, .int .i64 tn, .int .i64 a1] w2 by rw [hw2, htb]; exact heap_alloc_new _ _)
 have hz2 : w.heap.size + 1 ≤ w2.heap.size := by rw [hw2]; simp; omega
 have hqt : q < tb := by omega
 have hrt : w.heap.size < tb := by omega
 have HB2 := hide (show BoxAt w.heap.size 36 7 w2 by rw [hw2]; exact HB1.out.turn ((Turn.refl q _).alloc _) cq)
 clear hw2 htb H1 HT1 HB1
 have x0 := Lib.cell_of_heap HX.out 0
 have x1 := Lib.cell_of_heap HX.out 1
 have x2 := Lib.cell_of_heap HX.out 2
 have x3 := Lib.cell_of_heap HX.out 3
 simp only [List.getElem?_toArray, List.getElem?_cons_zero, List.getElem?_cons_succ] at x0 x1 x2 x3
 go_wp2_with (first | rw [← HW2.out, ← HTB.out] | (refine wpList_loadBig rfl 134 _ rfl tb 4 [.int .i64 tk, txt tt, .int .i64 tn, .int .i64 a1] big_tok rfl rfl HX.out ?_))
 clear x0 x1 x2 x3 HW2
 refine (HIs.out a1 w2).mono ?_
 rintro e w3 ⟨rfl, hb⟩
 have ht : Turn q w2 w3 := Turn.of hb
 have H3 := hide (H2.out.on hb)
 have HT3 := hide (HT2.out.trans ht)
 have HB3 := hide (HB2.out.turn ht cq)
 have hz3 : w.heap.size + 1 ≤ w3.heap.size := Nat.le_trans hz2 ht.size
 replace HX := hide (holds_turn HX.out ht hqt)
 clear hb ht H2 HT2 HB2 HIs
 go_wp2_with fail
 refine (HMh.out w3 H3.out).mono ?_
 rintro e w4 ⟨vs4, rfl, hv, h, ht⟩
 have H4 := hide h
 have HT4 := hide (HT3.out.trans ht)
 have HB4 := hide (HB3.out.turn ht cq)
 have hz4 : w.heap.size + 1 ≤ w4.heap.size := Nat.le_trans hz3 ht.size
 replace HX := hide (holds_turn HX.out ht hqt)
 have HV4 := hide (hv.stay (Stay.at (fun _ hb => Nat.le_trans hz3 hb) _))
 clear hv
 clear h ht H3 HT3 HB3 HMh
 have hlen : vs4.length = 7 := HV4.out.1.trans (dE_len _)
 have hone := HV4.out.one_cell
 go_wp2_with ((refine wpList_storeBig rfl 36 _ _ rfl w.heap.size 7 vs4 big_expr hlen hone rfl rfl HB4.out ?_))
 refine bodyPost_ret (v := .agg vs4.toArray) (results_big rfl rfl big_expr hlen (set_row _ HB4.out.choose_spec.1)) rfl ?_
 exact ⟨vs4, rfl, HV4.out.ret (Nat.lt_succ_self _) (Nat.le_succ _) _, H4.out.row cq _, HT4.out.row (Nat.le_refl _) _⟩
set_option maxHeartbeats 8000000 in
set_option maxRecDepth 100000 in
theorem primCall {q : Nat} {TL : List Tk} {E : Nat} (X : List XT × PSt) (s : PSt) (w : World) (H : ParAt q TL E w s) (hk : (aheadS 0 s).1 = 1) (hp : isT (aheadS 0 s) [40] = false) (h1 : isT (aheadS 1 s) [40] = true) (hz : szXs X.1 ≤ 1000000)
  (HM : ∀ w1, ParAt q TL E w1 (nameS s).2 → Calls Tryz.prog 158 #[pP q, .func (.func 159) #[pP q] #[]] w1 (OneTo q TL E w1 (.row 7 (dEs X.1)) X.2)) :
  Calls Tryz.prog 155 #[pP q] w (AggTo q TL E w (dE (callE (nameS s).1 X.1)) X.2) := by
 have HMh := hide HM
 have HNm := hide (fun w1 (h : ParAt q TL E w1 s) => name_any w1 h)
 have HIs := hide (fun a w1 => is_any (aheadS 0 s) a [40] w1)
 have HIs2 := hide (fun a w1 => is_any (aheadS 1 s) a [40] w1)
 have HAh1 := hide (fun w1 (h : ParAt q TL E w1 s) => aheadI_any 1 (by decide) w1 h)
 rw [hp] at HIs
 rw [h1] at HIs2
 generalize nameS s = NR at *
 obtain ⟨nv, s9⟩ := NR
 simp only at HNm HMh ⊢
 generalize aheadS 1 s = t1 at *
 obtain ⟨uk, ut, un⟩ := t1
 have HAh := hide (fun w1 (h : ParAt q TL E w1 s) => aheadI_any 0 (by decide) w1 h)

 generalize aheadS 0 s = tk3 at *
 obtain ⟨tk, tt, tn⟩ := tk3
 have cq := H.lt
 have hqq : q < w.heap.size + 1 := by omega
 obtain ⟨W0, hW0⟩ : ∃ W0, W0 = w.alloc (.cells #[.int .i64 0, .string ⟨#[]⟩, .int .i64 0, .int .i64 0, .string ⟨#[]⟩, .string ⟨#[]⟩, .slice none 0 0] 36) := ⟨_, rfl⟩
 have H0 := hide (show ParAt q TL E W0 s by rw [hW0]; exact H.alloc _)
 have HT0 := hide (show Turn q w W0 by rw [hW0]; exact (Turn.refl _ _).alloc _)
 have HB0 := hide (show BoxAt w.heap.size 36 7 W0 by rw [hW0]; exact box_new _ _ _ rfl)
 have hz0 : w.heap.size + 1 ≤ W0.heap.size := by rw [hW0]; simp
 have HW0 := hide hW0
 clear hW0
 unfold OneTo at HMh
 unfold AggTo
 unfold StepTo at HNm
 have hk1 : (tk == 1) = true := by simpa using hk
 have hk2 : (tk == 2) = false := by have : tk = 1 := hk; subst this; rfl
 have hk3 : (tk == 3) = false := by have : tk = 1 := hk; subst this; rfl
 clear hk hp h1 HM
 clear H
 go_enter Tryz.func155, Tryz.ntmps155
 go_wp2_with fail
 rw [← HW0.out]
 refine (HAh.out W0 H0.out).mono ?_
 rintro e w1 ⟨⟨a1, rfl⟩, hb⟩
 have ht : Turn q W0 w1 := Turn.of hb
 have H1 := hide (H0.out.on hb)
 have HT1 := hide (HT0.out.trans ht)
 have HB1 := hide (HB0.out.turn ht cq)
 have hz1 : w.heap.size + 1 ≤ w1.heap.size := Nat.le_trans hz0 ht.size
 clear hb ht H0 HT0 HB0 HAh
 obtain ⟨w2, hw2⟩ : ∃ W, W = w1.alloc (.cells #[.int .i64 tk, txt tt, .int .i64 tn, .int .i64 a1] 134) := ⟨_, rfl⟩
 have HW2 := hide hw2
 have H2 := hide (show ParAt q TL E w2 _ by rw [hw2]; exact H1.out.alloc _)
 have HT2 := hide (show Turn q w w2 by rw [hw2]; exact HT1.out.alloc _)
 obtain ⟨tb, htb⟩ : ∃ tb, tb = w1.heap.size := ⟨_, rfl⟩
 have HTB := hide htb
 have HX := hide (show HoldB tb 134 [.int .i64 tk, txt tt, .int .i64 tn, .int .i64 a1] w2 by rw [hw2, htb]; exact heap_alloc_new _ _)
 have hz2 : w.heap.size + 1 ≤ w2.heap.size := by rw [hw2]; simp; omega
 have hqt : q < tb := by omega
 have hrt : w.heap.size < tb := by omega
 have HB2 := hide (show BoxAt w.heap.size 36 7 w2 by rw [hw2]; exact HB1.out.turn ((Turn.refl q _).alloc _) cq)
 clear hw2 htb H1 HT1 HB1
 have x0 := Lib.cell_of_heap HX.out 0
 have x1 := Lib.cell_of_heap HX.out 1
 have x2 := Lib.cell_of_heap HX.out 2
 have x3 := Lib.cell_of_heap HX.out 3
 simp only [List.getElem?_toArray, List.getElem?_cons_zero, List.getElem?_cons_succ] at x0 x1 x2 x3
 go_wp2_with (first | rw [← HW2.out, ← HTB.out] | (refine wpList_loadBig rfl 134 _ rfl tb 4 [.int .i64 tk, txt tt, .int .i64 tn, .int .i64 a1] big_tok rfl rfl HX.out ?_))
 clear x0 x1 x2 x3 HW2
 refine (HIs.out a1 w2).mono ?_
 rintro e w3 ⟨rfl, hb⟩
 have ht : Turn q w2 w3 := Turn.of hb
 have H3 := hide (H2.out.on hb)
 have HT3 := hide (HT2.out.trans ht)
 have HB3 := hide (HB2.out.turn ht cq)
 have hz3 : w.heap.size + 1 ≤ w3.heap.size := Nat.le_trans hz2 ht.size
 replace HX := hide (holds_turn HX.out ht hqt)
 clear hb ht H2 HT2 HB2 HIs
 have x0 := Lib.cell_of_heap HX.out 0
 have x1 := Lib.cell_of_heap HX.out 1
 have x2 := Lib.cell_of_heap HX.out 2
 have x3 := Lib.cell_of_heap HX.out 3
 simp only [List.getElem?_toArray, List.getElem?_cons_zero, List.getElem?_cons_succ] at x0 x1 x2 x3
 go_wp2_with (first | (refine wpList_loadBig rfl 134 _ rfl tb 4 [.int .i64 tk, txt tt, .int .i64 tn, .int .i64 a1] big_tok rfl rfl HX.out ?_))
 clear x0 x1 x2 x3
 refine (HAh1.out w3 H3.out).mono ?_
 rintro e w4 ⟨⟨a4, rfl⟩, hb⟩
 have ht : Turn q w3 w4 := Turn.of hb
 have H4 := hide (H3.out.on hb)
 have HT4 := hide (HT3.out.trans ht)
 have HB4 := hide (HB3.out.turn ht cq)
 have hz4 : w.heap.size + 1 ≤ w4.heap.size := Nat.le_trans hz3 ht.size
 replace HX := hide (holds_turn HX.out ht hqt)
 clear hb ht H3 HT3 HB3 HAh1
 have x0 := Lib.cell_of_heap HX.out 0
 have x1 := Lib.cell_of_heap HX.out 1
 have x2 := Lib.cell_of_heap HX.out 2
 have x3 := Lib.cell_of_heap HX.out 3
 simp only [List.getElem?_toArray, List.getElem?_cons_zero, List.getElem?_cons_succ] at x0 x1 x2 x3
 go_wp2_with (first | (refine wpList_loadBig rfl 134 _ rfl tb 4 [.int .i64 tk, txt tt, .int .i64 tn, .int .i64 a1] big_tok rfl rfl HX.out ?_))
 clear x0 x1 x2 x3
 refine (HIs2.out a4 w4).mono ?_
 rintro e w5 ⟨rfl, hb⟩
 have ht : Turn q w4 w5 := Turn.of hb
 have H5 := hide (H4.out.on hb)
 have HT5 := hide (HT4.out.trans ht)
 have HB5 := hide (HB4.out.turn ht cq)
 have hz5 : w.heap.size + 1 ≤ w5.heap.size := Nat.le_trans hz4 ht.size
 replace HX := hide (holds_turn HX.out ht hqt)
 clear hb ht H4 HT4 HB4 HIs2
 have x0 := Lib.cell_of_heap HX.out 0
 have x1 := Lib.cell_of_heap HX.out 1
 have x2 := Lib.cell_of_heap HX.out 2
 have x3 := Lib.cell_of_heap HX.out 3
 simp only [List.getElem?_toArray, List.getElem?_cons_zero, List.getElem?_cons_succ] at x0 x1 x2 x3
 go_wp2_with (first | (refine wpList_loadBig rfl 134 _ rfl tb 4 [.int .i64 tk, txt tt, .int .i64 tn, .int .i64 a1] big_tok rfl rfl HX.out ?_))
 clear x0 x1 x2 x3
 refine (HNm.out w5 H5.out).mono ?_
 rintro e w6 ⟨rfl, h, ht⟩
 have H6 := hide h
 have HT6 := hide (HT5.out.trans ht)
 have HB6 := hide (HB5.out.turn ht cq)
 have hz6 : w.heap.size + 1 ≤ w6.heap.size := Nat.le_trans hz5 ht.size
 replace HX := hide (holds_turn HX.out ht hqt)
 clear h ht H5 HT5 HB5 HNm
 go_wp2_with fail
 refine (HMh.out w6 H6.out).mono ?_
 rintro e w7 ⟨v7, rfl, hv, h, ht⟩
 have H7 := hide h
 have HT7 := hide (HT6.out.trans ht)
 have HB7 := hide (HB6.out.turn ht cq)
 have hz7 : w.heap.size + 1 ≤ w7.heap.size := Nat.le_trans hz6 ht.size
 replace HX := hide (holds_turn HX.out ht hqt)
 have HV7 := hide (hv.stay (Stay.at (fun _ hb => Nat.le_trans hz6 hb) _))
 clear hv
 clear h ht H6 HT6 HB6 HMh
 go_wp2_with fail
 refine (callD_any nv X.1 v7 w7 HV7.out hz).mono ?_
 rintro e w8 ⟨⟨vs8, rfl, hv⟩, hb⟩
 have ht : Turn q w7 w8 := Turn.of hb
 have H8 := hide (H7.out.on hb)
 have HT8 := hide (HT7.out.trans ht)
 have HB8 := hide (HB7.out.turn ht cq)
 have hz8 : w.heap.size + 1 ≤ w8.heap.size := Nat.le_trans hz7 ht.size
 replace HV7 := hide (HV7.out.stay (Stay.new ht hqq (Nat.le_refl _)))
 replace HX := hide (holds_turn HX.out ht hqt)
 have HV8 := hide (hv.stay (Stay.at (fun _ hb => Nat.le_trans hz7 hb) _))
 clear hv
 clear hb ht H7 HT7 HB7
 have hlen : vs8.length = 7 := HV8.out.1.trans (dE_len _)
 have hone := HV8.out.one_cell
 go_wp2_with ((refine wpList_storeBig rfl 36 _ _ rfl w.heap.size 7 vs8 big_expr hlen hone rfl rfl HB8.out ?_))
 refine bodyPost_ret (v := .agg vs8.toArray) (results_big rfl rfl big_expr hlen (set_row _ HB8.out.choose_spec.1)) rfl ?_
 exact ⟨vs8, rfl, HV8.out.ret (Nat.lt_succ_self _) (Nat.le_succ _) _, H8.out.row cq _, HT8.out.row (Nat.le_refl _) _⟩
end Go.Proofs.YtljoajjlkjjgeaaGreatDoor
namespace Go.Proofs.YtljoajjlkjjgeaaGreatDoor
open Go.RowKit Go.Sort LM Go

set_option maxHeartbeats 8000000 in
set_option maxRecDepth 100000 in
theorem primNull {q : Nat} {TL : List Tk} {E : Nat} (s : PSt) (w : World) (H : ParAt q TL E w s) (hn2 : (aheadS 0 s).1 ≠ 2) (hn3 : (aheadS 0 s).1 ≠ 3) (hp : isT (aheadS 0 s) [40] = false) (hc : ¬ ((aheadS 0 s).1 = 1 ∧ isT (aheadS 1 s) [40] = true)) (hu : isT (aheadS 0 s) [110, 117, 108, 108] = true) :
  Calls Tryz.prog 155 #[pP q] w (AggTo q TL E w (dE (conE (0, 0, z0))) (takeS s).2) := by
 have HIs := hide (fun a w1 => is_any (aheadS 0 s) a [40] w1)
 have HIs2 := hide (fun a w1 => is_any (aheadS 1 s) a [40] w1)
 have HAh1 := hide (fun w1 (h : ParAt q TL E w1 s) => aheadI_any 1 (by decide) w1 h)
 have HAc := hide (fun w1 (h : ParAt q TL E w1 s) => accept_any [110, 117, 108, 108] w1 h)
 rw [hp] at HIs
 have hac : (if isT (aheadS 0 s) [110, 117, 108, 108] = true then (takeS s).2 else s) = (takeS s).2 := if_pos hu
 rw [hac, hu] at HAc
 clear hac hu
 generalize (takeS s).2 = s9 at *
 generalize aheadS 1 s = t1 at *
 obtain ⟨uk, ut, un⟩ := t1
 have HAh := hide (fun w1 (h : ParAt q TL E w1 s) => aheadI_any 0 (by decide) w1 h)

 generalize aheadS 0 s = tk3 at *
 obtain ⟨tk, tt, tn⟩ := tk3
 have cq := H.lt
 have hqq : q < w.heap.size + 1 := by omega
 obtain ⟨W0, hW0⟩ : ∃ W0, W0 = w.alloc (.cells #[.int .i64 0, .string ⟨#[]⟩, .int .i64 0, .int .i64 0, .string ⟨#[]⟩, .string ⟨#[]⟩, .slice none 0 0] 36) := ⟨_, rfl⟩
 have H0 := hide (show ParAt q TL E W0 s by rw [hW0]; exact H.alloc _)
 have HT0 := hide (show Turn q w W0 by rw [hW0]; exact (Turn.refl _ _).alloc _)
 have HB0 := hide (show BoxAt w.heap.size 36 7 W0 by rw [hW0]; exact box_new _ _ _ rfl)
 have hz0 : w.heap.size + 1 ≤ W0.heap.size := by rw [hW0]; simp
 have HW0 := hide hW0
 clear hW0
 unfold AggTo
 unfold StepTo at HAc
 have hk2 : (tk == 2) = false := by simpa using hn2
 have hk3 : (tk == 3) = false := by simpa using hn3
 have hcase : (tk == 1) = false ∨ ((tk == 1) = true ∧ isT (uk, ut, un) [40] = false) := by
  by_cases h : tk = 1
  ·refine Or.inr ⟨by simpa using h, ?_⟩
   cases hi : isT (uk, ut, un) [40]
   ·rfl
   ·exact absurd ⟨h, hi⟩ hc
  ·exact Or.inl (by simpa using h)
 clear hn2 hn3 hp hc H
 rcases hcase with hk1 | ⟨hk1, hi⟩
 ·clear HAh1 HIs2
  skip
  go_enter Tryz.func155, Tryz.ntmps155
  go_wp2_with fail
  rw [← HW0.out]
  refine (HAh.out W0 H0.out).mono ?_
  rintro e w1 ⟨⟨a1, rfl⟩, hb⟩
  have ht : Turn q W0 w1 := Turn.of hb
  have H1 := hide (H0.out.on hb)
  have HT1 := hide (HT0.out.trans ht)
  have HB1 := hide (HB0.out.turn ht cq)
  have hz1 : w.heap.size + 1 ≤ w1.heap.size := Nat.le_trans hz0 ht.size
  clear hb ht H0 HT0 HB0 HAh
  obtain ⟨w2, hw2⟩ : ∃ W, W = w1.alloc (.cells #[.int .i64 tk, txt tt, .int .i64 tn, .int .i64 a1] 134) := ⟨_, rfl⟩
  have HW2 := hide hw2
  have H2 := hide (show ParAt q TL E w2 _ by rw [hw2]; exact H1.out.alloc _)
  have HT2 := hide (show Turn q w w2 by rw [hw2]; exact HT1.out.alloc _)
  obtain ⟨tb, htb⟩ : ∃ tb, tb = w1.heap.size := ⟨_, rfl⟩
  have HTB := hide htb
  have HX := hide (show HoldB tb 134 [.int .i64 tk, txt tt, .int .i64 tn, .int .i64 a1] w2 by rw [hw2, htb]; exact heap_alloc_new _ _)
  have hz2 : w.heap.size + 1 ≤ w2.heap.size := by rw [hw2]; simp; omega
  have hqt : q < tb := by omega
  have hrt : w.heap.size < tb := by omega
  have HB2 := hide (show BoxAt w.heap.size 36 7 w2 by rw [hw2]; exact HB1.out.turn ((Turn.refl q _).alloc _) cq)
  clear hw2 htb H1 HT1 HB1
  have x0 := Lib.cell_of_heap HX.out 0
  have x1 := Lib.cell_of_heap HX.out 1
  have x2 := Lib.cell_of_heap HX.out 2
  have x3 := Lib.cell_of_heap HX.out 3
  simp only [List.getElem?_toArray, List.getElem?_cons_zero, List.getElem?_cons_succ] at x0 x1 x2 x3
  go_wp2_with (first | rw [← HW2.out, ← HTB.out] | (refine wpList_loadBig rfl 134 _ rfl tb 4 [.int .i64 tk, txt tt, .int .i64 tn, .int .i64 a1] big_tok rfl rfl HX.out ?_))
  clear x0 x1 x2 x3 HW2
  refine (HIs.out a1 w2).mono ?_
  rintro e w3 ⟨rfl, hb⟩
  have ht : Turn q w2 w3 := Turn.of hb
  have H3 := hide (H2.out.on hb)
  have HT3 := hide (HT2.out.trans ht)
  have HB3 := hide (HB2.out.turn ht cq)
  have hz3 : w.heap.size + 1 ≤ w3.heap.size := Nat.le_trans hz2 ht.size
  replace HX := hide (holds_turn HX.out ht hqt)
  clear hb ht H2 HT2 HB2 HIs
  have x0 := Lib.cell_of_heap HX.out 0
  have x1 := Lib.cell_of_heap HX.out 1
  have x2 := Lib.cell_of_heap HX.out 2
  have x3 := Lib.cell_of_heap HX.out 3
  simp only [List.getElem?_toArray, List.getElem?_cons_zero, List.getElem?_cons_succ] at x0 x1 x2 x3
  go_wp2_with (first | (refine wpList_loadBig rfl 134 _ rfl tb 4 [.int .i64 tk, txt tt, .int .i64 tn, .int .i64 a1] big_tok rfl rfl HX.out ?_))
  clear x0 x1 x2 x3
  refine (HAc.out w3 H3.out).mono ?_
  rintro e w4 ⟨rfl, h, ht⟩
  have H4 := hide h
  have HT4 := hide (HT3.out.trans ht)
  have HB4 := hide (HB3.out.turn ht cq)
  have hz4 : w.heap.size + 1 ≤ w4.heap.size := Nat.le_trans hz3 ht.size
  replace HX := hide (holds_turn HX.out ht hqt)
  clear h ht H3 HT3 HB3 HAc
  go_wp2_with fail
  refine (null_any w4).mono ?_
  rintro e w5 ⟨rfl, hb⟩
  have ht : Turn q w4 w5 := Turn.of hb
  have H5 := hide (H4.out.on hb)
  have HT5 := hide (HT4.out.trans ht)
  have HB5 := hide (HB4.out.turn ht cq)
  have hz5 : w.heap.size + 1 ≤ w5.heap.size := Nat.le_trans hz4 ht.size
  replace HX := hide (holds_turn HX.out ht hqt)
  clear hb ht H4 HT4 HB4
  go_wp2_with fail
  refine (conD_any 0 0 ⟨#[]⟩ w5).mono ?_
  rintro e w6 ⟨⟨vs6, rfl, hv⟩, hb⟩
  have ht : Turn q w5 w6 := Turn.of hb
  have H6 := hide (H5.out.on hb)
  have HT6 := hide (HT5.out.trans ht)
  have HB6 := hide (HB5.out.turn ht cq)
  have hz6 : w.heap.size + 1 ≤ w6.heap.size := Nat.le_trans hz5 ht.size
  replace HX := hide (holds_turn HX.out ht hqt)
  have HV6 := hide (hv.stay (Stay.at (fun _ hb => Nat.le_trans hz5 hb) _))
  clear hv
  clear hb ht H5 HT5 HB5
  have hlen : vs6.length = 7 := HV6.out.1.trans (dE_len _)
  have hone := HV6.out.one_cell
  go_wp2_with ((refine wpList_storeBig rfl 36 _ _ rfl w.heap.size 7 vs6 big_expr hlen hone rfl rfl HB6.out ?_))
  refine bodyPost_ret (v := .agg vs6.toArray) (results_big rfl rfl big_expr hlen (set_row _ HB6.out.choose_spec.1)) rfl ?_
  exact ⟨vs6, rfl, HV6.out.ret (Nat.lt_succ_self _) (Nat.le_succ _) _, H6.out.row cq _, HT6.out.row (Nat.le_refl _) _⟩
 ·rw [hi] at HIs2
  clear hi
  skip
  go_enter Tryz.func155, Tryz.ntmps155
  go_wp2_with fail
  rw [← HW0.out]
  refine (HAh.out W0 H0.out).mono ?_
  rintro e w1 ⟨⟨a1, rfl⟩, hb⟩
  have ht : Turn q W0 w1 := Turn.of hb
  have H1 := hide (H0.out.on hb)
  have HT1 := hide (HT0.out.trans ht)
  have HB1 := hide (HB0.out.turn ht cq)
  have hz1 : w.heap.size + 1 ≤ w1.heap.size := Nat.le_trans hz0 ht.size
  clear hb ht H0 HT0 HB0 HAh
  obtain ⟨w2, hw2⟩ : ∃ W, W = w1.alloc (.cells #[.int .i64 tk, txt tt, .int .i64 tn, .int .i64 a1] 134) := ⟨_, rfl⟩
  have HW2 := hide hw2
  have H2 := hide (show ParAt q TL E w2 _ by rw [hw2]; exact H1.out.alloc _)
  have HT2 := hide (show Turn q w w2 by rw [hw2]; exact HT1.out.alloc _)
  obtain ⟨tb, htb⟩ : ∃ tb, tb = w1.heap.size := ⟨_, rfl⟩
  have HTB := hide htb
  have HX := hide (show HoldB tb 134 [.int .i64 tk, txt tt, .int .i64 tn, .int .i64 a1] w2 by rw [hw2, htb]; exact heap_alloc_new _ _)
  have hz2 : w.heap.size + 1 ≤ w2.heap.size := by rw [hw2]; simp; omega
  have hqt : q < tb := by omega
  have hrt : w.heap.size < tb := by omega
  have HB2 := hide (show BoxAt w.heap.size 36 7 w2 by rw [hw2]; exact HB1.out.turn ((Turn.refl q _).alloc _) cq)
  clear hw2 htb H1 HT1 HB1
  have x0 := Lib.cell_of_heap HX.out 0
  have x1 := Lib.cell_of_heap HX.out 1
  have x2 := Lib.cell_of_heap HX.out 2
  have x3 := Lib.cell_of_heap HX.out 3
  simp only [List.getElem?_toArray, List.getElem?_cons_zero, List.getElem?_cons_succ] at x0 x1 x2 x3
  go_wp2_with (first | rw [← HW2.out, ← HTB.out] | (refine wpList_loadBig rfl 134 _ rfl tb 4 [.int .i64 tk, txt tt, .int .i64 tn, .int .i64 a1] big_tok rfl rfl HX.out ?_))
  clear x0 x1 x2 x3 HW2
  refine (HIs.out a1 w2).mono ?_
  rintro e w3 ⟨rfl, hb⟩
  have ht : Turn q w2 w3 := Turn.of hb
  have H3 := hide (H2.out.on hb)
  have HT3 := hide (HT2.out.trans ht)
  have HB3 := hide (HB2.out.turn ht cq)
  have hz3 : w.heap.size + 1 ≤ w3.heap.size := Nat.le_trans hz2 ht.size
  replace HX := hide (holds_turn HX.out ht hqt)
  clear hb ht H2 HT2 HB2 HIs
  have x0 := Lib.cell_of_heap HX.out 0
  have x1 := Lib.cell_of_heap HX.out 1
  have x2 := Lib.cell_of_heap HX.out 2
  have x3 := Lib.cell_of_heap HX.out 3
  simp only [List.getElem?_toArray, List.getElem?_cons_zero, List.getElem?_cons_succ] at x0 x1 x2 x3
  go_wp2_with (first | (refine wpList_loadBig rfl 134 _ rfl tb 4 [.int .i64 tk, txt tt, .int .i64 tn, .int .i64 a1] big_tok rfl rfl HX.out ?_))
  clear x0 x1 x2 x3
  refine (HAh1.out w3 H3.out).mono ?_
  rintro e w4 ⟨⟨a4, rfl⟩, hb⟩
  have ht : Turn q w3 w4 := Turn.of hb
  have H4 := hide (H3.out.on hb)
  have HT4 := hide (HT3.out.trans ht)
  have HB4 := hide (HB3.out.turn ht cq)
  have hz4 : w.heap.size + 1 ≤ w4.heap.size := Nat.le_trans hz3 ht.size
  replace HX := hide (holds_turn HX.out ht hqt)
  clear hb ht H3 HT3 HB3 HAh1
  have x0 := Lib.cell_of_heap HX.out 0
  have x1 := Lib.cell_of_heap HX.out 1
  have x2 := Lib.cell_of_heap HX.out 2
  have x3 := Lib.cell_of_heap HX.out 3
  simp only [List.getElem?_toArray, List.getElem?_cons_zero, List.getElem?_cons_succ] at x0 x1 x2 x3
  go_wp2_with (first | (refine wpList_loadBig rfl 134 _ rfl tb 4 [.int .i64 tk, txt tt, .int .i64 tn, .int .i64 a1] big_tok rfl rfl HX.out ?_))
  clear x0 x1 x2 x3
  refine (HIs2.out a4 w4).mono ?_
  rintro e w5 ⟨rfl, hb⟩
  have ht : Turn q w4 w5 := Turn.of hb
  have H5 := hide (H4.out.on hb)
  have HT5 := hide (HT4.out.trans ht)
  have HB5 := hide (HB4.out.turn ht cq)
  have hz5 : w.heap.size + 1 ≤ w5.heap.size := Nat.le_trans hz4 ht.size
  replace HX := hide (holds_turn HX.out ht hqt)
  clear hb ht H4 HT4 HB4 HIs2
  have x0 := Lib.cell_of_heap HX.out 0
  have x1 := Lib.cell_of_heap HX.out 1
  have x2 := Lib.cell_of_heap HX.out 2
  have x3 := Lib.cell_of_heap HX.out 3
  simp only [List.getElem?_toArray, List.getElem?_cons_zero, List.getElem?_cons_succ] at x0 x1 x2 x3
  go_wp2_with (first | (refine wpList_loadBig rfl 134 _ rfl tb 4 [.int .i64 tk, txt tt, .int .i64 tn, .int .i64 a1] big_tok rfl rfl HX.out ?_))
  clear x0 x1 x2 x3
  refine (HAc.out w5 H5.out).mono ?_
  rintro e w6 ⟨rfl, h, ht⟩
  have H6 := hide h
  have HT6 := hide (HT5.out.trans ht)
  have HB6 := hide (HB5.out.turn ht cq)
  have hz6 : w.heap.size + 1 ≤ w6.heap.size := Nat.le_trans hz5 ht.size
  replace HX := hide (holds_turn HX.out ht hqt)
  clear h ht H5 HT5 HB5 HAc
  go_wp2_with fail
  refine (null_any w6).mono ?_
  rintro e w7 ⟨rfl, hb⟩
  have ht : Turn q w6 w7 := Turn.of hb
  have H7 := hide (H6.out.on hb)
  have HT7 := hide (HT6.out.trans ht)
  have HB7 := hide (HB6.out.turn ht cq)
  have hz7 : w.heap.size + 1 ≤ w7.heap.size := Nat.le_trans hz6 ht.size
  replace HX := hide (holds_turn HX.out ht hqt)
  clear hb ht H6 HT6 HB6
  go_wp2_with fail
  refine (conD_any 0 0 ⟨#[]⟩ w7).mono ?_
  rintro e w8 ⟨⟨vs8, rfl, hv⟩, hb⟩
  have ht : Turn q w7 w8 := Turn.of hb
  have H8 := hide (H7.out.on hb)
  have HT8 := hide (HT7.out.trans ht)
  have HB8 := hide (HB7.out.turn ht cq)
  have hz8 : w.heap.size + 1 ≤ w8.heap.size := Nat.le_trans hz7 ht.size
  replace HX := hide (holds_turn HX.out ht hqt)
  have HV8 := hide (hv.stay (Stay.at (fun _ hb => Nat.le_trans hz7 hb) _))
  clear hv
  clear hb ht H7 HT7 HB7
  have hlen : vs8.length = 7 := HV8.out.1.trans (dE_len _)
  have hone := HV8.out.one_cell
  go_wp2_with ((refine wpList_storeBig rfl 36 _ _ rfl w.heap.size 7 vs8 big_expr hlen hone rfl rfl HB8.out ?_))
  refine bodyPost_ret (v := .agg vs8.toArray) (results_big rfl rfl big_expr hlen (set_row _ HB8.out.choose_spec.1)) rfl ?_
  exact ⟨vs8, rfl, HV8.out.ret (Nat.lt_succ_self _) (Nat.le_succ _) _, H8.out.row cq _, HT8.out.row (Nat.le_refl _) _⟩
set_option maxHeartbeats 8000000 in
set_option maxRecDepth 100000 in
theorem primCol {q : Nat} {TL : List Tk} {E : Nat} (s : PSt) (w : World) (H : ParAt q TL E w s) (hn2 : (aheadS 0 s).1 ≠ 2) (hn3 : (aheadS 0 s).1 ≠ 3) (hp : isT (aheadS 0 s) [40] = false) (hc : ¬ ((aheadS 0 s).1 = 1 ∧ isT (aheadS 1 s) [40] = true)) (hu : isT (aheadS 0 s) [110, 117, 108, 108] = false) (ha : isT (aheadS 0 s) [97, 110, 100] = false) (ho : isT (aheadS 0 s) [111, 114] = false) (ht : isT (aheadS 0 s) [110, 111, 116] = false) :
  Calls Tryz.prog 155 #[pP q] w (AggTo q TL E w (dE (colE (nameS s).1)) (nameS s).2) := by
 have HNm := hide (fun s9 w1 (h : ParAt q TL E w1 s9) => name_any w1 h)
 have HJ1 := hide (fun a w1 => is_any (aheadS 0 s) a [97, 110, 100] w1)
 have HJ2 := hide (fun a w1 => is_any (aheadS 0 s) a [111, 114] w1)
 have HJ3 := hide (fun a w1 => is_any (aheadS 0 s) a [110, 111, 116] w1)
 have HIs := hide (fun a w1 => is_any (aheadS 0 s) a [40] w1)
 have HIs2 := hide (fun a w1 => is_any (aheadS 1 s) a [40] w1)
 have HAh1 := hide (fun w1 (h : ParAt q TL E w1 s) => aheadI_any 1 (by decide) w1 h)
 have HAc := hide (fun w1 (h : ParAt q TL E w1 s) => accept_any [110, 117, 108, 108] w1 h)
 rw [hp] at HIs
 have hac : (if isT (aheadS 0 s) [110, 117, 108, 108] = true then (takeS s).2 else s) = s := if_neg (by rw [hu]; simp)
 rw [hac, hu] at HAc
 clear hac hu
 rw [ha] at HJ1
 rw [ho] at HJ2
 rw [ht] at HJ3
 unfold StepTo at HNm
 clear ha ho ht
 generalize aheadS 1 s = t1 at *
 obtain ⟨uk, ut, un⟩ := t1
 have HAh := hide (fun w1 (h : ParAt q TL E w1 s) => aheadI_any 0 (by decide) w1 h)

 generalize aheadS 0 s = tk3 at *
 obtain ⟨tk, tt, tn⟩ := tk3
 have cq := H.lt
 have hqq : q < w.heap.size + 1 := by omega
 obtain ⟨W0, hW0⟩ : ∃ W0, W0 = w.alloc (.cells #[.int .i64 0, .string ⟨#[]⟩, .int .i64 0, .int .i64 0, .string ⟨#[]⟩, .string ⟨#[]⟩, .slice none 0 0] 36) := ⟨_, rfl⟩
 have H0 := hide (show ParAt q TL E W0 s by rw [hW0]; exact H.alloc _)
 have HT0 := hide (show Turn q w W0 by rw [hW0]; exact (Turn.refl _ _).alloc _)
 have HB0 := hide (show BoxAt w.heap.size 36 7 W0 by rw [hW0]; exact box_new _ _ _ rfl)
 have hz0 : w.heap.size + 1 ≤ W0.heap.size := by rw [hW0]; simp
 have HW0 := hide hW0
 clear hW0
 unfold AggTo
 unfold StepTo at HAc
 have hk2 : (tk == 2) = false := by simpa using hn2
 have hk3 : (tk == 3) = false := by simpa using hn3
 have hcase : (tk == 1) = false ∨ ((tk == 1) = true ∧ isT (uk, ut, un) [40] = false) := by
  by_cases h : tk = 1
  ·refine Or.inr ⟨by simpa using h, ?_⟩
   cases hi : isT (uk, ut, un) [40]
   ·rfl
   ·exact absurd ⟨h, hi⟩ hc
  ·exact Or.inl (by simpa using h)
 clear hn2 hn3 hp hc H
 rcases hcase with hk1 | ⟨hk1, hi⟩
 ·clear HAh1 HIs2
  skip
  go_enter Tryz.func155, Tryz.ntmps155
  go_wp2_with fail
  rw [← HW0.out]
  refine (HAh.out W0 H0.out).mono ?_
  rintro e w1 ⟨⟨a1, rfl⟩, hb⟩
  have ht : Turn q W0 w1 := Turn.of hb
  have H1 := hide (H0.out.on hb)
  have HT1 := hide (HT0.out.trans ht)
  have HB1 := hide (HB0.out.turn ht cq)
  have hz1 : w.heap.size + 1 ≤ w1.heap.size := Nat.le_trans hz0 ht.size
  clear hb ht H0 HT0 HB0 HAh
  obtain ⟨w2, hw2⟩ : ∃ W, W = w1.alloc (.cells #[.int .i64 tk, txt tt, .int .i64 tn, .int .i64 a1] 134) := ⟨_, rfl⟩
  have HW2 := hide hw2
  have H2 := hide (show ParAt q TL E w2 _ by rw [hw2]; exact H1.out.alloc _)
  have HT2 := hide (show Turn q w w2 by rw [hw2]; exact HT1.out.alloc _)
  obtain ⟨tb, htb⟩ : ∃ tb, tb = w1.heap.size := ⟨_, rfl⟩
  have HTB := hide htb
  have HX := hide (show HoldB tb 134 [.int .i64 tk, txt tt, .int .i64 tn, .int .i64 a1] w2 by rw [hw2, htb]; exact heap_alloc_new _ _)
  have hz2 : w.heap.size + 1 ≤ w2.heap.size := by rw [hw2]; simp; omega
  have hqt : q < tb := by omega
  have hrt : w.heap.size < tb := by omega
  have HB2 := hide (show BoxAt w.heap.size 36 7 w2 by rw [hw2]; exact HB1.out.turn ((Turn.refl q _).alloc _) cq)
  clear hw2 htb H1 HT1 HB1
  have x0 := Lib.cell_of_heap HX.out 0
  have x1 := Lib.cell_of_heap HX.out 1
  have x2 := Lib.cell_of_heap HX.out 2
  have x3 := Lib.cell_of_heap HX.out 3
  simp only [List.getElem?_toArray, List.getElem?_cons_zero, List.getElem?_cons_succ] at x0 x1 x2 x3
  go_wp2_with (first | rw [← HW2.out, ← HTB.out] | (refine wpList_loadBig rfl 134 _ rfl tb 4 [.int .i64 tk, txt tt, .int .i64 tn, .int .i64 a1] big_tok rfl rfl HX.out ?_))
  clear x0 x1 x2 x3 HW2
  refine (HIs.out a1 w2).mono ?_
  rintro e w3 ⟨rfl, hb⟩
  have ht : Turn q w2 w3 := Turn.of hb
  have H3 := hide (H2.out.on hb)
  have HT3 := hide (HT2.out.trans ht)
  have HB3 := hide (HB2.out.turn ht cq)
  have hz3 : w.heap.size + 1 ≤ w3.heap.size := Nat.le_trans hz2 ht.size
  replace HX := hide (holds_turn HX.out ht hqt)
  clear hb ht H2 HT2 HB2 HIs
  have x0 := Lib.cell_of_heap HX.out 0
  have x1 := Lib.cell_of_heap HX.out 1
  have x2 := Lib.cell_of_heap HX.out 2
  have x3 := Lib.cell_of_heap HX.out 3
  simp only [List.getElem?_toArray, List.getElem?_cons_zero, List.getElem?_cons_succ] at x0 x1 x2 x3
  go_wp2_with (first | (refine wpList_loadBig rfl 134 _ rfl tb 4 [.int .i64 tk, txt tt, .int .i64 tn, .int .i64 a1] big_tok rfl rfl HX.out ?_))
  clear x0 x1 x2 x3
  refine (HAc.out w3 H3.out).mono ?_
  rintro e w4 ⟨rfl, h, ht⟩
  have H4 := hide h
  have HT4 := hide (HT3.out.trans ht)
  have HB4 := hide (HB3.out.turn ht cq)
  have hz4 : w.heap.size + 1 ≤ w4.heap.size := Nat.le_trans hz3 ht.size
  replace HX := hide (holds_turn HX.out ht hqt)
  clear h ht H3 HT3 HB3 HAc
  have x0 := Lib.cell_of_heap HX.out 0
  have x1 := Lib.cell_of_heap HX.out 1
  have x2 := Lib.cell_of_heap HX.out 2
  have x3 := Lib.cell_of_heap HX.out 3
  simp only [List.getElem?_toArray, List.getElem?_cons_zero, List.getElem?_cons_succ] at x0 x1 x2 x3
  go_wp2_with (first | (refine wpList_loadBig rfl 134 _ rfl tb 4 [.int .i64 tk, txt tt, .int .i64 tn, .int .i64 a1] big_tok rfl rfl HX.out ?_))
  clear x0 x1 x2 x3
  refine (HJ1.out a1 w4).mono ?_
  rintro e w5 ⟨rfl, hb⟩
  have ht : Turn q w4 w5 := Turn.of hb
  have H5 := hide (H4.out.on hb)
  have HT5 := hide (HT4.out.trans ht)
  have HB5 := hide (HB4.out.turn ht cq)
  have hz5 : w.heap.size + 1 ≤ w5.heap.size := Nat.le_trans hz4 ht.size
  replace HX := hide (holds_turn HX.out ht hqt)
  clear hb ht H4 HT4 HB4 HJ1
  have x0 := Lib.cell_of_heap HX.out 0
  have x1 := Lib.cell_of_heap HX.out 1
  have x2 := Lib.cell_of_heap HX.out 2
  have x3 := Lib.cell_of_heap HX.out 3
  simp only [List.getElem?_toArray, List.getElem?_cons_zero, List.getElem?_cons_succ] at x0 x1 x2 x3
  go_wp2_with (first | (refine wpList_loadBig rfl 134 _ rfl tb 4 [.int .i64 tk, txt tt, .int .i64 tn, .int .i64 a1] big_tok rfl rfl HX.out ?_))
  clear x0 x1 x2 x3
  refine (HJ2.out a1 w5).mono ?_
  rintro e w6 ⟨rfl, hb⟩
  have ht : Turn q w5 w6 := Turn.of hb
  have H6 := hide (H5.out.on hb)
  have HT6 := hide (HT5.out.trans ht)
  have HB6 := hide (HB5.out.turn ht cq)
  have hz6 : w.heap.size + 1 ≤ w6.heap.size := Nat.le_trans hz5 ht.size
  replace HX := hide (holds_turn HX.out ht hqt)
  clear hb ht H5 HT5 HB5 HJ2
  have x0 := Lib.cell_of_heap HX.out 0
  have x1 := Lib.cell_of_heap HX.out 1
  have x2 := Lib.cell_of_heap HX.out 2
  have x3 := Lib.cell_of_heap HX.out 3
  simp only [List.getElem?_toArray, List.getElem?_cons_zero, List.getElem?_cons_succ] at x0 x1 x2 x3
  go_wp2_with (first | (refine wpList_loadBig rfl 134 _ rfl tb 4 [.int .i64 tk, txt tt, .int .i64 tn, .int .i64 a1] big_tok rfl rfl HX.out ?_))
  clear x0 x1 x2 x3
  refine (HJ3.out a1 w6).mono ?_
  rintro e w7 ⟨rfl, hb⟩
  have ht : Turn q w6 w7 := Turn.of hb
  have H7 := hide (H6.out.on hb)
  have HT7 := hide (HT6.out.trans ht)
  have HB7 := hide (HB6.out.turn ht cq)
  have hz7 : w.heap.size + 1 ≤ w7.heap.size := Nat.le_trans hz6 ht.size
  replace HX := hide (holds_turn HX.out ht hqt)
  clear hb ht H6 HT6 HB6 HJ3
  go_wp2_with fail
  refine (HNm.out _ w7 H7.out).mono ?_
  rintro e w8 ⟨rfl, h, ht⟩
  have H8 := hide h
  have HT8 := hide (HT7.out.trans ht)
  have HB8 := hide (HB7.out.turn ht cq)
  have hz8 : w.heap.size + 1 ≤ w8.heap.size := Nat.le_trans hz7 ht.size
  replace HX := hide (holds_turn HX.out ht hqt)
  clear h ht H7 HT7 HB7 HNm
  go_wp2_with fail
  refine (colD_any (nameS s).1 w8).mono ?_
  rintro e w9 ⟨⟨vs9, rfl, hv⟩, hb⟩
  have ht : Turn q w8 w9 := Turn.of hb
  have H9 := hide (H8.out.on hb)
  have HT9 := hide (HT8.out.trans ht)
  have HB9 := hide (HB8.out.turn ht cq)
  have hz9 : w.heap.size + 1 ≤ w9.heap.size := Nat.le_trans hz8 ht.size
  replace HX := hide (holds_turn HX.out ht hqt)
  have HV9 := hide (hv.stay (Stay.at (fun _ hb => Nat.le_trans hz8 hb) _))
  clear hv
  clear hb ht H8 HT8 HB8
  have hlen : vs9.length = 7 := HV9.out.1.trans (dE_len _)
  have hone := HV9.out.one_cell
  go_wp2_with ((refine wpList_storeBig rfl 36 _ _ rfl w.heap.size 7 vs9 big_expr hlen hone rfl rfl HB9.out ?_))
  refine bodyPost_ret (v := .agg vs9.toArray) (results_big rfl rfl big_expr hlen (set_row _ HB9.out.choose_spec.1)) rfl ?_
  exact ⟨vs9, rfl, HV9.out.ret (Nat.lt_succ_self _) (Nat.le_succ _) _, H9.out.row cq _, HT9.out.row (Nat.le_refl _) _⟩
 ·rw [hi] at HIs2
  clear hi
  skip
  go_enter Tryz.func155, Tryz.ntmps155
  go_wp2_with fail
  rw [← HW0.out]
  refine (HAh.out W0 H0.out).mono ?_
  rintro e w1 ⟨⟨a1, rfl⟩, hb⟩
  have ht : Turn q W0 w1 := Turn.of hb
  have H1 := hide (H0.out.on hb)
  have HT1 := hide (HT0.out.trans ht)
  have HB1 := hide (HB0.out.turn ht cq)
  have hz1 : w.heap.size + 1 ≤ w1.heap.size := Nat.le_trans hz0 ht.size
  clear hb ht H0 HT0 HB0 HAh
  obtain ⟨w2, hw2⟩ : ∃ W, W = w1.alloc (.cells #[.int .i64 tk, txt tt, .int .i64 tn, .int .i64 a1] 134) := ⟨_, rfl⟩
  have HW2 := hide hw2
  have H2 := hide (show ParAt q TL E w2 _ by rw [hw2]; exact H1.out.alloc _)
  have HT2 := hide (show Turn q w w2 by rw [hw2]; exact HT1.out.alloc _)
  obtain ⟨tb, htb⟩ : ∃ tb, tb = w1.heap.size := ⟨_, rfl⟩
  have HTB := hide htb
  have HX := hide (show HoldB tb 134 [.int .i64 tk, txt tt, .int .i64 tn, .int .i64 a1] w2 by rw [hw2, htb]; exact heap_alloc_new _ _)
  have hz2 : w.heap.size + 1 ≤ w2.heap.size := by rw [hw2]; simp; omega
  have hqt : q < tb := by omega
  have hrt : w.heap.size < tb := by omega
  have HB2 := hide (show BoxAt w.heap.size 36 7 w2 by rw [hw2]; exact HB1.out.turn ((Turn.refl q _).alloc _) cq)
  clear hw2 htb H1 HT1 HB1
  have x0 := Lib.cell_of_heap HX.out 0
  have x1 := Lib.cell_of_heap HX.out 1
  have x2 := Lib.cell_of_heap HX.out 2
  have x3 := Lib.cell_of_heap HX.out 3
  simp only [List.getElem?_toArray, List.getElem?_cons_zero, List.getElem?_cons_succ] at x0 x1 x2 x3
  go_wp2_with (first | rw [← HW2.out, ← HTB.out] | (refine wpList_loadBig rfl 134 _ rfl tb 4 [.int .i64 tk, txt tt, .int .i64 tn, .int .i64 a1] big_tok rfl rfl HX.out ?_))
  clear x0 x1 x2 x3 HW2
  refine (HIs.out a1 w2).mono ?_
  rintro e w3 ⟨rfl, hb⟩
  have ht : Turn q w2 w3 := Turn.of hb
  have H3 := hide (H2.out.on hb)
  have HT3 := hide (HT2.out.trans ht)
  have HB3 := hide (HB2.out.turn ht cq)
  have hz3 : w.heap.size + 1 ≤ w3.heap.size := Nat.le_trans hz2 ht.size
  replace HX := hide (holds_turn HX.out ht hqt)
  clear hb ht H2 HT2 HB2 HIs
  have x0 := Lib.cell_of_heap HX.out 0
  have x1 := Lib.cell_of_heap HX.out 1
  have x2 := Lib.cell_of_heap HX.out 2
  have x3 := Lib.cell_of_heap HX.out 3
  simp only [List.getElem?_toArray, List.getElem?_cons_zero, List.getElem?_cons_succ] at x0 x1 x2 x3
  go_wp2_with (first | (refine wpList_loadBig rfl 134 _ rfl tb 4 [.int .i64 tk, txt tt, .int .i64 tn, .int .i64 a1] big_tok rfl rfl HX.out ?_))
  clear x0 x1 x2 x3
  refine (HAh1.out w3 H3.out).mono ?_
  rintro e w4 ⟨⟨a4, rfl⟩, hb⟩
  have ht : Turn q w3 w4 := Turn.of hb
  have H4 := hide (H3.out.on hb)
  have HT4 := hide (HT3.out.trans ht)
  have HB4 := hide (HB3.out.turn ht cq)
  have hz4 : w.heap.size + 1 ≤ w4.heap.size := Nat.le_trans hz3 ht.size
  replace HX := hide (holds_turn HX.out ht hqt)
  clear hb ht H3 HT3 HB3 HAh1
  have x0 := Lib.cell_of_heap HX.out 0
  have x1 := Lib.cell_of_heap HX.out 1
  have x2 := Lib.cell_of_heap HX.out 2
  have x3 := Lib.cell_of_heap HX.out 3
  simp only [List.getElem?_toArray, List.getElem?_cons_zero, List.getElem?_cons_succ] at x0 x1 x2 x3
  go_wp2_with (first | (refine wpList_loadBig rfl 134 _ rfl tb 4 [.int .i64 tk, txt tt, .int .i64 tn, .int .i64 a1] big_tok rfl rfl HX.out ?_))
  clear x0 x1 x2 x3
  refine (HIs2.out a4 w4).mono ?_
  rintro e w5 ⟨rfl, hb⟩
  have ht : Turn q w4 w5 := Turn.of hb
  have H5 := hide (H4.out.on hb)
  have HT5 := hide (HT4.out.trans ht)
  have HB5 := hide (HB4.out.turn ht cq)
  have hz5 : w.heap.size + 1 ≤ w5.heap.size := Nat.le_trans hz4 ht.size
  replace HX := hide (holds_turn HX.out ht hqt)
  clear hb ht H4 HT4 HB4 HIs2
  have x0 := Lib.cell_of_heap HX.out 0
  have x1 := Lib.cell_of_heap HX.out 1
  have x2 := Lib.cell_of_heap HX.out 2
  have x3 := Lib.cell_of_heap HX.out 3
  simp only [List.getElem?_toArray, List.getElem?_cons_zero, List.getElem?_cons_succ] at x0 x1 x2 x3
  go_wp2_with (first | (refine wpList_loadBig rfl 134 _ rfl tb 4 [.int .i64 tk, txt tt, .int .i64 tn, .int .i64 a1] big_tok rfl rfl HX.out ?_))
  clear x0 x1 x2 x3
  refine (HAc.out w5 H5.out).mono ?_
  rintro e w6 ⟨rfl, h, ht⟩
  have H6 := hide h
  have HT6 := hide (HT5.out.trans ht)
  have HB6 := hide (HB5.out.turn ht cq)
  have hz6 : w.heap.size + 1 ≤ w6.heap.size := Nat.le_trans hz5 ht.size
  replace HX := hide (holds_turn HX.out ht hqt)
  clear h ht H5 HT5 HB5 HAc
  have x0 := Lib.cell_of_heap HX.out 0
  have x1 := Lib.cell_of_heap HX.out 1
  have x2 := Lib.cell_of_heap HX.out 2
  have x3 := Lib.cell_of_heap HX.out 3
  simp only [List.getElem?_toArray, List.getElem?_cons_zero, List.getElem?_cons_succ] at x0 x1 x2 x3
  go_wp2_with (first | (refine wpList_loadBig rfl 134 _ rfl tb 4 [.int .i64 tk, txt tt, .int .i64 tn, .int .i64 a1] big_tok rfl rfl HX.out ?_))
  clear x0 x1 x2 x3
  refine (HJ1.out a1 w6).mono ?_
  rintro e w7 ⟨rfl, hb⟩
  have ht : Turn q w6 w7 := Turn.of hb
  have H7 := hide (H6.out.on hb)
  have HT7 := hide (HT6.out.trans ht)
  have HB7 := hide (HB6.out.turn ht cq)
  have hz7 : w.heap.size + 1 ≤ w7.heap.size := Nat.le_trans hz6 ht.size
  replace HX := hide (holds_turn HX.out ht hqt)
  clear hb ht H6 HT6 HB6 HJ1
  have x0 := Lib.cell_of_heap HX.out 0
  have x1 := Lib.cell_of_heap HX.out 1
  have x2 := Lib.cell_of_heap HX.out 2
  have x3 := Lib.cell_of_heap HX.out 3
  simp only [List.getElem?_toArray, List.getElem?_cons_zero, List.getElem?_cons_succ] at x0 x1 x2 x3
  go_wp2_with (first | (refine wpList_loadBig rfl 134 _ rfl tb 4 [.int .i64 tk, txt tt, .int .i64 tn, .int .i64 a1] big_tok rfl rfl HX.out ?_))
  clear x0 x1 x2 x3
  refine (HJ2.out a1 w7).mono ?_
  rintro e w8 ⟨rfl, hb⟩
  have ht : Turn q w7 w8 := Turn.of hb
  have H8 := hide (H7.out.on hb)
  have HT8 := hide (HT7.out.trans ht)
  have HB8 := hide (HB7.out.turn ht cq)
  have hz8 : w.heap.size + 1 ≤ w8.heap.size := Nat.le_trans hz7 ht.size
  replace HX := hide (holds_turn HX.out ht hqt)
  clear hb ht H7 HT7 HB7 HJ2
  have x0 := Lib.cell_of_heap HX.out 0
  have x1 := Lib.cell_of_heap HX.out 1
  have x2 := Lib.cell_of_heap HX.out 2
  have x3 := Lib.cell_of_heap HX.out 3
  simp only [List.getElem?_toArray, List.getElem?_cons_zero, List.getElem?_cons_succ] at x0 x1 x2 x3
  go_wp2_with (first | (refine wpList_loadBig rfl 134 _ rfl tb 4 [.int .i64 tk, txt tt, .int .i64 tn, .int .i64 a1] big_tok rfl rfl HX.out ?_))
  clear x0 x1 x2 x3
  refine (HJ3.out a1 w8).mono ?_
  rintro e w9 ⟨rfl, hb⟩
  have ht : Turn q w8 w9 := Turn.of hb
  have H9 := hide (H8.out.on hb)
  have HT9 := hide (HT8.out.trans ht)
  have HB9 := hide (HB8.out.turn ht cq)
  have hz9 : w.heap.size + 1 ≤ w9.heap.size := Nat.le_trans hz8 ht.size
  replace HX := hide (holds_turn HX.out ht hqt)
  clear hb ht H8 HT8 HB8 HJ3
  go_wp2_with fail
  refine (HNm.out _ w9 H9.out).mono ?_
  rintro e w10 ⟨rfl, h, ht⟩
  have H10 := hide h
  have HT10 := hide (HT9.out.trans ht)
  have HB10 := hide (HB9.out.turn ht cq)
  have hz10 : w.heap.size + 1 ≤ w10.heap.size := Nat.le_trans hz9 ht.size
  replace HX := hide (holds_turn HX.out ht hqt)
  clear h ht H9 HT9 HB9 HNm
  go_wp2_with fail
  refine (colD_any (nameS s).1 w10).mono ?_
  rintro e w11 ⟨⟨vs11, rfl, hv⟩, hb⟩
  have ht : Turn q w10 w11 := Turn.of hb
  have H11 := hide (H10.out.on hb)
  have HT11 := hide (HT10.out.trans ht)
  have HB11 := hide (HB10.out.turn ht cq)
  have hz11 : w.heap.size + 1 ≤ w11.heap.size := Nat.le_trans hz10 ht.size
  replace HX := hide (holds_turn HX.out ht hqt)
  have HV11 := hide (hv.stay (Stay.at (fun _ hb => Nat.le_trans hz10 hb) _))
  clear hv
  clear hb ht H10 HT10 HB10
  have hlen : vs11.length = 7 := HV11.out.1.trans (dE_len _)
  have hone := HV11.out.one_cell
  go_wp2_with ((refine wpList_storeBig rfl 36 _ _ rfl w.heap.size 7 vs11 big_expr hlen hone rfl rfl HB11.out ?_))
  refine bodyPost_ret (v := .agg vs11.toArray) (results_big rfl rfl big_expr hlen (set_row _ HB11.out.choose_spec.1)) rfl ?_
  exact ⟨vs11, rfl, HV11.out.ret (Nat.lt_succ_self _) (Nat.le_succ _) _, H11.out.row cq _, HT11.out.row (Nat.le_refl _) _⟩
set_option maxHeartbeats 8000000 in
set_option maxRecDepth 100000 in
theorem primBadA {q : Nat} {TL : List Tk} {E : Nat} (s : PSt) (w : World) (H : ParAt q TL E w s) (hn2 : (aheadS 0 s).1 ≠ 2) (hn3 : (aheadS 0 s).1 ≠ 3) (hp : isT (aheadS 0 s) [40] = false) (hc : ¬ ((aheadS 0 s).1 = 1 ∧ isT (aheadS 1 s) [40] = true)) (hu : isT (aheadS 0 s) [110, 117, 108, 108] = false) (ha : isT (aheadS 0 s) [97, 110, 100] = true) :
  Calls Tryz.prog 155 #[pP q] w (AggTo q TL E w (dE (colE (nameS (failS 51 s)).1)) (nameS (failS 51 s)).2) := by
 have HNm := hide (fun s9 w1 (h : ParAt q TL E w1 s9) => name_any w1 h)
 have HJ1 := hide (fun a w1 => is_any (aheadS 0 s) a [97, 110, 100] w1)
 have HJ2 := hide (fun a w1 => is_any (aheadS 0 s) a [111, 114] w1)
 have HJ3 := hide (fun a w1 => is_any (aheadS 0 s) a [110, 111, 116] w1)
 have HIs := hide (fun a w1 => is_any (aheadS 0 s) a [40] w1)
 have HIs2 := hide (fun a w1 => is_any (aheadS 1 s) a [40] w1)
 have HAh1 := hide (fun w1 (h : ParAt q TL E w1 s) => aheadI_any 1 (by decide) w1 h)
 have HAc := hide (fun w1 (h : ParAt q TL E w1 s) => accept_any [110, 117, 108, 108] w1 h)
 rw [hp] at HIs
 have hac : (if isT (aheadS 0 s) [110, 117, 108, 108] = true then (takeS s).2 else s) = s := if_neg (by rw [hu]; simp)
 rw [hac, hu] at HAc
 clear hac hu
 rw [ha] at HJ1
 clear ha HJ2 HJ3
 unfold StepTo at HNm
 have HF := hide (fun w1 (h : ParAt q TL E w1 s) => fail_any 51 (by decide) w1 h)
 unfold StepTo at HF
 generalize aheadS 1 s = t1 at *
 obtain ⟨uk, ut, un⟩ := t1
 have HAh := hide (fun w1 (h : ParAt q TL E w1 s) => aheadI_any 0 (by decide) w1 h)

 generalize aheadS 0 s = tk3 at *
 obtain ⟨tk, tt, tn⟩ := tk3
 have cq := H.lt
 have hqq : q < w.heap.size + 1 := by omega
 obtain ⟨W0, hW0⟩ : ∃ W0, W0 = w.alloc (.cells #[.int .i64 0, .string ⟨#[]⟩, .int .i64 0, .int .i64 0, .string ⟨#[]⟩, .string ⟨#[]⟩, .slice none 0 0] 36) := ⟨_, rfl⟩
 have H0 := hide (show ParAt q TL E W0 s by rw [hW0]; exact H.alloc _)
 have HT0 := hide (show Turn q w W0 by rw [hW0]; exact (Turn.refl _ _).alloc _)
 have HB0 := hide (show BoxAt w.heap.size 36 7 W0 by rw [hW0]; exact box_new _ _ _ rfl)
 have hz0 : w.heap.size + 1 ≤ W0.heap.size := by rw [hW0]; simp
 have HW0 := hide hW0
 clear hW0
 unfold AggTo
 unfold StepTo at HAc
 have hk2 : (tk == 2) = false := by simpa using hn2
 have hk3 : (tk == 3) = false := by simpa using hn3
 have hcase : (tk == 1) = false ∨ ((tk == 1) = true ∧ isT (uk, ut, un) [40] = false) := by
  by_cases h : tk = 1
  ·refine Or.inr ⟨by simpa using h, ?_⟩
   cases hi : isT (uk, ut, un) [40]
   ·rfl
   ·exact absurd ⟨h, hi⟩ hc
  ·exact Or.inl (by simpa using h)
 clear hn2 hn3 hp hc H
 rcases hcase with hk1 | ⟨hk1, hi⟩
 ·clear HAh1 HIs2
  skip
  go_enter Tryz.func155, Tryz.ntmps155
  go_wp2_with fail
  rw [← HW0.out]
  refine (HAh.out W0 H0.out).mono ?_
  rintro e w1 ⟨⟨a1, rfl⟩, hb⟩
  have ht : Turn q W0 w1 := Turn.of hb
  have H1 := hide (H0.out.on hb)
  have HT1 := hide (HT0.out.trans ht)
  have HB1 := hide (HB0.out.turn ht cq)
  have hz1 : w.heap.size + 1 ≤ w1.heap.size := Nat.le_trans hz0 ht.size
  clear hb ht H0 HT0 HB0 HAh
  obtain ⟨w2, hw2⟩ : ∃ W, W = w1.alloc (.cells #[.int .i64 tk, txt tt, .int .i64 tn, .int .i64 a1] 134) := ⟨_, rfl⟩
  have HW2 := hide hw2
  have H2 := hide (show ParAt q TL E w2 _ by rw [hw2]; exact H1.out.alloc _)
  have HT2 := hide (show Turn q w w2 by rw [hw2]; exact HT1.out.alloc _)
  obtain ⟨tb, htb⟩ : ∃ tb, tb = w1.heap.size := ⟨_, rfl⟩
  have HTB := hide htb
  have HX := hide (show HoldB tb 134 [.int .i64 tk, txt tt, .int .i64 tn, .int .i64 a1] w2 by rw [hw2, htb]; exact heap_alloc_new _ _)
  have hz2 : w.heap.size + 1 ≤ w2.heap.size := by rw [hw2]; simp; omega
  have hqt : q < tb := by omega
  have hrt : w.heap.size < tb := by omega
  have HB2 := hide (show BoxAt w.heap.size 36 7 w2 by rw [hw2]; exact HB1.out.turn ((Turn.refl q _).alloc _) cq)
  clear hw2 htb H1 HT1 HB1
  have x0 := Lib.cell_of_heap HX.out 0
  have x1 := Lib.cell_of_heap HX.out 1
  have x2 := Lib.cell_of_heap HX.out 2
  have x3 := Lib.cell_of_heap HX.out 3
  simp only [List.getElem?_toArray, List.getElem?_cons_zero, List.getElem?_cons_succ] at x0 x1 x2 x3
  go_wp2_with (first | rw [← HW2.out, ← HTB.out] | (refine wpList_loadBig rfl 134 _ rfl tb 4 [.int .i64 tk, txt tt, .int .i64 tn, .int .i64 a1] big_tok rfl rfl HX.out ?_))
  clear x0 x1 x2 x3 HW2
  refine (HIs.out a1 w2).mono ?_
  rintro e w3 ⟨rfl, hb⟩
  have ht : Turn q w2 w3 := Turn.of hb
  have H3 := hide (H2.out.on hb)
  have HT3 := hide (HT2.out.trans ht)
  have HB3 := hide (HB2.out.turn ht cq)
  have hz3 : w.heap.size + 1 ≤ w3.heap.size := Nat.le_trans hz2 ht.size
  replace HX := hide (holds_turn HX.out ht hqt)
  clear hb ht H2 HT2 HB2 HIs
  have x0 := Lib.cell_of_heap HX.out 0
  have x1 := Lib.cell_of_heap HX.out 1
  have x2 := Lib.cell_of_heap HX.out 2
  have x3 := Lib.cell_of_heap HX.out 3
  simp only [List.getElem?_toArray, List.getElem?_cons_zero, List.getElem?_cons_succ] at x0 x1 x2 x3
  go_wp2_with (first | (refine wpList_loadBig rfl 134 _ rfl tb 4 [.int .i64 tk, txt tt, .int .i64 tn, .int .i64 a1] big_tok rfl rfl HX.out ?_))
  clear x0 x1 x2 x3
  refine (HAc.out w3 H3.out).mono ?_
  rintro e w4 ⟨rfl, h, ht⟩
  have H4 := hide h
  have HT4 := hide (HT3.out.trans ht)
  have HB4 := hide (HB3.out.turn ht cq)
  have hz4 : w.heap.size + 1 ≤ w4.heap.size := Nat.le_trans hz3 ht.size
  replace HX := hide (holds_turn HX.out ht hqt)
  clear h ht H3 HT3 HB3 HAc
  have x0 := Lib.cell_of_heap HX.out 0
  have x1 := Lib.cell_of_heap HX.out 1
  have x2 := Lib.cell_of_heap HX.out 2
  have x3 := Lib.cell_of_heap HX.out 3
  simp only [List.getElem?_toArray, List.getElem?_cons_zero, List.getElem?_cons_succ] at x0 x1 x2 x3
  go_wp2_with (first | (refine wpList_loadBig rfl 134 _ rfl tb 4 [.int .i64 tk, txt tt, .int .i64 tn, .int .i64 a1] big_tok rfl rfl HX.out ?_))
  clear x0 x1 x2 x3
  refine (HJ1.out a1 w4).mono ?_
  rintro e w5 ⟨rfl, hb⟩
  have ht : Turn q w4 w5 := Turn.of hb
  have H5 := hide (H4.out.on hb)
  have HT5 := hide (HT4.out.trans ht)
  have HB5 := hide (HB4.out.turn ht cq)
  have hz5 : w.heap.size + 1 ≤ w5.heap.size := Nat.le_trans hz4 ht.size
  replace HX := hide (holds_turn HX.out ht hqt)
  clear hb ht H4 HT4 HB4 HJ1
  go_wp2_with fail
  refine (HF.out w5 H5.out).mono ?_
  rintro e w6 ⟨rfl, h, ht⟩
  have H6 := hide h
  have HT6 := hide (HT5.out.trans ht)
  have HB6 := hide (HB5.out.turn ht cq)
  have hz6 : w.heap.size + 1 ≤ w6.heap.size := Nat.le_trans hz5 ht.size
  replace HX := hide (holds_turn HX.out ht hqt)
  clear h ht H5 HT5 HB5 HF
  go_wp2_with fail
  refine (HNm.out _ w6 H6.out).mono ?_
  rintro e w7 ⟨rfl, h, ht⟩
  have H7 := hide h
  have HT7 := hide (HT6.out.trans ht)
  have HB7 := hide (HB6.out.turn ht cq)
  have hz7 : w.heap.size + 1 ≤ w7.heap.size := Nat.le_trans hz6 ht.size
  replace HX := hide (holds_turn HX.out ht hqt)
  clear h ht H6 HT6 HB6 HNm
  go_wp2_with fail
  refine (colD_any (nameS (failS 51 s)).1 w7).mono ?_
  rintro e w8 ⟨⟨vs8, rfl, hv⟩, hb⟩
  have ht : Turn q w7 w8 := Turn.of hb
  have H8 := hide (H7.out.on hb)
  have HT8 := hide (HT7.out.trans ht)
  have HB8 := hide (HB7.out.turn ht cq)
  have hz8 : w.heap.size + 1 ≤ w8.heap.size := Nat.le_trans hz7 ht.size
  replace HX := hide (holds_turn HX.out ht hqt)
  have HV8 := hide (hv.stay (Stay.at (fun _ hb => Nat.le_trans hz7 hb) _))
  clear hv
  clear hb ht H7 HT7 HB7
  have hlen : vs8.length = 7 := HV8.out.1.trans (dE_len _)
  have hone := HV8.out.one_cell
  go_wp2_with ((refine wpList_storeBig rfl 36 _ _ rfl w.heap.size 7 vs8 big_expr hlen hone rfl rfl HB8.out ?_))
  refine bodyPost_ret (v := .agg vs8.toArray) (results_big rfl rfl big_expr hlen (set_row _ HB8.out.choose_spec.1)) rfl ?_
  exact ⟨vs8, rfl, HV8.out.ret (Nat.lt_succ_self _) (Nat.le_succ _) _, H8.out.row cq _, HT8.out.row (Nat.le_refl _) _⟩
 ·rw [hi] at HIs2
  clear hi
  skip
  go_enter Tryz.func155, Tryz.ntmps155
  go_wp2_with fail
  rw [← HW0.out]
  refine (HAh.out W0 H0.out).mono ?_
  rintro e w1 ⟨⟨a1, rfl⟩, hb⟩
  have ht : Turn q W0 w1 := Turn.of hb
  have H1 := hide (H0.out.on hb)
  have HT1 := hide (HT0.out.trans ht)
  have HB1 := hide (HB0.out.turn ht cq)
  have hz1 : w.heap.size + 1 ≤ w1.heap.size := Nat.le_trans hz0 ht.size
  clear hb ht H0 HT0 HB0 HAh
  obtain ⟨w2, hw2⟩ : ∃ W, W = w1.alloc (.cells #[.int .i64 tk, txt tt, .int .i64 tn, .int .i64 a1] 134) := ⟨_, rfl⟩
  have HW2 := hide hw2
  have H2 := hide (show ParAt q TL E w2 _ by rw [hw2]; exact H1.out.alloc _)
  have HT2 := hide (show Turn q w w2 by rw [hw2]; exact HT1.out.alloc _)
  obtain ⟨tb, htb⟩ : ∃ tb, tb = w1.heap.size := ⟨_, rfl⟩
  have HTB := hide htb
  have HX := hide (show HoldB tb 134 [.int .i64 tk, txt tt, .int .i64 tn, .int .i64 a1] w2 by rw [hw2, htb]; exact heap_alloc_new _ _)
  have hz2 : w.heap.size + 1 ≤ w2.heap.size := by rw [hw2]; simp; omega
  have hqt : q < tb := by omega
  have hrt : w.heap.size < tb := by omega
  have HB2 := hide (show BoxAt w.heap.size 36 7 w2 by rw [hw2]; exact HB1.out.turn ((Turn.refl q _).alloc _) cq)
  clear hw2 htb H1 HT1 HB1
  have x0 := Lib.cell_of_heap HX.out 0
  have x1 := Lib.cell_of_heap HX.out 1
  have x2 := Lib.cell_of_heap HX.out 2
  have x3 := Lib.cell_of_heap HX.out 3
  simp only [List.getElem?_toArray, List.getElem?_cons_zero, List.getElem?_cons_succ] at x0 x1 x2 x3
  go_wp2_with (first | rw [← HW2.out, ← HTB.out] | (refine wpList_loadBig rfl 134 _ rfl tb 4 [.int .i64 tk, txt tt, .int .i64 tn, .int .i64 a1] big_tok rfl rfl HX.out ?_))
  clear x0 x1 x2 x3 HW2
  refine (HIs.out a1 w2).mono ?_
  rintro e w3 ⟨rfl, hb⟩
  have ht : Turn q w2 w3 := Turn.of hb
  have H3 := hide (H2.out.on hb)
  have HT3 := hide (HT2.out.trans ht)
  have HB3 := hide (HB2.out.turn ht cq)
  have hz3 : w.heap.size + 1 ≤ w3.heap.size := Nat.le_trans hz2 ht.size
  replace HX := hide (holds_turn HX.out ht hqt)
  clear hb ht H2 HT2 HB2 HIs
  have x0 := Lib.cell_of_heap HX.out 0
  have x1 := Lib.cell_of_heap HX.out 1
  have x2 := Lib.cell_of_heap HX.out 2
  have x3 := Lib.cell_of_heap HX.out 3
  simp only [List.getElem?_toArray, List.getElem?_cons_zero, List.getElem?_cons_succ] at x0 x1 x2 x3
  go_wp2_with (first | (refine wpList_loadBig rfl 134 _ rfl tb 4 [.int .i64 tk, txt tt, .int .i64 tn, .int .i64 a1] big_tok rfl rfl HX.out ?_))
  clear x0 x1 x2 x3
  refine (HAh1.out w3 H3.out).mono ?_
  rintro e w4 ⟨⟨a4, rfl⟩, hb⟩
  have ht : Turn q w3 w4 := Turn.of hb
  have H4 := hide (H3.out.on hb)
  have HT4 := hide (HT3.out.trans ht)
  have HB4 := hide (HB3.out.turn ht cq)
  have hz4 : w.heap.size + 1 ≤ w4.heap.size := Nat.le_trans hz3 ht.size
  replace HX := hide (holds_turn HX.out ht hqt)
  clear hb ht H3 HT3 HB3 HAh1
  have x0 := Lib.cell_of_heap HX.out 0
  have x1 := Lib.cell_of_heap HX.out 1
  have x2 := Lib.cell_of_heap HX.out 2
  have x3 := Lib.cell_of_heap HX.out 3
  simp only [List.getElem?_toArray, List.getElem?_cons_zero, List.getElem?_cons_succ] at x0 x1 x2 x3
  go_wp2_with (first | (refine wpList_loadBig rfl 134 _ rfl tb 4 [.int .i64 tk, txt tt, .int .i64 tn, .int .i64 a1] big_tok rfl rfl HX.out ?_))
  clear x0 x1 x2 x3
  refine (HIs2.out a4 w4).mono ?_
  rintro e w5 ⟨rfl, hb⟩
  have ht : Turn q w4 w5 := Turn.of hb
  have H5 := hide (H4.out.on hb)
  have HT5 := hide (HT4.out.trans ht)
  have HB5 := hide (HB4.out.turn ht cq)
  have hz5 : w.heap.size + 1 ≤ w5.heap.size := Nat.le_trans hz4 ht.size
  replace HX := hide (holds_turn HX.out ht hqt)
  clear hb ht H4 HT4 HB4 HIs2
  have x0 := Lib.cell_of_heap HX.out 0
  have x1 := Lib.cell_of_heap HX.out 1
  have x2 := Lib.cell_of_heap HX.out 2
  have x3 := Lib.cell_of_heap HX.out 3
  simp only [List.getElem?_toArray, List.getElem?_cons_zero, List.getElem?_cons_succ] at x0 x1 x2 x3
  go_wp2_with (first | (refine wpList_loadBig rfl 134 _ rfl tb 4 [.int .i64 tk, txt tt, .int .i64 tn, .int .i64 a1] big_tok rfl rfl HX.out ?_))
  clear x0 x1 x2 x3
  refine (HAc.out w5 H5.out).mono ?_
  rintro e w6 ⟨rfl, h, ht⟩
  have H6 := hide h
  have HT6 := hide (HT5.out.trans ht)
  have HB6 := hide (HB5.out.turn ht cq)
  have hz6 : w.heap.size + 1 ≤ w6.heap.size := Nat.le_trans hz5 ht.size
  replace HX := hide (holds_turn HX.out ht hqt)
  clear h ht H5 HT5 HB5 HAc
  have x0 := Lib.cell_of_heap HX.out 0
  have x1 := Lib.cell_of_heap HX.out 1
  have x2 := Lib.cell_of_heap HX.out 2
  have x3 := Lib.cell_of_heap HX.out 3
  simp only [List.getElem?_toArray, List.getElem?_cons_zero, List.getElem?_cons_succ] at x0 x1 x2 x3
  go_wp2_with (first | (refine wpList_loadBig rfl 134 _ rfl tb 4 [.int .i64 tk, txt tt, .int .i64 tn, .int .i64 a1] big_tok rfl rfl HX.out ?_))
  clear x0 x1 x2 x3
  refine (HJ1.out a1 w6).mono ?_
  rintro e w7 ⟨rfl, hb⟩
  have ht : Turn q w6 w7 := Turn.of hb
  have H7 := hide (H6.out.on hb)
  have HT7 := hide (HT6.out.trans ht)
  have HB7 := hide (HB6.out.turn ht cq)
  have hz7 : w.heap.size + 1 ≤ w7.heap.size := Nat.le_trans hz6 ht.size
  replace HX := hide (holds_turn HX.out ht hqt)
  clear hb ht H6 HT6 HB6 HJ1
  go_wp2_with fail
  refine (HF.out w7 H7.out).mono ?_
  rintro e w8 ⟨rfl, h, ht⟩
  have H8 := hide h
  have HT8 := hide (HT7.out.trans ht)
  have HB8 := hide (HB7.out.turn ht cq)
  have hz8 : w.heap.size + 1 ≤ w8.heap.size := Nat.le_trans hz7 ht.size
  replace HX := hide (holds_turn HX.out ht hqt)
  clear h ht H7 HT7 HB7 HF
  go_wp2_with fail
  refine (HNm.out _ w8 H8.out).mono ?_
  rintro e w9 ⟨rfl, h, ht⟩
  have H9 := hide h
  have HT9 := hide (HT8.out.trans ht)
  have HB9 := hide (HB8.out.turn ht cq)
  have hz9 : w.heap.size + 1 ≤ w9.heap.size := Nat.le_trans hz8 ht.size
  replace HX := hide (holds_turn HX.out ht hqt)
  clear h ht H8 HT8 HB8 HNm
  go_wp2_with fail
  refine (colD_any (nameS (failS 51 s)).1 w9).mono ?_
  rintro e w10 ⟨⟨vs10, rfl, hv⟩, hb⟩
  have ht : Turn q w9 w10 := Turn.of hb
  have H10 := hide (H9.out.on hb)
  have HT10 := hide (HT9.out.trans ht)
  have HB10 := hide (HB9.out.turn ht cq)
  have hz10 : w.heap.size + 1 ≤ w10.heap.size := Nat.le_trans hz9 ht.size
  replace HX := hide (holds_turn HX.out ht hqt)
  have HV10 := hide (hv.stay (Stay.at (fun _ hb => Nat.le_trans hz9 hb) _))
  clear hv
  clear hb ht H9 HT9 HB9
  have hlen : vs10.length = 7 := HV10.out.1.trans (dE_len _)
  have hone := HV10.out.one_cell
  go_wp2_with ((refine wpList_storeBig rfl 36 _ _ rfl w.heap.size 7 vs10 big_expr hlen hone rfl rfl HB10.out ?_))
  refine bodyPost_ret (v := .agg vs10.toArray) (results_big rfl rfl big_expr hlen (set_row _ HB10.out.choose_spec.1)) rfl ?_
  exact ⟨vs10, rfl, HV10.out.ret (Nat.lt_succ_self _) (Nat.le_succ _) _, H10.out.row cq _, HT10.out.row (Nat.le_refl _) _⟩
set_option maxHeartbeats 8000000 in
set_option maxRecDepth 100000 in
theorem primBadO {q : Nat} {TL : List Tk} {E : Nat} (s : PSt) (w : World) (H : ParAt q TL E w s) (hn2 : (aheadS 0 s).1 ≠ 2) (hn3 : (aheadS 0 s).1 ≠ 3) (hp : isT (aheadS 0 s) [40] = false) (hc : ¬ ((aheadS 0 s).1 = 1 ∧ isT (aheadS 1 s) [40] = true)) (hu : isT (aheadS 0 s) [110, 117, 108, 108] = false) (ha : isT (aheadS 0 s) [97, 110, 100] = false) (ho : isT (aheadS 0 s) [111, 114] = true) :
  Calls Tryz.prog 155 #[pP q] w (AggTo q TL E w (dE (colE (nameS (failS 51 s)).1)) (nameS (failS 51 s)).2) := by
 have HNm := hide (fun s9 w1 (h : ParAt q TL E w1 s9) => name_any w1 h)
 have HJ1 := hide (fun a w1 => is_any (aheadS 0 s) a [97, 110, 100] w1)
 have HJ2 := hide (fun a w1 => is_any (aheadS 0 s) a [111, 114] w1)
 have HJ3 := hide (fun a w1 => is_any (aheadS 0 s) a [110, 111, 116] w1)
 have HIs := hide (fun a w1 => is_any (aheadS 0 s) a [40] w1)
 have HIs2 := hide (fun a w1 => is_any (aheadS 1 s) a [40] w1)
 have HAh1 := hide (fun w1 (h : ParAt q TL E w1 s) => aheadI_any 1 (by decide) w1 h)
 have HAc := hide (fun w1 (h : ParAt q TL E w1 s) => accept_any [110, 117, 108, 108] w1 h)
 rw [hp] at HIs
 have hac : (if isT (aheadS 0 s) [110, 117, 108, 108] = true then (takeS s).2 else s) = s := if_neg (by rw [hu]; simp)
 rw [hac, hu] at HAc
 clear hac hu
 rw [ha] at HJ1
 rw [ho] at HJ2
 clear ha ho HJ3
 unfold StepTo at HNm
 have HF := hide (fun w1 (h : ParAt q TL E w1 s) => fail_any 51 (by decide) w1 h)
 unfold StepTo at HF
 generalize aheadS 1 s = t1 at *
 obtain ⟨uk, ut, un⟩ := t1
 have HAh := hide (fun w1 (h : ParAt q TL E w1 s) => aheadI_any 0 (by decide) w1 h)

 generalize aheadS 0 s = tk3 at *
 obtain ⟨tk, tt, tn⟩ := tk3
 have cq := H.lt
 have hqq : q < w.heap.size + 1 := by omega
 obtain ⟨W0, hW0⟩ : ∃ W0, W0 = w.alloc (.cells #[.int .i64 0, .string ⟨#[]⟩, .int .i64 0, .int .i64 0, .string ⟨#[]⟩, .string ⟨#[]⟩, .slice none 0 0] 36) := ⟨_, rfl⟩
 have H0 := hide (show ParAt q TL E W0 s by rw [hW0]; exact H.alloc _)
 have HT0 := hide (show Turn q w W0 by rw [hW0]; exact (Turn.refl _ _).alloc _)
 have HB0 := hide (show BoxAt w.heap.size 36 7 W0 by rw [hW0]; exact box_new _ _ _ rfl)
 have hz0 : w.heap.size + 1 ≤ W0.heap.size := by rw [hW0]; simp
 have HW0 := hide hW0
 clear hW0
 unfold AggTo
 unfold StepTo at HAc
 have hk2 : (tk == 2) = false := by simpa using hn2
 have hk3 : (tk == 3) = false := by simpa using hn3
 have hcase : (tk == 1) = false ∨ ((tk == 1) = true ∧ isT (uk, ut, un) [40] = false) := by
  by_cases h : tk = 1
  ·refine Or.inr ⟨by simpa using h, ?_⟩
   cases hi : isT (uk, ut, un) [40]
   ·rfl
   ·exact absurd ⟨h, hi⟩ hc
  ·exact Or.inl (by simpa using h)
 clear hn2 hn3 hp hc H
 rcases hcase with hk1 | ⟨hk1, hi⟩
 ·clear HAh1 HIs2
  skip
  go_enter Tryz.func155, Tryz.ntmps155
  go_wp2_with fail
  rw [← HW0.out]
  refine (HAh.out W0 H0.out).mono ?_
  rintro e w1 ⟨⟨a1, rfl⟩, hb⟩
  have ht : Turn q W0 w1 := Turn.of hb
  have H1 := hide (H0.out.on hb)
  have HT1 := hide (HT0.out.trans ht)
  have HB1 := hide (HB0.out.turn ht cq)
  have hz1 : w.heap.size + 1 ≤ w1.heap.size := Nat.le_trans hz0 ht.size
  clear hb ht H0 HT0 HB0 HAh
  obtain ⟨w2, hw2⟩ : ∃ W, W = w1.alloc (.cells #[.int .i64 tk, txt tt, .int .i64 tn, .int .i64 a1] 134) := ⟨_, rfl⟩
  have HW2 := hide hw2
  have H2 := hide (show ParAt q TL E w2 _ by rw [hw2]; exact H1.out.alloc _)
  have HT2 := hide (show Turn q w w2 by rw [hw2]; exact HT1.out.alloc _)
  obtain ⟨tb, htb⟩ : ∃ tb, tb = w1.heap.size := ⟨_, rfl⟩
  have HTB := hide htb
  have HX := hide (show HoldB tb 134 [.int .i64 tk, txt tt, .int .i64 tn, .int .i64 a1] w2 by rw [hw2, htb]; exact heap_alloc_new _ _)
  have hz2 : w.heap.size + 1 ≤ w2.heap.size := by rw [hw2]; simp; omega
  have hqt : q < tb := by omega
  have hrt : w.heap.size < tb := by omega
  have HB2 := hide (show BoxAt w.heap.size 36 7 w2 by rw [hw2]; exact HB1.out.turn ((Turn.refl q _).alloc _) cq)
  clear hw2 htb H1 HT1 HB1
  have x0 := Lib.cell_of_heap HX.out 0
  have x1 := Lib.cell_of_heap HX.out 1
  have x2 := Lib.cell_of_heap HX.out 2
  have x3 := Lib.cell_of_heap HX.out 3
  simp only [List.getElem?_toArray, List.getElem?_cons_zero, List.getElem?_cons_succ] at x0 x1 x2 x3
  go_wp2_with (first | rw [← HW2.out, ← HTB.out] | (refine wpList_loadBig rfl 134 _ rfl tb 4 [.int .i64 tk, txt tt, .int .i64 tn, .int .i64 a1] big_tok rfl rfl HX.out ?_))
  clear x0 x1 x2 x3 HW2
  refine (HIs.out a1 w2).mono ?_
  rintro e w3 ⟨rfl, hb⟩
  have ht : Turn q w2 w3 := Turn.of hb
  have H3 := hide (H2.out.on hb)
  have HT3 := hide (HT2.out.trans ht)
  have HB3 := hide (HB2.out.turn ht cq)
  have hz3 : w.heap.size + 1 ≤ w3.heap.size := Nat.le_trans hz2 ht.size
  replace HX := hide (holds_turn HX.out ht hqt)
  clear hb ht H2 HT2 HB2 HIs
  have x0 := Lib.cell_of_heap HX.out 0
  have x1 := Lib.cell_of_heap HX.out 1
  have x2 := Lib.cell_of_heap HX.out 2
  have x3 := Lib.cell_of_heap HX.out 3
  simp only [List.getElem?_toArray, List.getElem?_cons_zero, List.getElem?_cons_succ] at x0 x1 x2 x3
  go_wp2_with (first | (refine wpList_loadBig rfl 134 _ rfl tb 4 [.int .i64 tk, txt tt, .int .i64 tn, .int .i64 a1] big_tok rfl rfl HX.out ?_))
  clear x0 x1 x2 x3
  refine (HAc.out w3 H3.out).mono ?_
  rintro e w4 ⟨rfl, h, ht⟩
  have H4 := hide h
  have HT4 := hide (HT3.out.trans ht)
  have HB4 := hide (HB3.out.turn ht cq)
  have hz4 : w.heap.size + 1 ≤ w4.heap.size := Nat.le_trans hz3 ht.size
  replace HX := hide (holds_turn HX.out ht hqt)
  clear h ht H3 HT3 HB3 HAc
  have x0 := Lib.cell_of_heap HX.out 0
  have x1 := Lib.cell_of_heap HX.out 1
  have x2 := Lib.cell_of_heap HX.out 2
  have x3 := Lib.cell_of_heap HX.out 3
  simp only [List.getElem?_toArray, List.getElem?_cons_zero, List.getElem?_cons_succ] at x0 x1 x2 x3
  go_wp2_with (first | (refine wpList_loadBig rfl 134 _ rfl tb 4 [.int .i64 tk, txt tt, .int .i64 tn, .int .i64 a1] big_tok rfl rfl HX.out ?_))
  clear x0 x1 x2 x3
  refine (HJ1.out a1 w4).mono ?_
  rintro e w5 ⟨rfl, hb⟩
  have ht : Turn q w4 w5 := Turn.of hb
  have H5 := hide (H4.out.on hb)
  have HT5 := hide (HT4.out.trans ht)
  have HB5 := hide (HB4.out.turn ht cq)
  have hz5 : w.heap.size + 1 ≤ w5.heap.size := Nat.le_trans hz4 ht.size
  replace HX := hide (holds_turn HX.out ht hqt)
  clear hb ht H4 HT4 HB4 HJ1
  have x0 := Lib.cell_of_heap HX.out 0
  have x1 := Lib.cell_of_heap HX.out 1
  have x2 := Lib.cell_of_heap HX.out 2
  have x3 := Lib.cell_of_heap HX.out 3
  simp only [List.getElem?_toArray, List.getElem?_cons_zero, List.getElem?_cons_succ] at x0 x1 x2 x3
  go_wp2_with (first | (refine wpList_loadBig rfl 134 _ rfl tb 4 [.int .i64 tk, txt tt, .int .i64 tn, .int .i64 a1] big_tok rfl rfl HX.out ?_))
  clear x0 x1 x2 x3
  refine (HJ2.out a1 w5).mono ?_
  rintro e w6 ⟨rfl, hb⟩
  have ht : Turn q w5 w6 := Turn.of hb
  have H6 := hide (H5.out.on hb)
  have HT6 := hide (HT5.out.trans ht)
  have HB6 := hide (HB5.out.turn ht cq)
  have hz6 : w.heap.size + 1 ≤ w6.heap.size := Nat.le_trans hz5 ht.size
  replace HX := hide (holds_turn HX.out ht hqt)
  clear hb ht H5 HT5 HB5 HJ2
  go_wp2_with fail
  refine (HF.out w6 H6.out).mono ?_
  rintro e w7 ⟨rfl, h, ht⟩
  have H7 := hide h
  have HT7 := hide (HT6.out.trans ht)
  have HB7 := hide (HB6.out.turn ht cq)
  have hz7 : w.heap.size + 1 ≤ w7.heap.size := Nat.le_trans hz6 ht.size
  replace HX := hide (holds_turn HX.out ht hqt)
  clear h ht H6 HT6 HB6 HF
  go_wp2_with fail
  refine (HNm.out _ w7 H7.out).mono ?_
  rintro e w8 ⟨rfl, h, ht⟩
  have H8 := hide h
  have HT8 := hide (HT7.out.trans ht)
  have HB8 := hide (HB7.out.turn ht cq)
  have hz8 : w.heap.size + 1 ≤ w8.heap.size := Nat.le_trans hz7 ht.size
  replace HX := hide (holds_turn HX.out ht hqt)
  clear h ht H7 HT7 HB7 HNm
  go_wp2_with fail
  refine (colD_any (nameS (failS 51 s)).1 w8).mono ?_
  rintro e w9 ⟨⟨vs9, rfl, hv⟩, hb⟩
  have ht : Turn q w8 w9 := Turn.of hb
  have H9 := hide (H8.out.on hb)
  have HT9 := hide (HT8.out.trans ht)
  have HB9 := hide (HB8.out.turn ht cq)
  have hz9 : w.heap.size + 1 ≤ w9.heap.size := Nat.le_trans hz8 ht.size
  replace HX := hide (holds_turn HX.out ht hqt)
  have HV9 := hide (hv.stay (Stay.at (fun _ hb => Nat.le_trans hz8 hb) _))
  clear hv
  clear hb ht H8 HT8 HB8
  have hlen : vs9.length = 7 := HV9.out.1.trans (dE_len _)
  have hone := HV9.out.one_cell
  go_wp2_with ((refine wpList_storeBig rfl 36 _ _ rfl w.heap.size 7 vs9 big_expr hlen hone rfl rfl HB9.out ?_))
  refine bodyPost_ret (v := .agg vs9.toArray) (results_big rfl rfl big_expr hlen (set_row _ HB9.out.choose_spec.1)) rfl ?_
  exact ⟨vs9, rfl, HV9.out.ret (Nat.lt_succ_self _) (Nat.le_succ _) _, H9.out.row cq _, HT9.out.row (Nat.le_refl _) _⟩
 ·rw [hi] at HIs2
  clear hi
  skip
  go_enter Tryz.func155, Tryz.ntmps155
  go_wp2_with fail
  rw [← HW0.out]
  refine (HAh.out W0 H0.out).mono ?_
  rintro e w1 ⟨⟨a1, rfl⟩, hb⟩
  have ht : Turn q W0 w1 := Turn.of hb
  have H1 := hide (H0.out.on hb)
  have HT1 := hide (HT0.out.trans ht)
  have HB1 := hide (HB0.out.turn ht cq)
  have hz1 : w.heap.size + 1 ≤ w1.heap.size := Nat.le_trans hz0 ht.size
  clear hb ht H0 HT0 HB0 HAh
  obtain ⟨w2, hw2⟩ : ∃ W, W = w1.alloc (.cells #[.int .i64 tk, txt tt, .int .i64 tn, .int .i64 a1] 134) := ⟨_, rfl⟩
  have HW2 := hide hw2
  have H2 := hide (show ParAt q TL E w2 _ by rw [hw2]; exact H1.out.alloc _)
  have HT2 := hide (show Turn q w w2 by rw [hw2]; exact HT1.out.alloc _)
  obtain ⟨tb, htb⟩ : ∃ tb, tb = w1.heap.size := ⟨_, rfl⟩
  have HTB := hide htb
  have HX := hide (show HoldB tb 134 [.int .i64 tk, txt tt, .int .i64 tn, .int .i64 a1] w2 by rw [hw2, htb]; exact heap_alloc_new _ _)
  have hz2 : w.heap.size + 1 ≤ w2.heap.size := by rw [hw2]; simp; omega
  have hqt : q < tb := by omega
  have hrt : w.heap.size < tb := by omega
  have HB2 := hide (show BoxAt w.heap.size 36 7 w2 by rw [hw2]; exact HB1.out.turn ((Turn.refl q _).alloc _) cq)
  clear hw2 htb H1 HT1 HB1
  have x0 := Lib.cell_of_heap HX.out 0
  have x1 := Lib.cell_of_heap HX.out 1
  have x2 := Lib.cell_of_heap HX.out 2
  have x3 := Lib.cell_of_heap HX.out 3
  simp only [List.getElem?_toArray, List.getElem?_cons_zero, List.getElem?_cons_succ] at x0 x1 x2 x3
  go_wp2_with (first | rw [← HW2.out, ← HTB.out] | (refine wpList_loadBig rfl 134 _ rfl tb 4 [.int .i64 tk, txt tt, .int .i64 tn, .int .i64 a1] big_tok rfl rfl HX.out ?_))
  clear x0 x1 x2 x3 HW2
  refine (HIs.out a1 w2).mono ?_
  rintro e w3 ⟨rfl, hb⟩
  have ht : Turn q w2 w3 := Turn.of hb
  have H3 := hide (H2.out.on hb)
  have HT3 := hide (HT2.out.trans ht)
  have HB3 := hide (HB2.out.turn ht cq)
  have hz3 : w.heap.size + 1 ≤ w3.heap.size := Nat.le_trans hz2 ht.size
  replace HX := hide (holds_turn HX.out ht hqt)
  clear hb ht H2 HT2 HB2 HIs
  have x0 := Lib.cell_of_heap HX.out 0
  have x1 := Lib.cell_of_heap HX.out 1
  have x2 := Lib.cell_of_heap HX.out 2
  have x3 := Lib.cell_of_heap HX.out 3
  simp only [List.getElem?_toArray, List.getElem?_cons_zero, List.getElem?_cons_succ] at x0 x1 x2 x3
  go_wp2_with (first | (refine wpList_loadBig rfl 134 _ rfl tb 4 [.int .i64 tk, txt tt, .int .i64 tn, .int .i64 a1] big_tok rfl rfl HX.out ?_))
  clear x0 x1 x2 x3
  refine (HAh1.out w3 H3.out).mono ?_
  rintro e w4 ⟨⟨a4, rfl⟩, hb⟩
  have ht : Turn q w3 w4 := Turn.of hb
  have H4 := hide (H3.out.on hb)
  have HT4 := hide (HT3.out.trans ht)
  have HB4 := hide (HB3.out.turn ht cq)
  have hz4 : w.heap.size + 1 ≤ w4.heap.size := Nat.le_trans hz3 ht.size
  replace HX := hide (holds_turn HX.out ht hqt)
  clear hb ht H3 HT3 HB3 HAh1
  have x0 := Lib.cell_of_heap HX.out 0
  have x1 := Lib.cell_of_heap HX.out 1
  have x2 := Lib.cell_of_heap HX.out 2
  have x3 := Lib.cell_of_heap HX.out 3
  simp only [List.getElem?_toArray, List.getElem?_cons_zero, List.getElem?_cons_succ] at x0 x1 x2 x3
  go_wp2_with (first | (refine wpList_loadBig rfl 134 _ rfl tb 4 [.int .i64 tk, txt tt, .int .i64 tn, .int .i64 a1] big_tok rfl rfl HX.out ?_))
  clear x0 x1 x2 x3
  refine (HIs2.out a4 w4).mono ?_
  rintro e w5 ⟨rfl, hb⟩
  have ht : Turn q w4 w5 := Turn.of hb
  have H5 := hide (H4.out.on hb)
  have HT5 := hide (HT4.out.trans ht)
  have HB5 := hide (HB4.out.turn ht cq)
  have hz5 : w.heap.size + 1 ≤ w5.heap.size := Nat.le_trans hz4 ht.size
  replace HX := hide (holds_turn HX.out ht hqt)
  clear hb ht H4 HT4 HB4 HIs2
  have x0 := Lib.cell_of_heap HX.out 0
  have x1 := Lib.cell_of_heap HX.out 1
  have x2 := Lib.cell_of_heap HX.out 2
  have x3 := Lib.cell_of_heap HX.out 3
  simp only [List.getElem?_toArray, List.getElem?_cons_zero, List.getElem?_cons_succ] at x0 x1 x2 x3
  go_wp2_with (first | (refine wpList_loadBig rfl 134 _ rfl tb 4 [.int .i64 tk, txt tt, .int .i64 tn, .int .i64 a1] big_tok rfl rfl HX.out ?_))
  clear x0 x1 x2 x3
  refine (HAc.out w5 H5.out).mono ?_
  rintro e w6 ⟨rfl, h, ht⟩
  have H6 := hide h
  have HT6 := hide (HT5.out.trans ht)
  have HB6 := hide (HB5.out.turn ht cq)
  have hz6 : w.heap.size + 1 ≤ w6.heap.size := Nat.le_trans hz5 ht.size
  replace HX := hide (holds_turn HX.out ht hqt)
  clear h ht H5 HT5 HB5 HAc
  have x0 := Lib.cell_of_heap HX.out 0
  have x1 := Lib.cell_of_heap HX.out 1
  have x2 := Lib.cell_of_heap HX.out 2
  have x3 := Lib.cell_of_heap HX.out 3
  simp only [List.getElem?_toArray, List.getElem?_cons_zero, List.getElem?_cons_succ] at x0 x1 x2 x3
  go_wp2_with (first | (refine wpList_loadBig rfl 134 _ rfl tb 4 [.int .i64 tk, txt tt, .int .i64 tn, .int .i64 a1] big_tok rfl rfl HX.out ?_))
  clear x0 x1 x2 x3
  refine (HJ1.out a1 w6).mono ?_
  rintro e w7 ⟨rfl, hb⟩
  have ht : Turn q w6 w7 := Turn.of hb
  have H7 := hide (H6.out.on hb)
  have HT7 := hide (HT6.out.trans ht)
  have HB7 := hide (HB6.out.turn ht cq)
  have hz7 : w.heap.size + 1 ≤ w7.heap.size := Nat.le_trans hz6 ht.size
  replace HX := hide (holds_turn HX.out ht hqt)
  clear hb ht H6 HT6 HB6 HJ1
  have x0 := Lib.cell_of_heap HX.out 0
  have x1 := Lib.cell_of_heap HX.out 1
  have x2 := Lib.cell_of_heap HX.out 2
  have x3 := Lib.cell_of_heap HX.out 3
  simp only [List.getElem?_toArray, List.getElem?_cons_zero, List.getElem?_cons_succ] at x0 x1 x2 x3
  go_wp2_with (first | (refine wpList_loadBig rfl 134 _ rfl tb 4 [.int .i64 tk, txt tt, .int .i64 tn, .int .i64 a1] big_tok rfl rfl HX.out ?_))
  clear x0 x1 x2 x3
  refine (HJ2.out a1 w7).mono ?_
  rintro e w8 ⟨rfl, hb⟩
  have ht : Turn q w7 w8 := Turn.of hb
  have H8 := hide (H7.out.on hb)
  have HT8 := hide (HT7.out.trans ht)
  have HB8 := hide (HB7.out.turn ht cq)
  have hz8 : w.heap.size + 1 ≤ w8.heap.size := Nat.le_trans hz7 ht.size
  replace HX := hide (holds_turn HX.out ht hqt)
  clear hb ht H7 HT7 HB7 HJ2
  go_wp2_with fail
  refine (HF.out w8 H8.out).mono ?_
  rintro e w9 ⟨rfl, h, ht⟩
  have H9 := hide h
  have HT9 := hide (HT8.out.trans ht)
  have HB9 := hide (HB8.out.turn ht cq)
  have hz9 : w.heap.size + 1 ≤ w9.heap.size := Nat.le_trans hz8 ht.size
  replace HX := hide (holds_turn HX.out ht hqt)
  clear h ht H8 HT8 HB8 HF
  go_wp2_with fail
  refine (HNm.out _ w9 H9.out).mono ?_
  rintro e w10 ⟨rfl, h, ht⟩
  have H10 := hide h
  have HT10 := hide (HT9.out.trans ht)
  have HB10 := hide (HB9.out.turn ht cq)
  have hz10 : w.heap.size + 1 ≤ w10.heap.size := Nat.le_trans hz9 ht.size
  replace HX := hide (holds_turn HX.out ht hqt)
  clear h ht H9 HT9 HB9 HNm
  go_wp2_with fail
  refine (colD_any (nameS (failS 51 s)).1 w10).mono ?_
  rintro e w11 ⟨⟨vs11, rfl, hv⟩, hb⟩
  have ht : Turn q w10 w11 := Turn.of hb
  have H11 := hide (H10.out.on hb)
  have HT11 := hide (HT10.out.trans ht)
  have HB11 := hide (HB10.out.turn ht cq)
  have hz11 : w.heap.size + 1 ≤ w11.heap.size := Nat.le_trans hz10 ht.size
  replace HX := hide (holds_turn HX.out ht hqt)
  have HV11 := hide (hv.stay (Stay.at (fun _ hb => Nat.le_trans hz10 hb) _))
  clear hv
  clear hb ht H10 HT10 HB10
  have hlen : vs11.length = 7 := HV11.out.1.trans (dE_len _)
  have hone := HV11.out.one_cell
  go_wp2_with ((refine wpList_storeBig rfl 36 _ _ rfl w.heap.size 7 vs11 big_expr hlen hone rfl rfl HB11.out ?_))
  refine bodyPost_ret (v := .agg vs11.toArray) (results_big rfl rfl big_expr hlen (set_row _ HB11.out.choose_spec.1)) rfl ?_
  exact ⟨vs11, rfl, HV11.out.ret (Nat.lt_succ_self _) (Nat.le_succ _) _, H11.out.row cq _, HT11.out.row (Nat.le_refl _) _⟩
set_option maxHeartbeats 8000000 in
set_option maxRecDepth 100000 in
theorem primBadN {q : Nat} {TL : List Tk} {E : Nat} (s : PSt) (w : World) (H : ParAt q TL E w s) (hn2 : (aheadS 0 s).1 ≠ 2) (hn3 : (aheadS 0 s).1 ≠ 3) (hp : isT (aheadS 0 s) [40] = false) (hc : ¬ ((aheadS 0 s).1 = 1 ∧ isT (aheadS 1 s) [40] = true)) (hu : isT (aheadS 0 s) [110, 117, 108, 108] = false) (ha : isT (aheadS 0 s) [97, 110, 100] = false) (ho : isT (aheadS 0 s) [111, 114] = false) (ht : isT (aheadS 0 s) [110, 111, 116] = true) :
  Calls Tryz.prog 155 #[pP q] w (AggTo q TL E w (dE (colE (nameS (failS 51 s)).1)) (nameS (failS 51 s)).2) := by
 have HNm := hide (fun s9 w1 (h : ParAt q TL E w1 s9) => name_any w1 h)
 have HJ1 := hide (fun a w1 => is_any (aheadS 0 s) a [97, 110, 100] w1)
 have HJ2 := hide (fun a w1 => is_any (aheadS 0 s) a [111, 114] w1)
 have HJ3 := hide (fun a w1 => is_any (aheadS 0 s) a [110, 111, 116] w1)
 have HIs := hide (fun a w1 => is_any (aheadS 0 s) a [40] w1)
 have HIs2 := hide (fun a w1 => is_any (aheadS 1 s) a [40] w1)
 have HAh1 := hide (fun w1 (h : ParAt q TL E w1 s) => aheadI_any 1 (by decide) w1 h)
 have HAc := hide (fun w1 (h : ParAt q TL E w1 s) => accept_any [110, 117, 108, 108] w1 h)
 rw [hp] at HIs
 have hac : (if isT (aheadS 0 s) [110, 117, 108, 108] = true then (takeS s).2 else s) = s := if_neg (by rw [hu]; simp)
 rw [hac, hu] at HAc
 clear hac hu
 rw [ha] at HJ1
 rw [ho] at HJ2
 rw [ht] at HJ3
 clear ha ho ht
 unfold StepTo at HNm
 have HF := hide (fun w1 (h : ParAt q TL E w1 s) => fail_any 51 (by decide) w1 h)
 unfold StepTo at HF
 generalize aheadS 1 s = t1 at *
 obtain ⟨uk, ut, un⟩ := t1
 have HAh := hide (fun w1 (h : ParAt q TL E w1 s) => aheadI_any 0 (by decide) w1 h)

 generalize aheadS 0 s = tk3 at *
 obtain ⟨tk, tt, tn⟩ := tk3
 have cq := H.lt
 have hqq : q < w.heap.size + 1 := by omega
 obtain ⟨W0, hW0⟩ : ∃ W0, W0 = w.alloc (.cells #[.int .i64 0, .string ⟨#[]⟩, .int .i64 0, .int .i64 0, .string ⟨#[]⟩, .string ⟨#[]⟩, .slice none 0 0] 36) := ⟨_, rfl⟩
 have H0 := hide (show ParAt q TL E W0 s by rw [hW0]; exact H.alloc _)
 have HT0 := hide (show Turn q w W0 by rw [hW0]; exact (Turn.refl _ _).alloc _)
 have HB0 := hide (show BoxAt w.heap.size 36 7 W0 by rw [hW0]; exact box_new _ _ _ rfl)
 have hz0 : w.heap.size + 1 ≤ W0.heap.size := by rw [hW0]; simp
 have HW0 := hide hW0
 clear hW0
 unfold AggTo
 unfold StepTo at HAc
 have hk2 : (tk == 2) = false := by simpa using hn2
 have hk3 : (tk == 3) = false := by simpa using hn3
 have hcase : (tk == 1) = false ∨ ((tk == 1) = true ∧ isT (uk, ut, un) [40] = false) := by
  by_cases h : tk = 1
  ·refine Or.inr ⟨by simpa using h, ?_⟩
   cases hi : isT (uk, ut, un) [40]
   ·rfl
   ·exact absurd ⟨h, hi⟩ hc
  ·exact Or.inl (by simpa using h)
 clear hn2 hn3 hp hc H
 rcases hcase with hk1 | ⟨hk1, hi⟩
 ·clear HAh1 HIs2
  skip
  go_enter Tryz.func155, Tryz.ntmps155
  go_wp2_with fail
  rw [← HW0.out]
  refine (HAh.out W0 H0.out).mono ?_
  rintro e w1 ⟨⟨a1, rfl⟩, hb⟩
  have ht : Turn q W0 w1 := Turn.of hb
  have H1 := hide (H0.out.on hb)
  have HT1 := hide (HT0.out.trans ht)
  have HB1 := hide (HB0.out.turn ht cq)
  have hz1 : w.heap.size + 1 ≤ w1.heap.size := Nat.le_trans hz0 ht.size
  clear hb ht H0 HT0 HB0 HAh
  obtain ⟨w2, hw2⟩ : ∃ W, W = w1.alloc (.cells #[.int .i64 tk, txt tt, .int .i64 tn, .int .i64 a1] 134) := ⟨_, rfl⟩
  have HW2 := hide hw2
  have H2 := hide (show ParAt q TL E w2 _ by rw [hw2]; exact H1.out.alloc _)
  have HT2 := hide (show Turn q w w2 by rw [hw2]; exact HT1.out.alloc _)
  obtain ⟨tb, htb⟩ : ∃ tb, tb = w1.heap.size := ⟨_, rfl⟩
  have HTB := hide htb
  have HX := hide (show HoldB tb 134 [.int .i64 tk, txt tt, .int .i64 tn, .int .i64 a1] w2 by rw [hw2, htb]; exact heap_alloc_new _ _)
  have hz2 : w.heap.size + 1 ≤ w2.heap.size := by rw [hw2]; simp; omega
  have hqt : q < tb := by omega
  have hrt : w.heap.size < tb := by omega
  have HB2 := hide (show BoxAt w.heap.size 36 7 w2 by rw [hw2]; exact HB1.out.turn ((Turn.refl q _).alloc _) cq)
  clear hw2 htb H1 HT1 HB1
  have x0 := Lib.cell_of_heap HX.out 0
  have x1 := Lib.cell_of_heap HX.out 1
  have x2 := Lib.cell_of_heap HX.out 2
  have x3 := Lib.cell_of_heap HX.out 3
  simp only [List.getElem?_toArray, List.getElem?_cons_zero, List.getElem?_cons_succ] at x0 x1 x2 x3
  go_wp2_with (first | rw [← HW2.out, ← HTB.out] | (refine wpList_loadBig rfl 134 _ rfl tb 4 [.int .i64 tk, txt tt, .int .i64 tn, .int .i64 a1] big_tok rfl rfl HX.out ?_))
  clear x0 x1 x2 x3 HW2
  refine (HIs.out a1 w2).mono ?_
  rintro e w3 ⟨rfl, hb⟩
  have ht : Turn q w2 w3 := Turn.of hb
  have H3 := hide (H2.out.on hb)
  have HT3 := hide (HT2.out.trans ht)
  have HB3 := hide (HB2.out.turn ht cq)
  have hz3 : w.heap.size + 1 ≤ w3.heap.size := Nat.le_trans hz2 ht.size
  replace HX := hide (holds_turn HX.out ht hqt)
  clear hb ht H2 HT2 HB2 HIs
  have x0 := Lib.cell_of_heap HX.out 0
  have x1 := Lib.cell_of_heap HX.out 1
  have x2 := Lib.cell_of_heap HX.out 2
  have x3 := Lib.cell_of_heap HX.out 3
  simp only [List.getElem?_toArray, List.getElem?_cons_zero, List.getElem?_cons_succ] at x0 x1 x2 x3
  go_wp2_with (first | (refine wpList_loadBig rfl 134 _ rfl tb 4 [.int .i64 tk, txt tt, .int .i64 tn, .int .i64 a1] big_tok rfl rfl HX.out ?_))
  clear x0 x1 x2 x3
  refine (HAc.out w3 H3.out).mono ?_
  rintro e w4 ⟨rfl, h, ht⟩
  have H4 := hide h
  have HT4 := hide (HT3.out.trans ht)
  have HB4 := hide (HB3.out.turn ht cq)
  have hz4 : w.heap.size + 1 ≤ w4.heap.size := Nat.le_trans hz3 ht.size
  replace HX := hide (holds_turn HX.out ht hqt)
  clear h ht H3 HT3 HB3 HAc
  have x0 := Lib.cell_of_heap HX.out 0
  have x1 := Lib.cell_of_heap HX.out 1
  have x2 := Lib.cell_of_heap HX.out 2
  have x3 := Lib.cell_of_heap HX.out 3
  simp only [List.getElem?_toArray, List.getElem?_cons_zero, List.getElem?_cons_succ] at x0 x1 x2 x3
  go_wp2_with (first | (refine wpList_loadBig rfl 134 _ rfl tb 4 [.int .i64 tk, txt tt, .int .i64 tn, .int .i64 a1] big_tok rfl rfl HX.out ?_))
  clear x0 x1 x2 x3
  refine (HJ1.out a1 w4).mono ?_
  rintro e w5 ⟨rfl, hb⟩
  have ht : Turn q w4 w5 := Turn.of hb
  have H5 := hide (H4.out.on hb)
  have HT5 := hide (HT4.out.trans ht)
  have HB5 := hide (HB4.out.turn ht cq)
  have hz5 : w.heap.size + 1 ≤ w5.heap.size := Nat.le_trans hz4 ht.size
  replace HX := hide (holds_turn HX.out ht hqt)
  clear hb ht H4 HT4 HB4 HJ1
  have x0 := Lib.cell_of_heap HX.out 0
  have x1 := Lib.cell_of_heap HX.out 1
  have x2 := Lib.cell_of_heap HX.out 2
  have x3 := Lib.cell_of_heap HX.out 3
  simp only [List.getElem?_toArray, List.getElem?_cons_zero, List.getElem?_cons_succ] at x0 x1 x2 x3
  go_wp2_with (first | (refine wpList_loadBig rfl 134 _ rfl tb 4 [.int .i64 tk, txt tt, .int .i64 tn, .int .i64 a1] big_tok rfl rfl HX.out ?_))
  clear x0 x1 x2 x3
  refine (HJ2.out a1 w5).mono ?_
  rintro e w6 ⟨rfl, hb⟩
  have ht : Turn q w5 w6 := Turn.of hb
  have H6 := hide (H5.out.on hb)
  have HT6 := hide (HT5.out.trans ht)
  have HB6 := hide (HB5.out.turn ht cq)
  have hz6 : w.heap.size + 1 ≤ w6.heap.size := Nat.le_trans hz5 ht.size
  replace HX := hide (holds_turn HX.out ht hqt)
  clear hb ht H5 HT5 HB5 HJ2
  have x0 := Lib.cell_of_heap HX.out 0
  have x1 := Lib.cell_of_heap HX.out 1
  have x2 := Lib.cell_of_heap HX.out 2
  have x3 := Lib.cell_of_heap HX.out 3
  simp only [List.getElem?_toArray, List.getElem?_cons_zero, List.getElem?_cons_succ] at x0 x1 x2 x3
  go_wp2_with (first | (refine wpList_loadBig rfl 134 _ rfl tb 4 [.int .i64 tk, txt tt, .int .i64 tn, .int .i64 a1] big_tok rfl rfl HX.out ?_))
  clear x0 x1 x2 x3
  refine (HJ3.out a1 w6).mono ?_
  rintro e w7 ⟨rfl, hb⟩
  have ht : Turn q w6 w7 := Turn.of hb
  have H7 := hide (H6.out.on hb)
  have HT7 := hide (HT6.out.trans ht)
  have HB7 := hide (HB6.out.turn ht cq)
  have hz7 : w.heap.size + 1 ≤ w7.heap.size := Nat.le_trans hz6 ht.size
  replace HX := hide (holds_turn HX.out ht hqt)
  clear hb ht H6 HT6 HB6 HJ3
  go_wp2_with fail
  refine (HF.out w7 H7.out).mono ?_
  rintro e w8 ⟨rfl, h, ht⟩
  have H8 := hide h
  have HT8 := hide (HT7.out.trans ht)
  have HB8 := hide (HB7.out.turn ht cq)
  have hz8 : w.heap.size + 1 ≤ w8.heap.size := Nat.le_trans hz7 ht.size
  replace HX := hide (holds_turn HX.out ht hqt)
  clear h ht H7 HT7 HB7 HF
  go_wp2_with fail
  refine (HNm.out _ w8 H8.out).mono ?_
  rintro e w9 ⟨rfl, h, ht⟩
  have H9 := hide h
  have HT9 := hide (HT8.out.trans ht)
  have HB9 := hide (HB8.out.turn ht cq)
  have hz9 : w.heap.size + 1 ≤ w9.heap.size := Nat.le_trans hz8 ht.size
  replace HX := hide (holds_turn HX.out ht hqt)
  clear h ht H8 HT8 HB8 HNm
  go_wp2_with fail
  refine (colD_any (nameS (failS 51 s)).1 w9).mono ?_
  rintro e w10 ⟨⟨vs10, rfl, hv⟩, hb⟩
  have ht : Turn q w9 w10 := Turn.of hb
  have H10 := hide (H9.out.on hb)
  have HT10 := hide (HT9.out.trans ht)
  have HB10 := hide (HB9.out.turn ht cq)
  have hz10 : w.heap.size + 1 ≤ w10.heap.size := Nat.le_trans hz9 ht.size
  replace HX := hide (holds_turn HX.out ht hqt)
  have HV10 := hide (hv.stay (Stay.at (fun _ hb => Nat.le_trans hz9 hb) _))
  clear hv
  clear hb ht H9 HT9 HB9
  have hlen : vs10.length = 7 := HV10.out.1.trans (dE_len _)
  have hone := HV10.out.one_cell
  go_wp2_with ((refine wpList_storeBig rfl 36 _ _ rfl w.heap.size 7 vs10 big_expr hlen hone rfl rfl HB10.out ?_))
  refine bodyPost_ret (v := .agg vs10.toArray) (results_big rfl rfl big_expr hlen (set_row _ HB10.out.choose_spec.1)) rfl ?_
  exact ⟨vs10, rfl, HV10.out.ret (Nat.lt_succ_self _) (Nat.le_succ _) _, H10.out.row cq _, HT10.out.row (Nat.le_refl _) _⟩
 ·rw [hi] at HIs2
  clear hi
  skip
  go_enter Tryz.func155, Tryz.ntmps155
  go_wp2_with fail
  rw [← HW0.out]
  refine (HAh.out W0 H0.out).mono ?_
  rintro e w1 ⟨⟨a1, rfl⟩, hb⟩
  have ht : Turn q W0 w1 := Turn.of hb
  have H1 := hide (H0.out.on hb)
  have HT1 := hide (HT0.out.trans ht)
  have HB1 := hide (HB0.out.turn ht cq)
  have hz1 : w.heap.size + 1 ≤ w1.heap.size := Nat.le_trans hz0 ht.size
  clear hb ht H0 HT0 HB0 HAh
  obtain ⟨w2, hw2⟩ : ∃ W, W = w1.alloc (.cells #[.int .i64 tk, txt tt, .int .i64 tn, .int .i64 a1] 134) := ⟨_, rfl⟩
  have HW2 := hide hw2
  have H2 := hide (show ParAt q TL E w2 _ by rw [hw2]; exact H1.out.alloc _)
  have HT2 := hide (show Turn q w w2 by rw [hw2]; exact HT1.out.alloc _)
  obtain ⟨tb, htb⟩ : ∃ tb, tb = w1.heap.size := ⟨_, rfl⟩
  have HTB := hide htb
  have HX := hide (show HoldB tb 134 [.int .i64 tk, txt tt, .int .i64 tn, .int .i64 a1] w2 by rw [hw2, htb]; exact heap_alloc_new _ _)
  have hz2 : w.heap.size + 1 ≤ w2.heap.size := by rw [hw2]; simp; omega
  have hqt : q < tb := by omega
  have hrt : w.heap.size < tb := by omega
  have HB2 := hide (show BoxAt w.heap.size 36 7 w2 by rw [hw2]; exact HB1.out.turn ((Turn.refl q _).alloc _) cq)
  clear hw2 htb H1 HT1 HB1
  have x0 := Lib.cell_of_heap HX.out 0
  have x1 := Lib.cell_of_heap HX.out 1
  have x2 := Lib.cell_of_heap HX.out 2
  have x3 := Lib.cell_of_heap HX.out 3
  simp only [List.getElem?_toArray, List.getElem?_cons_zero, List.getElem?_cons_succ] at x0 x1 x2 x3
  go_wp2_with (first | rw [← HW2.out, ← HTB.out] | (refine wpList_loadBig rfl 134 _ rfl tb 4 [.int .i64 tk, txt tt, .int .i64 tn, .int .i64 a1] big_tok rfl rfl HX.out ?_))
  clear x0 x1 x2 x3 HW2
  refine (HIs.out a1 w2).mono ?_
  rintro e w3 ⟨rfl, hb⟩
  have ht : Turn q w2 w3 := Turn.of hb
  have H3 := hide (H2.out.on hb)
  have HT3 := hide (HT2.out.trans ht)
  have HB3 := hide (HB2.out.turn ht cq)
  have hz3 : w.heap.size + 1 ≤ w3.heap.size := Nat.le_trans hz2 ht.size
  replace HX := hide (holds_turn HX.out ht hqt)
  clear hb ht H2 HT2 HB2 HIs
  have x0 := Lib.cell_of_heap HX.out 0
  have x1 := Lib.cell_of_heap HX.out 1
  have x2 := Lib.cell_of_heap HX.out 2
  have x3 := Lib.cell_of_heap HX.out 3
  simp only [List.getElem?_toArray, List.getElem?_cons_zero, List.getElem?_cons_succ] at x0 x1 x2 x3
  go_wp2_with (first | (refine wpList_loadBig rfl 134 _ rfl tb 4 [.int .i64 tk, txt tt, .int .i64 tn, .int .i64 a1] big_tok rfl rfl HX.out ?_))
  clear x0 x1 x2 x3
  refine (HAh1.out w3 H3.out).mono ?_
  rintro e w4 ⟨⟨a4, rfl⟩, hb⟩
  have ht : Turn q w3 w4 := Turn.of hb
  have H4 := hide (H3.out.on hb)
  have HT4 := hide (HT3.out.trans ht)
  have HB4 := hide (HB3.out.turn ht cq)
  have hz4 : w.heap.size + 1 ≤ w4.heap.size := Nat.le_trans hz3 ht.size
  replace HX := hide (holds_turn HX.out ht hqt)
  clear hb ht H3 HT3 HB3 HAh1
  have x0 := Lib.cell_of_heap HX.out 0
  have x1 := Lib.cell_of_heap HX.out 1
  have x2 := Lib.cell_of_heap HX.out 2
  have x3 := Lib.cell_of_heap HX.out 3
  simp only [List.getElem?_toArray, List.getElem?_cons_zero, List.getElem?_cons_succ] at x0 x1 x2 x3
  go_wp2_with (first | (refine wpList_loadBig rfl 134 _ rfl tb 4 [.int .i64 tk, txt tt, .int .i64 tn, .int .i64 a1] big_tok rfl rfl HX.out ?_))
  clear x0 x1 x2 x3
  refine (HIs2.out a4 w4).mono ?_
  rintro e w5 ⟨rfl, hb⟩
  have ht : Turn q w4 w5 := Turn.of hb
  have H5 := hide (H4.out.on hb)
  have HT5 := hide (HT4.out.trans ht)
  have HB5 := hide (HB4.out.turn ht cq)
  have hz5 : w.heap.size + 1 ≤ w5.heap.size := Nat.le_trans hz4 ht.size
  replace HX := hide (holds_turn HX.out ht hqt)
  clear hb ht H4 HT4 HB4 HIs2
  have x0 := Lib.cell_of_heap HX.out 0
  have x1 := Lib.cell_of_heap HX.out 1
  have x2 := Lib.cell_of_heap HX.out 2
  have x3 := Lib.cell_of_heap HX.out 3
  simp only [List.getElem?_toArray, List.getElem?_cons_zero, List.getElem?_cons_succ] at x0 x1 x2 x3
  go_wp2_with (first | (refine wpList_loadBig rfl 134 _ rfl tb 4 [.int .i64 tk, txt tt, .int .i64 tn, .int .i64 a1] big_tok rfl rfl HX.out ?_))
  clear x0 x1 x2 x3
  refine (HAc.out w5 H5.out).mono ?_
  rintro e w6 ⟨rfl, h, ht⟩
  have H6 := hide h
  have HT6 := hide (HT5.out.trans ht)
  have HB6 := hide (HB5.out.turn ht cq)
  have hz6 : w.heap.size + 1 ≤ w6.heap.size := Nat.le_trans hz5 ht.size
  replace HX := hide (holds_turn HX.out ht hqt)
  clear h ht H5 HT5 HB5 HAc
  have x0 := Lib.cell_of_heap HX.out 0
  have x1 := Lib.cell_of_heap HX.out 1
  have x2 := Lib.cell_of_heap HX.out 2
  have x3 := Lib.cell_of_heap HX.out 3
  simp only [List.getElem?_toArray, List.getElem?_cons_zero, List.getElem?_cons_succ] at x0 x1 x2 x3
  go_wp2_with (first | (refine wpList_loadBig rfl 134 _ rfl tb 4 [.int .i64 tk, txt tt, .int .i64 tn, .int .i64 a1] big_tok rfl rfl HX.out ?_))
  clear x0 x1 x2 x3
  refine (HJ1.out a1 w6).mono ?_
  rintro e w7 ⟨rfl, hb⟩
  have ht : Turn q w6 w7 := Turn.of hb
  have H7 := hide (H6.out.on hb)
  have HT7 := hide (HT6.out.trans ht)
  have HB7 := hide (HB6.out.turn ht cq)
  have hz7 : w.heap.size + 1 ≤ w7.heap.size := Nat.le_trans hz6 ht.size
  replace HX := hide (holds_turn HX.out ht hqt)
  clear hb ht H6 HT6 HB6 HJ1
  have x0 := Lib.cell_of_heap HX.out 0
  have x1 := Lib.cell_of_heap HX.out 1
  have x2 := Lib.cell_of_heap HX.out 2
  have x3 := Lib.cell_of_heap HX.out 3
  simp only [List.getElem?_toArray, List.getElem?_cons_zero, List.getElem?_cons_succ] at x0 x1 x2 x3
  go_wp2_with (first | (refine wpList_loadBig rfl 134 _ rfl tb 4 [.int .i64 tk, txt tt, .int .i64 tn, .int .i64 a1] big_tok rfl rfl HX.out ?_))
  clear x0 x1 x2 x3
  refine (HJ2.out a1 w7).mono ?_
  rintro e w8 ⟨rfl, hb⟩
  have ht : Turn q w7 w8 := Turn.of hb
  have H8 := hide (H7.out.on hb)
  have HT8 := hide (HT7.out.trans ht)
  have HB8 := hide (HB7.out.turn ht cq)
  have hz8 : w.heap.size + 1 ≤ w8.heap.size := Nat.le_trans hz7 ht.size
  replace HX := hide (holds_turn HX.out ht hqt)
  clear hb ht H7 HT7 HB7 HJ2
  have x0 := Lib.cell_of_heap HX.out 0
  have x1 := Lib.cell_of_heap HX.out 1
  have x2 := Lib.cell_of_heap HX.out 2
  have x3 := Lib.cell_of_heap HX.out 3
  simp only [List.getElem?_toArray, List.getElem?_cons_zero, List.getElem?_cons_succ] at x0 x1 x2 x3
  go_wp2_with (first | (refine wpList_loadBig rfl 134 _ rfl tb 4 [.int .i64 tk, txt tt, .int .i64 tn, .int .i64 a1] big_tok rfl rfl HX.out ?_))
  clear x0 x1 x2 x3
  refine (HJ3.out a1 w8).mono ?_
  rintro e w9 ⟨rfl, hb⟩
  have ht : Turn q w8 w9 := Turn.of hb
  have H9 := hide (H8.out.on hb)
  have HT9 := hide (HT8.out.trans ht)
  have HB9 := hide (HB8.out.turn ht cq)
  have hz9 : w.heap.size + 1 ≤ w9.heap.size := Nat.le_trans hz8 ht.size
  replace HX := hide (holds_turn HX.out ht hqt)
  clear hb ht H8 HT8 HB8 HJ3
  go_wp2_with fail
  refine (HF.out w9 H9.out).mono ?_
  rintro e w10 ⟨rfl, h, ht⟩
  have H10 := hide h
  have HT10 := hide (HT9.out.trans ht)
  have HB10 := hide (HB9.out.turn ht cq)
  have hz10 : w.heap.size + 1 ≤ w10.heap.size := Nat.le_trans hz9 ht.size
  replace HX := hide (holds_turn HX.out ht hqt)
  clear h ht H9 HT9 HB9 HF
  go_wp2_with fail
  refine (HNm.out _ w10 H10.out).mono ?_
  rintro e w11 ⟨rfl, h, ht⟩
  have H11 := hide h
  have HT11 := hide (HT10.out.trans ht)
  have HB11 := hide (HB10.out.turn ht cq)
  have hz11 : w.heap.size + 1 ≤ w11.heap.size := Nat.le_trans hz10 ht.size
  replace HX := hide (holds_turn HX.out ht hqt)
  clear h ht H10 HT10 HB10 HNm
  go_wp2_with fail
  refine (colD_any (nameS (failS 51 s)).1 w11).mono ?_
  rintro e w12 ⟨⟨vs12, rfl, hv⟩, hb⟩
  have ht : Turn q w11 w12 := Turn.of hb
  have H12 := hide (H11.out.on hb)
  have HT12 := hide (HT11.out.trans ht)
  have HB12 := hide (HB11.out.turn ht cq)
  have hz12 : w.heap.size + 1 ≤ w12.heap.size := Nat.le_trans hz11 ht.size
  replace HX := hide (holds_turn HX.out ht hqt)
  have HV12 := hide (hv.stay (Stay.at (fun _ hb => Nat.le_trans hz11 hb) _))
  clear hv
  clear hb ht H11 HT11 HB11
  have hlen : vs12.length = 7 := HV12.out.1.trans (dE_len _)
  have hone := HV12.out.one_cell
  go_wp2_with ((refine wpList_storeBig rfl 36 _ _ rfl w.heap.size 7 vs12 big_expr hlen hone rfl rfl HB12.out ?_))
  refine bodyPost_ret (v := .agg vs12.toArray) (results_big rfl rfl big_expr hlen (set_row _ HB12.out.choose_spec.1)) rfl ?_
  exact ⟨vs12, rfl, HV12.out.ret (Nat.lt_succ_self _) (Nat.le_succ _) _, H12.out.row cq _, HT12.out.row (Nat.le_refl _) _⟩
end Go.Proofs.YtljoajjlkjjgeaaGreatDoor
namespace Go.Proofs.YtljoajjlkjjgeaaGreatDoor
open Go.RowKit Go.Sort LM Go

/-- The numbers of tokens are those of the language. -/
def TokOk (TL : List Tk) : Prop := ∀ x ∈ TL, 0 ≤ x.n ∧ x.n ≤ 9223372036854775807
def Nb (s : PSt) : Prop := ∀ t ∈ s.L, 0 ≤ t.2.2 ∧ t.2.2 ≤ 9223372036854775807
theorem ParAt.nb {q : Nat} {TL : List Tk} {E : Nat} {w : World} {s : PSt} (h : ParAt q TL E w s) (hT : TokOk TL) : Nb s := by
 obtain ⟨A, cap, K, hK, hsuf, _⟩ := h.ex
 intro t ht
 rw [← hK] at ht
 obtain ⟨x, hx, rfl⟩ := List.mem_map.1 ht
 exact hT x (hsuf.subset hx)
theorem Nb.tr {s t : PSt} (h : Nb s) (k : Tr s t) : Nb t := fun x hx => h x (k.suf.subset hx)
theorem Nb.ahead {s : PSt} (h : Nb s) (i : Nat) : 0 ≤ (aheadS i s).2.2 ∧ (aheadS i s).2.2 ≤ 9223372036854775807 := by
 unfold aheadS
 rw [List.getD_eq_getElem?_getD]
 cases hx : s.L[i]? with
 | none => exact ⟨by decide, by decide⟩
 | some x => exact h x (List.mem_of_getElem? hx)
theorem Nb.number {s : PSt} (h : Nb s) (hw : Wf s) : 0 ≤ (numberS s).1 ∧ (numberS s).1 ≤ 9223372036854775807 := by
 show 0 ≤ (aheadS 0 (deepS (if (aheadS 0 s).1 = 2 then s else failS 51 s))).2.2 ∧ (aheadS 0 (deepS (if (aheadS 0 s).1 = 2 then s else failS 51 s))).2.2 ≤ _
 split
 ·exact (h.tr (deep_tr hw)).ahead 0
 ·have := fail_tr (e := 51) (Or.inl rfl) hw
  exact ((h.tr this).tr (deep_tr this.wf)).ahead 0
/-- What is asked of expr at n. -/
def Cexpr (q : Nat) (TL : List Tk) (E F n : Nat) : Prop := ∀ s w, Ok F n s → ParAt q TL E w s → Calls Tryz.prog 73 #[pP q] w (AggTo q TL E w (dE (exprG F n s).1) (exprG F n s).2)
section
variable {q : Nat} {TL : List Tk} {E F n : Nat}
theorem argument_ok (HE : Cexpr q TL E F n) (s : PSt) (w : World) (hs : Okp F n s) (H : ParAt q TL E w s) :
  Calls Tryz.prog 162 #[pP q] w (AggTo q TL E w (dE (nestedS (exprG F n) s).1) (nestedS (exprG F n) s).2) :=
 argumentW (nestedS (exprG F n) s) s w H fun w1 h1 => nestedExpr_any _ ef_expr dE dE_len (nice_expr F n) s w1 hs.d0 hs.big h1 fun w2 h2 => HE _ w2 hs.deep h2
theorem arguments_ok (hF : F ≤ 20000) (HE : Cexpr q TL E F n) (s : PSt) (w : World) (hs : Okp F n s) (H : ParAt q TL E w s) :
  Calls Tryz.prog 159 #[pP q] w (OneTo q TL E w (.row 7 (dEs (listS F (nestedS (exprG F n)) s).1)) (listS F (nestedS (exprG F n)) s).2) := by
 rw [dEs_map]
 exact argumentsW _ _ s w H fun w1 h1 => listExpr_any dE (good_okp F n) (nice_nested (nice_expr F n)) hF dE_len (fun s1 w1 h k => argument_ok HE s1 w1 h k) s w1 hs h1
theorem enclosedExprs_ok (hF : F ≤ 20000) (HE : Cexpr q TL E F n) (s : PSt) (w : World) (hs : Okp F n (expectS [40] s)) (H : ParAt q TL E w s) :
  Calls Tryz.prog 158 #[pP q, .func (.func 159) #[pP q] #[]] w (OneTo q TL E w (.row 7 (dEs (enclosedS (listS F (nestedS (exprG F n))) s).1)) (enclosedS (listS F (nestedS (exprG F n))) s).2) :=
 enclosedExprs_any (fun l => .row 7 (dEs l)) s w H fun w1 h1 => arguments_ok hF HE _ w1 hs h1
theorem enclosedExpr_ok (HE : Cexpr q TL E F n) (s : PSt) (w : World) (hs : Ok F n (expectS [40] s)) (H : ParAt q TL E w s) :
  Calls Tryz.prog 156 #[pP q] w (AggTo q TL E w (dE (enclosedS (exprG F n) s).1) (enclosedS (exprG F n) s).2) :=
 enclosedExprW (enclosedS (exprG F n) s) s w H fun w1 h1 => enclosedExpr_any dE dE_len s w1 h1 fun w2 h2 => HE _ w2 hs h2
theorem ef_enc : ∀ args w, (callFunc 156 args).run Tryz.prog w = .ok (.enter 156 args) w := ef_enclosedExpr
theorem primary_ok (hF : F ≤ 20000) (HE : Cexpr q TL E F n) (s : PSt) (w : World) (hs : Ok F (n + 1) s) (H : ParAt q TL E w s) :
  Calls Tryz.prog 155 #[pP q] w (AggTo q TL E w (dE (primS F (exprG F n) s).1) (primS F (exprG F n) s).2) := by
 have hw := H.wf
 unfold primS
 by_cases h2 : (aheadS 0 s).1 = 2
 ·rw [if_pos h2]; exact primNum s w H h2
 rw [if_neg h2]
 by_cases h3 : (aheadS 0 s).1 = 3
 ·rw [if_pos h3]; exact primLit s w H h3
 rw [if_neg h3]
 by_cases hp : isT (aheadS 0 s) [40] = true
 ·rw [if_pos hp]
  refine primParen (nestedS (enclosedS (exprG F n)) s) s w H h2 h3 hp fun w1 h1 => ?_
  refine nestedExpr_any _ ef_enclosedExpr dE dE_len (nice_enclosed (nice_expr F n)) s w1 hs.d0 hs.big h1 fun w2 h4 => ?_
  have hx : (expectS [40] ⟨s.L, s.d + 1, s.b⟩).L.length < s.L.length := expect_lt (s := ⟨s.L, s.d + 1, s.b⟩) hw hp
  have hd : (expectS [40] ⟨s.L, s.d + 1, s.b⟩).d = s.d + 1 := ((nice_expect [40]).tr ⟨s.L, s.d + 1, s.b⟩ hw).d
  exact enclosedExpr_ok HE _ w2 ⟨by have := hs.len; omega, by have := hs.lt; omega, by rw [hd]; have := hs.d0; omega, by rw [hd]; have := hs.d1; omega⟩ h4
 rw [if_neg hp]
 have hp' : isT (aheadS 0 s) [40] = false := by simpa using hp
 by_cases hc : (aheadS 0 s).1 = 1 ∧ isT (aheadS 1 s) [40] = true
 ·rw [if_pos hc]
  have hl := name_lt hw hc.1
  have tn := nice_name.tr s hw
  have te : Tr (nameS s).2 (expectS [40] (nameS s).2) := (nice_expect [40]).tr _ tn.wf
  have hz := size_args F (nice_expr F n) (size_expr F n) (nameS s).2 tn.wf
  have := hs.len
  refine primCall (enclosedS (listS F (nestedS (exprG F n))) (nameS s).2) s w H hc.1 hp' hc.2 (by omega) fun w1 h1 => ?_
  exact enclosedExprs_ok hF HE _ w1 (hs.next (te.d.trans tn.d) (Nat.lt_of_le_of_lt te.len hl)) h1
 rw [if_neg hc]
 by_cases hu : isT (aheadS 0 s) [110, 117, 108, 108] = true
 ·rw [if_pos hu]; exact primNull s w H h2 h3 hp' hc hu
 rw [if_neg hu]
 have hu' : isT (aheadS 0 s) [110, 117, 108, 108] = false := by simpa using hu
 unfold badWord
 cases ha : isT (aheadS 0 s) [97, 110, 100]
 ·cases ho : isT (aheadS 0 s) [111, 114]
  ·cases ht : isT (aheadS 0 s) [110, 111, 116]
   ·exact primCol s w H h2 h3 hp' hc hu' ha ho ht
   ·exact primBadN s w H h2 h3 hp' hc hu' ha ho ht
  ·exact primBadO s w H h2 h3 hp' hc hu' ha ho
 ·exact primBadA s w H h2 h3 hp' hc hu' ha
theorem isT_nil {s : PSt} {x : List UInt8} (h : s.L = []) : isT (aheadS 0 s) x = false := by
 unfold aheadS
 rw [h]
 rfl
theorem minusG_yes {p : Rule XT} {m : Nat} {s : PSt} (hc : isT (aheadS 0 s) [45] = true) : minusG p (m + 1) s = (if (aheadS 0 (takeS s).2).1 = 2 ∧ 0 < (aheadS 0 (takeS s).2).2.2 then (conE (1, -(numberS (takeS s).2).1, z0), (numberS (takeS s).2).2)
   else (unE (ba [45]) (nestedS (minusG p m) (takeS s).2).1, (nestedS (minusG p m) (takeS s).2).2)) := by
 rw [minusG]; exact if_pos hc
theorem minusG_no {p : Rule XT} {m : Nat} {s : PSt} (hc : isT (aheadS 0 s) [45] = false) : minusG p m s = p s := by
 cases m with
 | zero => rfl
 | succ m => rw [minusG]; exact if_neg (by simp [hc])
theorem notG_yes {p : Rule XT} {m : Nat} {s : PSt} (hc : isT (aheadS 0 s) [110, 111, 116] = true) : notG p (m + 1) s = (unE (ba [110, 111, 116]) (nestedS (notG p m) (takeS s).2).1, (nestedS (notG p m) (takeS s).2).2) := by
 rw [notG]; exact if_pos hc
theorem notG_no {p : Rule XT} {m : Nat} {s : PSt} (hc : isT (aheadS 0 s) [110, 111, 116] = false) : notG p m s = p s := by
 cases m with
 | zero => rfl
 | succ m => rw [notG]; exact if_neg (by simp [hc])
theorem minus_ok (hF : F ≤ 20000) (hT : TokOk TL) (HE : Cexpr q TL E F n) : ∀ (m : Nat) (s : PSt) (w : World), Ok F (n + 1) s → s.L.length ≤ m → ParAt q TL E w s →
  Calls Tryz.prog 154 #[pP q] w (AggTo q TL E w (dE (minusG (primS F (exprG F n)) m s).1) (minusG (primS F (exprG F n)) m s).2)
 | m, s, w, hs, hm, H => by
  have hw := H.wf
  cases hc : isT (aheadS 0 s) [45] with
  | false =>
   rw [minusG_no hc]
   exact minusNo _ s w H hc fun w1 h1 => primary_ok hF HE s w1 hs h1
  | true =>
   have hlt := take_lt hw hc
   have ht := take_tr hw
   cases m with
   | zero => omega
   | succ m =>
    rw [minusG_yes hc]
    by_cases hn : (aheadS 0 (takeS s).2).1 = 2 ∧ 0 < (aheadS 0 (takeS s).2).2.2
    ·rw [if_pos hn]
     have hb := ((H.nb hT).tr ht).number ht.wf
     exact minusNum s w H hc hn hb.1 hb.2
    ·rw [if_neg hn]
     have hsz := size_nested (size_minusG (nice_prim F (nice_expr F n)) (size_prim F (nice_expr F n) (size_expr F n)) m) (takeS s).2 ht.wf
     have := hs.len
     refine minusYes (nestedS (minusG (primS F (exprG F n)) m) (takeS s).2) s w H hc (by omega) hn fun w1 h1 => ?_
     refine nestedExpr_any _ ef_minus dE dE_len (nice_minusG (nice_prim F (nice_expr F n)) m) (takeS s).2 w1 (by rw [ht.d]; exact hs.d0) (by rw [ht.d]; exact hs.big) h1 fun w2 h2 => ?_
     exact minus_ok hF hT HE m ⟨(takeS s).2.L, (takeS s).2.d + 1, (takeS s).2.b⟩ w2 (hs.deeper (by show (takeS s).2.d + 1 = _; rw [ht.d]) hlt) (by show (takeS s).2.L.length ≤ m; omega) h2
theorem product_ok (hF : F ≤ 20000) (hT : TokOk TL) (HE : Cexpr q TL E F n) (s : PSt) (w : World) (hs : Ok F (n + 1) s) (H : ParAt q TL E w s) :
  Calls Tryz.prog 151 #[pP q] w (AggTo q TL E w (dE (productS F (exprG F n) s).1) (productS F (exprG F n) s).2) :=
 productW _ s w H fun A cap w1 h1 hA => chain_any _ ef_minus (good_ok F (n + 1)) (nice_minus F (nice_expr F n)) mulOps A cap (by decide) (fun s1 w1 ok h => minus_ok hF hT HE F s1 w1 ok ok.len h) s w1 hs h1 hA
theorem sum_ok (hF : F ≤ 20000) (hT : TokOk TL) (HE : Cexpr q TL E F n) (s : PSt) (w : World) (hs : Ok F (n + 1) s) (H : ParAt q TL E w s) :
  Calls Tryz.prog 148 #[pP q] w (AggTo q TL E w (dE (sumS F (exprG F n) s).1) (sumS F (exprG F n) s).2) :=
 sumW _ s w H fun A cap w1 h1 hA => chain_any _ ef_product (good_ok F (n + 1)) (nice_product F (nice_expr F n)) addOps A cap (by decide) (fun s1 w1 ok h => product_ok hF hT HE s1 w1 ok h) s w1 hs h1 hA
theorem compare_ok (hF : F ≤ 20000) (hT : TokOk TL) (HE : Cexpr q TL E F n) (s : PSt) (w : World) (hs : Ok F (n + 1) s) (H : ParAt q TL E w s) :
  Calls Tryz.prog 140 #[pP q] w (AggTo q TL E w (dE (compareS (sumS F (exprG F n)) s).1) (compareS (sumS F (exprG F n)) s).2) :=
 compare_any (good_ok F (n + 1)) (nice_sum F (nice_expr F n)) (fun s1 w1 ok h => sum_ok hF hT HE s1 w1 ok h) s w hs H
theorem not_ok (hF : F ≤ 20000) (hT : TokOk TL) (HE : Cexpr q TL E F n) : ∀ (m : Nat) (s : PSt) (w : World), Ok F (n + 1) s → s.L.length ≤ m → ParAt q TL E w s →
  Calls Tryz.prog 129 #[pP q] w (AggTo q TL E w (dE (notG (compareS (sumS F (exprG F n))) m s).1) (notG (compareS (sumS F (exprG F n))) m s).2)
 | m, s, w, hs, hm, H => by
  have hw := H.wf
  cases hc : isT (aheadS 0 s) [110, 111, 116] with
  | false =>
   rw [notG_no hc]
   exact notNo _ s w H hc fun w1 h1 => compare_ok hF hT HE s w1 hs h1
  | true =>
   have hlt := take_lt hw hc
   have ht := take_tr hw
   cases m with
   | zero => omega
   | succ m =>
    rw [notG_yes hc]
    have hsz := size_nested (size_notG (nice_compare (nice_sum F (nice_expr F n))) (size_compare (nice_sum F (nice_expr F n)) (size_chain F (nice_product F (nice_expr F n)) (size_chain F (nice_minus F (nice_expr F n)) (size_minus F (nice_expr F n) (size_expr F n)) _) _)) m) (takeS s).2 ht.wf
    have := hs.len
    refine notYes (nestedS (notG (compareS (sumS F (exprG F n))) m) (takeS s).2) s w H hc (by omega) fun w1 h1 => ?_
    refine nestedExpr_any _ ef_not dE dE_len (nice_notG (nice_compare (nice_sum F (nice_expr F n))) m) (takeS s).2 w1 (by rw [ht.d]; exact hs.d0) (by rw [ht.d]; exact hs.big) h1 fun w2 h2 => ?_
    exact not_ok hF hT HE m ⟨(takeS s).2.L, (takeS s).2.d + 1, (takeS s).2.b⟩ w2 (hs.deeper (by show (takeS s).2.d + 1 = _; rw [ht.d]) hlt) (by show (takeS s).2.L.length ≤ m; omega) h2
theorem and_ok (hF : F ≤ 20000) (hT : TokOk TL) (HE : Cexpr q TL E F n) (s : PSt) (w : World) (hs : Ok F (n + 1) s) (H : ParAt q TL E w s) :
  Calls Tryz.prog 108 #[pP q] w (AggTo q TL E w (dE (andS F (exprG F n) s).1) (andS F (exprG F n) s).2) :=
 andW _ s w H fun A cap w1 h1 hA => chain_any _ ef_not (good_ok F (n + 1)) (nice_not F (nice_expr F n)) [[97, 110, 100]] A cap (by decide) (fun s1 w1 ok h => not_ok hF hT HE F s1 w1 ok ok.len h) s w1 hs h1 hA
theorem expr_step (hF : F ≤ 20000) (hT : TokOk TL) (HE : Cexpr q TL E F n) : Cexpr q TL E F (n + 1) := fun s w hs H =>
 exprW _ s w H fun A cap w1 h1 hA => chain_any _ ef_and (good_ok F (n + 1)) (nice_and F (nice_expr F n)) [[111, 114]] A cap (by decide) (fun s1 w1 ok h => and_ok hF hT HE s1 w1 ok h) s w1 hs h1 hA
end
theorem expr_any {q : Nat} {TL : List Tk} {E F : Nat} (hF : F ≤ 20000) (hT : TokOk TL) : ∀ n, Cexpr q TL E F n
 | 0 => fun s w hs _ => by have := hs.lt; omega
 | n + 1 => expr_step hF hT (expr_any hF hT n)
end Go.Proofs.YtljoajjlkjjgeaaGreatDoor
