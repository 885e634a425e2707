/-
  Names, pairs, orders: the small rules.
  Schemes, mappings, inputs.
-/
import Derived.Test.YtljoajjlkjjgeaaGreatDoorMX4
namespace Go.Proofs.YtljoajjlkjjgeaaGreatDoor
open Go.RowKit Go.Sort LM Go

attribute [local go_sem] fld_tok0 fld_tok1 fld_tok2
set_option maxHeartbeats 8000000 in
set_option maxRecDepth 100000 in
theorem as_any {q : Nat} {TL : List Tk} {E : Nat} (s : PSt) (w : World) (H : ParAt q TL E w s) :
  Calls Tryz.prog 109 #[pP q] w (StepTo q TL E w (.string (asS s).1) (asS s).2) := by
 have HNm := hide (fun s1 w1 (h : ParAt q TL E w1 s1) => name_any w1 h)
 unfold StepTo at HNm
 show Calls _ _ _ _ (StepTo q TL E w (.string (nameS (expectS [97, 115] s)).1) (nameS (expectS [97, 115] s)).2)
 have cq := H.lt
 have hqq : q < w.heap.size := cq
 have H0 := hide H
 have HT0 := hide (Turn.refl q w)
 have hz0 : w.heap.size ≤ w.heap.size := Nat.le_refl _
 unfold StepTo
 clear H
 go_enter Tryz.func109, Tryz.ntmps109
 go_wp2_with fail
 refine (expect_any [97, 115] w H0.out).mono ?_
 rintro e w1 ⟨rfl, h, ht⟩
 have H1 := hide h
 have HT1 := hide (HT0.out.trans ht)
 have hz1 : w.heap.size ≤ w1.heap.size := Nat.le_trans hz0 ht.size
 clear h ht H0 HT0
 go_wp2_with fail
 refine (HNm.out _ w1 H1.out).mono ?_
 rintro e w2 ⟨rfl, h, ht⟩
 have H2 := hide h
 have HT2 := hide (HT1.out.trans ht)
 have hz2 : w.heap.size ≤ w2.heap.size := Nat.le_trans hz1 ht.size
 clear h ht H1 HT1 HNm
 go_wp2_with fail
 go_ret
 exact ⟨rfl, H2.out, HT2.out⟩
set_option maxHeartbeats 8000000 in
set_option maxRecDepth 100000 in
theorem optNameY {q : Nat} {TL : List Tk} {E : Nat} (s : PSt) (w : World) (H : ParAt q TL E w s) (hk : (aheadS 0 s).1 = 1) :
  Calls Tryz.prog 112 #[pP q] w (StepTo q TL E w (.string (nameS s).1) (nameS s).2) := by
 have HNm := hide (fun s1 w1 (h : ParAt q TL E w1 s1) => name_any w1 h)
 unfold StepTo at HNm
 have HAh := hide (fun w1 (h : ParAt q TL E w1 s) => aheadI_any 0 (by decide) w1 h)
 generalize aheadS 0 s = t3 at *
 obtain ⟨tk, tt, tn⟩ := t3
 have hk1 : (tk != 1) = false := by simpa using hk
 clear hk
 have cq := H.lt
 have hqq : q < w.heap.size := cq
 have H0 := hide H
 have HT0 := hide (Turn.refl q w)
 have hz0 : w.heap.size ≤ w.heap.size := Nat.le_refl _
 unfold StepTo
 clear H
 go_enter Tryz.func112, Tryz.ntmps112
 go_wp2_with fail
 refine (HAh.out w H0.out).mono ?_
 rintro e w1 ⟨⟨a1, rfl⟩, hb⟩
 have ht : Turn q w w1 := Turn.of hb
 have H1 := hide (H0.out.on hb)
 have HT1 := hide (HT0.out.trans ht)
 have hz1 : w.heap.size ≤ w1.heap.size := Nat.le_trans hz0 ht.size
 clear hb ht H0 HT0 HAh
 simp only [tok3]
 go_wp2_with fail
 refine (HNm.out _ w1 H1.out).mono ?_
 rintro e w2 ⟨rfl, h, ht⟩
 have H2 := hide h
 have HT2 := hide (HT1.out.trans ht)
 have hz2 : w.heap.size ≤ w2.heap.size := Nat.le_trans hz1 ht.size
 clear h ht H1 HT1 HNm
 go_wp2_with fail
 go_ret
 exact ⟨rfl, H2.out, HT2.out⟩
set_option maxHeartbeats 8000000 in
set_option maxRecDepth 100000 in
theorem optNameN {q : Nat} {TL : List Tk} {E : Nat} (s : PSt) (w : World) (H : ParAt q TL E w s) (hk : (aheadS 0 s).1 ≠ 1) :
  Calls Tryz.prog 112 #[pP q] w (StepTo q TL E w (.string z0) s) := by
 have HNm := hide (fun s1 w1 (h : ParAt q TL E w1 s1) => name_any w1 h)
 unfold StepTo at HNm
 have HAh := hide (fun w1 (h : ParAt q TL E w1 s) => aheadI_any 0 (by decide) w1 h)
 generalize aheadS 0 s = t3 at *
 obtain ⟨tk, tt, tn⟩ := t3
 have hk1 : (tk != 1) = true := by simpa using hk
 clear hk
 have cq := H.lt
 have hqq : q < w.heap.size := cq
 have H0 := hide H
 have HT0 := hide (Turn.refl q w)
 have hz0 : w.heap.size ≤ w.heap.size := Nat.le_refl _
 unfold StepTo
 clear H
 go_enter Tryz.func112, Tryz.ntmps112
 go_wp2_with fail
 refine (HAh.out w H0.out).mono ?_
 rintro e w1 ⟨⟨a1, rfl⟩, hb⟩
 have ht : Turn q w w1 := Turn.of hb
 have H1 := hide (H0.out.on hb)
 have HT1 := hide (HT0.out.trans ht)
 have hz1 : w.heap.size ≤ w1.heap.size := Nat.le_trans hz0 ht.size
 clear hb ht H0 HT0 HAh
 simp only [tok3]
 go_wp2_with fail
 clear HNm
 go_ret
 exact ⟨rfl, H1.out, HT1.out⟩
theorem optName_any {q : Nat} {TL : List Tk} {E : Nat} (s : PSt) (w : World) (H : ParAt q TL E w s) :
  Calls Tryz.prog 112 #[pP q] w (OneTo q TL E w (dS (optNameS s).1) (optNameS s).2) := by
 unfold optNameS
 split
 ·rename_i h
  refine (optNameY s w H h).mono ?_
  rintro e w' ⟨rfl, h1, h2⟩
  exact ⟨_, rfl, rep_str _ _ _, h1, h2⟩
 ·rename_i h
  refine (optNameN s w H h).mono ?_
  rintro e w' ⟨rfl, h1, h2⟩
  exact ⟨_, rfl, rep_str _ _ _, h1, h2⟩
theorem nameO_any {q : Nat} {TL : List Tk} {E : Nat} (s : PSt) (w : World) (H : ParAt q TL E w s) :
  Calls Tryz.prog 70 #[pP q] w (OneTo q TL E w (dS (nameS s).1) (nameS s).2) := by
 refine (name_any w H).mono ?_
 rintro e w' ⟨rfl, h1, h2⟩
 exact ⟨_, rfl, rep_str _ _ _, h1, h2⟩
set_option maxHeartbeats 8000000 in
set_option maxRecDepth 100000 in
theorem pair_any {q : Nat} {TL : List Tk} {E : Nat} (s : PSt) (w : World) (H : ParAt q TL E w s) :
  Calls Tryz.prog 77 #[pP q] w (AggTo q TL E w (dPair (pairS s).1) (pairS s).2) := by
 have HNm := hide (fun s1 w1 (h : ParAt q TL E w1 s1) => name_any w1 h)
 unfold StepTo at HNm
 have cq := H.lt
 have hqq : q < w.heap.size + 1 := by omega
 obtain ⟨W0, hW0⟩ : ∃ W0, W0 = w.alloc (.cells #[.string ⟨#[]⟩, .string ⟨#[]⟩] 70) := ⟨_, rfl⟩
 have H0 := hide (show ParAt q TL E W0 s by rw [hW0]; exact H.alloc _)
 have HT0 := hide (show Turn q w W0 by rw [hW0]; exact (Turn.refl _ _).alloc _)
 have HB0 := hide (show BoxAt w.heap.size 70 2 W0 by rw [hW0]; exact box_new _ _ _ rfl)
 have hz0 : w.heap.size + 1 ≤ W0.heap.size := by rw [hW0]; simp
 have HW0 := hide hW0
 clear hW0
 unfold AggTo
 clear H
 go_enter Tryz.func77, Tryz.ntmps77
 go_wp2_with fail
 rw [← HW0.out]
 refine (HNm.out _ W0 H0.out).mono ?_
 rintro e w1 ⟨rfl, h, ht⟩
 have H1 := hide h
 have HT1 := hide (HT0.out.trans ht)
 have HB1 := hide (HB0.out.turn ht cq)
 have hz1 : w.heap.size + 1 ≤ w1.heap.size := Nat.le_trans hz0 ht.size
 clear h ht H0 HT0 HB0
 go_wp2_with fail
 refine (expect_any [61] w1 H1.out).mono ?_
 rintro e w2 ⟨rfl, h, ht⟩
 have H2 := hide h
 have HT2 := hide (HT1.out.trans ht)
 have HB2 := hide (HB1.out.turn ht cq)
 have hz2 : w.heap.size + 1 ≤ w2.heap.size := Nat.le_trans hz1 ht.size
 clear h ht H1 HT1 HB1
 go_wp2_with fail
 refine (HNm.out _ w2 H2.out).mono ?_
 rintro e w3 ⟨rfl, h, ht⟩
 have H3 := hide h
 have HT3 := hide (HT2.out.trans ht)
 have HB3 := hide (HB2.out.turn ht cq)
 have hz3 : w.heap.size + 1 ≤ w3.heap.size := Nat.le_trans hz2 ht.size
 clear h ht H2 HT2 HB2 HNm
 go_wp2_with (refine wpList_storeBig rfl 70 _ _ rfl w.heap.size 2 [.string (nameS s).1, .string (nameS (expectS [61] (nameS s).2)).1] big_pair rfl (by simp [Value.oneCell']) rfl rfl HB3.out ?_)
 refine bodyPost_ret (v := .agg #[.string (nameS s).1, .string (nameS (expectS [61] (nameS s).2)).1]) (results_big (vs := [.string (nameS s).1, .string (nameS (expectS [61] (nameS s).2)).1]) rfl rfl big_pair rfl (set_row _ HB3.out.choose_spec.1)) rfl ?_
 exact ⟨[.string (nameS s).1, .string (nameS (expectS [61] (nameS s).2)).1], rfl, RepC.cons (rep_str _ _ _) (RepC.cons (rep_str _ _ _) (RepC.nil _ _)), H3.out.row cq _, HT3.out.row (Nat.le_refl _) _⟩
set_option maxHeartbeats 8000000 in
set_option maxRecDepth 100000 in
theorem order_any {q : Nat} {TL : List Tk} {E : Nat} (s : PSt) (w : World) (H : ParAt q TL E w s) :
  Calls Tryz.prog 83 #[pP q] w (AggTo q TL E w (dOrd (orderS s).1) (orderS s).2) := by
 have HNm := hide (fun s1 w1 (h : ParAt q TL E w1 s1) => name_any w1 h)
 unfold StepTo at HNm
 have cq := H.lt
 have hqq : q < w.heap.size + 1 := by omega
 obtain ⟨W0, hW0⟩ : ∃ W0, W0 = w.alloc (.cells #[.string ⟨#[]⟩, .bool false] 74) := ⟨_, rfl⟩
 have H0 := hide (show ParAt q TL E W0 s by rw [hW0]; exact H.alloc _)
 have HT0 := hide (show Turn q w W0 by rw [hW0]; exact (Turn.refl _ _).alloc _)
 have HB0 := hide (show BoxAt w.heap.size 74 2 W0 by rw [hW0]; exact box_new _ _ _ rfl)
 have hz0 : w.heap.size + 1 ≤ W0.heap.size := by rw [hW0]; simp
 have HW0 := hide hW0
 clear hW0
 unfold AggTo
 have HAc := hide (fun w1 (h : ParAt q TL E w1 (nameS s).2) => accept_any [100, 111, 119, 110] w1 h)
 unfold StepTo at HAc
 clear H
 go_enter Tryz.func83, Tryz.ntmps83
 go_wp2_with fail
 rw [← HW0.out]
 refine (HNm.out _ W0 H0.out).mono ?_
 rintro e w1 ⟨rfl, h, ht⟩
 have H1 := hide h
 have HT1 := hide (HT0.out.trans ht)
 have HB1 := hide (HB0.out.turn ht cq)
 have hz1 : w.heap.size + 1 ≤ w1.heap.size := Nat.le_trans hz0 ht.size
 clear h ht H0 HT0 HB0 HNm
 go_wp2_with fail
 refine (HAc.out w1 H1.out).mono ?_
 rintro e w2 ⟨rfl, h, ht⟩
 have H2 := hide h
 have HT2 := hide (HT1.out.trans ht)
 have HB2 := hide (HB1.out.turn ht cq)
 have hz2 : w.heap.size + 1 ≤ w2.heap.size := Nat.le_trans hz1 ht.size
 clear h ht H1 HT1 HB1 HAc
 go_wp2_with (refine wpList_storeBig rfl 74 _ _ rfl w.heap.size 2 [.string (nameS s).1, .bool (isT (aheadS 0 (nameS s).2) [100, 111, 119, 110])] big_ord rfl (by simp [Value.oneCell']) rfl rfl HB2.out ?_)
 refine bodyPost_ret (v := .agg #[.string (nameS s).1, .bool (isT (aheadS 0 (nameS s).2) [100, 111, 119, 110])]) (results_big (vs := [.string (nameS s).1, .bool (isT (aheadS 0 (nameS s).2) [100, 111, 119, 110])]) rfl rfl big_ord rfl (set_row _ HB2.out.choose_spec.1)) rfl ?_
 exact ⟨[.string (nameS s).1, .bool (isT (aheadS 0 (nameS s).2) [100, 111, 119, 110])], rfl, RepC.cons (rep_str _ _ _) (RepC.cons (rep_bool _ _ _) (RepC.nil _ _)), H2.out.row cq _, HT2.out.row (Nat.le_refl _) _⟩
set_option maxHeartbeats 8000000 in
set_option maxRecDepth 100000 in
theorem columnP_any {q : Nat} {TL : List Tk} {E : Nat} (s : PSt) (w : World) (H : ParAt q TL E w s) :
  Calls Tryz.prog 114 #[pP q] w (AggTo q TL E w (dCol (colS s).1) (colS s).2) := by
 have HNm := hide (fun s1 w1 (h : ParAt q TL E w1 s1) => name_any w1 h)
 unfold StepTo at HNm
 have cq := H.lt
 have hqq : q < w.heap.size + 1 := by omega
 obtain ⟨W0, hW0⟩ : ∃ W0, W0 = w.alloc (.cells #[.string ⟨#[]⟩, .int .i64 0] 45) := ⟨_, rfl⟩
 have H0 := hide (show ParAt q TL E W0 s by rw [hW0]; exact H.alloc _)
 have HT0 := hide (show Turn q w W0 by rw [hW0]; exact (Turn.refl _ _).alloc _)
 have HB0 := hide (show BoxAt w.heap.size 45 2 W0 by rw [hW0]; exact box_new _ _ _ rfl)
 have hz0 : w.heap.size + 1 ≤ W0.heap.size := by rw [hW0]; simp
 have HW0 := hide hW0
 clear hW0
 unfold AggTo
 clear H
 go_enter Tryz.func114, Tryz.ntmps114
 go_wp2_with fail
 rw [← HW0.out]
 refine (HNm.out _ W0 H0.out).mono ?_
 rintro e w1 ⟨rfl, h, ht⟩
 have H1 := hide h
 have HT1 := hide (HT0.out.trans ht)
 have HB1 := hide (HB0.out.turn ht cq)
 have hz1 : w.heap.size + 1 ≤ w1.heap.size := Nat.le_trans hz0 ht.size
 clear h ht H0 HT0 HB0 HNm
 obtain ⟨w2, hw2⟩ : ∃ W, W = w1.alloc (.cells #[.string ⟨#[105, 110, 116]⟩, .string ⟨#[116, 101, 120, 116]⟩] 9) := ⟨_, rfl⟩
 have HW2 := hide hw2
 have H2 := hide (show ParAt q TL E w2 _ by rw [hw2]; exact H1.out.alloc _)
 have HT2 := hide (show Turn q w w2 by rw [hw2]; exact HT1.out.alloc _)
 have hz2 : w.heap.size + 1 ≤ w2.heap.size := by rw [hw2]; simp; omega
 have HB2 := hide (show BoxAt w.heap.size 45 2 w2 by rw [hw2]; exact HB1.out.turn ((Turn.refl q _).alloc _) cq)
 have HS2 := hide (show StrW q w2 (some ⟨w1.heap.size, 0, none⟩) [[105, 110, 116], [116, 101, 120, 116]] by rw [hw2]; exact strW_new w1 q [[105, 110, 116], [116, 101, 120, 116]] _ (by omega))
 clear hw2 H1 HT1 HB1
 go_wp2_with (first | rw [← HW2.out])
 clear HW2
 refine (oneOf_any _ 2 [[105, 110, 116], [116, 101, 120, 116]] w2 H2.out HS2.out (by decide)).mono ?_
 rintro e w3 ⟨rfl, h, ht⟩
 have H3 := hide h
 have HT3 := hide (HT2.out.trans ht)
 have HB3 := hide (HB2.out.turn ht cq)
 have hz3 : w.heap.size + 1 ≤ w3.heap.size := Nat.le_trans hz2 ht.size
 clear h ht H2 HT2 HB2 HS2
 go_wp2_with (refine wpList_storeBig rfl 45 _ _ rfl w.heap.size 2 [.string (nameS s).1, .int .i64 (oneOfS [[105, 110, 116], [116, 101, 120, 116]] (nameS s).2).1] big_col rfl (by simp [Value.oneCell']) rfl rfl HB3.out ?_)
 refine bodyPost_ret (v := .agg #[.string (nameS s).1, .int .i64 (oneOfS [[105, 110, 116], [116, 101, 120, 116]] (nameS s).2).1]) (results_big (vs := [.string (nameS s).1, .int .i64 (oneOfS [[105, 110, 116], [116, 101, 120, 116]] (nameS s).2).1]) rfl rfl big_col rfl (set_row _ HB3.out.choose_spec.1)) rfl ?_
 exact ⟨[.string (nameS s).1, .int .i64 (oneOfS [[105, 110, 116], [116, 101, 120, 116]] (nameS s).2).1], rfl, RepC.cons (rep_str _ _ _) (RepC.cons (rep_int _ _ _) (RepC.nil _ _)), H3.out.row cq _, HT3.out.row (Nat.le_refl _) _⟩
end Go.Proofs.YtljoajjlkjjgeaaGreatDoor
namespace Go.Proofs.YtljoajjlkjjgeaaGreatDoor
open Go.RowKit Go.Sort LM Go

attribute [local go_sem] fld_tok0 fld_tok1 fld_tok2
set_option maxHeartbeats 8000000 in
set_option maxRecDepth 100000 in
theorem scheme_any {q : Nat} {TL : List Tk} {E : Nat} (s : PSt) (w : World) (H : ParAt q TL E w s) :
  Calls Tryz.prog 86 #[pP q] w (AggTo q TL E w ([dI (schemeS s).1.1, dI (schemeS s).1.2.1, dI (schemeS s).1.2.2]) (schemeS s).2) := by
 have HNm := hide (fun s1 w1 (h : ParAt q TL E w1 s1) => name_any w1 h)
 unfold StepTo at HNm
 have HNu := hide (fun s1 w1 (h : ParAt q TL E w1 s1) => number_any w1 h)
 unfold StepTo at HNu
 have cq := H.lt
 have hqq : q < w.heap.size + 1 := by omega
 obtain ⟨W0, hW0⟩ : ∃ W0, W0 = w.alloc (.cells #[.int .i64 0, .int .i64 0, .int .i64 0] 24) := ⟨_, rfl⟩
 have H0 := hide (show ParAt q TL E W0 s by rw [hW0]; exact H.alloc _)
 have HT0 := hide (show Turn q w W0 by rw [hW0]; exact (Turn.refl _ _).alloc _)
 have HB0 := hide (show BoxAt w.heap.size 24 3 W0 by rw [hW0]; exact box_new _ _ _ rfl)
 have hz0 : w.heap.size + 1 ≤ W0.heap.size := by rw [hW0]; simp
 have HW0 := hide hW0
 clear hW0
 unfold AggTo
 obtain ⟨w1, hw1⟩ : ∃ W, W = W0.alloc (.cells #[.string ⟨#[104, 111, 117, 114, 108, 121]⟩, .string ⟨#[100, 97, 105, 108, 121]⟩, .string ⟨#[119, 101, 101, 107, 108, 121]⟩, .string ⟨#[109, 111, 110, 116, 104, 108, 121]⟩, .string ⟨#[115, 116, 97, 116, 105, 99]⟩] 9) := ⟨_, rfl⟩
 have HW1 := hide hw1
 have H1 := hide (show ParAt q TL E w1 _ by rw [hw1]; exact H0.out.alloc _)
 have HT1 := hide (show Turn q w w1 by rw [hw1]; exact HT0.out.alloc _)
 have hz1 : w.heap.size + 1 ≤ w1.heap.size := by rw [hw1]; simp; omega
 have HB1 := hide (show BoxAt w.heap.size 24 3 w1 by rw [hw1]; exact HB0.out.turn ((Turn.refl q _).alloc _) cq)
 have hz0e : w.heap.size + 1 = W0.heap.size := by rw [HW0.out]; simp
 have HS1 := hide (show StrW q w1 (some ⟨w.heap.size + 1, 0, none⟩) schWords by rw [hw1, hz0e]; exact strW_new W0 q schWords _ (by omega))
 clear hw1 H0 HT0 HB0 hz0e
 clear H
 go_enter Tryz.func86, Tryz.ntmps86
 go_wp2_with fail
 rw [← HW0.out, ← HW1.out]
 clear HW1
 refine (oneOf_any _ 5 schWords w1 H1.out HS1.out (by decide)).mono ?_
 rintro e w2 ⟨rfl, h, ht⟩
 have H2 := hide h
 have HT2 := hide (HT1.out.trans ht)
 have HB2 := hide (HB1.out.turn ht cq)
 have hz2 : w.heap.size + 1 ≤ w2.heap.size := Nat.le_trans hz1 ht.size
 clear h ht H1 HT1 HB1 HS1
 go_wp2_with fail
 refine (HNu.out _ w2 H2.out).mono ?_
 rintro e w3 ⟨rfl, h, ht⟩
 have H3 := hide h
 have HT3 := hide (HT2.out.trans ht)
 have HB3 := hide (HB2.out.turn ht cq)
 have hz3 : w.heap.size + 1 ≤ w3.heap.size := Nat.le_trans hz2 ht.size
 clear h ht H2 HT2 HB2
 go_wp2_with fail
 refine (expect_any [46, 46] w3 H3.out).mono ?_
 rintro e w4 ⟨rfl, h, ht⟩
 have H4 := hide h
 have HT4 := hide (HT3.out.trans ht)
 have HB4 := hide (HB3.out.turn ht cq)
 have hz4 : w.heap.size + 1 ≤ w4.heap.size := Nat.le_trans hz3 ht.size
 clear h ht H3 HT3 HB3
 go_wp2_with fail
 refine (HNu.out _ w4 H4.out).mono ?_
 rintro e w5 ⟨rfl, h, ht⟩
 have H5 := hide h
 have HT5 := hide (HT4.out.trans ht)
 have HB5 := hide (HB4.out.turn ht cq)
 have hz5 : w.heap.size + 1 ≤ w5.heap.size := Nat.le_trans hz4 ht.size
 clear h ht H4 HT4 HB4 HNu HNm
 go_wp2_with (refine wpList_storeBig rfl 24 _ _ rfl w.heap.size 3 [.int .i64 (oneOfS schWords s).1, .int .i64 (numberS (oneOfS schWords s).2).1, .int .i64 (numberS (expectS [46, 46] (numberS (oneOfS schWords s).2).2)).1] big_scheme rfl (by simp [Value.oneCell']) rfl rfl HB5.out ?_)
 refine bodyPost_ret (v := .agg #[.int .i64 (oneOfS schWords s).1, .int .i64 (numberS (oneOfS schWords s).2).1, .int .i64 (numberS (expectS [46, 46] (numberS (oneOfS schWords s).2).2)).1]) (results_big (vs := [.int .i64 (oneOfS schWords s).1, .int .i64 (numberS (oneOfS schWords s).2).1, .int .i64 (numberS (expectS [46, 46] (numberS (oneOfS schWords s).2).2)).1]) rfl rfl big_scheme rfl (set_row _ HB5.out.choose_spec.1)) rfl ?_
 exact ⟨[.int .i64 (oneOfS schWords s).1, .int .i64 (numberS (oneOfS schWords s).2).1, .int .i64 (numberS (expectS [46, 46] (numberS (oneOfS schWords s).2).2)).1], rfl, RepC.cons (rep_int _ _ _) (RepC.cons (rep_int _ _ _) (RepC.cons (rep_int _ _ _) (RepC.nil _ _))), H5.out.row cq _, HT5.out.row (Nat.le_refl _) _⟩
set_option maxHeartbeats 8000000 in
set_option maxRecDepth 100000 in
theorem distanceY {q : Nat} {TL : List Tk} {E : Nat} (s : PSt) (w : World) (H : ParAt q TL E w s) (hc : isT (aheadS 0 s) [45] = true) (hb0 : 0 ≤ (numberS (takeS s).2).1) (hb1 : (numberS (takeS s).2).1 ≤ 9223372036854775807) :
  Calls Tryz.prog 130 #[pP q] w (StepTo q TL E w (.int .i64 (-(numberS (takeS s).2).1)) (numberS (takeS s).2).2) := by
 have HAc := hide (fun w1 (h : ParAt q TL E w1 s) => accept_any [45] w1 h)
 unfold StepTo at HAc
 rw [hc] at HAc
 rw [if_pos rfl] at HAc
 have HNu := hide (fun s1 w1 (h : ParAt q TL E w1 s1) => number_any w1 h)
 unfold StepTo at HNu
 clear hc
 have cq := H.lt
 have hqq : q < w.heap.size := cq
 have H0 := hide H
 have HT0 := hide (Turn.refl q w)
 have hz0 : w.heap.size ≤ w.heap.size := Nat.le_refl _
 unfold StepTo
 clear H
 go_enter Tryz.func130, Tryz.ntmps130
 go_wp2_with fail
 refine (HAc.out w H0.out).mono ?_
 rintro e w1 ⟨rfl, h, ht⟩
 have H1 := hide h
 have HT1 := hide (HT0.out.trans ht)
 have hz1 : w.heap.size ≤ w1.heap.size := Nat.le_trans hz0 ht.size
 clear h ht H0 HT0 HAc
 go_wp2_with fail
 refine (HNu.out _ w1 H1.out).mono ?_
 rintro e w2 ⟨rfl, h, ht⟩
 have H2 := hide h
 have HT2 := hide (HT1.out.trans ht)
 have hz2 : w.heap.size ≤ w2.heap.size := Nat.le_trans hz1 ht.size
 clear h ht H1 HT1 HNu
 go_wp2_with fail
 go_ret
 exact ⟨rfl, H2.out, HT2.out⟩
set_option maxHeartbeats 8000000 in
set_option maxRecDepth 100000 in
theorem distanceN {q : Nat} {TL : List Tk} {E : Nat} (s : PSt) (w : World) (H : ParAt q TL E w s) (hc : isT (aheadS 0 s) [45] = false) :
  Calls Tryz.prog 130 #[pP q] w (StepTo q TL E w (.int .i64 (numberS s).1) (numberS s).2) := by
 have HAc := hide (fun w1 (h : ParAt q TL E w1 s) => accept_any [45] w1 h)
 unfold StepTo at HAc
 rw [hc] at HAc
 rw [if_neg (by simp)] at HAc
 have HNu := hide (fun s1 w1 (h : ParAt q TL E w1 s1) => number_any w1 h)
 unfold StepTo at HNu
 clear hc
 have cq := H.lt
 have hqq : q < w.heap.size := cq
 have H0 := hide H
 have HT0 := hide (Turn.refl q w)
 have hz0 : w.heap.size ≤ w.heap.size := Nat.le_refl _
 unfold StepTo
 clear H
 go_enter Tryz.func130, Tryz.ntmps130
 go_wp2_with fail
 refine (HAc.out w H0.out).mono ?_
 rintro e w1 ⟨rfl, h, ht⟩
 have H1 := hide h
 have HT1 := hide (HT0.out.trans ht)
 have hz1 : w.heap.size ≤ w1.heap.size := Nat.le_trans hz0 ht.size
 clear h ht H0 HT0 HAc
 go_wp2_with fail
 refine (HNu.out _ w1 H1.out).mono ?_
 rintro e w2 ⟨rfl, h, ht⟩
 have H2 := hide h
 have HT2 := hide (HT1.out.trans ht)
 have hz2 : w.heap.size ≤ w2.heap.size := Nat.le_trans hz1 ht.size
 clear h ht H1 HT1 HNu
 go_wp2_with fail
 go_ret
 exact ⟨rfl, H2.out, HT2.out⟩
set_option maxHeartbeats 8000000 in
set_option maxRecDepth 100000 in
theorem mapping2 {q : Nat} {TL : List Tk} {E : Nat} (s : PSt) (w : World) (H : ParAt q TL E w s) (hk : (oneOfS mapWords s).1 = 2) :
  Calls Tryz.prog 115 #[pP q] w (AggTo q TL E w ([dI (oneOfS mapWords s).1, dI (numberS (oneOfS mapWords s).2).1]) (numberS (oneOfS mapWords s).2).2) := by
 have HNm := hide (fun s1 w1 (h : ParAt q TL E w1 s1) => name_any w1 h)
 unfold StepTo at HNm
 have HNu := hide (fun s1 w1 (h : ParAt q TL E w1 s1) => number_any w1 h)
 unfold StepTo at HNu
 have k2 : ((oneOfS mapWords s).1 == 2) = true := by simpa using hk
 clear hk
 have cq := H.lt
 have hqq : q < w.heap.size + 1 := by omega
 obtain ⟨W0, hW0⟩ : ∃ W0, W0 = w.alloc (.cells #[.int .i64 0, .int .i64 0] 54) := ⟨_, rfl⟩
 have H0 := hide (show ParAt q TL E W0 s by rw [hW0]; exact H.alloc _)
 have HT0 := hide (show Turn q w W0 by rw [hW0]; exact (Turn.refl _ _).alloc _)
 have HB0 := hide (show BoxAt w.heap.size 54 2 W0 by rw [hW0]; exact box_new _ _ _ rfl)
 have hz0 : w.heap.size + 1 ≤ W0.heap.size := by rw [hW0]; simp
 have HW0 := hide hW0
 clear hW0
 unfold AggTo
 obtain ⟨w1, hw1⟩ : ∃ W, W = W0.alloc (.cells #[.string ⟨#[115, 97, 109, 101]⟩, .string ⟨#[108, 97, 115, 116]⟩, .string ⟨#[115, 104, 105, 102, 116]⟩, .string ⟨#[119, 105, 116, 104, 105, 110]⟩, .string ⟨#[97, 108, 108]⟩] 9) := ⟨_, rfl⟩
 have HW1 := hide hw1
 have H1 := hide (show ParAt q TL E w1 _ by rw [hw1]; exact H0.out.alloc _)
 have HT1 := hide (show Turn q w w1 by rw [hw1]; exact HT0.out.alloc _)
 have hz1 : w.heap.size + 1 ≤ w1.heap.size := by rw [hw1]; simp; omega
 have HB1 := hide (show BoxAt w.heap.size 54 2 w1 by rw [hw1]; exact HB0.out.turn ((Turn.refl q _).alloc _) cq)
 have hz0e : w.heap.size + 1 = W0.heap.size := by rw [HW0.out]; simp
 have HS1 := hide (show StrW q w1 (some ⟨w.heap.size + 1, 0, none⟩) mapWords by rw [hw1, hz0e]; exact strW_new W0 q mapWords _ (by omega))
 clear hw1 H0 HT0 HB0 hz0e
 clear H
 go_enter Tryz.func115, Tryz.ntmps115
 go_wp2_with fail
 rw [← HW0.out, ← HW1.out]
 clear HW1
 refine (oneOf_any _ 5 mapWords w1 H1.out HS1.out (by decide)).mono ?_
 rintro e w2 ⟨rfl, h, ht⟩
 have H2 := hide h
 have HT2 := hide (HT1.out.trans ht)
 have HB2 := hide (HB1.out.turn ht cq)
 have hz2 : w.heap.size + 1 ≤ w2.heap.size := Nat.le_trans hz1 ht.size
 clear h ht H1 HT1 HB1 HS1
 obtain ⟨w3, hw3⟩ : ∃ W, W = w2.alloc (.cells #[.int .i64 (oneOfS mapWords s).1, .int .i64 0] 54) := ⟨_, rfl⟩
 have HW3 := hide hw3
 have H3 := hide (show ParAt q TL E w3 _ by rw [hw3]; exact H2.out.alloc _)
 have HT3 := hide (show Turn q w w3 by rw [hw3]; exact HT2.out.alloc _)
 obtain ⟨tb, htb⟩ : ∃ tb, tb = w2.heap.size := ⟨_, rfl⟩
 have HTB := hide htb
 have HX := hide (show HoldB tb 54 [.int .i64 (oneOfS mapWords s).1, .int .i64 0] w3 by rw [hw3, htb]; exact heap_alloc_new _ _)
 have hz3 : w.heap.size + 1 ≤ w3.heap.size := by rw [hw3]; simp; omega
 have hze := hide (show w3.heap.size = tb + 1 by rw [hw3, htb]; simp)
 have hqt : q < tb := by omega
 have hrt : w.heap.size < tb := by omega
 have HB3 := hide (show BoxAt w.heap.size 54 2 w3 by rw [hw3]; exact HB2.out.turn ((Turn.refl q _).alloc _) cq)
 clear hw3 htb H2 HT2 HB2
 have x0 := Lib.cell_of_heap HX.out 0
 have x1 := Lib.cell_of_heap HX.out 1
 have xf := Lib.frozen_of_heap HX.out
 have xs := holds_size HX.out
 simp only [List.getElem?_toArray, List.getElem?_cons_zero, List.getElem?_cons_succ] at x0 x1
 go_wp2_with (first | rw [← HW3.out, ← HTB.out])
 clear xf xs x0 x1
 clear HW3
 refine (HNu.out _ w3 H3.out).mono ?_
 rintro e w4 ⟨rfl, h, ht⟩
 have H4 := hide h
 have HT4 := hide (HT3.out.trans ht)
 have HB4 := hide (HB3.out.turn ht cq)
 have hz4 : w.heap.size + 1 ≤ w4.heap.size := Nat.le_trans hz3 ht.size
 replace HX := hide (holds_turn HX.out ht hqt)
 clear h ht H3 HT3 HB3
 obtain ⟨w5, hw5⟩ : ∃ W, W = w4.setCell ⟨tb, 1, none⟩ (.int .i64 (numberS (oneOfS mapWords s).2).1) := ⟨_, rfl⟩
 have HW5 := hide hw5
 have H5 := hide (show ParAt q TL E w5 _ by rw [hw5]; exact H4.out.put (p := ⟨tb, 1, none⟩) hqt _)
 have HT5 := hide (show Turn q w w5 by rw [hw5]; exact HT4.out.put (p := ⟨tb, 1, none⟩) (by simp; omega) _)
 have HX' := hide (show HoldB tb 54 [.int .i64 (oneOfS mapWords s).1, .int .i64 (numberS (oneOfS mapWords s).2).1] w5 by rw [hw5]; exact Joins.block_setCell (i := 1) HX.out _)
 have hz5 : w.heap.size + 1 ≤ w5.heap.size := by rw [hw5]; simp; omega
 have HB5 := hide (show BoxAt w.heap.size 54 2 w5 by rw [hw5]; exact HB4.out.set (by omega) _ _)
 have x0 := Lib.cell_of_heap HX.out 0
 have x1 := Lib.cell_of_heap HX.out 1
 have xf := Lib.frozen_of_heap HX.out
 have xs := holds_size HX.out
 simp only [List.getElem?_toArray, List.getElem?_cons_zero, List.getElem?_cons_succ] at x0 x1
 clear hw5
 go_wp2_with (first | rw [← HW5.out] | (refine wpList_loadBig rfl 54 _ rfl tb 2 [.int .i64 (oneOfS mapWords s).1, .int .i64 (numberS (oneOfS mapWords s).2).1] big_map rfl rfl HX'.out ?_) | (refine wpList_storeBig rfl 54 _ _ rfl w.heap.size 2 [.int .i64 (oneOfS mapWords s).1, .int .i64 (numberS (oneOfS mapWords s).2).1] big_map rfl (by simp [Value.oneCell']) rfl rfl HB5.out ?_))
 clear xf xs x0 x1
 clear HX H4 HT4 HB4 HW5
 have HX := HX'
 clear HX'
 refine bodyPost_ret (v := .agg #[.int .i64 (oneOfS mapWords s).1, .int .i64 (numberS (oneOfS mapWords s).2).1]) (results_big (vs := [.int .i64 (oneOfS mapWords s).1, .int .i64 (numberS (oneOfS mapWords s).2).1]) rfl rfl big_map rfl (set_row _ HB5.out.choose_spec.1)) rfl ?_
 exact ⟨[.int .i64 (oneOfS mapWords s).1, .int .i64 (numberS (oneOfS mapWords s).2).1], rfl, RepC.cons (rep_int _ _ _) (RepC.cons (rep_int _ _ _) (RepC.nil _ _)), H5.out.row cq _, HT5.out.row (Nat.le_refl _) _⟩
set_option maxHeartbeats 8000000 in
set_option maxRecDepth 100000 in
theorem mapping3 {q : Nat} {TL : List Tk} {E : Nat} (s : PSt) (w : World) (H : ParAt q TL E w s) (hk : (oneOfS mapWords s).1 = 3)
  (HDi : ∀ w1, ParAt q TL E w1 (oneOfS mapWords s).2 → Calls Tryz.prog 130 #[pP q] w1 (StepTo q TL E w1 (.int .i64 (distS (oneOfS mapWords s).2).1) (distS (oneOfS mapWords s).2).2)) :
  Calls Tryz.prog 115 #[pP q] w (AggTo q TL E w ([dI (oneOfS mapWords s).1, dI (distS (oneOfS mapWords s).2).1]) (distS (oneOfS mapWords s).2).2) := by
 have HNm := hide (fun s1 w1 (h : ParAt q TL E w1 s1) => name_any w1 h)
 unfold StepTo at HNm
 have HNu := hide (fun s1 w1 (h : ParAt q TL E w1 s1) => number_any w1 h)
 unfold StepTo at HNu
 have k2 : ((oneOfS mapWords s).1 == 2) = false := by rw [hk]; rfl
 have k3 : ((oneOfS mapWords s).1 == 3) = true := by simpa using hk
 clear hk
 unfold StepTo at HDi
 replace HDi := hide HDi
 have cq := H.lt
 have hqq : q < w.heap.size + 1 := by omega
 obtain ⟨W0, hW0⟩ : ∃ W0, W0 = w.alloc (.cells #[.int .i64 0, .int .i64 0] 54) := ⟨_, rfl⟩
 have H0 := hide (show ParAt q TL E W0 s by rw [hW0]; exact H.alloc _)
 have HT0 := hide (show Turn q w W0 by rw [hW0]; exact (Turn.refl _ _).alloc _)
 have HB0 := hide (show BoxAt w.heap.size 54 2 W0 by rw [hW0]; exact box_new _ _ _ rfl)
 have hz0 : w.heap.size + 1 ≤ W0.heap.size := by rw [hW0]; simp
 have HW0 := hide hW0
 clear hW0
 unfold AggTo
 obtain ⟨w1, hw1⟩ : ∃ W, W = W0.alloc (.cells #[.string ⟨#[115, 97, 109, 101]⟩, .string ⟨#[108, 97, 115, 116]⟩, .string ⟨#[115, 104, 105, 102, 116]⟩, .string ⟨#[119, 105, 116, 104, 105, 110]⟩, .string ⟨#[97, 108, 108]⟩] 9) := ⟨_, rfl⟩
 have HW1 := hide hw1
 have H1 := hide (show ParAt q TL E w1 _ by rw [hw1]; exact H0.out.alloc _)
 have HT1 := hide (show Turn q w w1 by rw [hw1]; exact HT0.out.alloc _)
 have hz1 : w.heap.size + 1 ≤ w1.heap.size := by rw [hw1]; simp; omega
 have HB1 := hide (show BoxAt w.heap.size 54 2 w1 by rw [hw1]; exact HB0.out.turn ((Turn.refl q _).alloc _) cq)
 have hz0e : w.heap.size + 1 = W0.heap.size := by rw [HW0.out]; simp
 have HS1 := hide (show StrW q w1 (some ⟨w.heap.size + 1, 0, none⟩) mapWords by rw [hw1, hz0e]; exact strW_new W0 q mapWords _ (by omega))
 clear hw1 H0 HT0 HB0 hz0e
 clear H
 go_enter Tryz.func115, Tryz.ntmps115
 go_wp2_with fail
 rw [← HW0.out, ← HW1.out]
 clear HW1
 refine (oneOf_any _ 5 mapWords w1 H1.out HS1.out (by decide)).mono ?_
 rintro e w2 ⟨rfl, h, ht⟩
 have H2 := hide h
 have HT2 := hide (HT1.out.trans ht)
 have HB2 := hide (HB1.out.turn ht cq)
 have hz2 : w.heap.size + 1 ≤ w2.heap.size := Nat.le_trans hz1 ht.size
 clear h ht H1 HT1 HB1 HS1
 obtain ⟨w3, hw3⟩ : ∃ W, W = w2.alloc (.cells #[.int .i64 (oneOfS mapWords s).1, .int .i64 0] 54) := ⟨_, rfl⟩
 have HW3 := hide hw3
 have H3 := hide (show ParAt q TL E w3 _ by rw [hw3]; exact H2.out.alloc _)
 have HT3 := hide (show Turn q w w3 by rw [hw3]; exact HT2.out.alloc _)
 obtain ⟨tb, htb⟩ : ∃ tb, tb = w2.heap.size := ⟨_, rfl⟩
 have HTB := hide htb
 have HX := hide (show HoldB tb 54 [.int .i64 (oneOfS mapWords s).1, .int .i64 0] w3 by rw [hw3, htb]; exact heap_alloc_new _ _)
 have hz3 : w.heap.size + 1 ≤ w3.heap.size := by rw [hw3]; simp; omega
 have hze := hide (show w3.heap.size = tb + 1 by rw [hw3, htb]; simp)
 have hqt : q < tb := by omega
 have hrt : w.heap.size < tb := by omega
 have HB3 := hide (show BoxAt w.heap.size 54 2 w3 by rw [hw3]; exact HB2.out.turn ((Turn.refl q _).alloc _) cq)
 clear hw3 htb H2 HT2 HB2
 have x0 := Lib.cell_of_heap HX.out 0
 have x1 := Lib.cell_of_heap HX.out 1
 have xf := Lib.frozen_of_heap HX.out
 have xs := holds_size HX.out
 simp only [List.getElem?_toArray, List.getElem?_cons_zero, List.getElem?_cons_succ] at x0 x1
 go_wp2_with (first | rw [← HW3.out, ← HTB.out])
 clear xf xs x0 x1
 clear HW3
 refine (HDi.out w3 H3.out).mono ?_
 rintro e w4 ⟨rfl, h, ht⟩
 have H4 := hide h
 have HT4 := hide (HT3.out.trans ht)
 have HB4 := hide (HB3.out.turn ht cq)
 have hz4 : w.heap.size + 1 ≤ w4.heap.size := Nat.le_trans hz3 ht.size
 replace HX := hide (holds_turn HX.out ht hqt)
 clear h ht H3 HT3 HB3
 obtain ⟨w5, hw5⟩ : ∃ W, W = w4.setCell ⟨tb, 1, none⟩ (.int .i64 (distS (oneOfS mapWords s).2).1) := ⟨_, rfl⟩
 have HW5 := hide hw5
 have H5 := hide (show ParAt q TL E w5 _ by rw [hw5]; exact H4.out.put (p := ⟨tb, 1, none⟩) hqt _)
 have HT5 := hide (show Turn q w w5 by rw [hw5]; exact HT4.out.put (p := ⟨tb, 1, none⟩) (by simp; omega) _)
 have HX' := hide (show HoldB tb 54 [.int .i64 (oneOfS mapWords s).1, .int .i64 (distS (oneOfS mapWords s).2).1] w5 by rw [hw5]; exact Joins.block_setCell (i := 1) HX.out _)
 have hz5 : w.heap.size + 1 ≤ w5.heap.size := by rw [hw5]; simp; omega
 have HB5 := hide (show BoxAt w.heap.size 54 2 w5 by rw [hw5]; exact HB4.out.set (by omega) _ _)
 have x0 := Lib.cell_of_heap HX.out 0
 have x1 := Lib.cell_of_heap HX.out 1
 have xf := Lib.frozen_of_heap HX.out
 have xs := holds_size HX.out
 simp only [List.getElem?_toArray, List.getElem?_cons_zero, List.getElem?_cons_succ] at x0 x1
 clear hw5
 go_wp2_with (first | rw [← HW5.out] | (refine wpList_loadBig rfl 54 _ rfl tb 2 [.int .i64 (oneOfS mapWords s).1, .int .i64 (distS (oneOfS mapWords s).2).1] big_map rfl rfl HX'.out ?_) | (refine wpList_storeBig rfl 54 _ _ rfl w.heap.size 2 [.int .i64 (oneOfS mapWords s).1, .int .i64 (distS (oneOfS mapWords s).2).1] big_map rfl (by simp [Value.oneCell']) rfl rfl HB5.out ?_))
 clear xf xs x0 x1
 clear HX H4 HT4 HB4 HW5
 have HX := HX'
 clear HX'
 refine bodyPost_ret (v := .agg #[.int .i64 (oneOfS mapWords s).1, .int .i64 (distS (oneOfS mapWords s).2).1]) (results_big (vs := [.int .i64 (oneOfS mapWords s).1, .int .i64 (distS (oneOfS mapWords s).2).1]) rfl rfl big_map rfl (set_row _ HB5.out.choose_spec.1)) rfl ?_
 exact ⟨[.int .i64 (oneOfS mapWords s).1, .int .i64 (distS (oneOfS mapWords s).2).1], rfl, RepC.cons (rep_int _ _ _) (RepC.cons (rep_int _ _ _) (RepC.nil _ _)), H5.out.row cq _, HT5.out.row (Nat.le_refl _) _⟩
set_option maxHeartbeats 8000000 in
set_option maxRecDepth 100000 in
theorem mapping0 {q : Nat} {TL : List Tk} {E : Nat} (s : PSt) (w : World) (H : ParAt q TL E w s) (hk2 : (oneOfS mapWords s).1 ≠ 2) (hk3 : (oneOfS mapWords s).1 ≠ 3) :
  Calls Tryz.prog 115 #[pP q] w (AggTo q TL E w ([dI (oneOfS mapWords s).1, dI 0]) (oneOfS mapWords s).2) := by
 have HNm := hide (fun s1 w1 (h : ParAt q TL E w1 s1) => name_any w1 h)
 unfold StepTo at HNm
 have HNu := hide (fun s1 w1 (h : ParAt q TL E w1 s1) => number_any w1 h)
 unfold StepTo at HNu
 have k2 : ((oneOfS mapWords s).1 == 2) = false := by simpa using hk2
 have k3 : ((oneOfS mapWords s).1 == 3) = false := by simpa using hk3
 clear hk2 hk3
 have cq := H.lt
 have hqq : q < w.heap.size + 1 := by omega
 obtain ⟨W0, hW0⟩ : ∃ W0, W0 = w.alloc (.cells #[.int .i64 0, .int .i64 0] 54) := ⟨_, rfl⟩
 have H0 := hide (show ParAt q TL E W0 s by rw [hW0]; exact H.alloc _)
 have HT0 := hide (show Turn q w W0 by rw [hW0]; exact (Turn.refl _ _).alloc _)
 have HB0 := hide (show BoxAt w.heap.size 54 2 W0 by rw [hW0]; exact box_new _ _ _ rfl)
 have hz0 : w.heap.size + 1 ≤ W0.heap.size := by rw [hW0]; simp
 have HW0 := hide hW0
 clear hW0
 unfold AggTo
 obtain ⟨w1, hw1⟩ : ∃ W, W = W0.alloc (.cells #[.string ⟨#[115, 97, 109, 101]⟩, .string ⟨#[108, 97, 115, 116]⟩, .string ⟨#[115, 104, 105, 102, 116]⟩, .string ⟨#[119, 105, 116, 104, 105, 110]⟩, .string ⟨#[97, 108, 108]⟩] 9) := ⟨_, rfl⟩
 have HW1 := hide hw1
 have H1 := hide (show ParAt q TL E w1 _ by rw [hw1]; exact H0.out.alloc _)
 have HT1 := hide (show Turn q w w1 by rw [hw1]; exact HT0.out.alloc _)
 have hz1 : w.heap.size + 1 ≤ w1.heap.size := by rw [hw1]; simp; omega
 have HB1 := hide (show BoxAt w.heap.size 54 2 w1 by rw [hw1]; exact HB0.out.turn ((Turn.refl q _).alloc _) cq)
 have hz0e : w.heap.size + 1 = W0.heap.size := by rw [HW0.out]; simp
 have HS1 := hide (show StrW q w1 (some ⟨w.heap.size + 1, 0, none⟩) mapWords by rw [hw1, hz0e]; exact strW_new W0 q mapWords _ (by omega))
 clear hw1 H0 HT0 HB0 hz0e
 clear H
 go_enter Tryz.func115, Tryz.ntmps115
 go_wp2_with fail
 rw [← HW0.out, ← HW1.out]
 clear HW1
 refine (oneOf_any _ 5 mapWords w1 H1.out HS1.out (by decide)).mono ?_
 rintro e w2 ⟨rfl, h, ht⟩
 have H2 := hide h
 have HT2 := hide (HT1.out.trans ht)
 have HB2 := hide (HB1.out.turn ht cq)
 have hz2 : w.heap.size + 1 ≤ w2.heap.size := Nat.le_trans hz1 ht.size
 clear h ht H1 HT1 HB1 HS1
 obtain ⟨w3, hw3⟩ : ∃ W, W = w2.alloc (.cells #[.int .i64 (oneOfS mapWords s).1, .int .i64 0] 54) := ⟨_, rfl⟩
 have HW3 := hide hw3
 have H3 := hide (show ParAt q TL E w3 _ by rw [hw3]; exact H2.out.alloc _)
 have HT3 := hide (show Turn q w w3 by rw [hw3]; exact HT2.out.alloc _)
 obtain ⟨tb, htb⟩ : ∃ tb, tb = w2.heap.size := ⟨_, rfl⟩
 have HTB := hide htb
 have HX := hide (show HoldB tb 54 [.int .i64 (oneOfS mapWords s).1, .int .i64 0] w3 by rw [hw3, htb]; exact heap_alloc_new _ _)
 have hz3 : w.heap.size + 1 ≤ w3.heap.size := by rw [hw3]; simp; omega
 have hze := hide (show w3.heap.size = tb + 1 by rw [hw3, htb]; simp)
 have hqt : q < tb := by omega
 have hrt : w.heap.size < tb := by omega
 have HB3 := hide (show BoxAt w.heap.size 54 2 w3 by rw [hw3]; exact HB2.out.turn ((Turn.refl q _).alloc _) cq)
 clear hw3 htb H2 HT2 HB2
 have x0 := Lib.cell_of_heap HX.out 0
 have x1 := Lib.cell_of_heap HX.out 1
 have xf := Lib.frozen_of_heap HX.out
 have xs := holds_size HX.out
 simp only [List.getElem?_toArray, List.getElem?_cons_zero, List.getElem?_cons_succ] at x0 x1
 go_wp2_with (first | rw [← HW3.out, ← HTB.out] | (refine wpList_loadBig rfl 54 _ rfl tb 2 [.int .i64 (oneOfS mapWords s).1, .int .i64 0] big_map rfl rfl HX.out ?_) | (refine wpList_storeBig rfl 54 _ _ rfl w.heap.size 2 [.int .i64 (oneOfS mapWords s).1, .int .i64 0] big_map rfl (by simp [Value.oneCell']) rfl rfl HB3.out ?_))
 clear xf xs x0 x1
 clear HW3
 refine bodyPost_ret (v := .agg #[.int .i64 (oneOfS mapWords s).1, .int .i64 0]) (results_big (vs := [.int .i64 (oneOfS mapWords s).1, .int .i64 0]) rfl rfl big_map rfl (set_row _ HB3.out.choose_spec.1)) rfl ?_
 exact ⟨[.int .i64 (oneOfS mapWords s).1, .int .i64 0], rfl, RepC.cons (rep_int _ _ _) (RepC.cons (rep_int _ _ _) (RepC.nil _ _)), H3.out.row cq _, HT3.out.row (Nat.le_refl _) _⟩
end Go.Proofs.YtljoajjlkjjgeaaGreatDoor
