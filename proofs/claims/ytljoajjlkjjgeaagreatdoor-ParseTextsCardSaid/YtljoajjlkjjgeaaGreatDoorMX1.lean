/-
  nested: a rule that lies deeper.
  nested: a query that lies deeper.
  enclosed: a rule in parentheses.
  enclosed: an expression, a query in parentheses.
-/
import Derived.Test.YtljoajjlkjjgeaaGreatDoorMN3
namespace Go.Proofs.YtljoajjlkjjgeaaGreatDoor
open Go.RowKit Go.Sort LM Go

set_option maxHeartbeats 8000000 in
set_option maxRecDepth 100000 in
theorem nestedExpr_any {q : Nat} {TL : List Tk} {E : Nat} (g : FuncId) (eg : ∀ args w, (callFunc g args).run Tryz.prog w = .ok (.enter g args) w) {α : Type} {M : Rule α} (enc : α → List Dt) (henc : ∀ a, (enc a).length = 7) (hN : Nice M) (s : PSt) (w : World) (hd0 : 0 ≤ s.d) (hd1 : s.d ≤ 1099511627776) (H : ParAt q TL E w s)
  (HM : ∀ w1, ParAt q TL E w1 ⟨s.L, s.d + 1, s.b⟩ → Calls Tryz.prog g #[pP q] w1 (AggTo q TL E w1 (enc (M ⟨s.L, s.d + 1, s.b⟩).1) (M ⟨s.L, s.d + 1, s.b⟩).2)) :
  Calls Tryz.prog 139 #[pP q, .func (.func g) #[pP q] #[]] w (AggTo q TL E w (enc (nestedS M s).1) (nestedS M s).2) := by
 have HR := hide (show nestedS M s = ((M ⟨s.L, s.d + 1, s.b⟩).1, ⟨(M ⟨s.L, s.d + 1, s.b⟩).2.L, (M ⟨s.L, s.d + 1, s.b⟩).2.d - 1, (M ⟨s.L, s.d + 1, s.b⟩).2.b⟩) from rfl)
 have hdd : (M ⟨s.L, s.d + 1, s.b⟩).2.d = s.d + 1 := (hN.tr ⟨s.L, s.d + 1, s.b⟩ H.wf).d
 generalize nestedS M s = RES at *
 have cq := H.lt
 have hqq : q < w.heap.size + 1 := by omega
 obtain ⟨W0, hW0⟩ : ∃ W0, W0 = w.alloc (.cells #[.int .i64 0, .string ⟨#[]⟩, .int .i64 0, .int .i64 0, .string ⟨#[]⟩, .string ⟨#[]⟩, .slice none 0 0] 36) := ⟨_, rfl⟩
 have H0 := hide (show ParAt q TL E W0 s by rw [hW0]; exact H.alloc _)
 have HT0 := hide (show Turn q w W0 by rw [hW0]; exact (Turn.refl _ _).alloc _)
 have HB0 := hide (show BoxAt w.heap.size 36 7 W0 by rw [hW0]; exact box_new _ _ _ rfl)
 have hz0 : w.heap.size + 1 ≤ W0.heap.size := by rw [hW0]; simp
 have HW0 := hide hW0
 clear hW0
 obtain ⟨c2, f2, cqW⟩ := H0.out.cells
 obtain ⟨W1, hW1⟩ : ∃ W1, W1 = W0.setCell ⟨q, 2, none⟩ (.int .i64 (s.d + 1)) := ⟨_, rfl⟩
 have H1 := hide (show ParAt q TL E W1 ⟨s.L, s.d + 1, s.b⟩ by rw [hW1]; exact H0.out.dep _)
 have HT1 := hide (show Turn q w W1 by rw [hW1]; exact HT0.out.set _ _)
 have HB1 := hide (show BoxAt w.heap.size 36 7 W1 by rw [hW1]; exact HB0.out.set (by omega) _ _)
 have hz1 : w.heap.size + 1 ≤ W1.heap.size := by rw [hW1]; simpa using hz0
 have HW1 := hide hW1
 have HM1 := hide (HM W1 H1.out)
 generalize M ⟨s.L, s.d + 1, s.b⟩ = MS at *
 obtain ⟨x, s2⟩ := MS
 simp only at hdd HR HM1
 clear hW1 HM hN H H0 HT0 HB0
 unfold AggTo
 unfold AggTo at HM1
 go_enter Tryz.func139, Tryz.ntmps139
 go_wp2_with (first | rw [← HW0.out] | rw [← HW1.out])
 clear c2 f2 cqW
 go_at_fn g
 refine (HM1.out).mono ?_
 rintro e w2 ⟨vs2, rfl, hv, h, ht⟩
 have H2 := hide h
 have HT2 := hide (HT1.out.trans ht)
 have HB2 := hide (HB1.out.turn ht cq)
 have hz2 : w.heap.size + 1 ≤ w2.heap.size := Nat.le_trans hz1 ht.size
 have HV2 := hide (hv.stay (Stay.at (fun _ hb => Nat.le_trans hz1 hb) _))
 clear hv
 clear h ht H1 HT1 HB1
 have hlen : vs2.length = 7 := HV2.out.1.trans (henc _)
 have hone := hide HV2.out.one_cell
 obtain ⟨w3, hw3⟩ : ∃ W, W = w2.alloc (.cells vs2.toArray 36) := ⟨_, rfl⟩
 have HW3 := hide (show w3 = (w2.alloc (.cells #[.int .i64 0, .string ⟨#[]⟩, .int .i64 0, .int .i64 0, .string ⟨#[]⟩, .string ⟨#[]⟩, .slice none 0 0] 36)).setRow w2.heap.size vs2.toArray by rw [hw3, World.setRow_alloc_new])
 have H3 := hide (show ParAt q TL E w3 _ by rw [hw3]; exact H2.out.alloc _)
 have HT3 := hide (show Turn q w w3 by rw [hw3]; exact HT2.out.alloc _)
 have HX3 := hide (show HoldB w2.heap.size 36 vs2 w3 by rw [hw3]; exact heap_alloc_new _ _)
 have hz3 : w.heap.size + 1 ≤ w3.heap.size := by rw [hw3]; simp; omega
 have hq3 : q < w2.heap.size := by omega
 have HB3 := hide (show BoxAt w.heap.size 36 7 w3 by rw [hw3]; exact HB2.out.turn ((Turn.refl q _).alloc _) cq)
 have HV2' := hide (show RepC _ w3 _ _ by rw [hw3]; exact HV2.out.stay (Stay.below (Joins.below_alloc1 _ _)))
 clear HV2 hw3 H2 HT2 HB2
 have HV2 := HV2'
 clear HV2'
 obtain ⟨c2, f2, cqW⟩ := H3.out.cells
 rw [hdd] at c2
 obtain ⟨W4, hW4⟩ : ∃ W4, W4 = w3.setCell ⟨q, 2, none⟩ (.int .i64 s.d) := ⟨_, rfl⟩
 have H4 := hide (show ParAt q TL E W4 ⟨s2.L, s.d, s2.b⟩ by rw [hW4]; exact H3.out.dep _)
 have HT4 := hide (show Turn q w W4 by rw [hW4]; exact HT3.out.set _ _)
 have HB4 := hide (show BoxAt w.heap.size 36 7 W4 by rw [hW4]; exact HB3.out.set (by omega) _ _)
 have HX4 := hide (show HoldB w2.heap.size 36 vs2 W4 by rw [hW4]; exact holds_set HX3.out (by omega) _ _)
 have HV4 := hide (show RepC _ W4 _ _ by rw [hW4]; exact HV2.out.dep hqq _ _)
 have HW4 := hide hW4
 clear hW4 H3 HT3 HB3 HX3 HV2
 go_wp2_with (first | rw [← HW4.out] | (refine wpList_storeBig rfl 36 _ _ rfl w2.heap.size 7 vs2 big_expr hlen hone.out rfl rfl (box_new _ _ _ rfl) ?_; rw [← HW3.out]) | (refine wpList_loadBig rfl 36 _ rfl w2.heap.size 7 vs2 big_expr hlen rfl HX4.out ?_) | (refine wpList_storeBig rfl 36 _ _ rfl w.heap.size 7 vs2 big_expr hlen hone.out rfl rfl HB4.out ?_))
 refine bodyPost_ret (v := .agg vs2.toArray) (results_big rfl rfl big_expr hlen (set_row _ HB4.out.choose_spec.1)) rfl ?_
 rw [HR.out]
 refine ⟨vs2, rfl, HV4.out.ret (Nat.lt_succ_self _) (Nat.le_succ _) _, ?_, HT4.out.row (Nat.le_refl _) _⟩
 rw [hdd, Int.add_sub_cancel]
 exact H4.out.row cq _
end Go.Proofs.YtljoajjlkjjgeaaGreatDoor
namespace Go.Proofs.YtljoajjlkjjgeaaGreatDoor
open Go.RowKit Go.Sort LM Go

set_option maxHeartbeats 8000000 in
set_option maxRecDepth 100000 in
theorem nestedPlan_any {q : Nat} {TL : List Tk} {E : Nat} {α : Type} {M : Rule α} (enc : α → List Dt) (henc : ∀ a, (enc a).length = 16) (hN : Nice M) (s : PSt) (w : World) (hd0 : 0 ≤ s.d) (hd1 : s.d ≤ 1099511627776) (H : ParAt q TL E w s)
  (HM : ∀ w1, ParAt q TL E w1 ⟨s.L, s.d + 1, s.b⟩ → Calls Tryz.prog 69 #[pP q] w1 (AggTo q TL E w1 (enc (M ⟨s.L, s.d + 1, s.b⟩).1) (M ⟨s.L, s.d + 1, s.b⟩).2)) :
  Calls Tryz.prog 68 #[pP q, .func (.func 69) #[pP q] #[]] w (AggTo q TL E w (enc (nestedS M s).1) (nestedS M s).2) := by
 have HR := hide (show nestedS M s = ((M ⟨s.L, s.d + 1, s.b⟩).1, ⟨(M ⟨s.L, s.d + 1, s.b⟩).2.L, (M ⟨s.L, s.d + 1, s.b⟩).2.d - 1, (M ⟨s.L, s.d + 1, s.b⟩).2.b⟩) from rfl)
 have hdd : (M ⟨s.L, s.d + 1, s.b⟩).2.d = s.d + 1 := (hN.tr ⟨s.L, s.d + 1, s.b⟩ H.wf).d
 generalize nestedS M s = RES at *
 have cq := H.lt
 have hqq : q < w.heap.size + 1 := by omega
 obtain ⟨W0, hW0⟩ : ∃ W0, W0 = w.alloc (.cells #[.int .i64 0, .string ⟨#[]⟩, .slice none 0 0, .int .i64 0, .string ⟨#[]⟩, .int .i64 0, .int .i64 0, .string ⟨#[]⟩, .string ⟨#[]⟩, .slice none 0 0, .slice none 0 0, .slice none 0 0, .slice none 0 0, .slice none 0 0, .slice none 0 0, .int .i64 0] 41) := ⟨_, rfl⟩
 have H0 := hide (show ParAt q TL E W0 s by rw [hW0]; exact H.alloc _)
 have HT0 := hide (show Turn q w W0 by rw [hW0]; exact (Turn.refl _ _).alloc _)
 have HB0 := hide (show BoxAt w.heap.size 41 16 W0 by rw [hW0]; exact box_new _ _ _ rfl)
 have hz0 : w.heap.size + 1 ≤ W0.heap.size := by rw [hW0]; simp
 have HW0 := hide hW0
 clear hW0
 obtain ⟨c2, f2, cqW⟩ := H0.out.cells
 obtain ⟨W1, hW1⟩ : ∃ W1, W1 = W0.setCell ⟨q, 2, none⟩ (.int .i64 (s.d + 1)) := ⟨_, rfl⟩
 have H1 := hide (show ParAt q TL E W1 ⟨s.L, s.d + 1, s.b⟩ by rw [hW1]; exact H0.out.dep _)
 have HT1 := hide (show Turn q w W1 by rw [hW1]; exact HT0.out.set _ _)
 have HB1 := hide (show BoxAt w.heap.size 41 16 W1 by rw [hW1]; exact HB0.out.set (by omega) _ _)
 have hz1 : w.heap.size + 1 ≤ W1.heap.size := by rw [hW1]; simpa using hz0
 have HW1 := hide hW1
 have HM1 := hide (HM W1 H1.out)
 generalize M ⟨s.L, s.d + 1, s.b⟩ = MS at *
 obtain ⟨x, s2⟩ := MS
 simp only at hdd HR HM1
 clear hW1 HM hN H H0 HT0 HB0
 unfold AggTo
 unfold AggTo at HM1
 go_enter Tryz.func68, Tryz.ntmps68
 go_wp2_with (first | rw [← HW0.out] | rw [← HW1.out])
 clear c2 f2 cqW
 refine (HM1.out).mono ?_
 rintro e w2 ⟨vs2, rfl, hv, h, ht⟩
 have H2 := hide h
 have HT2 := hide (HT1.out.trans ht)
 have HB2 := hide (HB1.out.turn ht cq)
 have hz2 : w.heap.size + 1 ≤ w2.heap.size := Nat.le_trans hz1 ht.size
 have HV2 := hide (hv.stay (Stay.at (fun _ hb => Nat.le_trans hz1 hb) _))
 clear hv
 clear h ht H1 HT1 HB1
 have hlen : vs2.length = 16 := HV2.out.1.trans (henc _)
 have hone := hide HV2.out.one_cell
 obtain ⟨w3, hw3⟩ : ∃ W, W = w2.alloc (.cells vs2.toArray 41) := ⟨_, rfl⟩
 have HW3 := hide (show w3 = (w2.alloc (.cells #[.int .i64 0, .string ⟨#[]⟩, .slice none 0 0, .int .i64 0, .string ⟨#[]⟩, .int .i64 0, .int .i64 0, .string ⟨#[]⟩, .string ⟨#[]⟩, .slice none 0 0, .slice none 0 0, .slice none 0 0, .slice none 0 0, .slice none 0 0, .slice none 0 0, .int .i64 0] 41)).setRow w2.heap.size vs2.toArray by rw [hw3, World.setRow_alloc_new])
 have H3 := hide (show ParAt q TL E w3 _ by rw [hw3]; exact H2.out.alloc _)
 have HT3 := hide (show Turn q w w3 by rw [hw3]; exact HT2.out.alloc _)
 have HX3 := hide (show HoldB w2.heap.size 41 vs2 w3 by rw [hw3]; exact heap_alloc_new _ _)
 have hz3 : w.heap.size + 1 ≤ w3.heap.size := by rw [hw3]; simp; omega
 have hq3 : q < w2.heap.size := by omega
 have HB3 := hide (show BoxAt w.heap.size 41 16 w3 by rw [hw3]; exact HB2.out.turn ((Turn.refl q _).alloc _) cq)
 have HV2' := hide (show RepC _ w3 _ _ by rw [hw3]; exact HV2.out.stay (Stay.below (Joins.below_alloc1 _ _)))
 clear HV2 hw3 H2 HT2 HB2
 have HV2 := HV2'
 clear HV2'
 obtain ⟨c2, f2, cqW⟩ := H3.out.cells
 rw [hdd] at c2
 obtain ⟨W4, hW4⟩ : ∃ W4, W4 = w3.setCell ⟨q, 2, none⟩ (.int .i64 s.d) := ⟨_, rfl⟩
 have H4 := hide (show ParAt q TL E W4 ⟨s2.L, s.d, s2.b⟩ by rw [hW4]; exact H3.out.dep _)
 have HT4 := hide (show Turn q w W4 by rw [hW4]; exact HT3.out.set _ _)
 have HB4 := hide (show BoxAt w.heap.size 41 16 W4 by rw [hW4]; exact HB3.out.set (by omega) _ _)
 have HX4 := hide (show HoldB w2.heap.size 41 vs2 W4 by rw [hW4]; exact holds_set HX3.out (by omega) _ _)
 have HV4 := hide (show RepC _ W4 _ _ by rw [hW4]; exact HV2.out.dep hqq _ _)
 have HW4 := hide hW4
 clear hW4 H3 HT3 HB3 HX3 HV2
 go_wp2_with (first | rw [← HW4.out] | (refine wpList_storeBig rfl 41 _ _ rfl w2.heap.size 16 vs2 big_plan hlen hone.out rfl rfl (box_new _ _ _ rfl) ?_; rw [← HW3.out]) | (refine wpList_loadBig rfl 41 _ rfl w2.heap.size 16 vs2 big_plan hlen rfl HX4.out ?_) | (refine wpList_storeBig rfl 41 _ _ rfl w.heap.size 16 vs2 big_plan hlen hone.out rfl rfl HB4.out ?_))
 refine bodyPost_ret (v := .agg vs2.toArray) (results_big rfl rfl big_plan hlen (set_row _ HB4.out.choose_spec.1)) rfl ?_
 rw [HR.out]
 refine ⟨vs2, rfl, HV4.out.ret (Nat.lt_succ_self _) (Nat.le_succ _) _, ?_, HT4.out.row (Nat.le_refl _) _⟩
 rw [hdd, Int.add_sub_cancel]
 exact H4.out.row cq _
end Go.Proofs.YtljoajjlkjjgeaaGreatDoor
namespace Go.Proofs.YtljoajjlkjjgeaaGreatDoor
open Go.RowKit Go.Sort LM Go

set_option maxHeartbeats 8000000 in
set_option maxRecDepth 100000 in
theorem enclosedExprs_any {q : Nat} {TL : List Tk} {E : Nat} {α : Type} {M : Rule α} (enc : α → Dt) (s : PSt) (w : World) (H : ParAt q TL E w s)
  (HM : ∀ w1, ParAt q TL E w1 (expectS [40] s) → Calls Tryz.prog 159 #[pP q] w1 (OneTo q TL E w1 (enc (M (expectS [40] s)).1) (M (expectS [40] s)).2)) :
  Calls Tryz.prog 158 #[pP q, .func (.func 159) #[pP q] #[]] w (OneTo q TL E w (enc (enclosedS M s).1) (enclosedS M s).2) := by
 have HR := hide (show enclosedS M s = ((M (expectS [40] s)).1, expectS [41] (M (expectS [40] s)).2) from rfl)
 have HE1 := hide (fun w1 (h : ParAt q TL E w1 s) => expect_any [40] w1 h)
 have HE2 := hide (fun s1 w1 (h : ParAt q TL E w1 s1) => expect_any [41] w1 h)
 have HMh := hide HM
 generalize enclosedS M s = RES at *
 generalize expectS [40] s = s1 at *
 generalize M s1 = MS at *
 obtain ⟨x, s2⟩ := MS
 simp only at HR HMh
 have cq := H.lt
 have hqq : q < w.heap.size := cq
 have H0 := hide H
 have HT0 := hide (Turn.refl q w)
 have hz0 : w.heap.size ≤ w.heap.size := Nat.le_refl _
 unfold OneTo at HMh ⊢
 clear HM
 clear H
 go_enter Tryz.func158, Tryz.ntmps158
 go_wp2_with fail
 refine (HE1.out w H0.out).mono ?_
 rintro e w1 ⟨rfl, h, ht⟩
 have H1 := hide h
 have HT1 := hide (HT0.out.trans ht)
 have hz1 : w.heap.size ≤ w1.heap.size := Nat.le_trans hz0 ht.size
 clear h ht H0 HT0
 go_wp2_with fail
 refine (HMh.out w1 H1.out).mono ?_
 rintro e w2 ⟨v2, rfl, hv, h, ht⟩
 have H2 := hide h
 have HT2 := hide (HT1.out.trans ht)
 have hz2 : w.heap.size ≤ w2.heap.size := Nat.le_trans hz1 ht.size
 have HV2 := hide (hv.stay (Stay.at (fun _ hb => Nat.le_trans hz1 hb) _))
 clear hv
 clear h ht H1 HT1
 go_wp2_with fail
 refine (HE2.out _ w2 H2.out).mono ?_
 rintro e w3 ⟨rfl, h, ht⟩
 have H3 := hide h
 have HT3 := hide (HT2.out.trans ht)
 have hz3 : w.heap.size ≤ w3.heap.size := Nat.le_trans hz2 ht.size
 replace HV2 := hide (HV2.out.stay (Stay.new ht hqq (Nat.le_refl _)))
 clear h ht H2 HT2
 go_wp2_with fail
 go_ret
 rw [HR.out]
 exact ⟨v2, rfl, HV2.out, H3.out, HT3.out⟩
set_option maxHeartbeats 8000000 in
set_option maxRecDepth 100000 in
theorem enclosedStr_any {q : Nat} {TL : List Tk} {E : Nat} {α : Type} {M : Rule α} (enc : α → Dt) (s : PSt) (w : World) (H : ParAt q TL E w s)
  (HM : ∀ w1, ParAt q TL E w1 (expectS [40] s) → Calls Tryz.prog 112 #[pP q] w1 (OneTo q TL E w1 (enc (M (expectS [40] s)).1) (M (expectS [40] s)).2)) :
  Calls Tryz.prog 111 #[pP q, .func (.func 112) #[pP q] #[]] w (OneTo q TL E w (enc (enclosedS M s).1) (enclosedS M s).2) := by
 have HR := hide (show enclosedS M s = ((M (expectS [40] s)).1, expectS [41] (M (expectS [40] s)).2) from rfl)
 have HE1 := hide (fun w1 (h : ParAt q TL E w1 s) => expect_any [40] w1 h)
 have HE2 := hide (fun s1 w1 (h : ParAt q TL E w1 s1) => expect_any [41] w1 h)
 have HMh := hide HM
 generalize enclosedS M s = RES at *
 generalize expectS [40] s = s1 at *
 generalize M s1 = MS at *
 obtain ⟨x, s2⟩ := MS
 simp only at HR HMh
 have cq := H.lt
 have hqq : q < w.heap.size := cq
 have H0 := hide H
 have HT0 := hide (Turn.refl q w)
 have hz0 : w.heap.size ≤ w.heap.size := Nat.le_refl _
 unfold OneTo at HMh ⊢
 clear HM
 clear H
 go_enter Tryz.func111, Tryz.ntmps111
 go_wp2_with fail
 refine (HE1.out w H0.out).mono ?_
 rintro e w1 ⟨rfl, h, ht⟩
 have H1 := hide h
 have HT1 := hide (HT0.out.trans ht)
 have hz1 : w.heap.size ≤ w1.heap.size := Nat.le_trans hz0 ht.size
 clear h ht H0 HT0
 go_wp2_with fail
 refine (HMh.out w1 H1.out).mono ?_
 rintro e w2 ⟨v2, rfl, hv, h, ht⟩
 have H2 := hide h
 have HT2 := hide (HT1.out.trans ht)
 have hz2 : w.heap.size ≤ w2.heap.size := Nat.le_trans hz1 ht.size
 have HV2 := hide (hv.stay (Stay.at (fun _ hb => Nat.le_trans hz1 hb) _))
 clear hv
 clear h ht H1 HT1
 go_wp2_with fail
 refine (HE2.out _ w2 H2.out).mono ?_
 rintro e w3 ⟨rfl, h, ht⟩
 have H3 := hide h
 have HT3 := hide (HT2.out.trans ht)
 have hz3 : w.heap.size ≤ w3.heap.size := Nat.le_trans hz2 ht.size
 replace HV2 := hide (HV2.out.stay (Stay.new ht hqq (Nat.le_refl _)))
 clear h ht H2 HT2
 go_wp2_with fail
 go_ret
 rw [HR.out]
 exact ⟨v2, rfl, HV2.out, H3.out, HT3.out⟩
set_option maxHeartbeats 8000000 in
set_option maxRecDepth 100000 in
theorem enclosedSch_any {q : Nat} {TL : List Tk} {E : Nat} {α : Type} {M : Rule α} (enc : α → Dt) (s : PSt) (w : World) (H : ParAt q TL E w s)
  (HM : ∀ w1, ParAt q TL E w1 (expectS [40] s) → Calls Tryz.prog 85 #[pP q] w1 (OneTo q TL E w1 (enc (M (expectS [40] s)).1) (M (expectS [40] s)).2)) :
  Calls Tryz.prog 84 #[pP q, .func (.func 85) #[pP q] #[]] w (OneTo q TL E w (enc (enclosedS M s).1) (enclosedS M s).2) := by
 have HR := hide (show enclosedS M s = ((M (expectS [40] s)).1, expectS [41] (M (expectS [40] s)).2) from rfl)
 have HE1 := hide (fun w1 (h : ParAt q TL E w1 s) => expect_any [40] w1 h)
 have HE2 := hide (fun s1 w1 (h : ParAt q TL E w1 s1) => expect_any [41] w1 h)
 have HMh := hide HM
 generalize enclosedS M s = RES at *
 generalize expectS [40] s = s1 at *
 generalize M s1 = MS at *
 obtain ⟨x, s2⟩ := MS
 simp only at HR HMh
 have cq := H.lt
 have hqq : q < w.heap.size := cq
 have H0 := hide H
 have HT0 := hide (Turn.refl q w)
 have hz0 : w.heap.size ≤ w.heap.size := Nat.le_refl _
 unfold OneTo at HMh ⊢
 clear HM
 clear H
 go_enter Tryz.func84, Tryz.ntmps84
 go_wp2_with fail
 refine (HE1.out w H0.out).mono ?_
 rintro e w1 ⟨rfl, h, ht⟩
 have H1 := hide h
 have HT1 := hide (HT0.out.trans ht)
 have hz1 : w.heap.size ≤ w1.heap.size := Nat.le_trans hz0 ht.size
 clear h ht H0 HT0
 go_wp2_with fail
 refine (HMh.out w1 H1.out).mono ?_
 rintro e w2 ⟨v2, rfl, hv, h, ht⟩
 have H2 := hide h
 have HT2 := hide (HT1.out.trans ht)
 have hz2 : w.heap.size ≤ w2.heap.size := Nat.le_trans hz1 ht.size
 have HV2 := hide (hv.stay (Stay.at (fun _ hb => Nat.le_trans hz1 hb) _))
 clear hv
 clear h ht H1 HT1
 go_wp2_with fail
 refine (HE2.out _ w2 H2.out).mono ?_
 rintro e w3 ⟨rfl, h, ht⟩
 have H3 := hide h
 have HT3 := hide (HT2.out.trans ht)
 have hz3 : w.heap.size ≤ w3.heap.size := Nat.le_trans hz2 ht.size
 replace HV2 := hide (HV2.out.stay (Stay.new ht hqq (Nat.le_refl _)))
 clear h ht H2 HT2
 go_wp2_with fail
 go_ret
 rw [HR.out]
 exact ⟨v2, rfl, HV2.out, H3.out, HT3.out⟩
end Go.Proofs.YtljoajjlkjjgeaaGreatDoor
namespace Go.Proofs.YtljoajjlkjjgeaaGreatDoor
open Go.RowKit Go.Sort LM Go

set_option maxHeartbeats 8000000 in
set_option maxRecDepth 100000 in
theorem enclosedExpr_any {q : Nat} {TL : List Tk} {E : Nat} {α : Type} {M : Rule α} (enc : α → List Dt) (henc : ∀ a, (enc a).length = 7) (s : PSt) (w : World) (H : ParAt q TL E w s)
  (HM : ∀ w1, ParAt q TL E w1 (expectS [40] s) → Calls Tryz.prog 73 #[pP q] w1 (AggTo q TL E w1 (enc (M (expectS [40] s)).1) (M (expectS [40] s)).2)) :
  Calls Tryz.prog 160 #[pP q, .func (.func 73) #[pP q] #[]] w (AggTo q TL E w (enc (enclosedS M s).1) (enclosedS M s).2) := by
 have HR := hide (show enclosedS M s = ((M (expectS [40] s)).1, expectS [41] (M (expectS [40] s)).2) from rfl)
 have HE1 := hide (fun w1 (h : ParAt q TL E w1 s) => expect_any [40] w1 h)
 have HE2 := hide (fun s1 w1 (h : ParAt q TL E w1 s1) => expect_any [41] w1 h)
 have HMh := hide HM
 generalize enclosedS M s = RES at *
 generalize expectS [40] s = s1 at *
 generalize M s1 = MS at *
 obtain ⟨x, s2⟩ := MS
 simp only at HR HMh
 have cq := H.lt
 have hqq : q < w.heap.size + 1 := by omega
 obtain ⟨W0, hW0⟩ : ∃ W0, W0 = w.alloc (.cells #[.int .i64 0, .string ⟨#[]⟩, .int .i64 0, .int .i64 0, .string ⟨#[]⟩, .string ⟨#[]⟩, .slice none 0 0] 36) := ⟨_, rfl⟩
 have H0 := hide (show ParAt q TL E W0 s by rw [hW0]; exact H.alloc _)
 have HT0 := hide (show Turn q w W0 by rw [hW0]; exact (Turn.refl _ _).alloc _)
 have HB0 := hide (show BoxAt w.heap.size 36 7 W0 by rw [hW0]; exact box_new _ _ _ rfl)
 have hz0 : w.heap.size + 1 ≤ W0.heap.size := by rw [hW0]; simp
 have HW0 := hide hW0
 clear hW0
 unfold AggTo at HMh ⊢
 clear HM
 clear H
 go_enter Tryz.func160, Tryz.ntmps160
 go_wp2_with fail
 rw [← HW0.out]
 refine (HE1.out W0 H0.out).mono ?_
 rintro e w1 ⟨rfl, h, ht⟩
 have H1 := hide h
 have HT1 := hide (HT0.out.trans ht)
 have HB1 := hide (HB0.out.turn ht cq)
 have hz1 : w.heap.size + 1 ≤ w1.heap.size := Nat.le_trans hz0 ht.size
 clear h ht H0 HT0 HB0
 go_wp2_with fail
 refine (HMh.out w1 H1.out).mono ?_
 rintro e w2 ⟨vs2, rfl, hv, h, ht⟩
 have H2 := hide h
 have HT2 := hide (HT1.out.trans ht)
 have HB2 := hide (HB1.out.turn ht cq)
 have hz2 : w.heap.size + 1 ≤ w2.heap.size := Nat.le_trans hz1 ht.size
 have HV2 := hide (hv.stay (Stay.at (fun _ hb => Nat.le_trans hz1 hb) _))
 clear hv
 clear h ht H1 HT1 HB1
 have hlen : vs2.length = 7 := HV2.out.1.trans (henc _)
 have hone := hide HV2.out.one_cell
 obtain ⟨w3, hw3⟩ : ∃ W, W = w2.alloc (.cells vs2.toArray 36) := ⟨_, rfl⟩
 have HW3 := hide (show w3 = (w2.alloc (.cells #[.int .i64 0, .string ⟨#[]⟩, .int .i64 0, .int .i64 0, .string ⟨#[]⟩, .string ⟨#[]⟩, .slice none 0 0] 36)).setRow w2.heap.size vs2.toArray by rw [hw3, World.setRow_alloc_new])
 have H3 := hide (show ParAt q TL E w3 _ by rw [hw3]; exact H2.out.alloc _)
 have HT3 := hide (show Turn q w w3 by rw [hw3]; exact HT2.out.alloc _)
 have HX3 := hide (show HoldB w2.heap.size 36 vs2 w3 by rw [hw3]; exact heap_alloc_new _ _)
 have hz3 : w.heap.size + 1 ≤ w3.heap.size := by rw [hw3]; simp; omega
 have hq3 : q < w2.heap.size := by omega
 have HB3 := hide (show BoxAt w.heap.size 36 7 w3 by rw [hw3]; exact HB2.out.turn ((Turn.refl q _).alloc _) cq)
 have HV2' := hide (show RepC _ w3 _ _ by rw [hw3]; exact HV2.out.stay (Stay.below (Joins.below_alloc1 _ _)))
 clear HV2 hw3 H2 HT2 HB2
 have HV2 := HV2'
 clear HV2'
 go_wp2_with (first | (refine wpList_storeBig rfl 36 _ _ rfl w2.heap.size 7 vs2 big_expr hlen hone.out rfl rfl (box_new _ _ _ rfl) ?_; rw [← HW3.out]))
 have HX4 := hide (fun w4 (k : Turn q w3 w4) => holds_turn HX3.out k hq3)
 refine (HE2.out _ w3 H3.out).mono ?_
 rintro e w4 ⟨rfl, h, ht⟩
 have HXX := hide (HX4.out _ ht)
 have H4 := hide h
 have HT4 := hide (HT3.out.trans ht)
 have HB4 := hide (HB3.out.turn ht cq)
 have HV4 := hide (HV2.out.stay (Stay.new ht hqq (Nat.le_refl _)))
 clear h ht H3 HT3 HB3 HX3 HX4 HV2
 go_wp2_with (first | (refine wpList_loadBig rfl 36 _ rfl w2.heap.size 7 vs2 big_expr hlen rfl HXX.out ?_) | (refine wpList_storeBig rfl 36 _ _ rfl w.heap.size 7 vs2 big_expr hlen hone.out rfl rfl HB4.out ?_))
 refine bodyPost_ret (v := .agg vs2.toArray) (results_big rfl rfl big_expr hlen (set_row _ HB4.out.choose_spec.1)) rfl ?_
 rw [HR.out]
 exact ⟨vs2, rfl, HV4.out.ret (Nat.lt_succ_self _) (Nat.le_succ _) _, H4.out.row cq _, HT4.out.row (Nat.le_refl _) _⟩
set_option maxHeartbeats 8000000 in
set_option maxRecDepth 100000 in
theorem enclosedPlan_any {q : Nat} {TL : List Tk} {E : Nat} {α : Type} {M : Rule α} (enc : α → List Dt) (henc : ∀ a, (enc a).length = 16) (s : PSt) (w : World) (H : ParAt q TL E w s)
  (HM : ∀ w1, ParAt q TL E w1 (expectS [40] s) → Calls Tryz.prog 33 #[pP q] w1 (AggTo q TL E w1 (enc (M (expectS [40] s)).1) (M (expectS [40] s)).2)) :
  Calls Tryz.prog 104 #[pP q, .func (.func 33) #[pP q] #[]] w (AggTo q TL E w (enc (enclosedS M s).1) (enclosedS M s).2) := by
 have HR := hide (show enclosedS M s = ((M (expectS [40] s)).1, expectS [41] (M (expectS [40] s)).2) from rfl)
 have HE1 := hide (fun w1 (h : ParAt q TL E w1 s) => expect_any [40] w1 h)
 have HE2 := hide (fun s1 w1 (h : ParAt q TL E w1 s1) => expect_any [41] w1 h)
 have HMh := hide HM
 generalize enclosedS M s = RES at *
 generalize expectS [40] s = s1 at *
 generalize M s1 = MS at *
 obtain ⟨x, s2⟩ := MS
 simp only at HR HMh
 have cq := H.lt
 have hqq : q < w.heap.size + 1 := by omega
 obtain ⟨W0, hW0⟩ : ∃ W0, W0 = w.alloc (.cells #[.int .i64 0, .string ⟨#[]⟩, .slice none 0 0, .int .i64 0, .string ⟨#[]⟩, .int .i64 0, .int .i64 0, .string ⟨#[]⟩, .string ⟨#[]⟩, .slice none 0 0, .slice none 0 0, .slice none 0 0, .slice none 0 0, .slice none 0 0, .slice none 0 0, .int .i64 0] 41) := ⟨_, rfl⟩
 have H0 := hide (show ParAt q TL E W0 s by rw [hW0]; exact H.alloc _)
 have HT0 := hide (show Turn q w W0 by rw [hW0]; exact (Turn.refl _ _).alloc _)
 have HB0 := hide (show BoxAt w.heap.size 41 16 W0 by rw [hW0]; exact box_new _ _ _ rfl)
 have hz0 : w.heap.size + 1 ≤ W0.heap.size := by rw [hW0]; simp
 have HW0 := hide hW0
 clear hW0
 unfold AggTo at HMh ⊢
 clear HM
 clear H
 go_enter Tryz.func104, Tryz.ntmps104
 go_wp2_with fail
 rw [← HW0.out]
 refine (HE1.out W0 H0.out).mono ?_
 rintro e w1 ⟨rfl, h, ht⟩
 have H1 := hide h
 have HT1 := hide (HT0.out.trans ht)
 have HB1 := hide (HB0.out.turn ht cq)
 have hz1 : w.heap.size + 1 ≤ w1.heap.size := Nat.le_trans hz0 ht.size
 clear h ht H0 HT0 HB0
 go_wp2_with fail
 refine (HMh.out w1 H1.out).mono ?_
 rintro e w2 ⟨vs2, rfl, hv, h, ht⟩
 have H2 := hide h
 have HT2 := hide (HT1.out.trans ht)
 have HB2 := hide (HB1.out.turn ht cq)
 have hz2 : w.heap.size + 1 ≤ w2.heap.size := Nat.le_trans hz1 ht.size
 have HV2 := hide (hv.stay (Stay.at (fun _ hb => Nat.le_trans hz1 hb) _))
 clear hv
 clear h ht H1 HT1 HB1
 have hlen : vs2.length = 16 := HV2.out.1.trans (henc _)
 have hone := hide HV2.out.one_cell
 obtain ⟨w3, hw3⟩ : ∃ W, W = w2.alloc (.cells vs2.toArray 41) := ⟨_, rfl⟩
 have HW3 := hide (show w3 = (w2.alloc (.cells #[.int .i64 0, .string ⟨#[]⟩, .slice none 0 0, .int .i64 0, .string ⟨#[]⟩, .int .i64 0, .int .i64 0, .string ⟨#[]⟩, .string ⟨#[]⟩, .slice none 0 0, .slice none 0 0, .slice none 0 0, .slice none 0 0, .slice none 0 0, .slice none 0 0, .int .i64 0] 41)).setRow w2.heap.size vs2.toArray by rw [hw3, World.setRow_alloc_new])
 have H3 := hide (show ParAt q TL E w3 _ by rw [hw3]; exact H2.out.alloc _)
 have HT3 := hide (show Turn q w w3 by rw [hw3]; exact HT2.out.alloc _)
 have HX3 := hide (show HoldB w2.heap.size 41 vs2 w3 by rw [hw3]; exact heap_alloc_new _ _)
 have hz3 : w.heap.size + 1 ≤ w3.heap.size := by rw [hw3]; simp; omega
 have hq3 : q < w2.heap.size := by omega
 have HB3 := hide (show BoxAt w.heap.size 41 16 w3 by rw [hw3]; exact HB2.out.turn ((Turn.refl q _).alloc _) cq)
 have HV2' := hide (show RepC _ w3 _ _ by rw [hw3]; exact HV2.out.stay (Stay.below (Joins.below_alloc1 _ _)))
 clear HV2 hw3 H2 HT2 HB2
 have HV2 := HV2'
 clear HV2'
 go_wp2_with (first | (refine wpList_storeBig rfl 41 _ _ rfl w2.heap.size 16 vs2 big_plan hlen hone.out rfl rfl (box_new _ _ _ rfl) ?_; rw [← HW3.out]))
 have HX4 := hide (fun w4 (k : Turn q w3 w4) => holds_turn HX3.out k hq3)
 refine (HE2.out _ w3 H3.out).mono ?_
 rintro e w4 ⟨rfl, h, ht⟩
 have HXX := hide (HX4.out _ ht)
 have H4 := hide h
 have HT4 := hide (HT3.out.trans ht)
 have HB4 := hide (HB3.out.turn ht cq)
 have HV4 := hide (HV2.out.stay (Stay.new ht hqq (Nat.le_refl _)))
 clear h ht H3 HT3 HB3 HX3 HX4 HV2
 go_wp2_with (first | (refine wpList_loadBig rfl 41 _ rfl w2.heap.size 16 vs2 big_plan hlen rfl HXX.out ?_) | (refine wpList_storeBig rfl 41 _ _ rfl w.heap.size 16 vs2 big_plan hlen hone.out rfl rfl HB4.out ?_))
 refine bodyPost_ret (v := .agg vs2.toArray) (results_big rfl rfl big_plan hlen (set_row _ HB4.out.choose_spec.1)) rfl ?_
 rw [HR.out]
 exact ⟨vs2, rfl, HV4.out.ret (Nat.lt_succ_self _) (Nat.le_succ _) _, H4.out.row cq _, HT4.out.row (Nat.le_refl _) _⟩
end Go.Proofs.YtljoajjlkjjgeaaGreatDoor
