/-
  step: first.
  step: group.
-/
import Derived.Test.YtljoajjlkjjgeaaGreatDoorMP1
namespace Go.Proofs.YtljoajjlkjjgeaaGreatDoor
open Go.RowKit Go.Sort LM Go

attribute [local go_sem] fld_tok0 fld_tok1 fld_tok2
set_option maxHeartbeats 8000000 in
set_option maxRecDepth 100000 in
theorem stepFirstBy {q : Nat} {TL : List Tk} {E : Nat} {Pq : Nat → Prop} (hPq : ¬ Pq q) (X : List (ByteArray × Bool) × PSt) (dq : List Dt) (hdq : dq.length = 16) (vq : List Value) (s : PSt) (w : World) (H : ParAt q TL E w s) (hq : RepC Pq w dq vq) (hk : (oneOfS stepWords s).1 = 8) (hc : isT (aheadS 0 (numberS (oneOfS stepWords s).2).2) [98, 121] = true)
  (HM : ∀ w1, ParAt q TL E w1 (takeS (numberS (oneOfS stepWords s).2).2).2 → Calls Tryz.prog 82 #[pP q, .func (.func 83) #[pP q] #[]] w1 (OneTo q TL E w1 (.row 2 (X.1.map dOrd)) X.2)) :
  Calls Tryz.prog 58 #[pP q, .agg vq.toArray] w (PlanTo q TL E Pq w ({k := 9, args := [dq], cnt := (numberS (oneOfS stepWords s).2).1, ord := X.1} : Pl).enc X.2) := by
 have cq := H.lt
 have crq : q < w.heap.size + 1 := by omega
 obtain ⟨i0, hi, hzi, hsi, hbi⟩ := info_parts plan_info
 have hlq : vq.length = 16 := hq.1.trans hdq
 have HOf := hide (fun A w1 (h : ParAt q TL E w1 s) (hA : StrW q w1 A stepWords) => oneOf_any A 8 stepWords w1 h hA (by decide))
 unfold StepTo at HOf
 rw [hk] at HOf
 have HNu := hide (fun w1 (h : ParAt q TL E w1 (oneOfS stepWords s).2) => number_any w1 h)
 unfold StepTo at HNu
 have HAc := hide (fun w1 (h : ParAt q TL E w1 (numberS (oneOfS stepWords s).2).2) => accept_any [98, 121] w1 h)
 unfold StepTo at HAc
 rw [hc] at HAc
 rw [if_pos rfl] at HAc
 unfold OneTo at HM
 replace HM := hide HM
 clear hc
 have h1q := hq.one_cell
 obtain ⟨W0, hW0⟩ : ∃ W0, W0 = (w.alloc (.cells vq.toArray 41)).alloc (.cells #[.int .i64 0, .string ⟨#[]⟩, .slice none 0 0, .int .i64 0, .string ⟨#[]⟩, .int .i64 0, .int .i64 0, .string ⟨#[]⟩, .string ⟨#[]⟩, .slice none 0 0, .slice none 0 0, .slice none 0 0, .slice none 0 0, .slice none 0 0, .slice none 0 0, .int .i64 0] 41) := ⟨_, rfl⟩
 have e0 : W0.heap.size = w.heap.size + 2 := by rw [hW0]; simp
 have HW0 := hide hW0
 have b0 : Below w.heap.size w W0 := by rw [hW0]; exact (Joins.below_alloc1 w _).alloc (Joins.below_alloc1 w _).size _
 have k0 : W0.heap[w.heap.size]? = some (.cells vq.toArray 41 (0, 0)) := by rw [hW0, Below.heap_alloc _ _ _ (by simp)]; exact heap_alloc_new _ _
 have k1 : W0.heap[w.heap.size + 1]? = some (.cells #[.int .i64 0, .string ⟨#[]⟩, .slice none 0 0, .int .i64 0, .string ⟨#[]⟩, .int .i64 0, .int .i64 0, .string ⟨#[]⟩, .string ⟨#[]⟩, .slice none 0 0, .slice none 0 0, .slice none 0 0, .slice none 0 0, .slice none 0 0, .slice none 0 0, .int .i64 0] 41 (0, 0)) := by rw [hW0, show w.heap.size + 1 = (w.alloc (.cells vq.toArray 41)).heap.size by simp]; exact heap_alloc_new _ _
 obtain ⟨W1, hW1⟩ : ∃ W1, W1 = W0.alloc (.cells vq.toArray 41) := ⟨_, rfl⟩
 have e1 : W1.heap.size = w.heap.size + 3 := by rw [hW1]; simp [e0]
 have HW1 := hide hW1
 have b1 : Below w.heap.size w W1 := by rw [hW1]; exact b0.alloc b0.size _
 obtain ⟨w2, hw2⟩ : ∃ w2, w2 = W1.alloc (.cells #[.int .i64 0, .string ⟨#[]⟩, .slice (some ⟨W0.heap.size, 0, none⟩) 1 1, .int .i64 0, .string ⟨#[]⟩, .int .i64 0, .int .i64 0, .string ⟨#[]⟩, .string ⟨#[]⟩, .slice none 0 0, .slice none 0 0, .slice none 0 0, .slice none 0 0, .slice none 0 0, .slice none 0 0, .int .i64 0] 41) := ⟨_, rfl⟩
 have HW2 := hide (show w2 = (W1.alloc (.cells #[.int .i64 0, .string ⟨#[]⟩, .slice none 0 0, .int .i64 0, .string ⟨#[]⟩, .int .i64 0, .int .i64 0, .string ⟨#[]⟩, .string ⟨#[]⟩, .slice none 0 0, .slice none 0 0, .slice none 0 0, .slice none 0 0, .slice none 0 0, .slice none 0 0, .int .i64 0] 41)).setRow W1.heap.size #[.int .i64 0, .string ⟨#[]⟩, .slice (some ⟨W0.heap.size, 0, none⟩) 1 1, .int .i64 0, .string ⟨#[]⟩, .int .i64 0, .int .i64 0, .string ⟨#[]⟩, .string ⟨#[]⟩, .slice none 0 0, .slice none 0 0, .slice none 0 0, .slice none 0 0, .slice none 0 0, .slice none 0 0, .int .i64 0] by rw [hw2, World.setRow_alloc_new])
 have b2 : Below w.heap.size w w2 := by rw [hw2]; exact b1.alloc b1.size _
 have e2 : w2.heap.size = w.heap.size + 4 := by rw [hw2]; simp [e1]
 have hz2 : w.heap.size + 4 ≤ w2.heap.size := Nat.le_of_eq e2.symm
 have H2 := hide (H.on b2)
 have HT2 := hide (Turn.of (q := q) b2)
 have HX := hide (show HoldB W1.heap.size 41 [.int .i64 0, .string ⟨#[]⟩, .slice (some ⟨W0.heap.size, 0, none⟩) 1 1, .int .i64 0, .string ⟨#[]⟩, .int .i64 0, .int .i64 0, .string ⟨#[]⟩, .string ⟨#[]⟩, .slice none 0 0, .slice none 0 0, .slice none 0 0, .slice none 0 0, .slice none 0 0, .slice none 0 0, .int .i64 0] w2 by rw [hw2]; exact heap_alloc_new _ _)
 have HB2 := hide (show BoxAt (w.heap.size + 1) 41 16 w2 by
  refine ⟨#[.int .i64 0, .string ⟨#[]⟩, .slice none 0 0, .int .i64 0, .string ⟨#[]⟩, .int .i64 0, .int .i64 0, .string ⟨#[]⟩, .string ⟨#[]⟩, .slice none 0 0, .slice none 0 0, .slice none 0 0, .slice none 0 0, .slice none 0 0, .slice none 0 0, .int .i64 0], ?_, rfl⟩
  rw [hw2, Below.heap_alloc _ _ _ (by omega), hW1, Below.heap_alloc _ _ _ (by omega)]; exact k1)
 have HAb := hide (show W0.heap.size < w2.heap.size by omega)
 have HAr := hide (show Rep (PSt' Pq w.heap.size W0.heap.size W1.heap.size) w2 (.row 16 [dq]) (.slice (some ⟨W0.heap.size, 0, none⟩) 1 1) from
  rep_one (t := 41) hq ⟨fun b hb h => Or.inl ⟨h, hb⟩, b2.size, fun b _ hb => b2.block b hb⟩ (Or.inr (Or.inl rfl)) (by omega) (by
   rw [hw2, Below.heap_alloc _ _ _ (by omega), hW1]; exact heap_alloc_new _ _))
 have hnp : ¬ PSt' Pq w.heap.size W0.heap.size W1.heap.size q := by
  rintro (h | h | h)
  ·exact hPq h.1
  ·omega
  ·omega
 have hlo0 : w.heap.size + 2 ≤ W0.heap.size := by omega
 have hlo1 : W0.heap.size < W1.heap.size := by omega
 have hlo2 : W1.heap.size < w2.heap.size := by omega
 have hqt : q < W1.heap.size := by omega
 have hup : W1.heap.size ≤ w.heap.size + 3 := by omega
 have hup0 : W0.heap.size ≤ w.heap.size + 2 := by omega
 have HK0 := hide k0
 have HAo := hide (show HoldB W0.heap.size 41 vq w2 by rw [hw2, HoldB, Below.heap_alloc _ _ _ (by omega), hW1]; exact heap_alloc_new _ _)
 have hqa : q < W0.heap.size := by omega
 unfold PlanTo
 clear hk e0 e1 e2 k0 k1 hW0 hW1 hw2 b0 b1 b2
 obtain ⟨w3, hw3⟩ : ∃ W, W = w2.alloc (.cells #[.string ⟨#[119, 104, 101, 114, 101]⟩, .string ⟨#[107, 101, 101, 112]⟩, .string ⟨#[106, 111, 105, 110]⟩, .string ⟨#[108, 101, 102, 116]⟩, .string ⟨#[103, 114, 111, 117, 112]⟩, .string ⟨#[117, 110, 105, 111, 110]⟩, .string ⟨#[100, 105, 115, 116, 105, 110, 99, 116]⟩, .string ⟨#[102, 105, 114, 115, 116]⟩] 9) := ⟨_, rfl⟩
 have HW3 := hide hw3
 have H3 := hide (show ParAt q TL E w3 _ by rw [hw3]; exact H2.out.alloc _)
 have HT3 := hide (show Turn q w w3 by rw [hw3]; exact HT2.out.alloc _)
 have hz3 : w.heap.size + 4 ≤ w3.heap.size := by rw [hw3]; simp; omega
 have HB3 := hide (show BoxAt (w.heap.size + 1) 41 16 w3 by rw [hw3]; exact HB2.out.turn ((Turn.refl q _).alloc _) crq)
 replace HAr := hide (HAr.out.stay (Stay.below (show Below w2.heap.size w2 w3 by rw [hw3]; exact Joins.below_alloc1 _ _)))
 replace HX := hide (show HoldB _ _ _ w3 by rw [hw3]; exact holds_turn HX.out ((Turn.refl q _).alloc _) hqt)
 replace HAo := hide (show HoldB _ _ _ w3 by rw [hw3]; exact holds_turn HAo.out ((Turn.refl q _).alloc _) hqa)
 have HS3 := hide (show StrW q w3 (some ⟨w2.heap.size, 0, none⟩) stepWords by rw [hw3]; exact strW_new w2 q stepWords _ (by omega))
 clear hw3 H2 HT2 HB2
 go_enter Tryz.func58, Tryz.ntmps58
 go_wp2_with (first | rw [← HW0.out] | rw [← HW3.out] | (refine wpList_loadBig rfl 41 _ rfl w.heap.size 16 vq big_plan hlq rfl HK0.out ?_) | (refine wpList_buildOne rfl 31 41 _ rfl 16 vq rfl hlq (by decide) (by decide) Tryz.underlying31 i0 _ hi hzi hsi ?_; rw [← HW1.out]) | (refine wpList_storeBig rfl 41 _ _ rfl W1.heap.size 16 [.int .i64 0, .string ⟨#[]⟩, .slice (some ⟨W0.heap.size, 0, none⟩) 1 1, .int .i64 0, .string ⟨#[]⟩, .int .i64 0, .int .i64 0, .string ⟨#[]⟩, .string ⟨#[]⟩, .slice none 0 0, .slice none 0 0, .slice none 0 0, .slice none 0 0, .slice none 0 0, .slice none 0 0, .int .i64 0] big_plan rfl (by simp [Value.oneCell']) rfl rfl (box_new _ _ _ rfl) ?_; rw [← HW2.out]))
 clear HW0 HW1 HW2 HW3 HK0
 refine (HOf.out _ w3 H3.out HS3.out).mono ?_
 rintro e w4 ⟨rfl, h, ht⟩
 have H4 := hide h
 have HT4 := hide (HT3.out.trans ht)
 have HB4 := hide (HB3.out.turn ht crq)
 have hz4 : w.heap.size + 4 ≤ w4.heap.size := Nat.le_trans hz3 ht.size
 replace HAr := hide (HAr.out.stay (Stay.turn ht hnp))
 replace HX := hide (holds_turn HX.out ht hqt)
 replace HAo := hide (holds_turn HAo.out ht hqa)
 clear h ht H3 HT3 HB3 HS3 HOf
 obtain ⟨w5, hw5⟩ : ∃ W, W = (w4.setCell ⟨W1.heap.size, 0, none⟩ (.int .i64 9)) := ⟨_, rfl⟩
 have HW5 := hide hw5
 have H5 := hide (show ParAt q TL E w5 _ by rw [hw5]; exact (H4.out.put (p := ⟨W1.heap.size, 0, none⟩) hqt _))
 have HT5 := hide (show Turn q w w5 by rw [hw5]; exact (HT4.out.put (p := ⟨W1.heap.size, 0, none⟩) (by simp; omega) _))
 have HX' := hide (show HoldB W1.heap.size 41 [.int .i64 9, .string ⟨#[]⟩, .slice (some ⟨W0.heap.size, 0, none⟩) 1 1, .int .i64 0, .string ⟨#[]⟩, .int .i64 0, .int .i64 0, .string ⟨#[]⟩, .string ⟨#[]⟩, .slice none 0 0, .slice none 0 0, .slice none 0 0, .slice none 0 0, .slice none 0 0, .slice none 0 0, .int .i64 0] w5 by rw [hw5]; exact (Joins.block_setCell (i := 0) HX.out _))
 have hz5 : w.heap.size + 4 ≤ w5.heap.size := by rw [hw5]; simp; omega
 have HB5 := hide (show BoxAt (w.heap.size + 1) 41 16 w5 by rw [hw5]; exact (HB4.out.set (by omega) _ _))
 have hst : Stay (PSt' Pq w.heap.size W0.heap.size W1.heap.size) (PSt' Pq w.heap.size W0.heap.size W1.heap.size) w4 w5 := ⟨fun _ _ h => h, by rw [hw5]; simp, fun b hb _ => by
  have hbt : b ≠ W1.heap.size := pst_ne hb (by omega) hlo1
  rw [hw5]; exact Below.heap_setCell w4 ⟨W1.heap.size, 0, none⟩ (.int .i64 9) b hbt⟩
 replace HAr := hide (HAr.out.stay hst)
 have HAo' := hide (show HoldB W0.heap.size 41 vq w5 by
  have b := W0.heap.size
  have hbt : W0.heap.size ≠ W1.heap.size := by omega
  rw [hw5]; exact (Below.heap_setCell w4 ⟨W1.heap.size, 0, none⟩ (.int .i64 9) W0.heap.size hbt).trans HAo.out)
 clear HAo
 have HAo := HAo'
 clear HAo' hst
 have x0 := Lib.cell_of_heap HX.out 0
 have x1 := Lib.cell_of_heap HX.out 1
 have x2 := Lib.cell_of_heap HX.out 2
 have x3 := Lib.cell_of_heap HX.out 3
 have x4 := Lib.cell_of_heap HX.out 4
 have x5 := Lib.cell_of_heap HX.out 5
 have x6 := Lib.cell_of_heap HX.out 6
 have x7 := Lib.cell_of_heap HX.out 7
 have x8 := Lib.cell_of_heap HX.out 8
 have x9 := Lib.cell_of_heap HX.out 9
 have x10 := Lib.cell_of_heap HX.out 10
 have x11 := Lib.cell_of_heap HX.out 11
 have x12 := Lib.cell_of_heap HX.out 12
 have x13 := Lib.cell_of_heap HX.out 13
 have x14 := Lib.cell_of_heap HX.out 14
 have x15 := Lib.cell_of_heap HX.out 15
 have xf := Lib.frozen_of_heap HX.out
 have xs := holds_size HX.out
 simp only [List.getElem?_toArray, List.getElem?_cons_zero, List.getElem?_cons_succ] at x0 x1 x2 x3 x4 x5 x6 x7 x8 x9 x10 x11 x12 x13 x14 x15
 have y0 := Lib.cell_of_heap HX'.out 0
 have y2 := Lib.cell_of_heap HX'.out 2
 have y4 := Lib.cell_of_heap HX'.out 10
 have y5 := Lib.cell_of_heap HX'.out 11
 simp only [List.getElem?_toArray, List.getElem?_cons_zero, List.getElem?_cons_succ] at y0 y2 y4 y5
 clear hw5
 go_wp2_with (first | rw [← HW5.out])
 clear xf xs x0 x1 x2 x3 x4 x5 x6 x7 x8 x9 x10 x11 x12 x13 x14 x15
 clear y0 y2 y4 y5 HX H4 HT4 HB4 HW5
 have HX := HX'
 clear HX'
 refine (HNu.out w5 H5.out).mono ?_
 rintro e w6 ⟨rfl, h, ht⟩
 have H6 := hide h
 have HT6 := hide (HT5.out.trans ht)
 have HB6 := hide (HB5.out.turn ht crq)
 have hz6 : w.heap.size + 4 ≤ w6.heap.size := Nat.le_trans hz5 ht.size
 replace HAr := hide (HAr.out.stay (Stay.turn ht hnp))
 replace HX := hide (holds_turn HX.out ht hqt)
 replace HAo := hide (holds_turn HAo.out ht hqa)
 clear h ht H5 HT5 HB5 HNu
 obtain ⟨w7, hw7⟩ : ∃ W, W = (w6.setCell ⟨W1.heap.size, 15, none⟩ (.int .i64 (numberS (oneOfS stepWords s).2).1)) := ⟨_, rfl⟩
 have HW7 := hide hw7
 have H7 := hide (show ParAt q TL E w7 _ by rw [hw7]; exact (H6.out.put (p := ⟨W1.heap.size, 15, none⟩) hqt _))
 have HT7 := hide (show Turn q w w7 by rw [hw7]; exact (HT6.out.put (p := ⟨W1.heap.size, 15, none⟩) (by simp; omega) _))
 have HX' := hide (show HoldB W1.heap.size 41 [.int .i64 9, .string ⟨#[]⟩, .slice (some ⟨W0.heap.size, 0, none⟩) 1 1, .int .i64 0, .string ⟨#[]⟩, .int .i64 0, .int .i64 0, .string ⟨#[]⟩, .string ⟨#[]⟩, .slice none 0 0, .slice none 0 0, .slice none 0 0, .slice none 0 0, .slice none 0 0, .slice none 0 0, .int .i64 (numberS (oneOfS stepWords s).2).1] w7 by rw [hw7]; exact (Joins.block_setCell (i := 15) HX.out _))
 have hz7 : w.heap.size + 4 ≤ w7.heap.size := by rw [hw7]; simp; omega
 have HB7 := hide (show BoxAt (w.heap.size + 1) 41 16 w7 by rw [hw7]; exact (HB6.out.set (by omega) _ _))
 have hst : Stay (PSt' Pq w.heap.size W0.heap.size W1.heap.size) (PSt' Pq w.heap.size W0.heap.size W1.heap.size) w6 w7 := ⟨fun _ _ h => h, by rw [hw7]; simp, fun b hb _ => by
  have hbt : b ≠ W1.heap.size := pst_ne hb (by omega) hlo1
  rw [hw7]; exact Below.heap_setCell w6 ⟨W1.heap.size, 15, none⟩ (.int .i64 (numberS (oneOfS stepWords s).2).1) b hbt⟩
 replace HAr := hide (HAr.out.stay hst)
 have HAo' := hide (show HoldB W0.heap.size 41 vq w7 by
  have b := W0.heap.size
  have hbt : W0.heap.size ≠ W1.heap.size := by omega
  rw [hw7]; exact (Below.heap_setCell w6 ⟨W1.heap.size, 15, none⟩ (.int .i64 (numberS (oneOfS stepWords s).2).1) W0.heap.size hbt).trans HAo.out)
 clear HAo
 have HAo := HAo'
 clear HAo' hst
 have x0 := Lib.cell_of_heap HX.out 0
 have x1 := Lib.cell_of_heap HX.out 1
 have x2 := Lib.cell_of_heap HX.out 2
 have x3 := Lib.cell_of_heap HX.out 3
 have x4 := Lib.cell_of_heap HX.out 4
 have x5 := Lib.cell_of_heap HX.out 5
 have x6 := Lib.cell_of_heap HX.out 6
 have x7 := Lib.cell_of_heap HX.out 7
 have x8 := Lib.cell_of_heap HX.out 8
 have x9 := Lib.cell_of_heap HX.out 9
 have x10 := Lib.cell_of_heap HX.out 10
 have x11 := Lib.cell_of_heap HX.out 11
 have x12 := Lib.cell_of_heap HX.out 12
 have x13 := Lib.cell_of_heap HX.out 13
 have x14 := Lib.cell_of_heap HX.out 14
 have x15 := Lib.cell_of_heap HX.out 15
 have xf := Lib.frozen_of_heap HX.out
 have xs := holds_size HX.out
 simp only [List.getElem?_toArray, List.getElem?_cons_zero, List.getElem?_cons_succ] at x0 x1 x2 x3 x4 x5 x6 x7 x8 x9 x10 x11 x12 x13 x14 x15
 have y0 := Lib.cell_of_heap HX'.out 0
 have y2 := Lib.cell_of_heap HX'.out 2
 have y4 := Lib.cell_of_heap HX'.out 10
 have y5 := Lib.cell_of_heap HX'.out 11
 simp only [List.getElem?_toArray, List.getElem?_cons_zero, List.getElem?_cons_succ] at y0 y2 y4 y5
 clear hw7
 go_wp2_with (first | rw [← HW7.out])
 clear xf xs x0 x1 x2 x3 x4 x5 x6 x7 x8 x9 x10 x11 x12 x13 x14 x15
 clear y0 y2 y4 y5 HX H6 HT6 HB6 HW7
 have HX := HX'
 clear HX'
 refine (HAc.out w7 H7.out).mono ?_
 rintro e w8 ⟨rfl, h, ht⟩
 have H8 := hide h
 have HT8 := hide (HT7.out.trans ht)
 have HB8 := hide (HB7.out.turn ht crq)
 have hz8 : w.heap.size + 4 ≤ w8.heap.size := Nat.le_trans hz7 ht.size
 replace HAr := hide (HAr.out.stay (Stay.turn ht hnp))
 replace HX := hide (holds_turn HX.out ht hqt)
 replace HAo := hide (holds_turn HAo.out ht hqa)
 clear h ht H7 HT7 HB7 HAc
 have x0 := Lib.cell_of_heap HX.out 0
 have x1 := Lib.cell_of_heap HX.out 1
 have x2 := Lib.cell_of_heap HX.out 2
 have x3 := Lib.cell_of_heap HX.out 3
 have x4 := Lib.cell_of_heap HX.out 4
 have x5 := Lib.cell_of_heap HX.out 5
 have x6 := Lib.cell_of_heap HX.out 6
 have x7 := Lib.cell_of_heap HX.out 7
 have x8 := Lib.cell_of_heap HX.out 8
 have x9 := Lib.cell_of_heap HX.out 9
 have x10 := Lib.cell_of_heap HX.out 10
 have x11 := Lib.cell_of_heap HX.out 11
 have x12 := Lib.cell_of_heap HX.out 12
 have x13 := Lib.cell_of_heap HX.out 13
 have x14 := Lib.cell_of_heap HX.out 14
 have x15 := Lib.cell_of_heap HX.out 15
 have xf := Lib.frozen_of_heap HX.out
 have xs := holds_size HX.out
 simp only [List.getElem?_toArray, List.getElem?_cons_zero, List.getElem?_cons_succ] at x0 x1 x2 x3 x4 x5 x6 x7 x8 x9 x10 x11 x12 x13 x14 x15
 go_wp2_with fail
 clear xf xs x0 x1 x2 x3 x4 x5 x6 x7 x8 x9 x10 x11 x12 x13 x14 x15
 refine (HM.out w8 H8.out).mono ?_
 rintro e w9 ⟨v9, rfl, hv, h, ht⟩
 have H9 := hide h
 have HT9 := hide (HT8.out.trans ht)
 have HB9 := hide (HB8.out.turn ht crq)
 have hz9 : w.heap.size + 4 ≤ w9.heap.size := Nat.le_trans hz8 ht.size
 replace HAr := hide (HAr.out.stay (Stay.turn ht hnp))
 replace HX := hide (holds_turn HX.out ht hqt)
 replace HAo := hide (holds_turn HAo.out ht hqa)
 have HV9 := hide (hv.stay (Stay.at (Q := PSt' Pq w.heap.size W0.heap.size W1.heap.size) (fun b hb => Or.inr (Or.inr (by have h1 := hz8; have h2 : _ ≤ b := hb; omega))) _))
 clear hv
 clear h ht H8 HT8 HB8 HM
 obtain ⟨A9, n9, c9, hsl⟩ := HV9.out.slice
 subst hsl
 obtain ⟨w10, hw10⟩ : ∃ W, W = (w9.setCell ⟨W1.heap.size, 14, none⟩ (.slice A9 n9 c9)) := ⟨_, rfl⟩
 have HW10 := hide hw10
 have H10 := hide (show ParAt q TL E w10 _ by rw [hw10]; exact (H9.out.put (p := ⟨W1.heap.size, 14, none⟩) hqt _))
 have HT10 := hide (show Turn q w w10 by rw [hw10]; exact (HT9.out.put (p := ⟨W1.heap.size, 14, none⟩) (by simp; omega) _))
 have HX' := hide (show HoldB W1.heap.size 41 [.int .i64 9, .string ⟨#[]⟩, .slice (some ⟨W0.heap.size, 0, none⟩) 1 1, .int .i64 0, .string ⟨#[]⟩, .int .i64 0, .int .i64 0, .string ⟨#[]⟩, .string ⟨#[]⟩, .slice none 0 0, .slice none 0 0, .slice none 0 0, .slice none 0 0, .slice none 0 0, .slice A9 n9 c9, .int .i64 (numberS (oneOfS stepWords s).2).1] w10 by rw [hw10]; exact (Joins.block_setCell (i := 14) HX.out _))
 have hz10 : w.heap.size + 4 ≤ w10.heap.size := by rw [hw10]; simp; omega
 have HB10 := hide (show BoxAt (w.heap.size + 1) 41 16 w10 by rw [hw10]; exact (HB9.out.set (by omega) _ _))
 have hst : Stay (PSt' Pq w.heap.size W0.heap.size W1.heap.size) (PSt' Pq w.heap.size W0.heap.size W1.heap.size) w9 w10 := ⟨fun _ _ h => h, by rw [hw10]; simp, fun b hb _ => by
  have hbt : b ≠ W1.heap.size := pst_ne hb (by omega) hlo1
  rw [hw10]; exact Below.heap_setCell w9 ⟨W1.heap.size, 14, none⟩ (.slice A9 n9 c9) b hbt⟩
 replace HAr := hide (HAr.out.stay hst)
 replace HV9 := hide (HV9.out.stay hst)
 have HAo' := hide (show HoldB W0.heap.size 41 vq w10 by
  have b := W0.heap.size
  have hbt : W0.heap.size ≠ W1.heap.size := by omega
  rw [hw10]; exact (Below.heap_setCell w9 ⟨W1.heap.size, 14, none⟩ (.slice A9 n9 c9) W0.heap.size hbt).trans HAo.out)
 clear HAo
 have HAo := HAo'
 clear HAo' hst
 have x0 := Lib.cell_of_heap HX.out 0
 have x1 := Lib.cell_of_heap HX.out 1
 have x2 := Lib.cell_of_heap HX.out 2
 have x3 := Lib.cell_of_heap HX.out 3
 have x4 := Lib.cell_of_heap HX.out 4
 have x5 := Lib.cell_of_heap HX.out 5
 have x6 := Lib.cell_of_heap HX.out 6
 have x7 := Lib.cell_of_heap HX.out 7
 have x8 := Lib.cell_of_heap HX.out 8
 have x9 := Lib.cell_of_heap HX.out 9
 have x10 := Lib.cell_of_heap HX.out 10
 have x11 := Lib.cell_of_heap HX.out 11
 have x12 := Lib.cell_of_heap HX.out 12
 have x13 := Lib.cell_of_heap HX.out 13
 have x14 := Lib.cell_of_heap HX.out 14
 have x15 := Lib.cell_of_heap HX.out 15
 have xf := Lib.frozen_of_heap HX.out
 have xs := holds_size HX.out
 simp only [List.getElem?_toArray, List.getElem?_cons_zero, List.getElem?_cons_succ] at x0 x1 x2 x3 x4 x5 x6 x7 x8 x9 x10 x11 x12 x13 x14 x15
 have y0 := Lib.cell_of_heap HX'.out 0
 have y2 := Lib.cell_of_heap HX'.out 2
 have y4 := Lib.cell_of_heap HX'.out 10
 have y5 := Lib.cell_of_heap HX'.out 11
 simp only [List.getElem?_toArray, List.getElem?_cons_zero, List.getElem?_cons_succ] at y0 y2 y4 y5
 clear hw10
 go_wp2_with (first | rw [← HW10.out] | (refine wpList_loadBig rfl 41 _ rfl W1.heap.size 16 [.int .i64 9, .string ⟨#[]⟩, .slice (some ⟨W0.heap.size, 0, none⟩) 1 1, .int .i64 0, .string ⟨#[]⟩, .int .i64 0, .int .i64 0, .string ⟨#[]⟩, .string ⟨#[]⟩, .slice none 0 0, .slice none 0 0, .slice none 0 0, .slice none 0 0, .slice none 0 0, .slice A9 n9 c9, .int .i64 (numberS (oneOfS stepWords s).2).1] big_plan rfl rfl HX'.out ?_) | (refine wpList_storeBig rfl 41 _ _ rfl (w.heap.size + 1) 16 [.int .i64 9, .string ⟨#[]⟩, .slice (some ⟨W0.heap.size, 0, none⟩) 1 1, .int .i64 0, .string ⟨#[]⟩, .int .i64 0, .int .i64 0, .string ⟨#[]⟩, .string ⟨#[]⟩, .slice none 0 0, .slice none 0 0, .slice none 0 0, .slice none 0 0, .slice none 0 0, .slice A9 n9 c9, .int .i64 (numberS (oneOfS stepWords s).2).1] big_plan rfl (by intro u hu; simp only [List.mem_cons, List.not_mem_nil, or_false] at hu; rcases hu with rfl | rfl | rfl | rfl | rfl | rfl | rfl | rfl | rfl | rfl | rfl | rfl | rfl | rfl | rfl | rfl <;> rfl) rfl rfl HB10.out ?_))
 clear xf xs x0 x1 x2 x3 x4 x5 x6 x7 x8 x9 x10 x11 x12 x13 x14 x15
 clear y0 y2 y4 y5 HX H9 HT9 HB9 HW10
 have HX := HX'
 clear HX'
 refine bodyPost_ret (v := .agg #[.int .i64 9, .string ⟨#[]⟩, .slice (some ⟨W0.heap.size, 0, none⟩) 1 1, .int .i64 0, .string ⟨#[]⟩, .int .i64 0, .int .i64 0, .string ⟨#[]⟩, .string ⟨#[]⟩, .slice none 0 0, .slice none 0 0, .slice none 0 0, .slice none 0 0, .slice none 0 0, .slice A9 n9 c9, .int .i64 (numberS (oneOfS stepWords s).2).1]) (results_big (vs := [.int .i64 9, .string ⟨#[]⟩, .slice (some ⟨W0.heap.size, 0, none⟩) 1 1, .int .i64 0, .string ⟨#[]⟩, .int .i64 0, .int .i64 0, .string ⟨#[]⟩, .string ⟨#[]⟩, .slice none 0 0, .slice none 0 0, .slice none 0 0, .slice none 0 0, .slice none 0 0, .slice A9 n9 c9, .int .i64 (numberS (oneOfS stepWords s).2).1]) rfl rfl big_plan rfl (set_row _ HB10.out.choose_spec.1)) rfl ?_
 exact ⟨[.int .i64 9, .string ⟨#[]⟩, .slice (some ⟨W0.heap.size, 0, none⟩) 1 1, .int .i64 0, .string ⟨#[]⟩, .int .i64 0, .int .i64 0, .string ⟨#[]⟩, .string ⟨#[]⟩, .slice none 0 0, .slice none 0 0, .slice none 0 0, .slice none 0 0, .slice none 0 0, .slice A9 n9 c9, .int .i64 (numberS (oneOfS stepWords s).2).1], rfl, (rep_plan (p := {k := 9, args := [dq], cnt := (numberS (oneOfS stepWords s).2).1, ord := X.1}) HAr.out (rep_zeroE _ _) (rep_nil _ _ _) (rep_nil _ _ _) (rep_nil _ _ _) (rep_nil _ _ _) HV9.out).stay (pst_fin _ _ hlo0 (by omega)), H10.out.row crq _, HT10.out.row (Nat.le_succ _) _⟩
set_option maxHeartbeats 8000000 in
set_option maxRecDepth 100000 in
theorem stepFirst {q : Nat} {TL : List Tk} {E : Nat} {Pq : Nat → Prop} (hPq : ¬ Pq q) (dq : List Dt) (hdq : dq.length = 16) (vq : List Value) (s : PSt) (w : World) (H : ParAt q TL E w s) (hq : RepC Pq w dq vq) (hk : (oneOfS stepWords s).1 = 8) (hc : isT (aheadS 0 (numberS (oneOfS stepWords s).2).2) [98, 121] = false) :
  Calls Tryz.prog 58 #[pP q, .agg vq.toArray] w (PlanTo q TL E Pq w ({k := 9, args := [dq], cnt := (numberS (oneOfS stepWords s).2).1} : Pl).enc (numberS (oneOfS stepWords s).2).2) := by
 have cq := H.lt
 have crq : q < w.heap.size + 1 := by omega
 obtain ⟨i0, hi, hzi, hsi, hbi⟩ := info_parts plan_info
 have hlq : vq.length = 16 := hq.1.trans hdq
 have HOf := hide (fun A w1 (h : ParAt q TL E w1 s) (hA : StrW q w1 A stepWords) => oneOf_any A 8 stepWords w1 h hA (by decide))
 unfold StepTo at HOf
 rw [hk] at HOf
 have HNu := hide (fun w1 (h : ParAt q TL E w1 (oneOfS stepWords s).2) => number_any w1 h)
 unfold StepTo at HNu
 have HAc := hide (fun w1 (h : ParAt q TL E w1 (numberS (oneOfS stepWords s).2).2) => accept_any [98, 121] w1 h)
 unfold StepTo at HAc
 rw [hc] at HAc
 rw [if_neg (by simp)] at HAc
 clear hc
 have h1q := hq.one_cell
 obtain ⟨W0, hW0⟩ : ∃ W0, W0 = (w.alloc (.cells vq.toArray 41)).alloc (.cells #[.int .i64 0, .string ⟨#[]⟩, .slice none 0 0, .int .i64 0, .string ⟨#[]⟩, .int .i64 0, .int .i64 0, .string ⟨#[]⟩, .string ⟨#[]⟩, .slice none 0 0, .slice none 0 0, .slice none 0 0, .slice none 0 0, .slice none 0 0, .slice none 0 0, .int .i64 0] 41) := ⟨_, rfl⟩
 have e0 : W0.heap.size = w.heap.size + 2 := by rw [hW0]; simp
 have HW0 := hide hW0
 have b0 : Below w.heap.size w W0 := by rw [hW0]; exact (Joins.below_alloc1 w _).alloc (Joins.below_alloc1 w _).size _
 have k0 : W0.heap[w.heap.size]? = some (.cells vq.toArray 41 (0, 0)) := by rw [hW0, Below.heap_alloc _ _ _ (by simp)]; exact heap_alloc_new _ _
 have k1 : W0.heap[w.heap.size + 1]? = some (.cells #[.int .i64 0, .string ⟨#[]⟩, .slice none 0 0, .int .i64 0, .string ⟨#[]⟩, .int .i64 0, .int .i64 0, .string ⟨#[]⟩, .string ⟨#[]⟩, .slice none 0 0, .slice none 0 0, .slice none 0 0, .slice none 0 0, .slice none 0 0, .slice none 0 0, .int .i64 0] 41 (0, 0)) := by rw [hW0, show w.heap.size + 1 = (w.alloc (.cells vq.toArray 41)).heap.size by simp]; exact heap_alloc_new _ _
 obtain ⟨W1, hW1⟩ : ∃ W1, W1 = W0.alloc (.cells vq.toArray 41) := ⟨_, rfl⟩
 have e1 : W1.heap.size = w.heap.size + 3 := by rw [hW1]; simp [e0]
 have HW1 := hide hW1
 have b1 : Below w.heap.size w W1 := by rw [hW1]; exact b0.alloc b0.size _
 obtain ⟨w2, hw2⟩ : ∃ w2, w2 = W1.alloc (.cells #[.int .i64 0, .string ⟨#[]⟩, .slice (some ⟨W0.heap.size, 0, none⟩) 1 1, .int .i64 0, .string ⟨#[]⟩, .int .i64 0, .int .i64 0, .string ⟨#[]⟩, .string ⟨#[]⟩, .slice none 0 0, .slice none 0 0, .slice none 0 0, .slice none 0 0, .slice none 0 0, .slice none 0 0, .int .i64 0] 41) := ⟨_, rfl⟩
 have HW2 := hide (show w2 = (W1.alloc (.cells #[.int .i64 0, .string ⟨#[]⟩, .slice none 0 0, .int .i64 0, .string ⟨#[]⟩, .int .i64 0, .int .i64 0, .string ⟨#[]⟩, .string ⟨#[]⟩, .slice none 0 0, .slice none 0 0, .slice none 0 0, .slice none 0 0, .slice none 0 0, .slice none 0 0, .int .i64 0] 41)).setRow W1.heap.size #[.int .i64 0, .string ⟨#[]⟩, .slice (some ⟨W0.heap.size, 0, none⟩) 1 1, .int .i64 0, .string ⟨#[]⟩, .int .i64 0, .int .i64 0, .string ⟨#[]⟩, .string ⟨#[]⟩, .slice none 0 0, .slice none 0 0, .slice none 0 0, .slice none 0 0, .slice none 0 0, .slice none 0 0, .int .i64 0] by rw [hw2, World.setRow_alloc_new])
 have b2 : Below w.heap.size w w2 := by rw [hw2]; exact b1.alloc b1.size _
 have e2 : w2.heap.size = w.heap.size + 4 := by rw [hw2]; simp [e1]
 have hz2 : w.heap.size + 4 ≤ w2.heap.size := Nat.le_of_eq e2.symm
 have H2 := hide (H.on b2)
 have HT2 := hide (Turn.of (q := q) b2)
 have HX := hide (show HoldB W1.heap.size 41 [.int .i64 0, .string ⟨#[]⟩, .slice (some ⟨W0.heap.size, 0, none⟩) 1 1, .int .i64 0, .string ⟨#[]⟩, .int .i64 0, .int .i64 0, .string ⟨#[]⟩, .string ⟨#[]⟩, .slice none 0 0, .slice none 0 0, .slice none 0 0, .slice none 0 0, .slice none 0 0, .slice none 0 0, .int .i64 0] w2 by rw [hw2]; exact heap_alloc_new _ _)
 have HB2 := hide (show BoxAt (w.heap.size + 1) 41 16 w2 by
  refine ⟨#[.int .i64 0, .string ⟨#[]⟩, .slice none 0 0, .int .i64 0, .string ⟨#[]⟩, .int .i64 0, .int .i64 0, .string ⟨#[]⟩, .string ⟨#[]⟩, .slice none 0 0, .slice none 0 0, .slice none 0 0, .slice none 0 0, .slice none 0 0, .slice none 0 0, .int .i64 0], ?_, rfl⟩
  rw [hw2, Below.heap_alloc _ _ _ (by omega), hW1, Below.heap_alloc _ _ _ (by omega)]; exact k1)
 have HAb := hide (show W0.heap.size < w2.heap.size by omega)
 have HAr := hide (show Rep (PSt' Pq w.heap.size W0.heap.size W1.heap.size) w2 (.row 16 [dq]) (.slice (some ⟨W0.heap.size, 0, none⟩) 1 1) from
  rep_one (t := 41) hq ⟨fun b hb h => Or.inl ⟨h, hb⟩, b2.size, fun b _ hb => b2.block b hb⟩ (Or.inr (Or.inl rfl)) (by omega) (by
   rw [hw2, Below.heap_alloc _ _ _ (by omega), hW1]; exact heap_alloc_new _ _))
 have hnp : ¬ PSt' Pq w.heap.size W0.heap.size W1.heap.size q := by
  rintro (h | h | h)
  ·exact hPq h.1
  ·omega
  ·omega
 have hlo0 : w.heap.size + 2 ≤ W0.heap.size := by omega
 have hlo1 : W0.heap.size < W1.heap.size := by omega
 have hlo2 : W1.heap.size < w2.heap.size := by omega
 have hqt : q < W1.heap.size := by omega
 have hup : W1.heap.size ≤ w.heap.size + 3 := by omega
 have hup0 : W0.heap.size ≤ w.heap.size + 2 := by omega
 have HK0 := hide k0
 have HAo := hide (show HoldB W0.heap.size 41 vq w2 by rw [hw2, HoldB, Below.heap_alloc _ _ _ (by omega), hW1]; exact heap_alloc_new _ _)
 have hqa : q < W0.heap.size := by omega
 unfold PlanTo
 clear hk e0 e1 e2 k0 k1 hW0 hW1 hw2 b0 b1 b2
 obtain ⟨w3, hw3⟩ : ∃ W, W = w2.alloc (.cells #[.string ⟨#[119, 104, 101, 114, 101]⟩, .string ⟨#[107, 101, 101, 112]⟩, .string ⟨#[106, 111, 105, 110]⟩, .string ⟨#[108, 101, 102, 116]⟩, .string ⟨#[103, 114, 111, 117, 112]⟩, .string ⟨#[117, 110, 105, 111, 110]⟩, .string ⟨#[100, 105, 115, 116, 105, 110, 99, 116]⟩, .string ⟨#[102, 105, 114, 115, 116]⟩] 9) := ⟨_, rfl⟩
 have HW3 := hide hw3
 have H3 := hide (show ParAt q TL E w3 _ by rw [hw3]; exact H2.out.alloc _)
 have HT3 := hide (show Turn q w w3 by rw [hw3]; exact HT2.out.alloc _)
 have hz3 : w.heap.size + 4 ≤ w3.heap.size := by rw [hw3]; simp; omega
 have HB3 := hide (show BoxAt (w.heap.size + 1) 41 16 w3 by rw [hw3]; exact HB2.out.turn ((Turn.refl q _).alloc _) crq)
 replace HAr := hide (HAr.out.stay (Stay.below (show Below w2.heap.size w2 w3 by rw [hw3]; exact Joins.below_alloc1 _ _)))
 replace HX := hide (show HoldB _ _ _ w3 by rw [hw3]; exact holds_turn HX.out ((Turn.refl q _).alloc _) hqt)
 replace HAo := hide (show HoldB _ _ _ w3 by rw [hw3]; exact holds_turn HAo.out ((Turn.refl q _).alloc _) hqa)
 have HS3 := hide (show StrW q w3 (some ⟨w2.heap.size, 0, none⟩) stepWords by rw [hw3]; exact strW_new w2 q stepWords _ (by omega))
 clear hw3 H2 HT2 HB2
 go_enter Tryz.func58, Tryz.ntmps58
 go_wp2_with (first | rw [← HW0.out] | rw [← HW3.out] | (refine wpList_loadBig rfl 41 _ rfl w.heap.size 16 vq big_plan hlq rfl HK0.out ?_) | (refine wpList_buildOne rfl 31 41 _ rfl 16 vq rfl hlq (by decide) (by decide) Tryz.underlying31 i0 _ hi hzi hsi ?_; rw [← HW1.out]) | (refine wpList_storeBig rfl 41 _ _ rfl W1.heap.size 16 [.int .i64 0, .string ⟨#[]⟩, .slice (some ⟨W0.heap.size, 0, none⟩) 1 1, .int .i64 0, .string ⟨#[]⟩, .int .i64 0, .int .i64 0, .string ⟨#[]⟩, .string ⟨#[]⟩, .slice none 0 0, .slice none 0 0, .slice none 0 0, .slice none 0 0, .slice none 0 0, .slice none 0 0, .int .i64 0] big_plan rfl (by simp [Value.oneCell']) rfl rfl (box_new _ _ _ rfl) ?_; rw [← HW2.out]))
 clear HW0 HW1 HW2 HW3 HK0
 refine (HOf.out _ w3 H3.out HS3.out).mono ?_
 rintro e w4 ⟨rfl, h, ht⟩
 have H4 := hide h
 have HT4 := hide (HT3.out.trans ht)
 have HB4 := hide (HB3.out.turn ht crq)
 have hz4 : w.heap.size + 4 ≤ w4.heap.size := Nat.le_trans hz3 ht.size
 replace HAr := hide (HAr.out.stay (Stay.turn ht hnp))
 replace HX := hide (holds_turn HX.out ht hqt)
 replace HAo := hide (holds_turn HAo.out ht hqa)
 clear h ht H3 HT3 HB3 HS3 HOf
 obtain ⟨w5, hw5⟩ : ∃ W, W = (w4.setCell ⟨W1.heap.size, 0, none⟩ (.int .i64 9)) := ⟨_, rfl⟩
 have HW5 := hide hw5
 have H5 := hide (show ParAt q TL E w5 _ by rw [hw5]; exact (H4.out.put (p := ⟨W1.heap.size, 0, none⟩) hqt _))
 have HT5 := hide (show Turn q w w5 by rw [hw5]; exact (HT4.out.put (p := ⟨W1.heap.size, 0, none⟩) (by simp; omega) _))
 have HX' := hide (show HoldB W1.heap.size 41 [.int .i64 9, .string ⟨#[]⟩, .slice (some ⟨W0.heap.size, 0, none⟩) 1 1, .int .i64 0, .string ⟨#[]⟩, .int .i64 0, .int .i64 0, .string ⟨#[]⟩, .string ⟨#[]⟩, .slice none 0 0, .slice none 0 0, .slice none 0 0, .slice none 0 0, .slice none 0 0, .slice none 0 0, .int .i64 0] w5 by rw [hw5]; exact (Joins.block_setCell (i := 0) HX.out _))
 have hz5 : w.heap.size + 4 ≤ w5.heap.size := by rw [hw5]; simp; omega
 have HB5 := hide (show BoxAt (w.heap.size + 1) 41 16 w5 by rw [hw5]; exact (HB4.out.set (by omega) _ _))
 have hst : Stay (PSt' Pq w.heap.size W0.heap.size W1.heap.size) (PSt' Pq w.heap.size W0.heap.size W1.heap.size) w4 w5 := ⟨fun _ _ h => h, by rw [hw5]; simp, fun b hb _ => by
  have hbt : b ≠ W1.heap.size := pst_ne hb (by omega) hlo1
  rw [hw5]; exact Below.heap_setCell w4 ⟨W1.heap.size, 0, none⟩ (.int .i64 9) b hbt⟩
 replace HAr := hide (HAr.out.stay hst)
 have HAo' := hide (show HoldB W0.heap.size 41 vq w5 by
  have b := W0.heap.size
  have hbt : W0.heap.size ≠ W1.heap.size := by omega
  rw [hw5]; exact (Below.heap_setCell w4 ⟨W1.heap.size, 0, none⟩ (.int .i64 9) W0.heap.size hbt).trans HAo.out)
 clear HAo
 have HAo := HAo'
 clear HAo' hst
 have x0 := Lib.cell_of_heap HX.out 0
 have x1 := Lib.cell_of_heap HX.out 1
 have x2 := Lib.cell_of_heap HX.out 2
 have x3 := Lib.cell_of_heap HX.out 3
 have x4 := Lib.cell_of_heap HX.out 4
 have x5 := Lib.cell_of_heap HX.out 5
 have x6 := Lib.cell_of_heap HX.out 6
 have x7 := Lib.cell_of_heap HX.out 7
 have x8 := Lib.cell_of_heap HX.out 8
 have x9 := Lib.cell_of_heap HX.out 9
 have x10 := Lib.cell_of_heap HX.out 10
 have x11 := Lib.cell_of_heap HX.out 11
 have x12 := Lib.cell_of_heap HX.out 12
 have x13 := Lib.cell_of_heap HX.out 13
 have x14 := Lib.cell_of_heap HX.out 14
 have x15 := Lib.cell_of_heap HX.out 15
 have xf := Lib.frozen_of_heap HX.out
 have xs := holds_size HX.out
 simp only [List.getElem?_toArray, List.getElem?_cons_zero, List.getElem?_cons_succ] at x0 x1 x2 x3 x4 x5 x6 x7 x8 x9 x10 x11 x12 x13 x14 x15
 have y0 := Lib.cell_of_heap HX'.out 0
 have y2 := Lib.cell_of_heap HX'.out 2
 have y4 := Lib.cell_of_heap HX'.out 10
 have y5 := Lib.cell_of_heap HX'.out 11
 simp only [List.getElem?_toArray, List.getElem?_cons_zero, List.getElem?_cons_succ] at y0 y2 y4 y5
 clear hw5
 go_wp2_with (first | rw [← HW5.out])
 clear xf xs x0 x1 x2 x3 x4 x5 x6 x7 x8 x9 x10 x11 x12 x13 x14 x15
 clear y0 y2 y4 y5 HX H4 HT4 HB4 HW5
 have HX := HX'
 clear HX'
 refine (HNu.out w5 H5.out).mono ?_
 rintro e w6 ⟨rfl, h, ht⟩
 have H6 := hide h
 have HT6 := hide (HT5.out.trans ht)
 have HB6 := hide (HB5.out.turn ht crq)
 have hz6 : w.heap.size + 4 ≤ w6.heap.size := Nat.le_trans hz5 ht.size
 replace HAr := hide (HAr.out.stay (Stay.turn ht hnp))
 replace HX := hide (holds_turn HX.out ht hqt)
 replace HAo := hide (holds_turn HAo.out ht hqa)
 clear h ht H5 HT5 HB5 HNu
 obtain ⟨w7, hw7⟩ : ∃ W, W = (w6.setCell ⟨W1.heap.size, 15, none⟩ (.int .i64 (numberS (oneOfS stepWords s).2).1)) := ⟨_, rfl⟩
 have HW7 := hide hw7
 have H7 := hide (show ParAt q TL E w7 _ by rw [hw7]; exact (H6.out.put (p := ⟨W1.heap.size, 15, none⟩) hqt _))
 have HT7 := hide (show Turn q w w7 by rw [hw7]; exact (HT6.out.put (p := ⟨W1.heap.size, 15, none⟩) (by simp; omega) _))
 have HX' := hide (show HoldB W1.heap.size 41 [.int .i64 9, .string ⟨#[]⟩, .slice (some ⟨W0.heap.size, 0, none⟩) 1 1, .int .i64 0, .string ⟨#[]⟩, .int .i64 0, .int .i64 0, .string ⟨#[]⟩, .string ⟨#[]⟩, .slice none 0 0, .slice none 0 0, .slice none 0 0, .slice none 0 0, .slice none 0 0, .slice none 0 0, .int .i64 (numberS (oneOfS stepWords s).2).1] w7 by rw [hw7]; exact (Joins.block_setCell (i := 15) HX.out _))
 have hz7 : w.heap.size + 4 ≤ w7.heap.size := by rw [hw7]; simp; omega
 have HB7 := hide (show BoxAt (w.heap.size + 1) 41 16 w7 by rw [hw7]; exact (HB6.out.set (by omega) _ _))
 have hst : Stay (PSt' Pq w.heap.size W0.heap.size W1.heap.size) (PSt' Pq w.heap.size W0.heap.size W1.heap.size) w6 w7 := ⟨fun _ _ h => h, by rw [hw7]; simp, fun b hb _ => by
  have hbt : b ≠ W1.heap.size := pst_ne hb (by omega) hlo1
  rw [hw7]; exact Below.heap_setCell w6 ⟨W1.heap.size, 15, none⟩ (.int .i64 (numberS (oneOfS stepWords s).2).1) b hbt⟩
 replace HAr := hide (HAr.out.stay hst)
 have HAo' := hide (show HoldB W0.heap.size 41 vq w7 by
  have b := W0.heap.size
  have hbt : W0.heap.size ≠ W1.heap.size := by omega
  rw [hw7]; exact (Below.heap_setCell w6 ⟨W1.heap.size, 15, none⟩ (.int .i64 (numberS (oneOfS stepWords s).2).1) W0.heap.size hbt).trans HAo.out)
 clear HAo
 have HAo := HAo'
 clear HAo' hst
 have x0 := Lib.cell_of_heap HX.out 0
 have x1 := Lib.cell_of_heap HX.out 1
 have x2 := Lib.cell_of_heap HX.out 2
 have x3 := Lib.cell_of_heap HX.out 3
 have x4 := Lib.cell_of_heap HX.out 4
 have x5 := Lib.cell_of_heap HX.out 5
 have x6 := Lib.cell_of_heap HX.out 6
 have x7 := Lib.cell_of_heap HX.out 7
 have x8 := Lib.cell_of_heap HX.out 8
 have x9 := Lib.cell_of_heap HX.out 9
 have x10 := Lib.cell_of_heap HX.out 10
 have x11 := Lib.cell_of_heap HX.out 11
 have x12 := Lib.cell_of_heap HX.out 12
 have x13 := Lib.cell_of_heap HX.out 13
 have x14 := Lib.cell_of_heap HX.out 14
 have x15 := Lib.cell_of_heap HX.out 15
 have xf := Lib.frozen_of_heap HX.out
 have xs := holds_size HX.out
 simp only [List.getElem?_toArray, List.getElem?_cons_zero, List.getElem?_cons_succ] at x0 x1 x2 x3 x4 x5 x6 x7 x8 x9 x10 x11 x12 x13 x14 x15
 have y0 := Lib.cell_of_heap HX'.out 0
 have y2 := Lib.cell_of_heap HX'.out 2
 have y4 := Lib.cell_of_heap HX'.out 10
 have y5 := Lib.cell_of_heap HX'.out 11
 simp only [List.getElem?_toArray, List.getElem?_cons_zero, List.getElem?_cons_succ] at y0 y2 y4 y5
 clear hw7
 go_wp2_with (first | rw [← HW7.out])
 clear xf xs x0 x1 x2 x3 x4 x5 x6 x7 x8 x9 x10 x11 x12 x13 x14 x15
 clear y0 y2 y4 y5 HX H6 HT6 HB6 HW7
 have HX := HX'
 clear HX'
 refine (HAc.out w7 H7.out).mono ?_
 rintro e w8 ⟨rfl, h, ht⟩
 have H8 := hide h
 have HT8 := hide (HT7.out.trans ht)
 have HB8 := hide (HB7.out.turn ht crq)
 have hz8 : w.heap.size + 4 ≤ w8.heap.size := Nat.le_trans hz7 ht.size
 replace HAr := hide (HAr.out.stay (Stay.turn ht hnp))
 replace HX := hide (holds_turn HX.out ht hqt)
 replace HAo := hide (holds_turn HAo.out ht hqa)
 clear h ht H7 HT7 HB7 HAc
 have x0 := Lib.cell_of_heap HX.out 0
 have x1 := Lib.cell_of_heap HX.out 1
 have x2 := Lib.cell_of_heap HX.out 2
 have x3 := Lib.cell_of_heap HX.out 3
 have x4 := Lib.cell_of_heap HX.out 4
 have x5 := Lib.cell_of_heap HX.out 5
 have x6 := Lib.cell_of_heap HX.out 6
 have x7 := Lib.cell_of_heap HX.out 7
 have x8 := Lib.cell_of_heap HX.out 8
 have x9 := Lib.cell_of_heap HX.out 9
 have x10 := Lib.cell_of_heap HX.out 10
 have x11 := Lib.cell_of_heap HX.out 11
 have x12 := Lib.cell_of_heap HX.out 12
 have x13 := Lib.cell_of_heap HX.out 13
 have x14 := Lib.cell_of_heap HX.out 14
 have x15 := Lib.cell_of_heap HX.out 15
 have xf := Lib.frozen_of_heap HX.out
 have xs := holds_size HX.out
 simp only [List.getElem?_toArray, List.getElem?_cons_zero, List.getElem?_cons_succ] at x0 x1 x2 x3 x4 x5 x6 x7 x8 x9 x10 x11 x12 x13 x14 x15
 go_wp2_with (first | (refine wpList_loadBig rfl 41 _ rfl W1.heap.size 16 [.int .i64 9, .string ⟨#[]⟩, .slice (some ⟨W0.heap.size, 0, none⟩) 1 1, .int .i64 0, .string ⟨#[]⟩, .int .i64 0, .int .i64 0, .string ⟨#[]⟩, .string ⟨#[]⟩, .slice none 0 0, .slice none 0 0, .slice none 0 0, .slice none 0 0, .slice none 0 0, .slice none 0 0, .int .i64 (numberS (oneOfS stepWords s).2).1] big_plan rfl rfl HX.out ?_) | (refine wpList_storeBig rfl 41 _ _ rfl (w.heap.size + 1) 16 [.int .i64 9, .string ⟨#[]⟩, .slice (some ⟨W0.heap.size, 0, none⟩) 1 1, .int .i64 0, .string ⟨#[]⟩, .int .i64 0, .int .i64 0, .string ⟨#[]⟩, .string ⟨#[]⟩, .slice none 0 0, .slice none 0 0, .slice none 0 0, .slice none 0 0, .slice none 0 0, .slice none 0 0, .int .i64 (numberS (oneOfS stepWords s).2).1] big_plan rfl (by intro u hu; simp only [List.mem_cons, List.not_mem_nil, or_false] at hu; rcases hu with rfl | rfl | rfl | rfl | rfl | rfl | rfl | rfl | rfl | rfl | rfl | rfl | rfl | rfl | rfl | rfl <;> rfl) rfl rfl HB8.out ?_))
 clear xf xs x0 x1 x2 x3 x4 x5 x6 x7 x8 x9 x10 x11 x12 x13 x14 x15
 refine bodyPost_ret (v := .agg #[.int .i64 9, .string ⟨#[]⟩, .slice (some ⟨W0.heap.size, 0, none⟩) 1 1, .int .i64 0, .string ⟨#[]⟩, .int .i64 0, .int .i64 0, .string ⟨#[]⟩, .string ⟨#[]⟩, .slice none 0 0, .slice none 0 0, .slice none 0 0, .slice none 0 0, .slice none 0 0, .slice none 0 0, .int .i64 (numberS (oneOfS stepWords s).2).1]) (results_big (vs := [.int .i64 9, .string ⟨#[]⟩, .slice (some ⟨W0.heap.size, 0, none⟩) 1 1, .int .i64 0, .string ⟨#[]⟩, .int .i64 0, .int .i64 0, .string ⟨#[]⟩, .string ⟨#[]⟩, .slice none 0 0, .slice none 0 0, .slice none 0 0, .slice none 0 0, .slice none 0 0, .slice none 0 0, .int .i64 (numberS (oneOfS stepWords s).2).1]) rfl rfl big_plan rfl (set_row _ HB8.out.choose_spec.1)) rfl ?_
 exact ⟨[.int .i64 9, .string ⟨#[]⟩, .slice (some ⟨W0.heap.size, 0, none⟩) 1 1, .int .i64 0, .string ⟨#[]⟩, .int .i64 0, .int .i64 0, .string ⟨#[]⟩, .string ⟨#[]⟩, .slice none 0 0, .slice none 0 0, .slice none 0 0, .slice none 0 0, .slice none 0 0, .slice none 0 0, .int .i64 (numberS (oneOfS stepWords s).2).1], rfl, (rep_plan (p := {k := 9, args := [dq], cnt := (numberS (oneOfS stepWords s).2).1}) HAr.out (rep_zeroE _ _) (rep_nil _ _ _) (rep_nil _ _ _) (rep_nil _ _ _) (rep_nil _ _ _) (rep_nil _ _ _)).stay (pst_fin _ _ hlo0 (by omega)), H8.out.row crq _, HT8.out.row (Nat.le_succ _) _⟩
end Go.Proofs.YtljoajjlkjjgeaaGreatDoor
namespace Go.Proofs.YtljoajjlkjjgeaaGreatDoor
open Go.RowKit Go.Sort LM Go

attribute [local go_sem] fld_tok0 fld_tok1 fld_tok2
set_option maxHeartbeats 8000000 in
set_option maxRecDepth 100000 in
theorem stepGroup {q : Nat} {TL : List Tk} {E : Nat} {Pq : Nat → Prop} (hPq : ¬ Pq q) (X : List ByteArray × PSt) (Y : List (ByteArray × ByteArray × ByteArray) × PSt) (dq : List Dt) (hdq : dq.length = 16) (vq : List Value) (s : PSt) (w : World) (H : ParAt q TL E w s) (hq : RepC Pq w dq vq) (hk : (oneOfS stepWords s).1 = 5)
  (HM : ∀ w1, ParAt q TL E w1 (oneOfS stepWords s).2 → Calls Tryz.prog 78 #[pP q, .func (.func 70) #[pP q] #[]] w1 (OneTo q TL E w1 (dStrs X.1) X.2))
  (HM2 : ∀ w1, ParAt q TL E w1 (expectS [58] X.2) → Calls Tryz.prog 79 #[pP q, .func (.func 80) #[pP q] #[]] w1 (OneTo q TL E w1 (.row 3 (Y.1.map dAgg)) Y.2)) :
  Calls Tryz.prog 58 #[pP q, .agg vq.toArray] w (PlanTo q TL E Pq w ({k := 6, args := [dq], names := X.1, aggs := Y.1} : Pl).enc Y.2) := by
 have cq := H.lt
 have crq : q < w.heap.size + 1 := by omega
 obtain ⟨i0, hi, hzi, hsi, hbi⟩ := info_parts plan_info
 have hlq : vq.length = 16 := hq.1.trans hdq
 have HOf := hide (fun A w1 (h : ParAt q TL E w1 s) (hA : StrW q w1 A stepWords) => oneOf_any A 8 stepWords w1 h hA (by decide))
 unfold StepTo at HOf
 rw [hk] at HOf
 have HEx := hide (fun w1 (h : ParAt q TL E w1 X.2) => expect_any [58] w1 h)
 unfold StepTo at HEx
 unfold OneTo at HM HM2
 replace HM := hide HM
 replace HM2 := hide HM2
 have h1q := hq.one_cell
 obtain ⟨W0, hW0⟩ : ∃ W0, W0 = (w.alloc (.cells vq.toArray 41)).alloc (.cells #[.int .i64 0, .string ⟨#[]⟩, .slice none 0 0, .int .i64 0, .string ⟨#[]⟩, .int .i64 0, .int .i64 0, .string ⟨#[]⟩, .string ⟨#[]⟩, .slice none 0 0, .slice none 0 0, .slice none 0 0, .slice none 0 0, .slice none 0 0, .slice none 0 0, .int .i64 0] 41) := ⟨_, rfl⟩
 have e0 : W0.heap.size = w.heap.size + 2 := by rw [hW0]; simp
 have HW0 := hide hW0
 have b0 : Below w.heap.size w W0 := by rw [hW0]; exact (Joins.below_alloc1 w _).alloc (Joins.below_alloc1 w _).size _
 have k0 : W0.heap[w.heap.size]? = some (.cells vq.toArray 41 (0, 0)) := by rw [hW0, Below.heap_alloc _ _ _ (by simp)]; exact heap_alloc_new _ _
 have k1 : W0.heap[w.heap.size + 1]? = some (.cells #[.int .i64 0, .string ⟨#[]⟩, .slice none 0 0, .int .i64 0, .string ⟨#[]⟩, .int .i64 0, .int .i64 0, .string ⟨#[]⟩, .string ⟨#[]⟩, .slice none 0 0, .slice none 0 0, .slice none 0 0, .slice none 0 0, .slice none 0 0, .slice none 0 0, .int .i64 0] 41 (0, 0)) := by rw [hW0, show w.heap.size + 1 = (w.alloc (.cells vq.toArray 41)).heap.size by simp]; exact heap_alloc_new _ _
 obtain ⟨W1, hW1⟩ : ∃ W1, W1 = W0.alloc (.cells vq.toArray 41) := ⟨_, rfl⟩
 have e1 : W1.heap.size = w.heap.size + 3 := by rw [hW1]; simp [e0]
 have HW1 := hide hW1
 have b1 : Below w.heap.size w W1 := by rw [hW1]; exact b0.alloc b0.size _
 obtain ⟨w2, hw2⟩ : ∃ w2, w2 = W1.alloc (.cells #[.int .i64 0, .string ⟨#[]⟩, .slice (some ⟨W0.heap.size, 0, none⟩) 1 1, .int .i64 0, .string ⟨#[]⟩, .int .i64 0, .int .i64 0, .string ⟨#[]⟩, .string ⟨#[]⟩, .slice none 0 0, .slice none 0 0, .slice none 0 0, .slice none 0 0, .slice none 0 0, .slice none 0 0, .int .i64 0] 41) := ⟨_, rfl⟩
 have HW2 := hide (show w2 = (W1.alloc (.cells #[.int .i64 0, .string ⟨#[]⟩, .slice none 0 0, .int .i64 0, .string ⟨#[]⟩, .int .i64 0, .int .i64 0, .string ⟨#[]⟩, .string ⟨#[]⟩, .slice none 0 0, .slice none 0 0, .slice none 0 0, .slice none 0 0, .slice none 0 0, .slice none 0 0, .int .i64 0] 41)).setRow W1.heap.size #[.int .i64 0, .string ⟨#[]⟩, .slice (some ⟨W0.heap.size, 0, none⟩) 1 1, .int .i64 0, .string ⟨#[]⟩, .int .i64 0, .int .i64 0, .string ⟨#[]⟩, .string ⟨#[]⟩, .slice none 0 0, .slice none 0 0, .slice none 0 0, .slice none 0 0, .slice none 0 0, .slice none 0 0, .int .i64 0] by rw [hw2, World.setRow_alloc_new])
 have b2 : Below w.heap.size w w2 := by rw [hw2]; exact b1.alloc b1.size _
 have e2 : w2.heap.size = w.heap.size + 4 := by rw [hw2]; simp [e1]
 have hz2 : w.heap.size + 4 ≤ w2.heap.size := Nat.le_of_eq e2.symm
 have H2 := hide (H.on b2)
 have HT2 := hide (Turn.of (q := q) b2)
 have HX := hide (show HoldB W1.heap.size 41 [.int .i64 0, .string ⟨#[]⟩, .slice (some ⟨W0.heap.size, 0, none⟩) 1 1, .int .i64 0, .string ⟨#[]⟩, .int .i64 0, .int .i64 0, .string ⟨#[]⟩, .string ⟨#[]⟩, .slice none 0 0, .slice none 0 0, .slice none 0 0, .slice none 0 0, .slice none 0 0, .slice none 0 0, .int .i64 0] w2 by rw [hw2]; exact heap_alloc_new _ _)
 have HB2 := hide (show BoxAt (w.heap.size + 1) 41 16 w2 by
  refine ⟨#[.int .i64 0, .string ⟨#[]⟩, .slice none 0 0, .int .i64 0, .string ⟨#[]⟩, .int .i64 0, .int .i64 0, .string ⟨#[]⟩, .string ⟨#[]⟩, .slice none 0 0, .slice none 0 0, .slice none 0 0, .slice none 0 0, .slice none 0 0, .slice none 0 0, .int .i64 0], ?_, rfl⟩
  rw [hw2, Below.heap_alloc _ _ _ (by omega), hW1, Below.heap_alloc _ _ _ (by omega)]; exact k1)
 have HAb := hide (show W0.heap.size < w2.heap.size by omega)
 have HAr := hide (show Rep (PSt' Pq w.heap.size W0.heap.size W1.heap.size) w2 (.row 16 [dq]) (.slice (some ⟨W0.heap.size, 0, none⟩) 1 1) from
  rep_one (t := 41) hq ⟨fun b hb h => Or.inl ⟨h, hb⟩, b2.size, fun b _ hb => b2.block b hb⟩ (Or.inr (Or.inl rfl)) (by omega) (by
   rw [hw2, Below.heap_alloc _ _ _ (by omega), hW1]; exact heap_alloc_new _ _))
 have hnp : ¬ PSt' Pq w.heap.size W0.heap.size W1.heap.size q := by
  rintro (h | h | h)
  ·exact hPq h.1
  ·omega
  ·omega
 have hlo0 : w.heap.size + 2 ≤ W0.heap.size := by omega
 have hlo1 : W0.heap.size < W1.heap.size := by omega
 have hlo2 : W1.heap.size < w2.heap.size := by omega
 have hqt : q < W1.heap.size := by omega
 have hup : W1.heap.size ≤ w.heap.size + 3 := by omega
 have hup0 : W0.heap.size ≤ w.heap.size + 2 := by omega
 have HK0 := hide k0
 have HAo := hide (show HoldB W0.heap.size 41 vq w2 by rw [hw2, HoldB, Below.heap_alloc _ _ _ (by omega), hW1]; exact heap_alloc_new _ _)
 have hqa : q < W0.heap.size := by omega
 unfold PlanTo
 clear hk e0 e1 e2 k0 k1 hW0 hW1 hw2 b0 b1 b2
 obtain ⟨w3, hw3⟩ : ∃ W, W = w2.alloc (.cells #[.string ⟨#[119, 104, 101, 114, 101]⟩, .string ⟨#[107, 101, 101, 112]⟩, .string ⟨#[106, 111, 105, 110]⟩, .string ⟨#[108, 101, 102, 116]⟩, .string ⟨#[103, 114, 111, 117, 112]⟩, .string ⟨#[117, 110, 105, 111, 110]⟩, .string ⟨#[100, 105, 115, 116, 105, 110, 99, 116]⟩, .string ⟨#[102, 105, 114, 115, 116]⟩] 9) := ⟨_, rfl⟩
 have HW3 := hide hw3
 have H3 := hide (show ParAt q TL E w3 _ by rw [hw3]; exact H2.out.alloc _)
 have HT3 := hide (show Turn q w w3 by rw [hw3]; exact HT2.out.alloc _)
 have hz3 : w.heap.size + 4 ≤ w3.heap.size := by rw [hw3]; simp; omega
 have HB3 := hide (show BoxAt (w.heap.size + 1) 41 16 w3 by rw [hw3]; exact HB2.out.turn ((Turn.refl q _).alloc _) crq)
 replace HAr := hide (HAr.out.stay (Stay.below (show Below w2.heap.size w2 w3 by rw [hw3]; exact Joins.below_alloc1 _ _)))
 replace HX := hide (show HoldB _ _ _ w3 by rw [hw3]; exact holds_turn HX.out ((Turn.refl q _).alloc _) hqt)
 replace HAo := hide (show HoldB _ _ _ w3 by rw [hw3]; exact holds_turn HAo.out ((Turn.refl q _).alloc _) hqa)
 have HS3 := hide (show StrW q w3 (some ⟨w2.heap.size, 0, none⟩) stepWords by rw [hw3]; exact strW_new w2 q stepWords _ (by omega))
 clear hw3 H2 HT2 HB2
 go_enter Tryz.func58, Tryz.ntmps58
 go_wp2_with (first | rw [← HW0.out] | rw [← HW3.out] | (refine wpList_loadBig rfl 41 _ rfl w.heap.size 16 vq big_plan hlq rfl HK0.out ?_) | (refine wpList_buildOne rfl 31 41 _ rfl 16 vq rfl hlq (by decide) (by decide) Tryz.underlying31 i0 _ hi hzi hsi ?_; rw [← HW1.out]) | (refine wpList_storeBig rfl 41 _ _ rfl W1.heap.size 16 [.int .i64 0, .string ⟨#[]⟩, .slice (some ⟨W0.heap.size, 0, none⟩) 1 1, .int .i64 0, .string ⟨#[]⟩, .int .i64 0, .int .i64 0, .string ⟨#[]⟩, .string ⟨#[]⟩, .slice none 0 0, .slice none 0 0, .slice none 0 0, .slice none 0 0, .slice none 0 0, .slice none 0 0, .int .i64 0] big_plan rfl (by simp [Value.oneCell']) rfl rfl (box_new _ _ _ rfl) ?_; rw [← HW2.out]))
 clear HW0 HW1 HW2 HW3 HK0
 refine (HOf.out _ w3 H3.out HS3.out).mono ?_
 rintro e w4 ⟨rfl, h, ht⟩
 have H4 := hide h
 have HT4 := hide (HT3.out.trans ht)
 have HB4 := hide (HB3.out.turn ht crq)
 have hz4 : w.heap.size + 4 ≤ w4.heap.size := Nat.le_trans hz3 ht.size
 replace HAr := hide (HAr.out.stay (Stay.turn ht hnp))
 replace HX := hide (holds_turn HX.out ht hqt)
 replace HAo := hide (holds_turn HAo.out ht hqa)
 clear h ht H3 HT3 HB3 HS3 HOf
 obtain ⟨w5, hw5⟩ : ∃ W, W = (w4.setCell ⟨W1.heap.size, 0, none⟩ (.int .i64 6)) := ⟨_, rfl⟩
 have HW5 := hide hw5
 have H5 := hide (show ParAt q TL E w5 _ by rw [hw5]; exact (H4.out.put (p := ⟨W1.heap.size, 0, none⟩) hqt _))
 have HT5 := hide (show Turn q w w5 by rw [hw5]; exact (HT4.out.put (p := ⟨W1.heap.size, 0, none⟩) (by simp; omega) _))
 have HX' := hide (show HoldB W1.heap.size 41 [.int .i64 6, .string ⟨#[]⟩, .slice (some ⟨W0.heap.size, 0, none⟩) 1 1, .int .i64 0, .string ⟨#[]⟩, .int .i64 0, .int .i64 0, .string ⟨#[]⟩, .string ⟨#[]⟩, .slice none 0 0, .slice none 0 0, .slice none 0 0, .slice none 0 0, .slice none 0 0, .slice none 0 0, .int .i64 0] w5 by rw [hw5]; exact (Joins.block_setCell (i := 0) HX.out _))
 have hz5 : w.heap.size + 4 ≤ w5.heap.size := by rw [hw5]; simp; omega
 have HB5 := hide (show BoxAt (w.heap.size + 1) 41 16 w5 by rw [hw5]; exact (HB4.out.set (by omega) _ _))
 have hst : Stay (PSt' Pq w.heap.size W0.heap.size W1.heap.size) (PSt' Pq w.heap.size W0.heap.size W1.heap.size) w4 w5 := ⟨fun _ _ h => h, by rw [hw5]; simp, fun b hb _ => by
  have hbt : b ≠ W1.heap.size := pst_ne hb (by omega) hlo1
  rw [hw5]; exact Below.heap_setCell w4 ⟨W1.heap.size, 0, none⟩ (.int .i64 6) b hbt⟩
 replace HAr := hide (HAr.out.stay hst)
 have HAo' := hide (show HoldB W0.heap.size 41 vq w5 by
  have b := W0.heap.size
  have hbt : W0.heap.size ≠ W1.heap.size := by omega
  rw [hw5]; exact (Below.heap_setCell w4 ⟨W1.heap.size, 0, none⟩ (.int .i64 6) W0.heap.size hbt).trans HAo.out)
 clear HAo
 have HAo := HAo'
 clear HAo' hst
 have x0 := Lib.cell_of_heap HX.out 0
 have x1 := Lib.cell_of_heap HX.out 1
 have x2 := Lib.cell_of_heap HX.out 2
 have x3 := Lib.cell_of_heap HX.out 3
 have x4 := Lib.cell_of_heap HX.out 4
 have x5 := Lib.cell_of_heap HX.out 5
 have x6 := Lib.cell_of_heap HX.out 6
 have x7 := Lib.cell_of_heap HX.out 7
 have x8 := Lib.cell_of_heap HX.out 8
 have x9 := Lib.cell_of_heap HX.out 9
 have x10 := Lib.cell_of_heap HX.out 10
 have x11 := Lib.cell_of_heap HX.out 11
 have x12 := Lib.cell_of_heap HX.out 12
 have x13 := Lib.cell_of_heap HX.out 13
 have x14 := Lib.cell_of_heap HX.out 14
 have x15 := Lib.cell_of_heap HX.out 15
 have xf := Lib.frozen_of_heap HX.out
 have xs := holds_size HX.out
 simp only [List.getElem?_toArray, List.getElem?_cons_zero, List.getElem?_cons_succ] at x0 x1 x2 x3 x4 x5 x6 x7 x8 x9 x10 x11 x12 x13 x14 x15
 have y0 := Lib.cell_of_heap HX'.out 0
 have y2 := Lib.cell_of_heap HX'.out 2
 have y4 := Lib.cell_of_heap HX'.out 10
 have y5 := Lib.cell_of_heap HX'.out 11
 simp only [List.getElem?_toArray, List.getElem?_cons_zero, List.getElem?_cons_succ] at y0 y2 y4 y5
 clear hw5
 go_wp2_with (first | rw [← HW5.out])
 clear xf xs x0 x1 x2 x3 x4 x5 x6 x7 x8 x9 x10 x11 x12 x13 x14 x15
 clear y0 y2 y4 y5 HX H4 HT4 HB4 HW5
 have HX := HX'
 clear HX'
 refine (HM.out w5 H5.out).mono ?_
 rintro e w6 ⟨v6, rfl, hv, h, ht⟩
 have H6 := hide h
 have HT6 := hide (HT5.out.trans ht)
 have HB6 := hide (HB5.out.turn ht crq)
 have hz6 : w.heap.size + 4 ≤ w6.heap.size := Nat.le_trans hz5 ht.size
 replace HAr := hide (HAr.out.stay (Stay.turn ht hnp))
 replace HX := hide (holds_turn HX.out ht hqt)
 replace HAo := hide (holds_turn HAo.out ht hqa)
 have HV6 := hide (hv.stay (Stay.at (Q := PSt' Pq w.heap.size W0.heap.size W1.heap.size) (fun b hb => Or.inr (Or.inr (by have h1 := hz5; have h2 : _ ≤ b := hb; omega))) _))
 clear hv
 clear h ht H5 HT5 HB5 HM
 obtain ⟨A6, n6, c6, hsl⟩ := HV6.out.slice
 subst hsl
 obtain ⟨w7, hw7⟩ : ∃ W, W = (w6.setCell ⟨W1.heap.size, 10, none⟩ (.slice A6 n6 c6)) := ⟨_, rfl⟩
 have HW7 := hide hw7
 have H7 := hide (show ParAt q TL E w7 _ by rw [hw7]; exact (H6.out.put (p := ⟨W1.heap.size, 10, none⟩) hqt _))
 have HT7 := hide (show Turn q w w7 by rw [hw7]; exact (HT6.out.put (p := ⟨W1.heap.size, 10, none⟩) (by simp; omega) _))
 have HX' := hide (show HoldB W1.heap.size 41 [.int .i64 6, .string ⟨#[]⟩, .slice (some ⟨W0.heap.size, 0, none⟩) 1 1, .int .i64 0, .string ⟨#[]⟩, .int .i64 0, .int .i64 0, .string ⟨#[]⟩, .string ⟨#[]⟩, .slice none 0 0, .slice A6 n6 c6, .slice none 0 0, .slice none 0 0, .slice none 0 0, .slice none 0 0, .int .i64 0] w7 by rw [hw7]; exact (Joins.block_setCell (i := 10) HX.out _))
 have hz7 : w.heap.size + 4 ≤ w7.heap.size := by rw [hw7]; simp; omega
 have HB7 := hide (show BoxAt (w.heap.size + 1) 41 16 w7 by rw [hw7]; exact (HB6.out.set (by omega) _ _))
 have hst : Stay (PSt' Pq w.heap.size W0.heap.size W1.heap.size) (PSt' Pq w.heap.size W0.heap.size W1.heap.size) w6 w7 := ⟨fun _ _ h => h, by rw [hw7]; simp, fun b hb _ => by
  have hbt : b ≠ W1.heap.size := pst_ne hb (by omega) hlo1
  rw [hw7]; exact Below.heap_setCell w6 ⟨W1.heap.size, 10, none⟩ (.slice A6 n6 c6) b hbt⟩
 replace HAr := hide (HAr.out.stay hst)
 replace HV6 := hide (HV6.out.stay hst)
 have HAo' := hide (show HoldB W0.heap.size 41 vq w7 by
  have b := W0.heap.size
  have hbt : W0.heap.size ≠ W1.heap.size := by omega
  rw [hw7]; exact (Below.heap_setCell w6 ⟨W1.heap.size, 10, none⟩ (.slice A6 n6 c6) W0.heap.size hbt).trans HAo.out)
 clear HAo
 have HAo := HAo'
 clear HAo' hst
 have x0 := Lib.cell_of_heap HX.out 0
 have x1 := Lib.cell_of_heap HX.out 1
 have x2 := Lib.cell_of_heap HX.out 2
 have x3 := Lib.cell_of_heap HX.out 3
 have x4 := Lib.cell_of_heap HX.out 4
 have x5 := Lib.cell_of_heap HX.out 5
 have x6 := Lib.cell_of_heap HX.out 6
 have x7 := Lib.cell_of_heap HX.out 7
 have x8 := Lib.cell_of_heap HX.out 8
 have x9 := Lib.cell_of_heap HX.out 9
 have x10 := Lib.cell_of_heap HX.out 10
 have x11 := Lib.cell_of_heap HX.out 11
 have x12 := Lib.cell_of_heap HX.out 12
 have x13 := Lib.cell_of_heap HX.out 13
 have x14 := Lib.cell_of_heap HX.out 14
 have x15 := Lib.cell_of_heap HX.out 15
 have xf := Lib.frozen_of_heap HX.out
 have xs := holds_size HX.out
 simp only [List.getElem?_toArray, List.getElem?_cons_zero, List.getElem?_cons_succ] at x0 x1 x2 x3 x4 x5 x6 x7 x8 x9 x10 x11 x12 x13 x14 x15
 have y0 := Lib.cell_of_heap HX'.out 0
 have y2 := Lib.cell_of_heap HX'.out 2
 have y4 := Lib.cell_of_heap HX'.out 10
 have y5 := Lib.cell_of_heap HX'.out 11
 simp only [List.getElem?_toArray, List.getElem?_cons_zero, List.getElem?_cons_succ] at y0 y2 y4 y5
 clear hw7
 go_wp2_with (first | rw [← HW7.out])
 clear xf xs x0 x1 x2 x3 x4 x5 x6 x7 x8 x9 x10 x11 x12 x13 x14 x15
 clear y0 y2 y4 y5 HX H6 HT6 HB6 HW7
 have HX := HX'
 clear HX'
 refine (HEx.out w7 H7.out).mono ?_
 rintro e w8 ⟨rfl, h, ht⟩
 have H8 := hide h
 have HT8 := hide (HT7.out.trans ht)
 have HB8 := hide (HB7.out.turn ht crq)
 have hz8 : w.heap.size + 4 ≤ w8.heap.size := Nat.le_trans hz7 ht.size
 have HAr' := hide (HAr.out.stay (Stay.turn ht hnp))
 have HV6' := hide (HV6.out.stay (Stay.turn ht hnp))
 clear HAr HV6
 have HAr := HAr'
 clear HAr'
 have HV6 := HV6'
 clear HV6'
 replace HX := hide (holds_turn HX.out ht hqt)
 replace HAo := hide (holds_turn HAo.out ht hqa)
 clear h ht H7 HT7 HB7 HEx
 have x0 := Lib.cell_of_heap HX.out 0
 have x1 := Lib.cell_of_heap HX.out 1
 have x2 := Lib.cell_of_heap HX.out 2
 have x3 := Lib.cell_of_heap HX.out 3
 have x4 := Lib.cell_of_heap HX.out 4
 have x5 := Lib.cell_of_heap HX.out 5
 have x6 := Lib.cell_of_heap HX.out 6
 have x7 := Lib.cell_of_heap HX.out 7
 have x8 := Lib.cell_of_heap HX.out 8
 have x9 := Lib.cell_of_heap HX.out 9
 have x10 := Lib.cell_of_heap HX.out 10
 have x11 := Lib.cell_of_heap HX.out 11
 have x12 := Lib.cell_of_heap HX.out 12
 have x13 := Lib.cell_of_heap HX.out 13
 have x14 := Lib.cell_of_heap HX.out 14
 have x15 := Lib.cell_of_heap HX.out 15
 have xf := Lib.frozen_of_heap HX.out
 have xs := holds_size HX.out
 simp only [List.getElem?_toArray, List.getElem?_cons_zero, List.getElem?_cons_succ] at x0 x1 x2 x3 x4 x5 x6 x7 x8 x9 x10 x11 x12 x13 x14 x15
 go_wp2_with fail
 clear xf xs x0 x1 x2 x3 x4 x5 x6 x7 x8 x9 x10 x11 x12 x13 x14 x15
 refine (HM2.out w8 H8.out).mono ?_
 rintro e w9 ⟨v9, rfl, hv, h, ht⟩
 have H9 := hide h
 have HT9 := hide (HT8.out.trans ht)
 have HB9 := hide (HB8.out.turn ht crq)
 have hz9 : w.heap.size + 4 ≤ w9.heap.size := Nat.le_trans hz8 ht.size
 have HAr' := hide (HAr.out.stay (Stay.turn ht hnp))
 have HV6' := hide (HV6.out.stay (Stay.turn ht hnp))
 clear HAr HV6
 have HAr := HAr'
 clear HAr'
 have HV6 := HV6'
 clear HV6'
 replace HX := hide (holds_turn HX.out ht hqt)
 replace HAo := hide (holds_turn HAo.out ht hqa)
 have HV9 := hide (hv.stay (Stay.at (Q := PSt' Pq w.heap.size W0.heap.size W1.heap.size) (fun b hb => Or.inr (Or.inr (by have h1 := hz8; have h2 : _ ≤ b := hb; omega))) _))
 clear hv
 clear h ht H8 HT8 HB8 HM2
 obtain ⟨A9, n9, c9, hsl⟩ := HV9.out.slice
 subst hsl
 obtain ⟨w10, hw10⟩ : ∃ W, W = (w9.setCell ⟨W1.heap.size, 13, none⟩ (.slice A9 n9 c9)) := ⟨_, rfl⟩
 have HW10 := hide hw10
 have H10 := hide (show ParAt q TL E w10 _ by rw [hw10]; exact (H9.out.put (p := ⟨W1.heap.size, 13, none⟩) hqt _))
 have HT10 := hide (show Turn q w w10 by rw [hw10]; exact (HT9.out.put (p := ⟨W1.heap.size, 13, none⟩) (by simp; omega) _))
 have HX' := hide (show HoldB W1.heap.size 41 [.int .i64 6, .string ⟨#[]⟩, .slice (some ⟨W0.heap.size, 0, none⟩) 1 1, .int .i64 0, .string ⟨#[]⟩, .int .i64 0, .int .i64 0, .string ⟨#[]⟩, .string ⟨#[]⟩, .slice none 0 0, .slice A6 n6 c6, .slice none 0 0, .slice none 0 0, .slice A9 n9 c9, .slice none 0 0, .int .i64 0] w10 by rw [hw10]; exact (Joins.block_setCell (i := 13) HX.out _))
 have hz10 : w.heap.size + 4 ≤ w10.heap.size := by rw [hw10]; simp; omega
 have HB10 := hide (show BoxAt (w.heap.size + 1) 41 16 w10 by rw [hw10]; exact (HB9.out.set (by omega) _ _))
 have hst : Stay (PSt' Pq w.heap.size W0.heap.size W1.heap.size) (PSt' Pq w.heap.size W0.heap.size W1.heap.size) w9 w10 := ⟨fun _ _ h => h, by rw [hw10]; simp, fun b hb _ => by
  have hbt : b ≠ W1.heap.size := pst_ne hb (by omega) hlo1
  rw [hw10]; exact Below.heap_setCell w9 ⟨W1.heap.size, 13, none⟩ (.slice A9 n9 c9) b hbt⟩
 replace HAr := hide (HAr.out.stay hst)
 replace HV6 := hide (HV6.out.stay hst)
 replace HV9 := hide (HV9.out.stay hst)
 have HAo' := hide (show HoldB W0.heap.size 41 vq w10 by
  have b := W0.heap.size
  have hbt : W0.heap.size ≠ W1.heap.size := by omega
  rw [hw10]; exact (Below.heap_setCell w9 ⟨W1.heap.size, 13, none⟩ (.slice A9 n9 c9) W0.heap.size hbt).trans HAo.out)
 clear HAo
 have HAo := HAo'
 clear HAo' hst
 have x0 := Lib.cell_of_heap HX.out 0
 have x1 := Lib.cell_of_heap HX.out 1
 have x2 := Lib.cell_of_heap HX.out 2
 have x3 := Lib.cell_of_heap HX.out 3
 have x4 := Lib.cell_of_heap HX.out 4
 have x5 := Lib.cell_of_heap HX.out 5
 have x6 := Lib.cell_of_heap HX.out 6
 have x7 := Lib.cell_of_heap HX.out 7
 have x8 := Lib.cell_of_heap HX.out 8
 have x9 := Lib.cell_of_heap HX.out 9
 have x10 := Lib.cell_of_heap HX.out 10
 have x11 := Lib.cell_of_heap HX.out 11
 have x12 := Lib.cell_of_heap HX.out 12
 have x13 := Lib.cell_of_heap HX.out 13
 have x14 := Lib.cell_of_heap HX.out 14
 have x15 := Lib.cell_of_heap HX.out 15
 have xf := Lib.frozen_of_heap HX.out
 have xs := holds_size HX.out
 simp only [List.getElem?_toArray, List.getElem?_cons_zero, List.getElem?_cons_succ] at x0 x1 x2 x3 x4 x5 x6 x7 x8 x9 x10 x11 x12 x13 x14 x15
 have y0 := Lib.cell_of_heap HX'.out 0
 have y2 := Lib.cell_of_heap HX'.out 2
 have y4 := Lib.cell_of_heap HX'.out 10
 have y5 := Lib.cell_of_heap HX'.out 11
 simp only [List.getElem?_toArray, List.getElem?_cons_zero, List.getElem?_cons_succ] at y0 y2 y4 y5
 clear hw10
 go_wp2_with (first | rw [← HW10.out] | (refine wpList_loadBig rfl 41 _ rfl W1.heap.size 16 [.int .i64 6, .string ⟨#[]⟩, .slice (some ⟨W0.heap.size, 0, none⟩) 1 1, .int .i64 0, .string ⟨#[]⟩, .int .i64 0, .int .i64 0, .string ⟨#[]⟩, .string ⟨#[]⟩, .slice none 0 0, .slice A6 n6 c6, .slice none 0 0, .slice none 0 0, .slice A9 n9 c9, .slice none 0 0, .int .i64 0] big_plan rfl rfl HX'.out ?_) | (refine wpList_storeBig rfl 41 _ _ rfl (w.heap.size + 1) 16 [.int .i64 6, .string ⟨#[]⟩, .slice (some ⟨W0.heap.size, 0, none⟩) 1 1, .int .i64 0, .string ⟨#[]⟩, .int .i64 0, .int .i64 0, .string ⟨#[]⟩, .string ⟨#[]⟩, .slice none 0 0, .slice A6 n6 c6, .slice none 0 0, .slice none 0 0, .slice A9 n9 c9, .slice none 0 0, .int .i64 0] big_plan rfl (by intro u hu; simp only [List.mem_cons, List.not_mem_nil, or_false] at hu; rcases hu with rfl | rfl | rfl | rfl | rfl | rfl | rfl | rfl | rfl | rfl | rfl | rfl | rfl | rfl | rfl | rfl <;> rfl) rfl rfl HB10.out ?_))
 clear xf xs x0 x1 x2 x3 x4 x5 x6 x7 x8 x9 x10 x11 x12 x13 x14 x15
 clear y0 y2 y4 y5 HX H9 HT9 HB9 HW10
 have HX := HX'
 clear HX'
 refine bodyPost_ret (v := .agg #[.int .i64 6, .string ⟨#[]⟩, .slice (some ⟨W0.heap.size, 0, none⟩) 1 1, .int .i64 0, .string ⟨#[]⟩, .int .i64 0, .int .i64 0, .string ⟨#[]⟩, .string ⟨#[]⟩, .slice none 0 0, .slice A6 n6 c6, .slice none 0 0, .slice none 0 0, .slice A9 n9 c9, .slice none 0 0, .int .i64 0]) (results_big (vs := [.int .i64 6, .string ⟨#[]⟩, .slice (some ⟨W0.heap.size, 0, none⟩) 1 1, .int .i64 0, .string ⟨#[]⟩, .int .i64 0, .int .i64 0, .string ⟨#[]⟩, .string ⟨#[]⟩, .slice none 0 0, .slice A6 n6 c6, .slice none 0 0, .slice none 0 0, .slice A9 n9 c9, .slice none 0 0, .int .i64 0]) rfl rfl big_plan rfl (set_row _ HB10.out.choose_spec.1)) rfl ?_
 exact ⟨[.int .i64 6, .string ⟨#[]⟩, .slice (some ⟨W0.heap.size, 0, none⟩) 1 1, .int .i64 0, .string ⟨#[]⟩, .int .i64 0, .int .i64 0, .string ⟨#[]⟩, .string ⟨#[]⟩, .slice none 0 0, .slice A6 n6 c6, .slice none 0 0, .slice none 0 0, .slice A9 n9 c9, .slice none 0 0, .int .i64 0], rfl, (rep_plan (p := {k := 6, args := [dq], names := X.1, aggs := Y.1}) HAr.out (rep_zeroE _ _) HV6.out (rep_nil _ _ _) (rep_nil _ _ _) HV9.out (rep_nil _ _ _)).stay (pst_fin _ _ hlo0 (by omega)), H10.out.row crq _, HT10.out.row (Nat.le_succ _) _⟩
end Go.Proofs.YtljoajjlkjjgeaaGreatDoor
