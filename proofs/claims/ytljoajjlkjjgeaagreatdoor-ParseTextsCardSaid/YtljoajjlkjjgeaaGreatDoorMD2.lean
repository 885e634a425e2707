/-
  definition: asset.
  definition whole.
  text: the definitions up to the end.
-/
import Derived.Test.YtljoajjlkjjgeaaGreatDoorMD1
namespace Go.Proofs.YtljoajjlkjjgeaaGreatDoor
open Go.RowKit Go.Sort LM Go

attribute [local go_sem] fld_tok0 fld_tok1 fld_tok2
set_option maxHeartbeats 8000000 in
set_option maxRecDepth 100000 in
theorem defAsset {q : Nat} {TL : List Tk} {E : Nat} (X : List (ByteArray × (Int × Int) × ByteArray) × PSt) (Y : Pl × PSt) (s : PSt) (w : World) (H : ParAt q TL E w s) (hk : (oneOfS defWords s).1 = 2)
  (HM : ∀ w1, ParAt q TL E w1 (expectS [102, 114, 111, 109] (schemeS (nameS (oneOfS defWords s).2).2).2) → Calls Tryz.prog 87 #[pP q, .func (.func 88) #[pP q] #[]] w1 (OneTo q TL E w1 (.row 4 (X.1.map dInp)) X.2))
  (HM2 : ∀ w1, ParAt q TL E w1 (expectS [100, 111] X.2) → Calls Tryz.prog 33 #[pP q] w1 (AggTo q TL E w1 Y.1.enc Y.2)) :
  Calls Tryz.prog 59 #[pP q] w (AggTo q TL E w ({k := 2, nm := (nameS (oneOfS defWords s).2).1, sc := (schemeS (nameS (oneOfS defWords s).2).2).1, ins := X.1, pl := Y.1} : Df).enc Y.2) := by
 have HOf := hide (fun A w1 (h : ParAt q TL E w1 s) (hA : StrW q w1 A defWords) => oneOf_any A 3 defWords w1 h hA (by decide))
 unfold StepTo at HOf
 rw [hk] at HOf
 have HNm := hide (fun w1 (h : ParAt q TL E w1 (oneOfS defWords s).2) => name_any w1 h)
 unfold StepTo at HNm
 have HSc := hide (fun w1 (h : ParAt q TL E w1 (nameS (oneOfS defWords s).2).2) => scheme_any (nameS (oneOfS defWords s).2).2 w1 h)
 unfold AggTo at HSc
 have HEx := hide (fun w1 (h : ParAt q TL E w1 (schemeS (nameS (oneOfS defWords s).2).2).2) => expect_any [102, 114, 111, 109] w1 h)
 have HEx2 := hide (fun w1 (h : ParAt q TL E w1 X.2) => expect_any [100, 111] w1 h)
 unfold StepTo at HEx HEx2
 unfold OneTo at HM
 unfold AggTo at HM2
 replace HM := hide HM
 replace HM2 := hide HM2
 have cq := H.lt
 have hqq : q < w.heap.size + 1 := by omega
 obtain ⟨W0, hW0⟩ : ∃ W0, W0 = w.alloc (.cells #[.int .i64 0, .string ⟨#[]⟩, .slice none 0 0, .int .i64 0, .int .i64 0, .int .i64 0, .slice none 0 0, .int .i64 0, .string ⟨#[]⟩, .slice none 0 0, .int .i64 0, .string ⟨#[]⟩, .int .i64 0, .int .i64 0, .string ⟨#[]⟩, .string ⟨#[]⟩, .slice none 0 0, .slice none 0 0, .slice none 0 0, .slice none 0 0, .slice none 0 0, .slice none 0 0, .int .i64 0, .string ⟨#[]⟩, .slice none 0 0] 43) := ⟨_, rfl⟩
 have H0 := hide (show ParAt q TL E W0 s by rw [hW0]; exact H.alloc _)
 have HT0 := hide (show Turn q w W0 by rw [hW0]; exact (Turn.refl _ _).alloc _)
 have HB0 := hide (show BoxAt w.heap.size 43 25 W0 by rw [hW0]; exact box_new _ _ _ rfl)
 have hz0 : w.heap.size + 1 ≤ W0.heap.size := by rw [hW0]; simp
 have HW0 := hide hW0
 clear hW0
 unfold AggTo
 clear hk
 obtain ⟨w1, hw1⟩ : ∃ W, W = W0.alloc (.cells #[.string ⟨#[115, 111, 117, 114, 99, 101]⟩, .string ⟨#[97, 115, 115, 101, 116]⟩, .string ⟨#[115, 99, 104, 101, 100, 117, 108, 101]⟩] 9) := ⟨_, rfl⟩
 have HW1 := hide hw1
 have H1 := hide (show ParAt q TL E w1 _ by rw [hw1]; exact H0.out.alloc _)
 have HT1 := hide (show Turn q w w1 by rw [hw1]; exact HT0.out.alloc _)
 have hz1 : w.heap.size + 1 ≤ w1.heap.size := by rw [hw1]; simp; omega
 have HB1 := hide (show BoxAt w.heap.size 43 25 w1 by rw [hw1]; exact HB0.out.turn ((Turn.refl q _).alloc _) cq)
 have hz0e : w.heap.size + 1 = W0.heap.size := by rw [HW0.out]; simp
 have HS1 := hide (show StrW q w1 (some ⟨w.heap.size + 1, 0, none⟩) defWords by rw [hw1, hz0e]; exact strW_new W0 q defWords _ (by omega))
 clear hw1 H0 HT0 HB0 hz0e
 clear H
 go_enter Tryz.func59, Tryz.ntmps59
 go_wp2_with fail
 rw [← HW0.out, ← HW1.out]
 clear HW1
 refine (HOf.out _ w1 H1.out HS1.out).mono ?_
 rintro e w2 ⟨rfl, h, ht⟩
 have H2 := hide h
 have HT2 := hide (HT1.out.trans ht)
 have HB2 := hide (HB1.out.turn ht cq)
 have hz2 : w.heap.size + 1 ≤ w2.heap.size := Nat.le_trans hz1 ht.size
 clear h ht H1 HT1 HB1 HS1 HOf
 go_wp2_with fail
 refine (HNm.out w2 H2.out).mono ?_
 rintro e w3 ⟨rfl, h, ht⟩
 have H3 := hide h
 have HT3 := hide (HT2.out.trans ht)
 have HB3 := hide (HB2.out.turn ht cq)
 have hz3 : w.heap.size + 1 ≤ w3.heap.size := Nat.le_trans hz2 ht.size
 clear h ht H2 HT2 HB2 HNm
 obtain ⟨w4, hw4⟩ : ∃ W, W = w3.alloc (.cells #[.int .i64 2, .string (nameS (oneOfS defWords s).2).1, .slice none 0 0, .int .i64 0, .int .i64 0, .int .i64 0, .slice none 0 0, .int .i64 0, .string ⟨#[]⟩, .slice none 0 0, .int .i64 0, .string ⟨#[]⟩, .int .i64 0, .int .i64 0, .string ⟨#[]⟩, .string ⟨#[]⟩, .slice none 0 0, .slice none 0 0, .slice none 0 0, .slice none 0 0, .slice none 0 0, .slice none 0 0, .int .i64 0, .string ⟨#[]⟩, .slice none 0 0] 43) := ⟨_, rfl⟩
 have HW4 := hide (show w4 = (w3.alloc (.cells #[.int .i64 0, .string ⟨#[]⟩, .slice none 0 0, .int .i64 0, .int .i64 0, .int .i64 0, .slice none 0 0, .int .i64 0, .string ⟨#[]⟩, .slice none 0 0, .int .i64 0, .string ⟨#[]⟩, .int .i64 0, .int .i64 0, .string ⟨#[]⟩, .string ⟨#[]⟩, .slice none 0 0, .slice none 0 0, .slice none 0 0, .slice none 0 0, .slice none 0 0, .slice none 0 0, .int .i64 0, .string ⟨#[]⟩, .slice none 0 0] 43)).setRow w3.heap.size #[.int .i64 2, .string (nameS (oneOfS defWords s).2).1, .slice none 0 0, .int .i64 0, .int .i64 0, .int .i64 0, .slice none 0 0, .int .i64 0, .string ⟨#[]⟩, .slice none 0 0, .int .i64 0, .string ⟨#[]⟩, .int .i64 0, .int .i64 0, .string ⟨#[]⟩, .string ⟨#[]⟩, .slice none 0 0, .slice none 0 0, .slice none 0 0, .slice none 0 0, .slice none 0 0, .slice none 0 0, .int .i64 0, .string ⟨#[]⟩, .slice none 0 0] by rw [hw4, World.setRow_alloc_new])
 have H4 := hide (show ParAt q TL E w4 _ by rw [hw4]; exact H3.out.alloc _)
 have HT4 := hide (show Turn q w w4 by rw [hw4]; exact HT3.out.alloc _)
 obtain ⟨tb, htb⟩ : ∃ tb, tb = w3.heap.size := ⟨_, rfl⟩
 have HTB := hide htb
 have HX := hide (show HoldB tb 43 [.int .i64 2, .string (nameS (oneOfS defWords s).2).1, .slice none 0 0, .int .i64 0, .int .i64 0, .int .i64 0, .slice none 0 0, .int .i64 0, .string ⟨#[]⟩, .slice none 0 0, .int .i64 0, .string ⟨#[]⟩, .int .i64 0, .int .i64 0, .string ⟨#[]⟩, .string ⟨#[]⟩, .slice none 0 0, .slice none 0 0, .slice none 0 0, .slice none 0 0, .slice none 0 0, .slice none 0 0, .int .i64 0, .string ⟨#[]⟩, .slice none 0 0] w4 by rw [hw4, htb]; exact heap_alloc_new _ _)
 have hz4 : tb + 1 ≤ w4.heap.size := by rw [hw4, htb]; simp
 have hqt : q < tb := by omega
 have hqq2 : q < tb + 1 := by omega
 have hrt : w.heap.size < tb := by omega
 have HB4 := hide (show BoxAt w.heap.size 43 25 w4 by rw [hw4]; exact HB3.out.turn ((Turn.refl q _).alloc _) cq)
 clear hw4 htb H3 HT3 HB3
 have x0 := Lib.cell_of_heap HX.out 0
 have x1 := Lib.cell_of_heap HX.out 1
 have x2 := Lib.cell_of_heap HX.out 2
 have x3 := Lib.cell_of_heap HX.out 3
 have x4 := Lib.cell_of_heap HX.out 4
 have x5 := Lib.cell_of_heap HX.out 5
 have x6 := Lib.cell_of_heap HX.out 6
 have x7 := Lib.cell_of_heap HX.out 7
 have x8 := Lib.cell_of_heap HX.out 8
 have x9 := Lib.cell_of_heap HX.out 9
 have x10 := Lib.cell_of_heap HX.out 10
 have x11 := Lib.cell_of_heap HX.out 11
 have x12 := Lib.cell_of_heap HX.out 12
 have x13 := Lib.cell_of_heap HX.out 13
 have x14 := Lib.cell_of_heap HX.out 14
 have x15 := Lib.cell_of_heap HX.out 15
 have x16 := Lib.cell_of_heap HX.out 16
 have x17 := Lib.cell_of_heap HX.out 17
 have x18 := Lib.cell_of_heap HX.out 18
 have x19 := Lib.cell_of_heap HX.out 19
 have x20 := Lib.cell_of_heap HX.out 20
 have x21 := Lib.cell_of_heap HX.out 21
 have x22 := Lib.cell_of_heap HX.out 22
 have x23 := Lib.cell_of_heap HX.out 23
 have x24 := Lib.cell_of_heap HX.out 24
 have xf := Lib.frozen_of_heap HX.out
 have xs := holds_size HX.out
 simp only [List.getElem?_toArray, List.getElem?_cons_zero, List.getElem?_cons_succ] at x0 x1 x2 x3 x4 x5 x6 x7 x8 x9 x10 x11 x12 x13 x14 x15 x16 x17 x18 x19 x20 x21 x22 x23 x24
 go_wp2_with (first | (refine wpList_storeBig rfl 43 _ _ rfl w3.heap.size 25 [.int .i64 2, .string (nameS (oneOfS defWords s).2).1, .slice none 0 0, .int .i64 0, .int .i64 0, .int .i64 0, .slice none 0 0, .int .i64 0, .string ⟨#[]⟩, .slice none 0 0, .int .i64 0, .string ⟨#[]⟩, .int .i64 0, .int .i64 0, .string ⟨#[]⟩, .string ⟨#[]⟩, .slice none 0 0, .slice none 0 0, .slice none 0 0, .slice none 0 0, .slice none 0 0, .slice none 0 0, .int .i64 0, .string ⟨#[]⟩, .slice none 0 0] big_def rfl (by simp [Value.oneCell']) rfl rfl (box_new _ _ _ rfl) ?_; rw [← HW4.out, ← HTB.out]))
 clear xf xs x0 x1 x2 x3 x4 x5 x6 x7 x8 x9 x10 x11 x12 x13 x14 x15 x16 x17 x18 x19 x20 x21 x22 x23 x24
 clear HW4
 refine (HSc.out w4 H4.out).mono ?_
 rintro e w5 ⟨vs5, rfl, hv, h, ht⟩
 have H5 := hide h
 have HT5 := hide (HT4.out.trans ht)
 have HB5 := hide (HB4.out.turn ht cq)
 have hz5 : tb + 1 ≤ w5.heap.size := Nat.le_trans hz4 ht.size
 replace HX := hide (holds_turn HX.out ht hqt)
 have HV5 := hide (hv.stay (Stay.at (fun _ hb => Nat.le_trans hz4 hb) _))
 clear hv
 clear h ht H4 HT4 HB4 HSc
 obtain rfl := three_ints HV5.out
 clear HV5
 obtain ⟨w6, hw6⟩ : ∃ W, W = (((w5.setCell ⟨tb, 3, none⟩ (.int .i64 (schemeS (nameS (oneOfS defWords s).2).2).1.1)).setCell ⟨tb, 4, none⟩ (.int .i64 (schemeS (nameS (oneOfS defWords s).2).2).1.2.1)).setCell ⟨tb, 5, none⟩ (.int .i64 (schemeS (nameS (oneOfS defWords s).2).2).1.2.2)) := ⟨_, rfl⟩
 have HW6 := hide hw6
 have H6 := hide (show ParAt q TL E w6 _ by rw [hw6]; exact (((H5.out.put (p := ⟨tb, 3, none⟩) hqt _).put (p := ⟨tb, 4, none⟩) hqt _).put (p := ⟨tb, 5, none⟩) hqt _))
 have HT6 := hide (show Turn q w w6 by rw [hw6]; exact (((HT5.out.put (p := ⟨tb, 3, none⟩) (by simp; omega) _).put (p := ⟨tb, 4, none⟩) (by simp; omega) _).put (p := ⟨tb, 5, none⟩) (by simp; omega) _))
 have HX' := hide (show HoldB tb 43 [.int .i64 2, .string (nameS (oneOfS defWords s).2).1, .slice none 0 0, .int .i64 (schemeS (nameS (oneOfS defWords s).2).2).1.1, .int .i64 (schemeS (nameS (oneOfS defWords s).2).2).1.2.1, .int .i64 (schemeS (nameS (oneOfS defWords s).2).2).1.2.2, .slice none 0 0, .int .i64 0, .string ⟨#[]⟩, .slice none 0 0, .int .i64 0, .string ⟨#[]⟩, .int .i64 0, .int .i64 0, .string ⟨#[]⟩, .string ⟨#[]⟩, .slice none 0 0, .slice none 0 0, .slice none 0 0, .slice none 0 0, .slice none 0 0, .slice none 0 0, .int .i64 0, .string ⟨#[]⟩, .slice none 0 0] w6 by rw [hw6]; exact (Joins.block_setCell (i := 5) (Joins.block_setCell (i := 4) (Joins.block_setCell (i := 3) HX.out _) _) _))
 have hz6 : tb + 1 ≤ w6.heap.size := by rw [hw6]; simp; omega
 have HB6 := hide (show BoxAt w.heap.size 43 25 w6 by rw [hw6]; exact (((HB5.out.set (by omega) _ _).set (by omega) _ _).set (by omega) _ _))
 have hkk : ∀ b, b ≠ tb → w6.heap[b]? = w5.heap[b]? := fun b hb => by rw [hw6]; exact ((Below.heap_setCell ((w5.setCell ⟨tb, 3, none⟩ (.int .i64 (schemeS (nameS (oneOfS defWords s).2).2).1.1)).setCell ⟨tb, 4, none⟩ (.int .i64 (schemeS (nameS (oneOfS defWords s).2).2).1.2.1)) ⟨tb, 5, none⟩ (.int .i64 (schemeS (nameS (oneOfS defWords s).2).2).1.2.2) b hb).trans (Below.heap_setCell (w5.setCell ⟨tb, 3, none⟩ (.int .i64 (schemeS (nameS (oneOfS defWords s).2).2).1.1)) ⟨tb, 4, none⟩ (.int .i64 (schemeS (nameS (oneOfS defWords s).2).2).1.2.1) b hb)).trans (Below.heap_setCell w5 ⟨tb, 3, none⟩ (.int .i64 (schemeS (nameS (oneOfS defWords s).2).2).1.1) b hb)
 have hss : w5.heap.size ≤ w6.heap.size := by rw [hw6]; simp
 have x0 := Lib.cell_of_heap HX.out 0
 have x1 := Lib.cell_of_heap HX.out 1
 have x2 := Lib.cell_of_heap HX.out 2
 have x3 := Lib.cell_of_heap HX.out 3
 have x4 := Lib.cell_of_heap HX.out 4
 have x5 := Lib.cell_of_heap HX.out 5
 have x6 := Lib.cell_of_heap HX.out 6
 have x7 := Lib.cell_of_heap HX.out 7
 have x8 := Lib.cell_of_heap HX.out 8
 have x9 := Lib.cell_of_heap HX.out 9
 have x10 := Lib.cell_of_heap HX.out 10
 have x11 := Lib.cell_of_heap HX.out 11
 have x12 := Lib.cell_of_heap HX.out 12
 have x13 := Lib.cell_of_heap HX.out 13
 have x14 := Lib.cell_of_heap HX.out 14
 have x15 := Lib.cell_of_heap HX.out 15
 have x16 := Lib.cell_of_heap HX.out 16
 have x17 := Lib.cell_of_heap HX.out 17
 have x18 := Lib.cell_of_heap HX.out 18
 have x19 := Lib.cell_of_heap HX.out 19
 have x20 := Lib.cell_of_heap HX.out 20
 have x21 := Lib.cell_of_heap HX.out 21
 have x22 := Lib.cell_of_heap HX.out 22
 have x23 := Lib.cell_of_heap HX.out 23
 have x24 := Lib.cell_of_heap HX.out 24
 have xf := Lib.frozen_of_heap HX.out
 have xs := holds_size HX.out
 simp only [List.getElem?_toArray, List.getElem?_cons_zero, List.getElem?_cons_succ] at x0 x1 x2 x3 x4 x5 x6 x7 x8 x9 x10 x11 x12 x13 x14 x15 x16 x17 x18 x19 x20 x21 x22 x23 x24
 have y0 := Lib.cell_of_heap HX'.out 0
 simp only [List.getElem?_toArray, List.getElem?_cons_zero] at y0
 clear hw6 hkk hss
 go_wp2_with (first | rw [← HW6.out])
 clear xf xs x0 x1 x2 x3 x4 x5 x6 x7 x8 x9 x10 x11 x12 x13 x14 x15 x16 x17 x18 x19 x20 x21 x22 x23 x24
 clear y0 HX H5 HT5 HB5 HW6
 have HX := HX'
 clear HX'
 refine (HEx.out w6 H6.out).mono ?_
 rintro e w7 ⟨rfl, h, ht⟩
 have H7 := hide h
 have HT7 := hide (HT6.out.trans ht)
 have HB7 := hide (HB6.out.turn ht cq)
 have hz7 : tb + 1 ≤ w7.heap.size := Nat.le_trans hz6 ht.size
 replace HX := hide (holds_turn HX.out ht hqt)
 clear h ht H6 HT6 HB6 HEx
 go_wp2_with fail
 refine (HM.out w7 H7.out).mono ?_
 rintro e w8 ⟨v8, rfl, hv, h, ht⟩
 have H8 := hide h
 have HT8 := hide (HT7.out.trans ht)
 have HB8 := hide (HB7.out.turn ht cq)
 have hz8 : tb + 1 ≤ w8.heap.size := Nat.le_trans hz7 ht.size
 replace HX := hide (holds_turn HX.out ht hqt)
 have HV8 := hide (hv.stay (Stay.at (fun _ hb => Nat.le_trans hz7 hb) _))
 clear hv
 clear h ht H7 HT7 HB7 HM
 obtain ⟨A8, n8, c8, hsl⟩ := HV8.out.slice
 subst hsl
 obtain ⟨w9, hw9⟩ : ∃ W, W = (w8.setCell ⟨tb, 6, none⟩ (.slice A8 n8 c8)) := ⟨_, rfl⟩
 have HW9 := hide hw9
 have H9 := hide (show ParAt q TL E w9 _ by rw [hw9]; exact (H8.out.put (p := ⟨tb, 6, none⟩) hqt _))
 have HT9 := hide (show Turn q w w9 by rw [hw9]; exact (HT8.out.put (p := ⟨tb, 6, none⟩) (by simp; omega) _))
 have HX' := hide (show HoldB tb 43 [.int .i64 2, .string (nameS (oneOfS defWords s).2).1, .slice none 0 0, .int .i64 (schemeS (nameS (oneOfS defWords s).2).2).1.1, .int .i64 (schemeS (nameS (oneOfS defWords s).2).2).1.2.1, .int .i64 (schemeS (nameS (oneOfS defWords s).2).2).1.2.2, .slice A8 n8 c8, .int .i64 0, .string ⟨#[]⟩, .slice none 0 0, .int .i64 0, .string ⟨#[]⟩, .int .i64 0, .int .i64 0, .string ⟨#[]⟩, .string ⟨#[]⟩, .slice none 0 0, .slice none 0 0, .slice none 0 0, .slice none 0 0, .slice none 0 0, .slice none 0 0, .int .i64 0, .string ⟨#[]⟩, .slice none 0 0] w9 by rw [hw9]; exact (Joins.block_setCell (i := 6) HX.out _))
 have hz9 : tb + 1 ≤ w9.heap.size := by rw [hw9]; simp; omega
 have HB9 := hide (show BoxAt w.heap.size 43 25 w9 by rw [hw9]; exact (HB8.out.set (by omega) _ _))
 have hkk : ∀ b, b ≠ tb → w9.heap[b]? = w8.heap[b]? := fun b hb => by rw [hw9]; exact Below.heap_setCell w8 ⟨tb, 6, none⟩ (.slice A8 n8 c8) b hb
 have hss : w8.heap.size ≤ w9.heap.size := by rw [hw9]; simp
 replace HV8 := hide (HV8.out.above hss hkk)
 have x0 := Lib.cell_of_heap HX.out 0
 have x1 := Lib.cell_of_heap HX.out 1
 have x2 := Lib.cell_of_heap HX.out 2
 have x3 := Lib.cell_of_heap HX.out 3
 have x4 := Lib.cell_of_heap HX.out 4
 have x5 := Lib.cell_of_heap HX.out 5
 have x6 := Lib.cell_of_heap HX.out 6
 have x7 := Lib.cell_of_heap HX.out 7
 have x8 := Lib.cell_of_heap HX.out 8
 have x9 := Lib.cell_of_heap HX.out 9
 have x10 := Lib.cell_of_heap HX.out 10
 have x11 := Lib.cell_of_heap HX.out 11
 have x12 := Lib.cell_of_heap HX.out 12
 have x13 := Lib.cell_of_heap HX.out 13
 have x14 := Lib.cell_of_heap HX.out 14
 have x15 := Lib.cell_of_heap HX.out 15
 have x16 := Lib.cell_of_heap HX.out 16
 have x17 := Lib.cell_of_heap HX.out 17
 have x18 := Lib.cell_of_heap HX.out 18
 have x19 := Lib.cell_of_heap HX.out 19
 have x20 := Lib.cell_of_heap HX.out 20
 have x21 := Lib.cell_of_heap HX.out 21
 have x22 := Lib.cell_of_heap HX.out 22
 have x23 := Lib.cell_of_heap HX.out 23
 have x24 := Lib.cell_of_heap HX.out 24
 have xf := Lib.frozen_of_heap HX.out
 have xs := holds_size HX.out
 simp only [List.getElem?_toArray, List.getElem?_cons_zero, List.getElem?_cons_succ] at x0 x1 x2 x3 x4 x5 x6 x7 x8 x9 x10 x11 x12 x13 x14 x15 x16 x17 x18 x19 x20 x21 x22 x23 x24
 have y0 := Lib.cell_of_heap HX'.out 0
 simp only [List.getElem?_toArray, List.getElem?_cons_zero] at y0
 clear hw9 hkk hss
 go_wp2_with (first | rw [← HW9.out])
 clear xf xs x0 x1 x2 x3 x4 x5 x6 x7 x8 x9 x10 x11 x12 x13 x14 x15 x16 x17 x18 x19 x20 x21 x22 x23 x24
 clear y0 HX H8 HT8 HB8 HW9
 have HX := HX'
 clear HX'
 refine (HEx2.out w9 H9.out).mono ?_
 rintro e w10 ⟨rfl, h, ht⟩
 have H10 := hide h
 have HT10 := hide (HT9.out.trans ht)
 have HB10 := hide (HB9.out.turn ht cq)
 have hz10 : tb + 1 ≤ w10.heap.size := Nat.le_trans hz9 ht.size
 replace HV8 := hide (HV8.out.stay (Stay.new ht hqq2 (Nat.le_refl _)))
 replace HX := hide (holds_turn HX.out ht hqt)
 clear h ht H9 HT9 HB9 HEx2
 go_wp2_with fail
 refine (HM2.out w10 H10.out).mono ?_
 rintro e w11 ⟨vs11, rfl, hv, h, ht⟩
 have H11 := hide h
 have HT11 := hide (HT10.out.trans ht)
 have HB11 := hide (HB10.out.turn ht cq)
 have hz11 : tb + 1 ≤ w11.heap.size := Nat.le_trans hz10 ht.size
 replace HV8 := hide (HV8.out.stay (Stay.new ht hqq2 (Nat.le_refl _)))
 replace HX := hide (holds_turn HX.out ht hqt)
 have HV11 := hide (hv.stay (Stay.at (fun _ hb => Nat.le_trans hz10 hb) _))
 clear hv
 clear h ht H10 HT10 HB10 HM2
 have hlen : vs11.length = 16 := HV11.out.1.trans (enc_len _)
 have hone := HV11.out.one_cell
 obtain ⟨w12, hw12⟩ : ∃ W, W = w11.setRow tb ((([.int .i64 2, .string (nameS (oneOfS defWords s).2).1, .slice none 0 0, .int .i64 (schemeS (nameS (oneOfS defWords s).2).2).1.1, .int .i64 (schemeS (nameS (oneOfS defWords s).2).2).1.2.1, .int .i64 (schemeS (nameS (oneOfS defWords s).2).2).1.2.2, .slice A8 n8 c8] : List Value) ++ vs11 ++ ([.string ⟨#[]⟩, .slice none 0 0] : List Value)) : List Value).toArray := ⟨_, rfl⟩
 have HW12 := hide (show w12 = w11.setRow tb (([.int .i64 2, .string (nameS (oneOfS defWords s).2).1, .slice none 0 0, .int .i64 (schemeS (nameS (oneOfS defWords s).2).2).1.1, .int .i64 (schemeS (nameS (oneOfS defWords s).2).2).1.2.1, .int .i64 (schemeS (nameS (oneOfS defWords s).2).2).1.2.2, .slice A8 n8 c8, .int .i64 0, .string ⟨#[]⟩, .slice none 0 0, .int .i64 0, .string ⟨#[]⟩, .int .i64 0, .int .i64 0, .string ⟨#[]⟩, .string ⟨#[]⟩, .slice none 0 0, .slice none 0 0, .slice none 0 0, .slice none 0 0, .slice none 0 0, .slice none 0 0, .int .i64 0, .string ⟨#[]⟩, .slice none 0 0] : List Value).take 7 ++ vs11 ++ ([.int .i64 2, .string (nameS (oneOfS defWords s).2).1, .slice none 0 0, .int .i64 (schemeS (nameS (oneOfS defWords s).2).2).1.1, .int .i64 (schemeS (nameS (oneOfS defWords s).2).2).1.2.1, .int .i64 (schemeS (nameS (oneOfS defWords s).2).2).1.2.2, .slice A8 n8 c8, .int .i64 0, .string ⟨#[]⟩, .slice none 0 0, .int .i64 0, .string ⟨#[]⟩, .int .i64 0, .int .i64 0, .string ⟨#[]⟩, .string ⟨#[]⟩, .slice none 0 0, .slice none 0 0, .slice none 0 0, .slice none 0 0, .slice none 0 0, .slice none 0 0, .int .i64 0, .string ⟨#[]⟩, .slice none 0 0] : List Value).drop (7 + 16)).toArray from hw12)
 have H12 := hide (show ParAt q TL E w12 _ by rw [hw12]; exact H11.out.row hqt _)
 have HT12 := hide (show Turn q w w12 by rw [hw12]; exact HT11.out.row (by omega) _)
 have HX' := hide (show HoldB tb 43 (([.int .i64 2, .string (nameS (oneOfS defWords s).2).1, .slice none 0 0, .int .i64 (schemeS (nameS (oneOfS defWords s).2).2).1.1, .int .i64 (schemeS (nameS (oneOfS defWords s).2).2).1.2.1, .int .i64 (schemeS (nameS (oneOfS defWords s).2).2).1.2.2, .slice A8 n8 c8] : List Value) ++ vs11 ++ ([.string ⟨#[]⟩, .slice none 0 0] : List Value)) w12 by rw [hw12]; exact set_row _ HX.out)
 have hkk : ∀ b, b ≠ tb → w12.heap[b]? = w11.heap[b]? := fun b hb => by rw [hw12]; exact set_row_other _ _ hb
 have hss : w11.heap.size ≤ w12.heap.size := by rw [hw12, set_row_size]; exact Nat.le_refl _
 have HB12 := hide (show BoxAt w.heap.size 43 25 w12 by
  obtain ⟨o, h, hn⟩ := HB11.out
  exact ⟨o, (hkk _ (by omega)).trans h, hn⟩)
 have hll : (([.int .i64 2, .string (nameS (oneOfS defWords s).2).1, .slice none 0 0, .int .i64 (schemeS (nameS (oneOfS defWords s).2).2).1.1, .int .i64 (schemeS (nameS (oneOfS defWords s).2).2).1.2.1, .int .i64 (schemeS (nameS (oneOfS defWords s).2).2).1.2.2, .slice A8 n8 c8] : List Value) ++ vs11 ++ ([.string ⟨#[]⟩, .slice none 0 0] : List Value)).length = 25 := by simp [hlen]
 have hoo : ∀ u ∈ (([.int .i64 2, .string (nameS (oneOfS defWords s).2).1, .slice none 0 0, .int .i64 (schemeS (nameS (oneOfS defWords s).2).2).1.1, .int .i64 (schemeS (nameS (oneOfS defWords s).2).2).1.2.1, .int .i64 (schemeS (nameS (oneOfS defWords s).2).2).1.2.2, .slice A8 n8 c8] : List Value) ++ vs11 ++ ([.string ⟨#[]⟩, .slice none 0 0] : List Value)), u.oneCell' = true := fun u hu => by
  rcases List.mem_append.1 hu with hu | hu
  ·rcases List.mem_append.1 hu with hu | hu
   ·simp at hu; rcases hu with rfl | rfl | rfl | rfl | rfl | rfl | rfl <;> rfl
   ·exact hone u hu
  ·simp at hu; rcases hu with rfl | rfl <;> rfl
 replace HV8 := hide (HV8.out.above hss hkk)
 replace HV11 := hide (HV11.out.above hss hkk)
 have x0 := Lib.cell_of_heap HX.out 0
 have x1 := Lib.cell_of_heap HX.out 1
 have x2 := Lib.cell_of_heap HX.out 2
 have x3 := Lib.cell_of_heap HX.out 3
 have x4 := Lib.cell_of_heap HX.out 4
 have x5 := Lib.cell_of_heap HX.out 5
 have x6 := Lib.cell_of_heap HX.out 6
 have x7 := Lib.cell_of_heap HX.out 7
 have x8 := Lib.cell_of_heap HX.out 8
 have x9 := Lib.cell_of_heap HX.out 9
 have x10 := Lib.cell_of_heap HX.out 10
 have x11 := Lib.cell_of_heap HX.out 11
 have x12 := Lib.cell_of_heap HX.out 12
 have x13 := Lib.cell_of_heap HX.out 13
 have x14 := Lib.cell_of_heap HX.out 14
 have x15 := Lib.cell_of_heap HX.out 15
 have x16 := Lib.cell_of_heap HX.out 16
 have x17 := Lib.cell_of_heap HX.out 17
 have x18 := Lib.cell_of_heap HX.out 18
 have x19 := Lib.cell_of_heap HX.out 19
 have x20 := Lib.cell_of_heap HX.out 20
 have x21 := Lib.cell_of_heap HX.out 21
 have x22 := Lib.cell_of_heap HX.out 22
 have x23 := Lib.cell_of_heap HX.out 23
 have x24 := Lib.cell_of_heap HX.out 24
 have xf := Lib.frozen_of_heap HX.out
 have xs := holds_size HX.out
 simp only [List.getElem?_toArray, List.getElem?_cons_zero, List.getElem?_cons_succ] at x0 x1 x2 x3 x4 x5 x6 x7 x8 x9 x10 x11 x12 x13 x14 x15 x16 x17 x18 x19 x20 x21 x22 x23 x24
 clear hw12 hkk hss
 go_wp2_with (first | rw [← HW12.out] | (refine wpList_storePart rfl 41 _ _ rfl tb 7 16 43 [.int .i64 2, .string (nameS (oneOfS defWords s).2).1, .slice none 0 0, .int .i64 (schemeS (nameS (oneOfS defWords s).2).2).1.1, .int .i64 (schemeS (nameS (oneOfS defWords s).2).2).1.2.1, .int .i64 (schemeS (nameS (oneOfS defWords s).2).2).1.2.2, .slice A8 n8 c8, .int .i64 0, .string ⟨#[]⟩, .slice none 0 0, .int .i64 0, .string ⟨#[]⟩, .int .i64 0, .int .i64 0, .string ⟨#[]⟩, .string ⟨#[]⟩, .slice none 0 0, .slice none 0 0, .slice none 0 0, .slice none 0 0, .slice none 0 0, .slice none 0 0, .int .i64 0, .string ⟨#[]⟩, .slice none 0 0] vs11 big_plan hlen (by simp) hone rfl rfl HX.out ?_) | (refine wpList_loadBig rfl 43 _ rfl tb 25 (([.int .i64 2, .string (nameS (oneOfS defWords s).2).1, .slice none 0 0, .int .i64 (schemeS (nameS (oneOfS defWords s).2).2).1.1, .int .i64 (schemeS (nameS (oneOfS defWords s).2).2).1.2.1, .int .i64 (schemeS (nameS (oneOfS defWords s).2).2).1.2.2, .slice A8 n8 c8] : List Value) ++ vs11 ++ ([.string ⟨#[]⟩, .slice none 0 0] : List Value)) big_def hll rfl HX'.out ?_) | (refine wpList_storeBig rfl 43 _ _ rfl w.heap.size 25 (([.int .i64 2, .string (nameS (oneOfS defWords s).2).1, .slice none 0 0, .int .i64 (schemeS (nameS (oneOfS defWords s).2).2).1.1, .int .i64 (schemeS (nameS (oneOfS defWords s).2).2).1.2.1, .int .i64 (schemeS (nameS (oneOfS defWords s).2).2).1.2.2, .slice A8 n8 c8] : List Value) ++ vs11 ++ ([.string ⟨#[]⟩, .slice none 0 0] : List Value)) big_def hll hoo rfl rfl HB12.out ?_))
 refine bodyPost_ret (v := .agg (([.int .i64 2, .string (nameS (oneOfS defWords s).2).1, .slice none 0 0, .int .i64 (schemeS (nameS (oneOfS defWords s).2).2).1.1, .int .i64 (schemeS (nameS (oneOfS defWords s).2).2).1.2.1, .int .i64 (schemeS (nameS (oneOfS defWords s).2).2).1.2.2, .slice A8 n8 c8] : List Value) ++ vs11 ++ ([.string ⟨#[]⟩, .slice none 0 0] : List Value)).toArray) (results_big (vs := (([.int .i64 2, .string (nameS (oneOfS defWords s).2).1, .slice none 0 0, .int .i64 (schemeS (nameS (oneOfS defWords s).2).2).1.1, .int .i64 (schemeS (nameS (oneOfS defWords s).2).2).1.2.1, .int .i64 (schemeS (nameS (oneOfS defWords s).2).2).1.2.2, .slice A8 n8 c8] : List Value) ++ vs11 ++ ([.string ⟨#[]⟩, .slice none 0 0] : List Value))) rfl rfl big_def hll (set_row _ HB12.out.choose_spec.1)) rfl ?_
 exact ⟨(([.int .i64 2, .string (nameS (oneOfS defWords s).2).1, .slice none 0 0, .int .i64 (schemeS (nameS (oneOfS defWords s).2).2).1.1, .int .i64 (schemeS (nameS (oneOfS defWords s).2).2).1.2.1, .int .i64 (schemeS (nameS (oneOfS defWords s).2).2).1.2.2, .slice A8 n8 c8] : List Value) ++ vs11 ++ ([.string ⟨#[]⟩, .slice none 0 0] : List Value)), rfl, RepC.ret (lo := tb + 1) (rep_def (d := {k := 2, nm := (nameS (oneOfS defWords s).2).1, sc := (schemeS (nameS (oneOfS defWords s).2).2).1, ins := X.1, pl := Y.1}) (rep_nil _ _ _) HV8.out HV11.out (rep_nil _ _ _)) (by omega) (by omega) _, H12.out.row cq _, HT12.out.row (Nat.le_refl _) _⟩
end Go.Proofs.YtljoajjlkjjgeaaGreatDoor
namespace Go.Proofs.YtljoajjlkjjgeaaGreatDoor
open Go.RowKit Go.Sort LM Go

attribute [local go_sem] fld_tok0 fld_tok1 fld_tok2

theorem defK0 (F : Nat) (nm : ByteArray) (t : PSt) : defK F 0 nm t = ({k := 0, nm}, t) := by unfold defK; rw [if_neg (by decide), if_neg (by decide), if_neg (by decide)]
theorem defK1 (F : Nat) (nm : ByteArray) (t : PSt) : defK F 1 nm t = ({k := 1, nm, sch := (enclosedS (listS F colS) t).1, sc := (schemeS (enclosedS (listS F colS) t).2).1}, (schemeS (enclosedS (listS F colS) t).2).2) := by unfold defK; rw [if_pos rfl]
theorem defK2 (F : Nat) (nm : ByteArray) (t : PSt) : defK F 2 nm t = ({k := 2, nm, sc := (schemeS t).1, ins := (listS F inputS (expectS [102, 114, 111, 109] (schemeS t).2)).1, pl := (queryS F (expectS [100, 111] (listS F inputS (expectS [102, 114, 111, 109] (schemeS t).2)).2)).1}, (queryS F (expectS [100, 111] (listS F inputS (expectS [102, 114, 111, 109] (schemeS t).2)).2)).2) := by unfold defK; rw [if_neg (by decide), if_pos rfl]
theorem defK3 (F : Nat) (nm : ByteArray) (t : PSt) : defK F 3 nm t = ({k := 3, nm, cron := (literalS t).1, makes := (listS F nameS (expectS [109, 97, 107, 101, 115] (literalS t).2)).1}, (listS F nameS (expectS [109, 97, 107, 101, 115] (literalS t).2)).2) := by unfold defK; rw [if_neg (by decide), if_neg (by decide), if_pos rfl]
theorem tr_expect (x : List UInt8) {s : PSt} (h : Wf s) : Tr s (expectS x s) := (nice_expect x).tr s h
set_option maxHeartbeats 2000000 in
theorem def_ok {q : Nat} {TL : List Tk} {E F : Nat} (hF : F ≤ 19000) (hT : TokOk TL) (s : PSt) (w : World) (hs : Ok F (F + 1) s) (H : ParAt q TL E w s) :
  Calls Tryz.prog 59 #[pP q] w (AggTo q TL E w (defS F s).1.enc (defS F s).2) := by
 have hF2 : F ≤ 20000 := by omega
 have G := good_ok F (F + 1)
 have t1 := (nice_oneOf defWords).tr s H.wf
 have t2 := nice_name.tr _ t1.wf
 have s2 : Ok F (F + 1) (nameS (oneOfS defWords s).2).2 := G.tr _ _ (G.tr _ _ hs t1) t2
 have w2 := t2.wf
 have hr := oneOf_range defWords s
 have h3 : (defWords.length : Int) = 3 := rfl
 have hcase : (oneOfS defWords s).1 = 0 ∨ (oneOfS defWords s).1 = 1 ∨ (oneOfS defWords s).1 = 2 ∨ (oneOfS defWords s).1 = 3 := by omega
 rcases hcase with hk | hk | hk | hk
 ·have e : defS F s = defK F (oneOfS defWords s).1 (nameS (oneOfS defWords s).2).1 (nameS (oneOfS defWords s).2).2 := rfl
  rw [e, hk, defK0]
  exact defNone s w H hk
 ·have e : defS F s = defK F (oneOfS defWords s).1 (nameS (oneOfS defWords s).2).1 (nameS (oneOfS defWords s).2).2 := rfl
  rw [e, hk, defK1]
  obtain ⟨X, hX⟩ : ∃ X, X = enclosedS (listS F colS) (nameS (oneOfS defWords s).2).2 := ⟨_, rfl⟩
  rw [← hX]
  refine defSource X s w H hk fun w1 h1 => ?_
  rw [hX]
  refine enclosedSch_any (M := listS F colS) (fun l => .row 2 (l.map dCol)) _ w1 h1 fun w3 h3 => ?_
  refine columnsW _ _ _ w3 h3 fun w4 h4 => ?_
  exact listCol_any dCol G nice_col hF2 (fun _ => rfl) (fun s5 w5 _ h => columnP_any s5 w5 h) _ w4 (G.tr _ _ s2 (tr_expect [40] w2)) h4
 ·have t3 := nice_scheme.tr _ w2
  have t4 := tr_expect [102, 114, 111, 109] t3.wf
  have s4 := G.tr _ _ (G.tr _ _ s2 t3) t4
  have t5 := (nice_list F nice_input).tr _ t4.wf
  have t6 := tr_expect [100, 111] t5.wf
  have s6 := G.tr _ _ (G.tr _ _ s4 t5) t6
  have e : defS F s = defK F (oneOfS defWords s).1 (nameS (oneOfS defWords s).2).1 (nameS (oneOfS defWords s).2).2 := rfl
  rw [e, hk, defK2]
  obtain ⟨X, hX⟩ : ∃ X, X = listS F inputS (expectS [102, 114, 111, 109] (schemeS (nameS (oneOfS defWords s).2).2).2) := ⟨_, rfl⟩
  rw [← hX]
  obtain ⟨Y, hY⟩ : ∃ Y, Y = queryS F (expectS [100, 111] X.2) := ⟨_, rfl⟩
  rw [← hY]
  refine defAsset X Y s w H hk (fun w1 h1 => ?_) (fun w1 h1 => ?_)
  ·rw [hX]
   exact listInp_any dInp G nice_input hF2 (fun _ => rfl) (fun s5 w5 _ h => input_any s5 w5 h hT) _ w1 s4 h1
  ·subst hY
   subst hX
   exact query_ok hF hT (F + 1) _ w1 s6 h1
 ·have t3 := nice_literal.tr _ w2
  have t4 := tr_expect [109, 97, 107, 101, 115] t3.wf
  have s4 := G.tr _ _ (G.tr _ _ s2 t3) t4
  have e : defS F s = defK F (oneOfS defWords s).1 (nameS (oneOfS defWords s).2).1 (nameS (oneOfS defWords s).2).2 := rfl
  rw [e, hk, defK3]
  obtain ⟨X, hX⟩ : ∃ X, X = listS F nameS (expectS [109, 97, 107, 101, 115] (literalS (nameS (oneOfS defWords s).2).2).2) := ⟨_, rfl⟩
  rw [← hX]
  refine defSchedule X s w H hk fun w1 h1 => ?_
  rw [hX]
  exact listStr_any G nice_name hF2 (fun s5 w5 _ h => nameO_any s5 w5 h) _ w1 s4 h1
end Go.Proofs.YtljoajjlkjjgeaaGreatDoor
namespace Go.Proofs.YtljoajjlkjjgeaaGreatDoor
open Go.RowKit Go.Sort LM Go


theorem infoDef : (Tryz.prog.info? 43).map (fun i => (i.zero, i.size, i.bytes)) = some (some (.agg #[.int .i64 0, .string ⟨#[]⟩, .slice none 0 0, .int .i64 0, .int .i64 0, .int .i64 0, .slice none 0 0, .int .i64 0, .string ⟨#[]⟩, .slice none 0 0, .int .i64 0, .string ⟨#[]⟩, .int .i64 0, .int .i64 0, .string ⟨#[]⟩, .string ⟨#[]⟩, .slice none 0 0, .slice none 0 0, .slice none 0 0, .slice none 0 0, .slice none 0 0, .slice none 0 0, .int .i64 0, .string ⟨#[]⟩, .slice none 0 0]), 25, 408) := by kernel_rfl
theorem textG_end {F n : Nat} {l : List Df} {s : PSt} (h : s.L = []) : textG F (n + 1) l s = (l, s) := by rw [textG, if_pos h]
theorem textG_step {F n : Nat} {l : List Df} {s : PSt} (h : s.L ≠ []) : textG F (n + 1) l s = textG F n (l ++ [(defS F s).1]) (expectS [59] (defS F s).2) := by rw [textG, if_neg h]
theorem expect_short {s : PSt} (x : List UInt8) (h : Wf s) (hl : s.L ≠ []) : (expectS x s).L.length < s.L.length := by
 have h0 : 0 < s.L.length := List.length_pos_iff.2 hl
 cases hc : isT (aheadS 0 s) x
 ·unfold expectS
  simp only [hc, Bool.false_eq_true, if_false]
  have hbn : s.b = none := Classical.byContradiction fun k => hl (h k)
  rw [show (failS 51 s).L = [] by unfold failS; rw [hbn]]
  exact h0
 ·exact expect_lt h hc
set_option maxHeartbeats 8000000 in
set_option maxRecDepth 100000 in
theorem textP_any {q : Nat} {TL : List Tk} {E F : Nat} (hF : F ≤ 19000) (hT : TokOk TL) (s : PSt) (w : World) (hs : Ok F (F + 1) s) (H : ParAt q TL E w s) :
  Calls Tryz.prog 42 #[pP q] w (OneTo q TL E w (.row 25 ((textS F s).1.map Df.enc)) (textS F s).2) := by
 obtain ⟨i0, hi, hz0, hz1, hz2⟩ := info_parts infoDef
 have HD := hide (fun s1 w1 (ok : Ok F (F + 1) s1) (h : ParAt q TL E w1 s1) => def_ok hF hT s1 w1 ok h)
 have HE := hide (fun s1 w1 (h : ParAt q TL E w1 s1) => expect_any [59] w1 h)
 have HG := hide (good_ok F (F + 1))
 have HNd := hide (nice_def F)
 have HR := hide (show textS F s = textG F (F + 1) [] s from rfl)
 have HG1 := hide hs
 have hl1 := hs.len
 have HP1 := hide H
 have cq := H.lt
 generalize textS F s = RES at *
 have hqq : q < w.heap.size := cq
 clear hs H hT
 unfold OneTo
 unfold AggTo at HD
 unfold StepTo at HE
 go_enter Tryz.func42, Tryz.ntmps42
 go_wp2_with fail
 go_loopw [3] (fun v wr => ∃ (n : Nat) (els : List Df) (s1 : PSt) (cs : List Value), wr.ownsRow w.heap.size 43 25 v els.length cs ∧ Hid (RepL (Off1 w.heap.size wr v) wr 25 (els.map Df.enc) cs) ∧ Hid (RES = textG F n els s1) ∧ s1.L.length < n ∧ n + els.length ≤ F + 1 ∧ Hid (ParAt q TL E wr s1) ∧ Hid (Ok F (F + 1) s1) ∧ Hid (Turn q w wr)) (fun _ wr => measL wr q)
 case atStart => exact ⟨F + 1, [], s, [], World.ownsRow_nil _ _ _ _, hide (RepL.nil _ _ _), HR, by omega, by simp, HP1, HG1, hide (Turn.refl q w)⟩
 case round =>
  obtain ⟨n, els, s1, cs, hrow, HV, HRn, hln, hne, HP, HGs, HTr⟩ := hrel
  clear HP1 HG1 HR
  obtain ⟨n, rfl⟩ : ∃ m, n = m + 1 := ⟨n - 1, by omega⟩
  have hmeas := hide (meas_eq HP.out)
  obtain ⟨A, cap, K, hK, -, -, -, -, hbx⟩ := HP.out.ex
  obtain ⟨c0, c1, c2, c3, c4, cf, cq2⟩ := blk_cell hbx
  have hKl : K.length = s1.L.length := by rw [← hK]; simp
  by_cases hb : s1.L = []
  ·have HEnd := hide (HRn.out.trans (textG_end hb))
   rw [hKl, hb] at c0
   simp only [List.length_nil] at c0
   clear HRn HD HE hK hbx c1 c2 c3 c4
   have HO := hide hrow
   clear hrow
   go_wp2_with fail
   go_ret
   rw [HEnd.out]
   refine ⟨_, rfl, ?_, HP.out, HTr.out⟩
   have ho := HO.out
   rw [show els.length = (els.map Df.enc).length by simp] at ho
   exact rep_of_row ho (fun g hg => (ho.lt g hg).1) (HV.out.stay (Stay.at (fun _ k => k.1) _))
  ·have HStep := hide (HRn.out.trans (textG_step hb))
   have hpos : 0 < K.length := by rw [hKl]; exact List.length_pos_iff.2 hb
   have hposI : (0 : Int) < (K.length : Nat) := by omega
   have hD := hide (HD.out s1 wr HGs.out HP.out)
   have HTd := hide (HNd.out.tr s1 HP.out.wf)
   have HG2 := hide (HG.out.tr _ _ HGs.out HTd.out)
   have hTe := tr_expect [59] HTd.out.wf
   have HG3 := hide (HG.out.tr _ _ HG2.out hTe)
   have hlt : (expectS [59] (defS F s1).2).L.length < s1.L.length := by
    by_cases he : (defS F s1).2.L = []
    ·have h1 := hTe.len
     rw [he] at h1
     have := List.length_pos_iff.2 hb
     simp at h1
     rw [h1]
     simpa using this
    ·exact Nat.lt_of_lt_of_le (expect_short [59] HTd.out.wf he) HTd.out.len
   have HE2 := hide (HE.out (defS F s1).2)
   have hencl := enc_len (defS F s1).1.pl
   have hdl : (defS F s1).1.enc.length = 25 := def_len _
   generalize defS F s1 = D at *
   clear HRn HD HE hK hbx c1 c2 c3 c4 hTe HTd hencl
   generalize K.length = kn at *
   have HO := hide hrow
   clear hrow
   go_wp2_with fail
   refine hD.out.mono ?_
   rintro e w3 ⟨vs3, rfl, hv, h3, ht3⟩
   have HV3V := hide hv
   have H3 := hide h3
   have HT3 := hide (HTr.out.trans ht3)
   have r3 := own_turn HO.out ht3 cq
   have HV3 := hide (HV.out.stay (Off1.turn ht3 cq))
   have hs3 := ht3.size
   have hlen3 : vs3.length = 25 := HV3V.out.1.trans hdl
   have h1c := HV3V.out.one_cell
   have HBd := hide (fun g (hg : u3.ownBlock = some g) => (HO.out.lt g hg).2)
   have hszr : w.heap.size ≤ wr.heap.size := HTr.out.size
   clear h3 ht3 hv hD HTr HO HV
   have hsz2 : w.heap.size ≤ w3.heap.size := HT3.out.size
   go_wp2_with (first | (refine wpList_buildOne rfl 80 43 _ rfl 25 vs3 rfl hlen3 (by decide) (by decide) Tryz.underlying80 i0 (.agg #[.int .i64 0, .string ⟨#[]⟩, .slice none 0 0, .int .i64 0, .int .i64 0, .int .i64 0, .slice none 0 0, .int .i64 0, .string ⟨#[]⟩, .slice none 0 0, .int .i64 0, .string ⟨#[]⟩, .int .i64 0, .int .i64 0, .string ⟨#[]⟩, .string ⟨#[]⟩, .slice none 0 0, .slice none 0 0, .slice none 0 0, .slice none 0 0, .slice none 0 0, .slice none 0 0, .int .i64 0, .string ⟨#[]⟩, .slice none 0 0]) hi hz0 hz1 ?_) | (at_builtin; go_must (refine wpList_append_own_at _ rfl _ _ 80 rfl w.heap.size 43 i0 (.agg #[.int .i64 0, .string ⟨#[]⟩, .slice none 0 0, .int .i64 0, .int .i64 0, .int .i64 0, .slice none 0 0, .int .i64 0, .string ⟨#[]⟩, .slice none 0 0, .int .i64 0, .string ⟨#[]⟩, .int .i64 0, .int .i64 0, .string ⟨#[]⟩, .string ⟨#[]⟩, .slice none 0 0, .slice none 0 0, .slice none 0 0, .slice none 0 0, .slice none 0 0, .slice none 0 0, .int .i64 0, .string ⟨#[]⟩, .slice none 0 0]) 25 408 Tryz.underlying80 hi hz0 hz1 hz2 rfl (by decide) _ _ _ rfl (r3.alloc _) ⟨w3.heap.size, 0, none⟩ 1 1 vs3 rfl (by rw [hlen3]) (new_cells _ _ _ _ rfl) h1c (by unfold maxLen; omega) (by omega) (by simp; omega) ?_)))
   intro v4 w4 hown4 hgrow4 _ hat4
   have HT4 := hide (Turn.grown (HT3.out.alloc (.cells vs3.toArray 43)) hgrow4 (fun g hg => (r3.lt g hg).1))
   have H4 := hide ((H3.out.alloc (.cells vs3.toArray 43)).grown hgrow4 (fun g hg => by have := (r3.lt g hg).1; omega))
   have hst := Stay.trans (Off1.alloc (base := w.heap.size) (v := u3) (.cells vs3.toArray 43)) (Off1.grow hgrow4 (v' := v4) (by simpa using hat4))
   have HV4 := hide ((HV3.out.stay hst).snoc (e := D.1.enc) (vs := vs3) hdl (HV3V.out.stay ((Off1.news (v := u3) (by omega) HBd.out).trans hst)))
   have HO4 := hide hown4
   clear hgrow4 hat4 hown4 hst HV3 HT3 H3 r3 hlen3 h1c HBd
   go_wp2_with fail
   refine (HE2.out w4 H4.out).mono ?_
   rintro e w5 ⟨rfl, h5, ht5⟩
   have H5 := hide h5
   have HT5 := hide (HT4.out.trans ht5)
   have HO5 := hide (own_turn HO4.out ht5 cq)
   have HV5 := hide (HV4.out.stay (Off1.turn ht5 cq))
   have hm5 := hide (meas_eq H5.out)
   clear h5 ht5 HO4 HV4 H4 HT4 HE2
   go_wp2_with fail
   go_roundw
   case rel =>
    refine ⟨n, els ++ [D.1], _, cs ++ vs3, ?_, ?_, HStep, by omega, by simp; omega, H5, HG3, HT5⟩
    ·rw [List.length_append]; exact HO5.out
    ·rw [List.map_append, List.map_singleton]; exact HV5
   case measure =>
    rw [hm5.out, hmeas.out]; exact hlt
end Go.Proofs.YtljoajjlkjjgeaaGreatDoor
