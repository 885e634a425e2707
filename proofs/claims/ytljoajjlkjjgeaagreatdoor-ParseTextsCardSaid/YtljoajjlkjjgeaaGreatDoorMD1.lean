/-
  definition: words.
  definition: none, source, schedule.
-/
import Derived.Test.YtljoajjlkjjgeaaGreatDoorNQuery
namespace Go.Proofs.YtljoajjlkjjgeaaGreatDoor
open Go.RowKit Go.Sort LM Go

attribute [local go_sem] fld_tok0 fld_tok1 fld_tok2
section
variable {ops : Array Oper} {rest : List Oper} {o : Oper} {a : Act} {w : World} {Q : Exit → Act → World → Prop}
/-- A struct stored into a part of a box. -/
theorem wpList_storePart (hgd : o.guard = none) (ty : TypeId) (x y : Operand) (ho : o.op = .store ty x y) (r off n : Nat) (t : TypeId) (old vs : List Value) (hB : Big ty n) (hn : vs.length = n) (hl : off + n ≤ old.length) (h1 : ∀ u ∈ vs, u.oneCell' = true) (hx : a.eval x = .pointer (some ⟨r, off, none⟩)) (hy : a.eval y = .agg vs.toArray)
  (hp : HoldB r t old w) (h : wpList Tryz.prog ops Q rest (a.put o.dst undef) (w.setRow r (old.take off ++ vs ++ old.drop (off + n)).toArray)) : wpList Tryz.prog ops Q (o :: rest) a w :=
 wpList_plain hgd fun _ hK => by
  have hs := run_storeCells_at (P := Tryz.prog) r off t vs 0 old.toArray w hp (by simp; omega) h1
  have hq := hB.size
  have hv : (storeVar ty ⟨r, off, none⟩ (.agg vs.toArray)).run Tryz.prog w = .ok () (w.setRow r (old.take off ++ vs ++ old.drop (off + n)).toArray) := by
   cases hi : Tryz.prog.info? ty with
   | none => rw [hi] at hq; cases hq
   | some i =>
    rw [hi] at hq
    have hs2 : i.size = vs.length := by rw [hn]; simpa using hq
    simp only [Nat.add_zero, hn] at hs
    simp [storeVar, sizeOf, typeInfo, hi, Value.cells, hs2, hs]
  unfold Oper.wp execOp
  simp only [ho, hx, hy, Instr.storeAt, Instr.sureAddr, Sem.run_bind, Sem.run_pure, Result.andThen_ok, hv]
  exact hK _ _ h
end
theorem rep_def {P : Nat → Prop} {w : World} {d : Df} {vs vi vm : Value} {ps : List Value} (h1 : Rep P w (.row 2 (d.sch.map dCol)) vs) (h2 : Rep P w (.row 4 (d.ins.map dInp)) vi) (h3 : RepC P w d.pl.enc ps) (h4 : Rep P w (dStrs d.makes) vm) :
  RepC P w d.enc ([.int .i64 d.k, .string d.nm, vs, .int .i64 d.sc.1, .int .i64 d.sc.2.1, .int .i64 d.sc.2.2, vi] ++ ps ++ [.string d.cron, vm]) := by
 unfold Df.enc
 exact ((RepC.cons (rep_int _ _ _) (RepC.cons (rep_str _ _ _) (RepC.cons h1 (RepC.cons (rep_int _ _ _) (RepC.cons (rep_int _ _ _) (RepC.cons (rep_int _ _ _) (RepC.cons h2 (RepC.nil _ _)))))))).append h3).append (RepC.cons (rep_str _ _ _) (RepC.cons h4 (RepC.nil _ _)))
theorem rep_zeroP (P : Nat → Prop) (w : World) : RepC P w ({k := 0} : Pl).enc [.int .i64 0, .string ⟨#[]⟩, .slice none 0 0, .int .i64 0, .string ⟨#[]⟩, .int .i64 0, .int .i64 0, .string ⟨#[]⟩, .string ⟨#[]⟩, .slice none 0 0, .slice none 0 0, .slice none 0 0, .slice none 0 0, .slice none 0 0, .slice none 0 0, .int .i64 0] :=
 rep_plan (p := {k := 0}) (rep_nil _ _ _) (rep_zeroE _ _) (rep_nil _ _ _) (rep_nil _ _ _) (rep_nil _ _ _) (rep_nil _ _ _) (rep_nil _ _ _)
theorem def_len (d : Df) : d.enc.length = 25 := by
 unfold Df.enc
 simp [enc_len]
/-- What lies above the box stays when the box is written, and the result's box. -/
theorem RepC.above {tb : Nat} {w w' : World} {ds : List Dt} {vs : List Value} (h : RepC (New (tb + 1)) w ds vs) (hs : w.heap.size ≤ w'.heap.size) (hk : ∀ b, b ≠ tb → w'.heap[b]? = w.heap[b]?) : RepC (New (tb + 1)) w' ds vs := h.stay ⟨fun _ _ k => k, hs, fun b k _ => hk b (by have : tb + 1 ≤ b := k; omega)⟩
theorem Rep.above {tb : Nat} {w w' : World} {d : Dt} {v : Value} (h : Rep (New (tb + 1)) w d v) (hs : w.heap.size ≤ w'.heap.size) (hk : ∀ b, b ≠ tb → w'.heap[b]? = w.heap[b]?) : Rep (New (tb + 1)) w' d v := h.stay ⟨fun _ _ k => k, hs, fun b k _ => hk b (by have : tb + 1 ≤ b := k; omega)⟩
end Go.Proofs.YtljoajjlkjjgeaaGreatDoor
namespace Go.Proofs.YtljoajjlkjjgeaaGreatDoor
open Go.RowKit Go.Sort LM Go

attribute [local go_sem] fld_tok0 fld_tok1 fld_tok2
set_option maxHeartbeats 8000000 in
set_option maxRecDepth 100000 in
theorem defNone {q : Nat} {TL : List Tk} {E : Nat} (s : PSt) (w : World) (H : ParAt q TL E w s) (hk : (oneOfS defWords s).1 = 0) :
  Calls Tryz.prog 59 #[pP q] w (AggTo q TL E w ({k := 0, nm := (nameS (oneOfS defWords s).2).1} : Df).enc (nameS (oneOfS defWords s).2).2) := by
 have HOf := hide (fun A w1 (h : ParAt q TL E w1 s) (hA : StrW q w1 A defWords) => oneOf_any A 3 defWords w1 h hA (by decide))
 unfold StepTo at HOf
 rw [hk] at HOf
 have HNm := hide (fun w1 (h : ParAt q TL E w1 (oneOfS defWords s).2) => name_any w1 h)
 unfold StepTo at HNm
 have cq := H.lt
 have hqq : q < w.heap.size + 1 := by omega
 obtain ⟨W0, hW0⟩ : ∃ W0, W0 = w.alloc (.cells #[.int .i64 0, .string ⟨#[]⟩, .slice none 0 0, .int .i64 0, .int .i64 0, .int .i64 0, .slice none 0 0, .int .i64 0, .string ⟨#[]⟩, .slice none 0 0, .int .i64 0, .string ⟨#[]⟩, .int .i64 0, .int .i64 0, .string ⟨#[]⟩, .string ⟨#[]⟩, .slice none 0 0, .slice none 0 0, .slice none 0 0, .slice none 0 0, .slice none 0 0, .slice none 0 0, .int .i64 0, .string ⟨#[]⟩, .slice none 0 0] 43) := ⟨_, rfl⟩
 have H0 := hide (show ParAt q TL E W0 s by rw [hW0]; exact H.alloc _)
 have HT0 := hide (show Turn q w W0 by rw [hW0]; exact (Turn.refl _ _).alloc _)
 have HB0 := hide (show BoxAt w.heap.size 43 25 W0 by rw [hW0]; exact box_new _ _ _ rfl)
 have hz0 : w.heap.size + 1 ≤ W0.heap.size := by rw [hW0]; simp
 have HW0 := hide hW0
 clear hW0
 unfold AggTo
 clear hk
 obtain ⟨w1, hw1⟩ : ∃ W, W = W0.alloc (.cells #[.string ⟨#[115, 111, 117, 114, 99, 101]⟩, .string ⟨#[97, 115, 115, 101, 116]⟩, .string ⟨#[115, 99, 104, 101, 100, 117, 108, 101]⟩] 9) := ⟨_, rfl⟩
 have HW1 := hide hw1
 have H1 := hide (show ParAt q TL E w1 _ by rw [hw1]; exact H0.out.alloc _)
 have HT1 := hide (show Turn q w w1 by rw [hw1]; exact HT0.out.alloc _)
 have hz1 : w.heap.size + 1 ≤ w1.heap.size := by rw [hw1]; simp; omega
 have HB1 := hide (show BoxAt w.heap.size 43 25 w1 by rw [hw1]; exact HB0.out.turn ((Turn.refl q _).alloc _) cq)
 have hz0e : w.heap.size + 1 = W0.heap.size := by rw [HW0.out]; simp
 have HS1 := hide (show StrW q w1 (some ⟨w.heap.size + 1, 0, none⟩) defWords by rw [hw1, hz0e]; exact strW_new W0 q defWords _ (by omega))
 clear hw1 H0 HT0 HB0 hz0e
 clear H
 go_enter Tryz.func59, Tryz.ntmps59
 go_wp2_with fail
 rw [← HW0.out, ← HW1.out]
 clear HW1
 refine (HOf.out _ w1 H1.out HS1.out).mono ?_
 rintro e w2 ⟨rfl, h, ht⟩
 have H2 := hide h
 have HT2 := hide (HT1.out.trans ht)
 have HB2 := hide (HB1.out.turn ht cq)
 have hz2 : w.heap.size + 1 ≤ w2.heap.size := Nat.le_trans hz1 ht.size
 clear h ht H1 HT1 HB1 HS1 HOf
 go_wp2_with fail
 refine (HNm.out w2 H2.out).mono ?_
 rintro e w3 ⟨rfl, h, ht⟩
 have H3 := hide h
 have HT3 := hide (HT2.out.trans ht)
 have HB3 := hide (HB2.out.turn ht cq)
 have hz3 : w.heap.size + 1 ≤ w3.heap.size := Nat.le_trans hz2 ht.size
 clear h ht H2 HT2 HB2 HNm
 obtain ⟨w4, hw4⟩ : ∃ W, W = w3.alloc (.cells #[.int .i64 0, .string (nameS (oneOfS defWords s).2).1, .slice none 0 0, .int .i64 0, .int .i64 0, .int .i64 0, .slice none 0 0, .int .i64 0, .string ⟨#[]⟩, .slice none 0 0, .int .i64 0, .string ⟨#[]⟩, .int .i64 0, .int .i64 0, .string ⟨#[]⟩, .string ⟨#[]⟩, .slice none 0 0, .slice none 0 0, .slice none 0 0, .slice none 0 0, .slice none 0 0, .slice none 0 0, .int .i64 0, .string ⟨#[]⟩, .slice none 0 0] 43) := ⟨_, rfl⟩
 have HW4 := hide (show w4 = (w3.alloc (.cells #[.int .i64 0, .string ⟨#[]⟩, .slice none 0 0, .int .i64 0, .int .i64 0, .int .i64 0, .slice none 0 0, .int .i64 0, .string ⟨#[]⟩, .slice none 0 0, .int .i64 0, .string ⟨#[]⟩, .int .i64 0, .int .i64 0, .string ⟨#[]⟩, .string ⟨#[]⟩, .slice none 0 0, .slice none 0 0, .slice none 0 0, .slice none 0 0, .slice none 0 0, .slice none 0 0, .int .i64 0, .string ⟨#[]⟩, .slice none 0 0] 43)).setRow w3.heap.size #[.int .i64 0, .string (nameS (oneOfS defWords s).2).1, .slice none 0 0, .int .i64 0, .int .i64 0, .int .i64 0, .slice none 0 0, .int .i64 0, .string ⟨#[]⟩, .slice none 0 0, .int .i64 0, .string ⟨#[]⟩, .int .i64 0, .int .i64 0, .string ⟨#[]⟩, .string ⟨#[]⟩, .slice none 0 0, .slice none 0 0, .slice none 0 0, .slice none 0 0, .slice none 0 0, .slice none 0 0, .int .i64 0, .string ⟨#[]⟩, .slice none 0 0] by rw [hw4, World.setRow_alloc_new])
 have H4 := hide (show ParAt q TL E w4 _ by rw [hw4]; exact H3.out.alloc _)
 have HT4 := hide (show Turn q w w4 by rw [hw4]; exact HT3.out.alloc _)
 obtain ⟨tb, htb⟩ : ∃ tb, tb = w3.heap.size := ⟨_, rfl⟩
 have HTB := hide htb
 have HX := hide (show HoldB tb 43 [.int .i64 0, .string (nameS (oneOfS defWords s).2).1, .slice none 0 0, .int .i64 0, .int .i64 0, .int .i64 0, .slice none 0 0, .int .i64 0, .string ⟨#[]⟩, .slice none 0 0, .int .i64 0, .string ⟨#[]⟩, .int .i64 0, .int .i64 0, .string ⟨#[]⟩, .string ⟨#[]⟩, .slice none 0 0, .slice none 0 0, .slice none 0 0, .slice none 0 0, .slice none 0 0, .slice none 0 0, .int .i64 0, .string ⟨#[]⟩, .slice none 0 0] w4 by rw [hw4, htb]; exact heap_alloc_new _ _)
 have hz4 : tb + 1 ≤ w4.heap.size := by rw [hw4, htb]; simp
 have hqt : q < tb := by omega
 have hqq2 : q < tb + 1 := by omega
 have hrt : w.heap.size < tb := by omega
 have HB4 := hide (show BoxAt w.heap.size 43 25 w4 by rw [hw4]; exact HB3.out.turn ((Turn.refl q _).alloc _) cq)
 clear hw4 htb H3 HT3 HB3
 have x0 := Lib.cell_of_heap HX.out 0
 have x1 := Lib.cell_of_heap HX.out 1
 have x2 := Lib.cell_of_heap HX.out 2
 have x3 := Lib.cell_of_heap HX.out 3
 have x4 := Lib.cell_of_heap HX.out 4
 have x5 := Lib.cell_of_heap HX.out 5
 have x6 := Lib.cell_of_heap HX.out 6
 have x7 := Lib.cell_of_heap HX.out 7
 have x8 := Lib.cell_of_heap HX.out 8
 have x9 := Lib.cell_of_heap HX.out 9
 have x10 := Lib.cell_of_heap HX.out 10
 have x11 := Lib.cell_of_heap HX.out 11
 have x12 := Lib.cell_of_heap HX.out 12
 have x13 := Lib.cell_of_heap HX.out 13
 have x14 := Lib.cell_of_heap HX.out 14
 have x15 := Lib.cell_of_heap HX.out 15
 have x16 := Lib.cell_of_heap HX.out 16
 have x17 := Lib.cell_of_heap HX.out 17
 have x18 := Lib.cell_of_heap HX.out 18
 have x19 := Lib.cell_of_heap HX.out 19
 have x20 := Lib.cell_of_heap HX.out 20
 have x21 := Lib.cell_of_heap HX.out 21
 have x22 := Lib.cell_of_heap HX.out 22
 have x23 := Lib.cell_of_heap HX.out 23
 have x24 := Lib.cell_of_heap HX.out 24
 have xf := Lib.frozen_of_heap HX.out
 have xs := holds_size HX.out
 simp only [List.getElem?_toArray, List.getElem?_cons_zero, List.getElem?_cons_succ] at x0 x1 x2 x3 x4 x5 x6 x7 x8 x9 x10 x11 x12 x13 x14 x15 x16 x17 x18 x19 x20 x21 x22 x23 x24
 go_wp2_with (first | (refine wpList_storeBig rfl 43 _ _ rfl w3.heap.size 25 [.int .i64 0, .string (nameS (oneOfS defWords s).2).1, .slice none 0 0, .int .i64 0, .int .i64 0, .int .i64 0, .slice none 0 0, .int .i64 0, .string ⟨#[]⟩, .slice none 0 0, .int .i64 0, .string ⟨#[]⟩, .int .i64 0, .int .i64 0, .string ⟨#[]⟩, .string ⟨#[]⟩, .slice none 0 0, .slice none 0 0, .slice none 0 0, .slice none 0 0, .slice none 0 0, .slice none 0 0, .int .i64 0, .string ⟨#[]⟩, .slice none 0 0] big_def rfl (by simp [Value.oneCell']) rfl rfl (box_new _ _ _ rfl) ?_; rw [← HW4.out, ← HTB.out]) | (refine wpList_loadBig rfl 43 _ rfl tb 25 ([.int .i64 0, .string (nameS (oneOfS defWords s).2).1, .slice none 0 0, .int .i64 0, .int .i64 0, .int .i64 0, .slice none 0 0, .int .i64 0, .string ⟨#[]⟩, .slice none 0 0, .int .i64 0, .string ⟨#[]⟩, .int .i64 0, .int .i64 0, .string ⟨#[]⟩, .string ⟨#[]⟩, .slice none 0 0, .slice none 0 0, .slice none 0 0, .slice none 0 0, .slice none 0 0, .slice none 0 0, .int .i64 0, .string ⟨#[]⟩, .slice none 0 0]) big_def rfl rfl HX.out ?_) | (refine wpList_storeBig rfl 43 _ _ rfl w.heap.size 25 ([.int .i64 0, .string (nameS (oneOfS defWords s).2).1, .slice none 0 0, .int .i64 0, .int .i64 0, .int .i64 0, .slice none 0 0, .int .i64 0, .string ⟨#[]⟩, .slice none 0 0, .int .i64 0, .string ⟨#[]⟩, .int .i64 0, .int .i64 0, .string ⟨#[]⟩, .string ⟨#[]⟩, .slice none 0 0, .slice none 0 0, .slice none 0 0, .slice none 0 0, .slice none 0 0, .slice none 0 0, .int .i64 0, .string ⟨#[]⟩, .slice none 0 0]) big_def rfl (by simp [Value.oneCell']) rfl rfl HB4.out ?_))
 clear xf xs x0 x1 x2 x3 x4 x5 x6 x7 x8 x9 x10 x11 x12 x13 x14 x15 x16 x17 x18 x19 x20 x21 x22 x23 x24
 clear HW4
 refine bodyPost_ret (v := .agg #[.int .i64 0, .string (nameS (oneOfS defWords s).2).1, .slice none 0 0, .int .i64 0, .int .i64 0, .int .i64 0, .slice none 0 0, .int .i64 0, .string ⟨#[]⟩, .slice none 0 0, .int .i64 0, .string ⟨#[]⟩, .int .i64 0, .int .i64 0, .string ⟨#[]⟩, .string ⟨#[]⟩, .slice none 0 0, .slice none 0 0, .slice none 0 0, .slice none 0 0, .slice none 0 0, .slice none 0 0, .int .i64 0, .string ⟨#[]⟩, .slice none 0 0]) (results_big (vs := [.int .i64 0, .string (nameS (oneOfS defWords s).2).1, .slice none 0 0, .int .i64 0, .int .i64 0, .int .i64 0, .slice none 0 0, .int .i64 0, .string ⟨#[]⟩, .slice none 0 0, .int .i64 0, .string ⟨#[]⟩, .int .i64 0, .int .i64 0, .string ⟨#[]⟩, .string ⟨#[]⟩, .slice none 0 0, .slice none 0 0, .slice none 0 0, .slice none 0 0, .slice none 0 0, .slice none 0 0, .int .i64 0, .string ⟨#[]⟩, .slice none 0 0]) rfl rfl big_def rfl (set_row _ HB4.out.choose_spec.1)) rfl ?_
 exact ⟨[.int .i64 0, .string (nameS (oneOfS defWords s).2).1, .slice none 0 0, .int .i64 0, .int .i64 0, .int .i64 0, .slice none 0 0, .int .i64 0, .string ⟨#[]⟩, .slice none 0 0, .int .i64 0, .string ⟨#[]⟩, .int .i64 0, .int .i64 0, .string ⟨#[]⟩, .string ⟨#[]⟩, .slice none 0 0, .slice none 0 0, .slice none 0 0, .slice none 0 0, .slice none 0 0, .slice none 0 0, .int .i64 0, .string ⟨#[]⟩, .slice none 0 0], rfl, RepC.ret (lo := tb + 1) (rep_def (d := {k := 0, nm := (nameS (oneOfS defWords s).2).1}) (rep_nil _ _ _) (rep_nil _ _ _) (rep_zeroP _ _) (rep_nil _ _ _)) (by omega) (by omega) _, H4.out.row cq _, HT4.out.row (Nat.le_refl _) _⟩
set_option maxHeartbeats 8000000 in
set_option maxRecDepth 100000 in
theorem defSchedule {q : Nat} {TL : List Tk} {E : Nat} (X : List ByteArray × PSt) (s : PSt) (w : World) (H : ParAt q TL E w s) (hk : (oneOfS defWords s).1 = 3)
  (HM : ∀ w1, ParAt q TL E w1 (expectS [109, 97, 107, 101, 115] (literalS (nameS (oneOfS defWords s).2).2).2) → Calls Tryz.prog 90 #[pP q, .func (.func 70) #[pP q] #[]] w1 (OneTo q TL E w1 (dStrs X.1) X.2)) :
  Calls Tryz.prog 59 #[pP q] w (AggTo q TL E w ({k := 3, nm := (nameS (oneOfS defWords s).2).1, cron := (literalS (nameS (oneOfS defWords s).2).2).1, makes := X.1} : Df).enc X.2) := by
 have HOf := hide (fun A w1 (h : ParAt q TL E w1 s) (hA : StrW q w1 A defWords) => oneOf_any A 3 defWords w1 h hA (by decide))
 unfold StepTo at HOf
 rw [hk] at HOf
 have HNm := hide (fun w1 (h : ParAt q TL E w1 (oneOfS defWords s).2) => name_any w1 h)
 unfold StepTo at HNm
 have HLi := hide (fun w1 (h : ParAt q TL E w1 (nameS (oneOfS defWords s).2).2) => literal_any w1 h)
 unfold StepTo at HLi
 have HEx := hide (fun w1 (h : ParAt q TL E w1 (literalS (nameS (oneOfS defWords s).2).2).2) => expect_any [109, 97, 107, 101, 115] w1 h)
 unfold StepTo at HEx
 unfold OneTo at HM
 replace HM := hide HM
 have cq := H.lt
 have hqq : q < w.heap.size + 1 := by omega
 obtain ⟨W0, hW0⟩ : ∃ W0, W0 = w.alloc (.cells #[.int .i64 0, .string ⟨#[]⟩, .slice none 0 0, .int .i64 0, .int .i64 0, .int .i64 0, .slice none 0 0, .int .i64 0, .string ⟨#[]⟩, .slice none 0 0, .int .i64 0, .string ⟨#[]⟩, .int .i64 0, .int .i64 0, .string ⟨#[]⟩, .string ⟨#[]⟩, .slice none 0 0, .slice none 0 0, .slice none 0 0, .slice none 0 0, .slice none 0 0, .slice none 0 0, .int .i64 0, .string ⟨#[]⟩, .slice none 0 0] 43) := ⟨_, rfl⟩
 have H0 := hide (show ParAt q TL E W0 s by rw [hW0]; exact H.alloc _)
 have HT0 := hide (show Turn q w W0 by rw [hW0]; exact (Turn.refl _ _).alloc _)
 have HB0 := hide (show BoxAt w.heap.size 43 25 W0 by rw [hW0]; exact box_new _ _ _ rfl)
 have hz0 : w.heap.size + 1 ≤ W0.heap.size := by rw [hW0]; simp
 have HW0 := hide hW0
 clear hW0
 unfold AggTo
 clear hk
 obtain ⟨w1, hw1⟩ : ∃ W, W = W0.alloc (.cells #[.string ⟨#[115, 111, 117, 114, 99, 101]⟩, .string ⟨#[97, 115, 115, 101, 116]⟩, .string ⟨#[115, 99, 104, 101, 100, 117, 108, 101]⟩] 9) := ⟨_, rfl⟩
 have HW1 := hide hw1
 have H1 := hide (show ParAt q TL E w1 _ by rw [hw1]; exact H0.out.alloc _)
 have HT1 := hide (show Turn q w w1 by rw [hw1]; exact HT0.out.alloc _)
 have hz1 : w.heap.size + 1 ≤ w1.heap.size := by rw [hw1]; simp; omega
 have HB1 := hide (show BoxAt w.heap.size 43 25 w1 by rw [hw1]; exact HB0.out.turn ((Turn.refl q _).alloc _) cq)
 have hz0e : w.heap.size + 1 = W0.heap.size := by rw [HW0.out]; simp
 have HS1 := hide (show StrW q w1 (some ⟨w.heap.size + 1, 0, none⟩) defWords by rw [hw1, hz0e]; exact strW_new W0 q defWords _ (by omega))
 clear hw1 H0 HT0 HB0 hz0e
 clear H
 go_enter Tryz.func59, Tryz.ntmps59
 go_wp2_with fail
 rw [← HW0.out, ← HW1.out]
 clear HW1
 refine (HOf.out _ w1 H1.out HS1.out).mono ?_
 rintro e w2 ⟨rfl, h, ht⟩
 have H2 := hide h
 have HT2 := hide (HT1.out.trans ht)
 have HB2 := hide (HB1.out.turn ht cq)
 have hz2 : w.heap.size + 1 ≤ w2.heap.size := Nat.le_trans hz1 ht.size
 clear h ht H1 HT1 HB1 HS1 HOf
 go_wp2_with fail
 refine (HNm.out w2 H2.out).mono ?_
 rintro e w3 ⟨rfl, h, ht⟩
 have H3 := hide h
 have HT3 := hide (HT2.out.trans ht)
 have HB3 := hide (HB2.out.turn ht cq)
 have hz3 : w.heap.size + 1 ≤ w3.heap.size := Nat.le_trans hz2 ht.size
 clear h ht H2 HT2 HB2 HNm
 obtain ⟨w4, hw4⟩ : ∃ W, W = w3.alloc (.cells #[.int .i64 3, .string (nameS (oneOfS defWords s).2).1, .slice none 0 0, .int .i64 0, .int .i64 0, .int .i64 0, .slice none 0 0, .int .i64 0, .string ⟨#[]⟩, .slice none 0 0, .int .i64 0, .string ⟨#[]⟩, .int .i64 0, .int .i64 0, .string ⟨#[]⟩, .string ⟨#[]⟩, .slice none 0 0, .slice none 0 0, .slice none 0 0, .slice none 0 0, .slice none 0 0, .slice none 0 0, .int .i64 0, .string ⟨#[]⟩, .slice none 0 0] 43) := ⟨_, rfl⟩
 have HW4 := hide (show w4 = (w3.alloc (.cells #[.int .i64 0, .string ⟨#[]⟩, .slice none 0 0, .int .i64 0, .int .i64 0, .int .i64 0, .slice none 0 0, .int .i64 0, .string ⟨#[]⟩, .slice none 0 0, .int .i64 0, .string ⟨#[]⟩, .int .i64 0, .int .i64 0, .string ⟨#[]⟩, .string ⟨#[]⟩, .slice none 0 0, .slice none 0 0, .slice none 0 0, .slice none 0 0, .slice none 0 0, .slice none 0 0, .int .i64 0, .string ⟨#[]⟩, .slice none 0 0] 43)).setRow w3.heap.size #[.int .i64 3, .string (nameS (oneOfS defWords s).2).1, .slice none 0 0, .int .i64 0, .int .i64 0, .int .i64 0, .slice none 0 0, .int .i64 0, .string ⟨#[]⟩, .slice none 0 0, .int .i64 0, .string ⟨#[]⟩, .int .i64 0, .int .i64 0, .string ⟨#[]⟩, .string ⟨#[]⟩, .slice none 0 0, .slice none 0 0, .slice none 0 0, .slice none 0 0, .slice none 0 0, .slice none 0 0, .int .i64 0, .string ⟨#[]⟩, .slice none 0 0] by rw [hw4, World.setRow_alloc_new])
 have H4 := hide (show ParAt q TL E w4 _ by rw [hw4]; exact H3.out.alloc _)
 have HT4 := hide (show Turn q w w4 by rw [hw4]; exact HT3.out.alloc _)
 obtain ⟨tb, htb⟩ : ∃ tb, tb = w3.heap.size := ⟨_, rfl⟩
 have HTB := hide htb
 have HX := hide (show HoldB tb 43 [.int .i64 3, .string (nameS (oneOfS defWords s).2).1, .slice none 0 0, .int .i64 0, .int .i64 0, .int .i64 0, .slice none 0 0, .int .i64 0, .string ⟨#[]⟩, .slice none 0 0, .int .i64 0, .string ⟨#[]⟩, .int .i64 0, .int .i64 0, .string ⟨#[]⟩, .string ⟨#[]⟩, .slice none 0 0, .slice none 0 0, .slice none 0 0, .slice none 0 0, .slice none 0 0, .slice none 0 0, .int .i64 0, .string ⟨#[]⟩, .slice none 0 0] w4 by rw [hw4, htb]; exact heap_alloc_new _ _)
 have hz4 : tb + 1 ≤ w4.heap.size := by rw [hw4, htb]; simp
 have hqt : q < tb := by omega
 have hqq2 : q < tb + 1 := by omega
 have hrt : w.heap.size < tb := by omega
 have HB4 := hide (show BoxAt w.heap.size 43 25 w4 by rw [hw4]; exact HB3.out.turn ((Turn.refl q _).alloc _) cq)
 clear hw4 htb H3 HT3 HB3
 have x0 := Lib.cell_of_heap HX.out 0
 have x1 := Lib.cell_of_heap HX.out 1
 have x2 := Lib.cell_of_heap HX.out 2
 have x3 := Lib.cell_of_heap HX.out 3
 have x4 := Lib.cell_of_heap HX.out 4
 have x5 := Lib.cell_of_heap HX.out 5
 have x6 := Lib.cell_of_heap HX.out 6
 have x7 := Lib.cell_of_heap HX.out 7
 have x8 := Lib.cell_of_heap HX.out 8
 have x9 := Lib.cell_of_heap HX.out 9
 have x10 := Lib.cell_of_heap HX.out 10
 have x11 := Lib.cell_of_heap HX.out 11
 have x12 := Lib.cell_of_heap HX.out 12
 have x13 := Lib.cell_of_heap HX.out 13
 have x14 := Lib.cell_of_heap HX.out 14
 have x15 := Lib.cell_of_heap HX.out 15
 have x16 := Lib.cell_of_heap HX.out 16
 have x17 := Lib.cell_of_heap HX.out 17
 have x18 := Lib.cell_of_heap HX.out 18
 have x19 := Lib.cell_of_heap HX.out 19
 have x20 := Lib.cell_of_heap HX.out 20
 have x21 := Lib.cell_of_heap HX.out 21
 have x22 := Lib.cell_of_heap HX.out 22
 have x23 := Lib.cell_of_heap HX.out 23
 have x24 := Lib.cell_of_heap HX.out 24
 have xf := Lib.frozen_of_heap HX.out
 have xs := holds_size HX.out
 simp only [List.getElem?_toArray, List.getElem?_cons_zero, List.getElem?_cons_succ] at x0 x1 x2 x3 x4 x5 x6 x7 x8 x9 x10 x11 x12 x13 x14 x15 x16 x17 x18 x19 x20 x21 x22 x23 x24
 go_wp2_with (first | (refine wpList_storeBig rfl 43 _ _ rfl w3.heap.size 25 [.int .i64 3, .string (nameS (oneOfS defWords s).2).1, .slice none 0 0, .int .i64 0, .int .i64 0, .int .i64 0, .slice none 0 0, .int .i64 0, .string ⟨#[]⟩, .slice none 0 0, .int .i64 0, .string ⟨#[]⟩, .int .i64 0, .int .i64 0, .string ⟨#[]⟩, .string ⟨#[]⟩, .slice none 0 0, .slice none 0 0, .slice none 0 0, .slice none 0 0, .slice none 0 0, .slice none 0 0, .int .i64 0, .string ⟨#[]⟩, .slice none 0 0] big_def rfl (by simp [Value.oneCell']) rfl rfl (box_new _ _ _ rfl) ?_; rw [← HW4.out, ← HTB.out]))
 clear xf xs x0 x1 x2 x3 x4 x5 x6 x7 x8 x9 x10 x11 x12 x13 x14 x15 x16 x17 x18 x19 x20 x21 x22 x23 x24
 clear HW4
 refine (HLi.out w4 H4.out).mono ?_
 rintro e w5 ⟨rfl, h, ht⟩
 have H5 := hide h
 have HT5 := hide (HT4.out.trans ht)
 have HB5 := hide (HB4.out.turn ht cq)
 have hz5 : tb + 1 ≤ w5.heap.size := Nat.le_trans hz4 ht.size
 replace HX := hide (holds_turn HX.out ht hqt)
 clear h ht H4 HT4 HB4 HLi
 obtain ⟨w6, hw6⟩ : ∃ W, W = (w5.setCell ⟨tb, 23, none⟩ (.string (literalS (nameS (oneOfS defWords s).2).2).1)) := ⟨_, rfl⟩
 have HW6 := hide hw6
 have H6 := hide (show ParAt q TL E w6 _ by rw [hw6]; exact (H5.out.put (p := ⟨tb, 23, none⟩) hqt _))
 have HT6 := hide (show Turn q w w6 by rw [hw6]; exact (HT5.out.put (p := ⟨tb, 23, none⟩) (by simp; omega) _))
 have HX' := hide (show HoldB tb 43 [.int .i64 3, .string (nameS (oneOfS defWords s).2).1, .slice none 0 0, .int .i64 0, .int .i64 0, .int .i64 0, .slice none 0 0, .int .i64 0, .string ⟨#[]⟩, .slice none 0 0, .int .i64 0, .string ⟨#[]⟩, .int .i64 0, .int .i64 0, .string ⟨#[]⟩, .string ⟨#[]⟩, .slice none 0 0, .slice none 0 0, .slice none 0 0, .slice none 0 0, .slice none 0 0, .slice none 0 0, .int .i64 0, .string (literalS (nameS (oneOfS defWords s).2).2).1, .slice none 0 0] w6 by rw [hw6]; exact (Joins.block_setCell (i := 23) HX.out _))
 have hz6 : tb + 1 ≤ w6.heap.size := by rw [hw6]; simp; omega
 have HB6 := hide (show BoxAt w.heap.size 43 25 w6 by rw [hw6]; exact (HB5.out.set (by omega) _ _))
 have hkk : ∀ b, b ≠ tb → w6.heap[b]? = w5.heap[b]? := fun b hb => by rw [hw6]; exact Below.heap_setCell w5 ⟨tb, 23, none⟩ (.string (literalS (nameS (oneOfS defWords s).2).2).1) b hb
 have hss : w5.heap.size ≤ w6.heap.size := by rw [hw6]; simp
 have x0 := Lib.cell_of_heap HX.out 0
 have x1 := Lib.cell_of_heap HX.out 1
 have x2 := Lib.cell_of_heap HX.out 2
 have x3 := Lib.cell_of_heap HX.out 3
 have x4 := Lib.cell_of_heap HX.out 4
 have x5 := Lib.cell_of_heap HX.out 5
 have x6 := Lib.cell_of_heap HX.out 6
 have x7 := Lib.cell_of_heap HX.out 7
 have x8 := Lib.cell_of_heap HX.out 8
 have x9 := Lib.cell_of_heap HX.out 9
 have x10 := Lib.cell_of_heap HX.out 10
 have x11 := Lib.cell_of_heap HX.out 11
 have x12 := Lib.cell_of_heap HX.out 12
 have x13 := Lib.cell_of_heap HX.out 13
 have x14 := Lib.cell_of_heap HX.out 14
 have x15 := Lib.cell_of_heap HX.out 15
 have x16 := Lib.cell_of_heap HX.out 16
 have x17 := Lib.cell_of_heap HX.out 17
 have x18 := Lib.cell_of_heap HX.out 18
 have x19 := Lib.cell_of_heap HX.out 19
 have x20 := Lib.cell_of_heap HX.out 20
 have x21 := Lib.cell_of_heap HX.out 21
 have x22 := Lib.cell_of_heap HX.out 22
 have x23 := Lib.cell_of_heap HX.out 23
 have x24 := Lib.cell_of_heap HX.out 24
 have xf := Lib.frozen_of_heap HX.out
 have xs := holds_size HX.out
 simp only [List.getElem?_toArray, List.getElem?_cons_zero, List.getElem?_cons_succ] at x0 x1 x2 x3 x4 x5 x6 x7 x8 x9 x10 x11 x12 x13 x14 x15 x16 x17 x18 x19 x20 x21 x22 x23 x24
 have y0 := Lib.cell_of_heap HX'.out 0
 simp only [List.getElem?_toArray, List.getElem?_cons_zero] at y0
 clear hw6 hkk hss
 go_wp2_with (first | rw [← HW6.out])
 clear xf xs x0 x1 x2 x3 x4 x5 x6 x7 x8 x9 x10 x11 x12 x13 x14 x15 x16 x17 x18 x19 x20 x21 x22 x23 x24
 clear y0 HX H5 HT5 HB5 HW6
 have HX := HX'
 clear HX'
 refine (HEx.out w6 H6.out).mono ?_
 rintro e w7 ⟨rfl, h, ht⟩
 have H7 := hide h
 have HT7 := hide (HT6.out.trans ht)
 have HB7 := hide (HB6.out.turn ht cq)
 have hz7 : tb + 1 ≤ w7.heap.size := Nat.le_trans hz6 ht.size
 replace HX := hide (holds_turn HX.out ht hqt)
 clear h ht H6 HT6 HB6 HEx
 go_wp2_with fail
 refine (HM.out w7 H7.out).mono ?_
 rintro e w8 ⟨v8, rfl, hv, h, ht⟩
 have H8 := hide h
 have HT8 := hide (HT7.out.trans ht)
 have HB8 := hide (HB7.out.turn ht cq)
 have hz8 : tb + 1 ≤ w8.heap.size := Nat.le_trans hz7 ht.size
 replace HX := hide (holds_turn HX.out ht hqt)
 have HV8 := hide (hv.stay (Stay.at (fun _ hb => Nat.le_trans hz7 hb) _))
 clear hv
 clear h ht H7 HT7 HB7 HM
 obtain ⟨A8, n8, c8, hsl⟩ := HV8.out.slice
 subst hsl
 obtain ⟨w9, hw9⟩ : ∃ W, W = (w8.setCell ⟨tb, 24, none⟩ (.slice A8 n8 c8)) := ⟨_, rfl⟩
 have HW9 := hide hw9
 have H9 := hide (show ParAt q TL E w9 _ by rw [hw9]; exact (H8.out.put (p := ⟨tb, 24, none⟩) hqt _))
 have HT9 := hide (show Turn q w w9 by rw [hw9]; exact (HT8.out.put (p := ⟨tb, 24, none⟩) (by simp; omega) _))
 have HX' := hide (show HoldB tb 43 [.int .i64 3, .string (nameS (oneOfS defWords s).2).1, .slice none 0 0, .int .i64 0, .int .i64 0, .int .i64 0, .slice none 0 0, .int .i64 0, .string ⟨#[]⟩, .slice none 0 0, .int .i64 0, .string ⟨#[]⟩, .int .i64 0, .int .i64 0, .string ⟨#[]⟩, .string ⟨#[]⟩, .slice none 0 0, .slice none 0 0, .slice none 0 0, .slice none 0 0, .slice none 0 0, .slice none 0 0, .int .i64 0, .string (literalS (nameS (oneOfS defWords s).2).2).1, .slice A8 n8 c8] w9 by rw [hw9]; exact (Joins.block_setCell (i := 24) HX.out _))
 have hz9 : tb + 1 ≤ w9.heap.size := by rw [hw9]; simp; omega
 have HB9 := hide (show BoxAt w.heap.size 43 25 w9 by rw [hw9]; exact (HB8.out.set (by omega) _ _))
 have hkk : ∀ b, b ≠ tb → w9.heap[b]? = w8.heap[b]? := fun b hb => by rw [hw9]; exact Below.heap_setCell w8 ⟨tb, 24, none⟩ (.slice A8 n8 c8) b hb
 have hss : w8.heap.size ≤ w9.heap.size := by rw [hw9]; simp
 replace HV8 := hide (HV8.out.above hss hkk)
 have x0 := Lib.cell_of_heap HX.out 0
 have x1 := Lib.cell_of_heap HX.out 1
 have x2 := Lib.cell_of_heap HX.out 2
 have x3 := Lib.cell_of_heap HX.out 3
 have x4 := Lib.cell_of_heap HX.out 4
 have x5 := Lib.cell_of_heap HX.out 5
 have x6 := Lib.cell_of_heap HX.out 6
 have x7 := Lib.cell_of_heap HX.out 7
 have x8 := Lib.cell_of_heap HX.out 8
 have x9 := Lib.cell_of_heap HX.out 9
 have x10 := Lib.cell_of_heap HX.out 10
 have x11 := Lib.cell_of_heap HX.out 11
 have x12 := Lib.cell_of_heap HX.out 12
 have x13 := Lib.cell_of_heap HX.out 13
 have x14 := Lib.cell_of_heap HX.out 14
 have x15 := Lib.cell_of_heap HX.out 15
 have x16 := Lib.cell_of_heap HX.out 16
 have x17 := Lib.cell_of_heap HX.out 17
 have x18 := Lib.cell_of_heap HX.out 18
 have x19 := Lib.cell_of_heap HX.out 19
 have x20 := Lib.cell_of_heap HX.out 20
 have x21 := Lib.cell_of_heap HX.out 21
 have x22 := Lib.cell_of_heap HX.out 22
 have x23 := Lib.cell_of_heap HX.out 23
 have x24 := Lib.cell_of_heap HX.out 24
 have xf := Lib.frozen_of_heap HX.out
 have xs := holds_size HX.out
 simp only [List.getElem?_toArray, List.getElem?_cons_zero, List.getElem?_cons_succ] at x0 x1 x2 x3 x4 x5 x6 x7 x8 x9 x10 x11 x12 x13 x14 x15 x16 x17 x18 x19 x20 x21 x22 x23 x24
 have y0 := Lib.cell_of_heap HX'.out 0
 simp only [List.getElem?_toArray, List.getElem?_cons_zero] at y0
 clear hw9 hkk hss
 go_wp2_with (first | rw [← HW9.out] | (refine wpList_loadBig rfl 43 _ rfl tb 25 ([.int .i64 3, .string (nameS (oneOfS defWords s).2).1, .slice none 0 0, .int .i64 0, .int .i64 0, .int .i64 0, .slice none 0 0, .int .i64 0, .string ⟨#[]⟩, .slice none 0 0, .int .i64 0, .string ⟨#[]⟩, .int .i64 0, .int .i64 0, .string ⟨#[]⟩, .string ⟨#[]⟩, .slice none 0 0, .slice none 0 0, .slice none 0 0, .slice none 0 0, .slice none 0 0, .slice none 0 0, .int .i64 0, .string (literalS (nameS (oneOfS defWords s).2).2).1, .slice A8 n8 c8]) big_def rfl rfl HX'.out ?_) | (refine wpList_storeBig rfl 43 _ _ rfl w.heap.size 25 ([.int .i64 3, .string (nameS (oneOfS defWords s).2).1, .slice none 0 0, .int .i64 0, .int .i64 0, .int .i64 0, .slice none 0 0, .int .i64 0, .string ⟨#[]⟩, .slice none 0 0, .int .i64 0, .string ⟨#[]⟩, .int .i64 0, .int .i64 0, .string ⟨#[]⟩, .string ⟨#[]⟩, .slice none 0 0, .slice none 0 0, .slice none 0 0, .slice none 0 0, .slice none 0 0, .slice none 0 0, .int .i64 0, .string (literalS (nameS (oneOfS defWords s).2).2).1, .slice A8 n8 c8]) big_def rfl (by simp [Value.oneCell']) rfl rfl HB9.out ?_))
 clear xf xs x0 x1 x2 x3 x4 x5 x6 x7 x8 x9 x10 x11 x12 x13 x14 x15 x16 x17 x18 x19 x20 x21 x22 x23 x24
 clear y0 HX H8 HT8 HB8 HW9
 have HX := HX'
 clear HX'
 refine bodyPost_ret (v := .agg #[.int .i64 3, .string (nameS (oneOfS defWords s).2).1, .slice none 0 0, .int .i64 0, .int .i64 0, .int .i64 0, .slice none 0 0, .int .i64 0, .string ⟨#[]⟩, .slice none 0 0, .int .i64 0, .string ⟨#[]⟩, .int .i64 0, .int .i64 0, .string ⟨#[]⟩, .string ⟨#[]⟩, .slice none 0 0, .slice none 0 0, .slice none 0 0, .slice none 0 0, .slice none 0 0, .slice none 0 0, .int .i64 0, .string (literalS (nameS (oneOfS defWords s).2).2).1, .slice A8 n8 c8]) (results_big (vs := [.int .i64 3, .string (nameS (oneOfS defWords s).2).1, .slice none 0 0, .int .i64 0, .int .i64 0, .int .i64 0, .slice none 0 0, .int .i64 0, .string ⟨#[]⟩, .slice none 0 0, .int .i64 0, .string ⟨#[]⟩, .int .i64 0, .int .i64 0, .string ⟨#[]⟩, .string ⟨#[]⟩, .slice none 0 0, .slice none 0 0, .slice none 0 0, .slice none 0 0, .slice none 0 0, .slice none 0 0, .int .i64 0, .string (literalS (nameS (oneOfS defWords s).2).2).1, .slice A8 n8 c8]) rfl rfl big_def rfl (set_row _ HB9.out.choose_spec.1)) rfl ?_
 exact ⟨[.int .i64 3, .string (nameS (oneOfS defWords s).2).1, .slice none 0 0, .int .i64 0, .int .i64 0, .int .i64 0, .slice none 0 0, .int .i64 0, .string ⟨#[]⟩, .slice none 0 0, .int .i64 0, .string ⟨#[]⟩, .int .i64 0, .int .i64 0, .string ⟨#[]⟩, .string ⟨#[]⟩, .slice none 0 0, .slice none 0 0, .slice none 0 0, .slice none 0 0, .slice none 0 0, .slice none 0 0, .int .i64 0, .string (literalS (nameS (oneOfS defWords s).2).2).1, .slice A8 n8 c8], rfl, RepC.ret (lo := tb + 1) (rep_def (d := {k := 3, nm := (nameS (oneOfS defWords s).2).1, cron := (literalS (nameS (oneOfS defWords s).2).2).1, makes := X.1}) (rep_nil _ _ _) (rep_nil _ _ _) (rep_zeroP _ _) HV8.out) (by omega) (by omega) _, H9.out.row cq _, HT9.out.row (Nat.le_refl _) _⟩
set_option maxHeartbeats 8000000 in
set_option maxRecDepth 100000 in
theorem defSource {q : Nat} {TL : List Tk} {E : Nat} (X : List (ByteArray × Int) × PSt) (s : PSt) (w : World) (H : ParAt q TL E w s) (hk : (oneOfS defWords s).1 = 1)
  (HM : ∀ w1, ParAt q TL E w1 (nameS (oneOfS defWords s).2).2 → Calls Tryz.prog 84 #[pP q, .func (.func 85) #[pP q] #[]] w1 (OneTo q TL E w1 (.row 2 (X.1.map dCol)) X.2)) :
  Calls Tryz.prog 59 #[pP q] w (AggTo q TL E w ({k := 1, nm := (nameS (oneOfS defWords s).2).1, sch := X.1, sc := (schemeS X.2).1} : Df).enc (schemeS X.2).2) := by
 have HOf := hide (fun A w1 (h : ParAt q TL E w1 s) (hA : StrW q w1 A defWords) => oneOf_any A 3 defWords w1 h hA (by decide))
 unfold StepTo at HOf
 rw [hk] at HOf
 have HNm := hide (fun w1 (h : ParAt q TL E w1 (oneOfS defWords s).2) => name_any w1 h)
 unfold StepTo at HNm
 have HSc := hide (fun w1 (h : ParAt q TL E w1 X.2) => scheme_any X.2 w1 h)
 unfold AggTo at HSc
 unfold OneTo at HM
 replace HM := hide HM
 have cq := H.lt
 have hqq : q < w.heap.size + 1 := by omega
 obtain ⟨W0, hW0⟩ : ∃ W0, W0 = w.alloc (.cells #[.int .i64 0, .string ⟨#[]⟩, .slice none 0 0, .int .i64 0, .int .i64 0, .int .i64 0, .slice none 0 0, .int .i64 0, .string ⟨#[]⟩, .slice none 0 0, .int .i64 0, .string ⟨#[]⟩, .int .i64 0, .int .i64 0, .string ⟨#[]⟩, .string ⟨#[]⟩, .slice none 0 0, .slice none 0 0, .slice none 0 0, .slice none 0 0, .slice none 0 0, .slice none 0 0, .int .i64 0, .string ⟨#[]⟩, .slice none 0 0] 43) := ⟨_, rfl⟩
 have H0 := hide (show ParAt q TL E W0 s by rw [hW0]; exact H.alloc _)
 have HT0 := hide (show Turn q w W0 by rw [hW0]; exact (Turn.refl _ _).alloc _)
 have HB0 := hide (show BoxAt w.heap.size 43 25 W0 by rw [hW0]; exact box_new _ _ _ rfl)
 have hz0 : w.heap.size + 1 ≤ W0.heap.size := by rw [hW0]; simp
 have HW0 := hide hW0
 clear hW0
 unfold AggTo
 clear hk
 obtain ⟨w1, hw1⟩ : ∃ W, W = W0.alloc (.cells #[.string ⟨#[115, 111, 117, 114, 99, 101]⟩, .string ⟨#[97, 115, 115, 101, 116]⟩, .string ⟨#[115, 99, 104, 101, 100, 117, 108, 101]⟩] 9) := ⟨_, rfl⟩
 have HW1 := hide hw1
 have H1 := hide (show ParAt q TL E w1 _ by rw [hw1]; exact H0.out.alloc _)
 have HT1 := hide (show Turn q w w1 by rw [hw1]; exact HT0.out.alloc _)
 have hz1 : w.heap.size + 1 ≤ w1.heap.size := by rw [hw1]; simp; omega
 have HB1 := hide (show BoxAt w.heap.size 43 25 w1 by rw [hw1]; exact HB0.out.turn ((Turn.refl q _).alloc _) cq)
 have hz0e : w.heap.size + 1 = W0.heap.size := by rw [HW0.out]; simp
 have HS1 := hide (show StrW q w1 (some ⟨w.heap.size + 1, 0, none⟩) defWords by rw [hw1, hz0e]; exact strW_new W0 q defWords _ (by omega))
 clear hw1 H0 HT0 HB0 hz0e
 clear H
 go_enter Tryz.func59, Tryz.ntmps59
 go_wp2_with fail
 rw [← HW0.out, ← HW1.out]
 clear HW1
 refine (HOf.out _ w1 H1.out HS1.out).mono ?_
 rintro e w2 ⟨rfl, h, ht⟩
 have H2 := hide h
 have HT2 := hide (HT1.out.trans ht)
 have HB2 := hide (HB1.out.turn ht cq)
 have hz2 : w.heap.size + 1 ≤ w2.heap.size := Nat.le_trans hz1 ht.size
 clear h ht H1 HT1 HB1 HS1 HOf
 go_wp2_with fail
 refine (HNm.out w2 H2.out).mono ?_
 rintro e w3 ⟨rfl, h, ht⟩
 have H3 := hide h
 have HT3 := hide (HT2.out.trans ht)
 have HB3 := hide (HB2.out.turn ht cq)
 have hz3 : w.heap.size + 1 ≤ w3.heap.size := Nat.le_trans hz2 ht.size
 clear h ht H2 HT2 HB2 HNm
 obtain ⟨w4, hw4⟩ : ∃ W, W = w3.alloc (.cells #[.int .i64 1, .string (nameS (oneOfS defWords s).2).1, .slice none 0 0, .int .i64 0, .int .i64 0, .int .i64 0, .slice none 0 0, .int .i64 0, .string ⟨#[]⟩, .slice none 0 0, .int .i64 0, .string ⟨#[]⟩, .int .i64 0, .int .i64 0, .string ⟨#[]⟩, .string ⟨#[]⟩, .slice none 0 0, .slice none 0 0, .slice none 0 0, .slice none 0 0, .slice none 0 0, .slice none 0 0, .int .i64 0, .string ⟨#[]⟩, .slice none 0 0] 43) := ⟨_, rfl⟩
 have HW4 := hide (show w4 = (w3.alloc (.cells #[.int .i64 0, .string ⟨#[]⟩, .slice none 0 0, .int .i64 0, .int .i64 0, .int .i64 0, .slice none 0 0, .int .i64 0, .string ⟨#[]⟩, .slice none 0 0, .int .i64 0, .string ⟨#[]⟩, .int .i64 0, .int .i64 0, .string ⟨#[]⟩, .string ⟨#[]⟩, .slice none 0 0, .slice none 0 0, .slice none 0 0, .slice none 0 0, .slice none 0 0, .slice none 0 0, .int .i64 0, .string ⟨#[]⟩, .slice none 0 0] 43)).setRow w3.heap.size #[.int .i64 1, .string (nameS (oneOfS defWords s).2).1, .slice none 0 0, .int .i64 0, .int .i64 0, .int .i64 0, .slice none 0 0, .int .i64 0, .string ⟨#[]⟩, .slice none 0 0, .int .i64 0, .string ⟨#[]⟩, .int .i64 0, .int .i64 0, .string ⟨#[]⟩, .string ⟨#[]⟩, .slice none 0 0, .slice none 0 0, .slice none 0 0, .slice none 0 0, .slice none 0 0, .slice none 0 0, .int .i64 0, .string ⟨#[]⟩, .slice none 0 0] by rw [hw4, World.setRow_alloc_new])
 have H4 := hide (show ParAt q TL E w4 _ by rw [hw4]; exact H3.out.alloc _)
 have HT4 := hide (show Turn q w w4 by rw [hw4]; exact HT3.out.alloc _)
 obtain ⟨tb, htb⟩ : ∃ tb, tb = w3.heap.size := ⟨_, rfl⟩
 have HTB := hide htb
 have HX := hide (show HoldB tb 43 [.int .i64 1, .string (nameS (oneOfS defWords s).2).1, .slice none 0 0, .int .i64 0, .int .i64 0, .int .i64 0, .slice none 0 0, .int .i64 0, .string ⟨#[]⟩, .slice none 0 0, .int .i64 0, .string ⟨#[]⟩, .int .i64 0, .int .i64 0, .string ⟨#[]⟩, .string ⟨#[]⟩, .slice none 0 0, .slice none 0 0, .slice none 0 0, .slice none 0 0, .slice none 0 0, .slice none 0 0, .int .i64 0, .string ⟨#[]⟩, .slice none 0 0] w4 by rw [hw4, htb]; exact heap_alloc_new _ _)
 have hz4 : tb + 1 ≤ w4.heap.size := by rw [hw4, htb]; simp
 have hqt : q < tb := by omega
 have hqq2 : q < tb + 1 := by omega
 have hrt : w.heap.size < tb := by omega
 have HB4 := hide (show BoxAt w.heap.size 43 25 w4 by rw [hw4]; exact HB3.out.turn ((Turn.refl q _).alloc _) cq)
 clear hw4 htb H3 HT3 HB3
 have x0 := Lib.cell_of_heap HX.out 0
 have x1 := Lib.cell_of_heap HX.out 1
 have x2 := Lib.cell_of_heap HX.out 2
 have x3 := Lib.cell_of_heap HX.out 3
 have x4 := Lib.cell_of_heap HX.out 4
 have x5 := Lib.cell_of_heap HX.out 5
 have x6 := Lib.cell_of_heap HX.out 6
 have x7 := Lib.cell_of_heap HX.out 7
 have x8 := Lib.cell_of_heap HX.out 8
 have x9 := Lib.cell_of_heap HX.out 9
 have x10 := Lib.cell_of_heap HX.out 10
 have x11 := Lib.cell_of_heap HX.out 11
 have x12 := Lib.cell_of_heap HX.out 12
 have x13 := Lib.cell_of_heap HX.out 13
 have x14 := Lib.cell_of_heap HX.out 14
 have x15 := Lib.cell_of_heap HX.out 15
 have x16 := Lib.cell_of_heap HX.out 16
 have x17 := Lib.cell_of_heap HX.out 17
 have x18 := Lib.cell_of_heap HX.out 18
 have x19 := Lib.cell_of_heap HX.out 19
 have x20 := Lib.cell_of_heap HX.out 20
 have x21 := Lib.cell_of_heap HX.out 21
 have x22 := Lib.cell_of_heap HX.out 22
 have x23 := Lib.cell_of_heap HX.out 23
 have x24 := Lib.cell_of_heap HX.out 24
 have xf := Lib.frozen_of_heap HX.out
 have xs := holds_size HX.out
 simp only [List.getElem?_toArray, List.getElem?_cons_zero, List.getElem?_cons_succ] at x0 x1 x2 x3 x4 x5 x6 x7 x8 x9 x10 x11 x12 x13 x14 x15 x16 x17 x18 x19 x20 x21 x22 x23 x24
 go_wp2_with (first | (refine wpList_storeBig rfl 43 _ _ rfl w3.heap.size 25 [.int .i64 1, .string (nameS (oneOfS defWords s).2).1, .slice none 0 0, .int .i64 0, .int .i64 0, .int .i64 0, .slice none 0 0, .int .i64 0, .string ⟨#[]⟩, .slice none 0 0, .int .i64 0, .string ⟨#[]⟩, .int .i64 0, .int .i64 0, .string ⟨#[]⟩, .string ⟨#[]⟩, .slice none 0 0, .slice none 0 0, .slice none 0 0, .slice none 0 0, .slice none 0 0, .slice none 0 0, .int .i64 0, .string ⟨#[]⟩, .slice none 0 0] big_def rfl (by simp [Value.oneCell']) rfl rfl (box_new _ _ _ rfl) ?_; rw [← HW4.out, ← HTB.out]))
 clear xf xs x0 x1 x2 x3 x4 x5 x6 x7 x8 x9 x10 x11 x12 x13 x14 x15 x16 x17 x18 x19 x20 x21 x22 x23 x24
 clear HW4
 refine (HM.out w4 H4.out).mono ?_
 rintro e w5 ⟨v5, rfl, hv, h, ht⟩
 have H5 := hide h
 have HT5 := hide (HT4.out.trans ht)
 have HB5 := hide (HB4.out.turn ht cq)
 have hz5 : tb + 1 ≤ w5.heap.size := Nat.le_trans hz4 ht.size
 replace HX := hide (holds_turn HX.out ht hqt)
 have HV5 := hide (hv.stay (Stay.at (fun _ hb => Nat.le_trans hz4 hb) _))
 clear hv
 clear h ht H4 HT4 HB4 HM
 obtain ⟨A5, n5, c5, hsl⟩ := HV5.out.slice
 subst hsl
 obtain ⟨w6, hw6⟩ : ∃ W, W = (w5.setCell ⟨tb, 2, none⟩ (.slice A5 n5 c5)) := ⟨_, rfl⟩
 have HW6 := hide hw6
 have H6 := hide (show ParAt q TL E w6 _ by rw [hw6]; exact (H5.out.put (p := ⟨tb, 2, none⟩) hqt _))
 have HT6 := hide (show Turn q w w6 by rw [hw6]; exact (HT5.out.put (p := ⟨tb, 2, none⟩) (by simp; omega) _))
 have HX' := hide (show HoldB tb 43 [.int .i64 1, .string (nameS (oneOfS defWords s).2).1, .slice A5 n5 c5, .int .i64 0, .int .i64 0, .int .i64 0, .slice none 0 0, .int .i64 0, .string ⟨#[]⟩, .slice none 0 0, .int .i64 0, .string ⟨#[]⟩, .int .i64 0, .int .i64 0, .string ⟨#[]⟩, .string ⟨#[]⟩, .slice none 0 0, .slice none 0 0, .slice none 0 0, .slice none 0 0, .slice none 0 0, .slice none 0 0, .int .i64 0, .string ⟨#[]⟩, .slice none 0 0] w6 by rw [hw6]; exact (Joins.block_setCell (i := 2) HX.out _))
 have hz6 : tb + 1 ≤ w6.heap.size := by rw [hw6]; simp; omega
 have HB6 := hide (show BoxAt w.heap.size 43 25 w6 by rw [hw6]; exact (HB5.out.set (by omega) _ _))
 have hkk : ∀ b, b ≠ tb → w6.heap[b]? = w5.heap[b]? := fun b hb => by rw [hw6]; exact Below.heap_setCell w5 ⟨tb, 2, none⟩ (.slice A5 n5 c5) b hb
 have hss : w5.heap.size ≤ w6.heap.size := by rw [hw6]; simp
 replace HV5 := hide (HV5.out.above hss hkk)
 have x0 := Lib.cell_of_heap HX.out 0
 have x1 := Lib.cell_of_heap HX.out 1
 have x2 := Lib.cell_of_heap HX.out 2
 have x3 := Lib.cell_of_heap HX.out 3
 have x4 := Lib.cell_of_heap HX.out 4
 have x5 := Lib.cell_of_heap HX.out 5
 have x6 := Lib.cell_of_heap HX.out 6
 have x7 := Lib.cell_of_heap HX.out 7
 have x8 := Lib.cell_of_heap HX.out 8
 have x9 := Lib.cell_of_heap HX.out 9
 have x10 := Lib.cell_of_heap HX.out 10
 have x11 := Lib.cell_of_heap HX.out 11
 have x12 := Lib.cell_of_heap HX.out 12
 have x13 := Lib.cell_of_heap HX.out 13
 have x14 := Lib.cell_of_heap HX.out 14
 have x15 := Lib.cell_of_heap HX.out 15
 have x16 := Lib.cell_of_heap HX.out 16
 have x17 := Lib.cell_of_heap HX.out 17
 have x18 := Lib.cell_of_heap HX.out 18
 have x19 := Lib.cell_of_heap HX.out 19
 have x20 := Lib.cell_of_heap HX.out 20
 have x21 := Lib.cell_of_heap HX.out 21
 have x22 := Lib.cell_of_heap HX.out 22
 have x23 := Lib.cell_of_heap HX.out 23
 have x24 := Lib.cell_of_heap HX.out 24
 have xf := Lib.frozen_of_heap HX.out
 have xs := holds_size HX.out
 simp only [List.getElem?_toArray, List.getElem?_cons_zero, List.getElem?_cons_succ] at x0 x1 x2 x3 x4 x5 x6 x7 x8 x9 x10 x11 x12 x13 x14 x15 x16 x17 x18 x19 x20 x21 x22 x23 x24
 have y0 := Lib.cell_of_heap HX'.out 0
 simp only [List.getElem?_toArray, List.getElem?_cons_zero] at y0
 clear hw6 hkk hss
 go_wp2_with (first | rw [← HW6.out])
 clear xf xs x0 x1 x2 x3 x4 x5 x6 x7 x8 x9 x10 x11 x12 x13 x14 x15 x16 x17 x18 x19 x20 x21 x22 x23 x24
 clear y0 HX H5 HT5 HB5 HW6
 have HX := HX'
 clear HX'
 refine (HSc.out w6 H6.out).mono ?_
 rintro e w7 ⟨vs7, rfl, hv, h, ht⟩
 have H7 := hide h
 have HT7 := hide (HT6.out.trans ht)
 have HB7 := hide (HB6.out.turn ht cq)
 have hz7 : tb + 1 ≤ w7.heap.size := Nat.le_trans hz6 ht.size
 replace HV5 := hide (HV5.out.stay (Stay.new ht hqq2 (Nat.le_refl _)))
 replace HX := hide (holds_turn HX.out ht hqt)
 have HV7 := hide (hv.stay (Stay.at (fun _ hb => Nat.le_trans hz6 hb) _))
 clear hv
 clear h ht H6 HT6 HB6 HSc
 obtain rfl := three_ints HV7.out
 clear HV7
 obtain ⟨w8, hw8⟩ : ∃ W, W = (((w7.setCell ⟨tb, 3, none⟩ (.int .i64 (schemeS X.2).1.1)).setCell ⟨tb, 4, none⟩ (.int .i64 (schemeS X.2).1.2.1)).setCell ⟨tb, 5, none⟩ (.int .i64 (schemeS X.2).1.2.2)) := ⟨_, rfl⟩
 have HW8 := hide hw8
 have H8 := hide (show ParAt q TL E w8 _ by rw [hw8]; exact (((H7.out.put (p := ⟨tb, 3, none⟩) hqt _).put (p := ⟨tb, 4, none⟩) hqt _).put (p := ⟨tb, 5, none⟩) hqt _))
 have HT8 := hide (show Turn q w w8 by rw [hw8]; exact (((HT7.out.put (p := ⟨tb, 3, none⟩) (by simp; omega) _).put (p := ⟨tb, 4, none⟩) (by simp; omega) _).put (p := ⟨tb, 5, none⟩) (by simp; omega) _))
 have HX' := hide (show HoldB tb 43 [.int .i64 1, .string (nameS (oneOfS defWords s).2).1, .slice A5 n5 c5, .int .i64 (schemeS X.2).1.1, .int .i64 (schemeS X.2).1.2.1, .int .i64 (schemeS X.2).1.2.2, .slice none 0 0, .int .i64 0, .string ⟨#[]⟩, .slice none 0 0, .int .i64 0, .string ⟨#[]⟩, .int .i64 0, .int .i64 0, .string ⟨#[]⟩, .string ⟨#[]⟩, .slice none 0 0, .slice none 0 0, .slice none 0 0, .slice none 0 0, .slice none 0 0, .slice none 0 0, .int .i64 0, .string ⟨#[]⟩, .slice none 0 0] w8 by rw [hw8]; exact (Joins.block_setCell (i := 5) (Joins.block_setCell (i := 4) (Joins.block_setCell (i := 3) HX.out _) _) _))
 have hz8 : tb + 1 ≤ w8.heap.size := by rw [hw8]; simp; omega
 have HB8 := hide (show BoxAt w.heap.size 43 25 w8 by rw [hw8]; exact (((HB7.out.set (by omega) _ _).set (by omega) _ _).set (by omega) _ _))
 have hkk : ∀ b, b ≠ tb → w8.heap[b]? = w7.heap[b]? := fun b hb => by rw [hw8]; exact ((Below.heap_setCell ((w7.setCell ⟨tb, 3, none⟩ (.int .i64 (schemeS X.2).1.1)).setCell ⟨tb, 4, none⟩ (.int .i64 (schemeS X.2).1.2.1)) ⟨tb, 5, none⟩ (.int .i64 (schemeS X.2).1.2.2) b hb).trans (Below.heap_setCell (w7.setCell ⟨tb, 3, none⟩ (.int .i64 (schemeS X.2).1.1)) ⟨tb, 4, none⟩ (.int .i64 (schemeS X.2).1.2.1) b hb)).trans (Below.heap_setCell w7 ⟨tb, 3, none⟩ (.int .i64 (schemeS X.2).1.1) b hb)
 have hss : w7.heap.size ≤ w8.heap.size := by rw [hw8]; simp
 replace HV5 := hide (HV5.out.above hss hkk)
 have x0 := Lib.cell_of_heap HX.out 0
 have x1 := Lib.cell_of_heap HX.out 1
 have x2 := Lib.cell_of_heap HX.out 2
 have x3 := Lib.cell_of_heap HX.out 3
 have x4 := Lib.cell_of_heap HX.out 4
 have x5 := Lib.cell_of_heap HX.out 5
 have x6 := Lib.cell_of_heap HX.out 6
 have x7 := Lib.cell_of_heap HX.out 7
 have x8 := Lib.cell_of_heap HX.out 8
 have x9 := Lib.cell_of_heap HX.out 9
 have x10 := Lib.cell_of_heap HX.out 10
 have x11 := Lib.cell_of_heap HX.out 11
 have x12 := Lib.cell_of_heap HX.out 12
 have x13 := Lib.cell_of_heap HX.out 13
 have x14 := Lib.cell_of_heap HX.out 14
 have x15 := Lib.cell_of_heap HX.out 15
 have x16 := Lib.cell_of_heap HX.out 16
 have x17 := Lib.cell_of_heap HX.out 17
 have x18 := Lib.cell_of_heap HX.out 18
 have x19 := Lib.cell_of_heap HX.out 19
 have x20 := Lib.cell_of_heap HX.out 20
 have x21 := Lib.cell_of_heap HX.out 21
 have x22 := Lib.cell_of_heap HX.out 22
 have x23 := Lib.cell_of_heap HX.out 23
 have x24 := Lib.cell_of_heap HX.out 24
 have xf := Lib.frozen_of_heap HX.out
 have xs := holds_size HX.out
 simp only [List.getElem?_toArray, List.getElem?_cons_zero, List.getElem?_cons_succ] at x0 x1 x2 x3 x4 x5 x6 x7 x8 x9 x10 x11 x12 x13 x14 x15 x16 x17 x18 x19 x20 x21 x22 x23 x24
 have y0 := Lib.cell_of_heap HX'.out 0
 simp only [List.getElem?_toArray, List.getElem?_cons_zero] at y0
 clear hw8 hkk hss
 go_wp2_with (first | rw [← HW8.out] | (refine wpList_loadBig rfl 43 _ rfl tb 25 ([.int .i64 1, .string (nameS (oneOfS defWords s).2).1, .slice A5 n5 c5, .int .i64 (schemeS X.2).1.1, .int .i64 (schemeS X.2).1.2.1, .int .i64 (schemeS X.2).1.2.2, .slice none 0 0, .int .i64 0, .string ⟨#[]⟩, .slice none 0 0, .int .i64 0, .string ⟨#[]⟩, .int .i64 0, .int .i64 0, .string ⟨#[]⟩, .string ⟨#[]⟩, .slice none 0 0, .slice none 0 0, .slice none 0 0, .slice none 0 0, .slice none 0 0, .slice none 0 0, .int .i64 0, .string ⟨#[]⟩, .slice none 0 0]) big_def rfl rfl HX'.out ?_) | (refine wpList_storeBig rfl 43 _ _ rfl w.heap.size 25 ([.int .i64 1, .string (nameS (oneOfS defWords s).2).1, .slice A5 n5 c5, .int .i64 (schemeS X.2).1.1, .int .i64 (schemeS X.2).1.2.1, .int .i64 (schemeS X.2).1.2.2, .slice none 0 0, .int .i64 0, .string ⟨#[]⟩, .slice none 0 0, .int .i64 0, .string ⟨#[]⟩, .int .i64 0, .int .i64 0, .string ⟨#[]⟩, .string ⟨#[]⟩, .slice none 0 0, .slice none 0 0, .slice none 0 0, .slice none 0 0, .slice none 0 0, .slice none 0 0, .int .i64 0, .string ⟨#[]⟩, .slice none 0 0]) big_def rfl (by simp [Value.oneCell']) rfl rfl HB8.out ?_))
 clear xf xs x0 x1 x2 x3 x4 x5 x6 x7 x8 x9 x10 x11 x12 x13 x14 x15 x16 x17 x18 x19 x20 x21 x22 x23 x24
 clear y0 HX H7 HT7 HB7 HW8
 have HX := HX'
 clear HX'
 refine bodyPost_ret (v := .agg #[.int .i64 1, .string (nameS (oneOfS defWords s).2).1, .slice A5 n5 c5, .int .i64 (schemeS X.2).1.1, .int .i64 (schemeS X.2).1.2.1, .int .i64 (schemeS X.2).1.2.2, .slice none 0 0, .int .i64 0, .string ⟨#[]⟩, .slice none 0 0, .int .i64 0, .string ⟨#[]⟩, .int .i64 0, .int .i64 0, .string ⟨#[]⟩, .string ⟨#[]⟩, .slice none 0 0, .slice none 0 0, .slice none 0 0, .slice none 0 0, .slice none 0 0, .slice none 0 0, .int .i64 0, .string ⟨#[]⟩, .slice none 0 0]) (results_big (vs := [.int .i64 1, .string (nameS (oneOfS defWords s).2).1, .slice A5 n5 c5, .int .i64 (schemeS X.2).1.1, .int .i64 (schemeS X.2).1.2.1, .int .i64 (schemeS X.2).1.2.2, .slice none 0 0, .int .i64 0, .string ⟨#[]⟩, .slice none 0 0, .int .i64 0, .string ⟨#[]⟩, .int .i64 0, .int .i64 0, .string ⟨#[]⟩, .string ⟨#[]⟩, .slice none 0 0, .slice none 0 0, .slice none 0 0, .slice none 0 0, .slice none 0 0, .slice none 0 0, .int .i64 0, .string ⟨#[]⟩, .slice none 0 0]) rfl rfl big_def rfl (set_row _ HB8.out.choose_spec.1)) rfl ?_
 exact ⟨[.int .i64 1, .string (nameS (oneOfS defWords s).2).1, .slice A5 n5 c5, .int .i64 (schemeS X.2).1.1, .int .i64 (schemeS X.2).1.2.1, .int .i64 (schemeS X.2).1.2.2, .slice none 0 0, .int .i64 0, .string ⟨#[]⟩, .slice none 0 0, .int .i64 0, .string ⟨#[]⟩, .int .i64 0, .int .i64 0, .string ⟨#[]⟩, .string ⟨#[]⟩, .slice none 0 0, .slice none 0 0, .slice none 0 0, .slice none 0 0, .slice none 0 0, .slice none 0 0, .int .i64 0, .string ⟨#[]⟩, .slice none 0 0], rfl, RepC.ret (lo := tb + 1) (rep_def (d := {k := 1, nm := (nameS (oneOfS defWords s).2).1, sch := X.1, sc := (schemeS X.2).1}) HV5.out (rep_nil _ _ _) (rep_zeroP _ _) (rep_nil _ _ _)) (by omega) (by omega) _, H8.out.row cq _, HT8.out.row (Nat.le_refl _) _⟩
end Go.Proofs.YtljoajjlkjjgeaaGreatDoor
