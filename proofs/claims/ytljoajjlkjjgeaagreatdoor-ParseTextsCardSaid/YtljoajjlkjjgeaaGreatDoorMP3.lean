/-
  step: union.
  step: join and left.
  step: keep.
-/
import Derived.Test.YtljoajjlkjjgeaaGreatDoorMP1
import Derived.Test.YtljoajjlkjjgeaaGreatDoorMX2
import Derived.Test.YtljoajjlkjjgeaaGreatDoorML5
import Derived.Test.YtljoajjlkjjgeaaGreatDoorML4
namespace Go.Proofs.YtljoajjlkjjgeaaGreatDoor
open Go.RowKit Go.Sort LM Go

attribute [local go_sem] fld_tok0 fld_tok1 fld_tok2
/-- A slice of one struct, as a step of a drawn region. -/
theorem step_buildOne {o : Oper} {a : Act} {w : World} {ops : Array Oper} {K : Act → World → Prop} {Q : Exit → Act → World → Prop} {E : Prop} (hgd : o.guard = none) (t e : TypeId) (x : Operand) (ho : o.op = .buildSlice t 1 #[(0, x)])
  (n : Nat) (vs : List Value) (hv : (a.eval x).cells = vs.toArray) (hn : vs.length = n) (h0 : 0 < n) (h1 : n ≤ 1000)
  (hu : Tryz.prog.underlying t = some (.slice e)) (i : TypeInfo) (z : Value) (hi : Tryz.prog.info? e = some i) (hz : i.zero = some z) (hs : i.size = n)
  (h : K (a.put o.dst (.slice (some ⟨w.heap.size, 0, none⟩) 1 1)) (w.alloc (.cells vs.toArray e))) : if Region.wanted o (yielded ops a.tmps) = true then Oper.wp Tryz.prog o a w K Q else E := by
 rw [if_pos (by simp [Region.wanted, hgd])]
 refine wp_buildSlice t e 1 #[(0, x)] ho vs.toArray i z hu hi hz (by rw [hs]; omega) (by rw [hs]; omega) ?_ h
 rw [hs]
 have e : (Array.map (fun (y : Nat × Operand) => match y with | (i, x) => (i, a.eval x)) #[(0, x)]).toList = [(0, a.eval x)] := by simp
 rw [e]
 refine fill_one n _ _ vs hv hn ?_
 simp only [Array.size_map, Array.size_range, Nat.one_mul]
/-- append of one element to an own row, as a step of a drawn region. -/
theorem step_append_own {o : Oper} {a : Act} {w : World} {ops : Array Oper} {K : Act → World → Prop} {Q : Exit → Act → World → Prop} {E : Prop} (hgd : o.guard = none) (s x : Operand) (t : TypeId)
  (ho : o.op = .call { callee := .builtin .append, args := #[s, x], argTypes := #[t, t] })
  (base : Nat) (e : TypeId) (i : TypeInfo) (z : Value) (size bytes : Nat) (ht : Tryz.prog.underlying t = some (.slice e)) (hi : Tryz.prog.info? e = some i) (hz : i.zero = some z)
  (hsize : i.size = size) (hby : i.bytes = bytes) (hzs : z.cells.size = size) (hsz : 0 < size)
  (v : Value) (n : Nat) (xs : List Value) (hs : a.eval s = v) (hown : w.ownsRow base e size v n xs)
  (ad : Addr) (m c : Nat) (news : List Value) (hx : a.eval x = .slice (some ad) m c) (hl : news.length = m * size) (hnews : ∀ j u, news[j]? = some u → w.cell? (ad.add j) = some u) (h1 : ∀ u ∈ news, u.oneCell' = true)
  (h63 : n + m ≤ maxLen) (hbytes : (n + m) * bytes ≤ 140737488355328) (hbase : base ≤ w.heap.size)
  (h : ∀ v' w', w'.ownsRow base e size v' (n + m) (xs ++ news) → w.grownBy w' v.ownBlock → (v' = .slice none 0 0 ↔ v = .slice none 0 0 ∧ m = 0) → (v'.ownBlock = v.ownBlock ∨ v'.ownBlock = some w.heap.size) → K (a.put o.dst v') w') :
  if Region.wanted o (yielded ops a.tmps) = true then Oper.wp Tryz.prog o a w K Q else E := by
 rw [if_pos (by simp [Region.wanted, hgd])]
 obtain ⟨v', w', hr, h2, h3, h4, h5⟩ := run_append_own_at (P := Tryz.prog) w base t o.type e i z size bytes ht hi hz hsize hby hzs hsz v n xs hown ad m c news hl hnews h1 h63 hbytes hbase
 unfold Oper.wp execOp
 simp only [ho, resolve, invoke, builtin, Sem.run_bind, Sem.run_pure, Result.andThen_ok, List.map_toArray, List.map_cons, List.map_nil, hs, hx, hr]
 exact h v' w' h2 h3 h4 h5
theorem row_le {a n c g k : Nat} (hg : (Value.slice (some ⟨a, 0, none⟩) n c).ownBlock = some g) (h : k ≤ a) : k ≤ g := by
 have h0 : a = g := by simpa [Value.ownBlock] using hg
 omega
theorem own_slice {w : World} {base n sz : Nat} {t : TypeId} {v : Value} {cs : List Value} (h : w.ownsRow base t sz v n cs) (hn : 0 < n) : ∃ g c, v = .slice (some ⟨g, 0, none⟩) n c := by
 rcases h.2 with ⟨_, h0⟩ | ⟨g, cap, cur, e, _⟩
 ·omega
 ·exact ⟨g, cap, e⟩
set_option maxHeartbeats 8000000 in
set_option maxRecDepth 100000 in
theorem stepUnion {q : Nat} {TL : List Tk} {E : Nat} {Pq : Nat → Prop} (hPq : ¬ Pq q) (X : Pl × PSt) (dq : List Dt) (hdq : dq.length = 16) (vq : List Value) (s : PSt) (w : World) (H : ParAt q TL E w s) (hq : RepC Pq w dq vq) (hk : (oneOfS stepWords s).1 = 6)
  (HM : ∀ w1, ParAt q TL E w1 (oneOfS stepWords s).2 → Calls Tryz.prog 56 #[pP q] w1 (AggTo q TL E w1 X.1.enc X.2)) :
  Calls Tryz.prog 58 #[pP q, .agg vq.toArray] w (PlanTo q TL E Pq w ({k := 7, args := [dq, X.1.enc]} : Pl).enc X.2) := by
 have cq := H.lt
 have crq : q < w.heap.size + 1 := by omega
 obtain ⟨i0, hi, hzi, hsi, hbi⟩ := info_parts plan_info
 have hlq : vq.length = 16 := hq.1.trans hdq
 have HOf := hide (fun A w1 (h : ParAt q TL E w1 s) (hA : StrW q w1 A stepWords) => oneOf_any A 8 stepWords w1 h hA (by decide))
 unfold StepTo at HOf
 rw [hk] at HOf
 unfold AggTo at HM
 replace HM := hide HM
 have h1q := hq.one_cell
 obtain ⟨W0, hW0⟩ : ∃ W0, W0 = (w.alloc (.cells vq.toArray 41)).alloc (.cells #[.int .i64 0, .string ⟨#[]⟩, .slice none 0 0, .int .i64 0, .string ⟨#[]⟩, .int .i64 0, .int .i64 0, .string ⟨#[]⟩, .string ⟨#[]⟩, .slice none 0 0, .slice none 0 0, .slice none 0 0, .slice none 0 0, .slice none 0 0, .slice none 0 0, .int .i64 0] 41) := ⟨_, rfl⟩
 have e0 : W0.heap.size = w.heap.size + 2 := by rw [hW0]; simp
 have HW0 := hide hW0
 have b0 : Below w.heap.size w W0 := by rw [hW0]; exact (Joins.below_alloc1 w _).alloc (Joins.below_alloc1 w _).size _
 have k0 : W0.heap[w.heap.size]? = some (.cells vq.toArray 41 (0, 0)) := by rw [hW0, Below.heap_alloc _ _ _ (by simp)]; exact heap_alloc_new _ _
 have k1 : W0.heap[w.heap.size + 1]? = some (.cells #[.int .i64 0, .string ⟨#[]⟩, .slice none 0 0, .int .i64 0, .string ⟨#[]⟩, .int .i64 0, .int .i64 0, .string ⟨#[]⟩, .string ⟨#[]⟩, .slice none 0 0, .slice none 0 0, .slice none 0 0, .slice none 0 0, .slice none 0 0, .slice none 0 0, .int .i64 0] 41 (0, 0)) := by rw [hW0, show w.heap.size + 1 = (w.alloc (.cells vq.toArray 41)).heap.size by simp]; exact heap_alloc_new _ _
 obtain ⟨W1, hW1⟩ : ∃ W1, W1 = W0.alloc (.cells vq.toArray 41) := ⟨_, rfl⟩
 have e1 : W1.heap.size = w.heap.size + 3 := by rw [hW1]; simp [e0]
 have HW1 := hide hW1
 have b1 : Below w.heap.size w W1 := by rw [hW1]; exact b0.alloc b0.size _
 obtain ⟨w2, hw2⟩ : ∃ w2, w2 = W1.alloc (.cells #[.int .i64 0, .string ⟨#[]⟩, .slice (some ⟨W0.heap.size, 0, none⟩) 1 1, .int .i64 0, .string ⟨#[]⟩, .int .i64 0, .int .i64 0, .string ⟨#[]⟩, .string ⟨#[]⟩, .slice none 0 0, .slice none 0 0, .slice none 0 0, .slice none 0 0, .slice none 0 0, .slice none 0 0, .int .i64 0] 41) := ⟨_, rfl⟩
 have HW2 := hide (show w2 = (W1.alloc (.cells #[.int .i64 0, .string ⟨#[]⟩, .slice none 0 0, .int .i64 0, .string ⟨#[]⟩, .int .i64 0, .int .i64 0, .string ⟨#[]⟩, .string ⟨#[]⟩, .slice none 0 0, .slice none 0 0, .slice none 0 0, .slice none 0 0, .slice none 0 0, .slice none 0 0, .int .i64 0] 41)).setRow W1.heap.size #[.int .i64 0, .string ⟨#[]⟩, .slice (some ⟨W0.heap.size, 0, none⟩) 1 1, .int .i64 0, .string ⟨#[]⟩, .int .i64 0, .int .i64 0, .string ⟨#[]⟩, .string ⟨#[]⟩, .slice none 0 0, .slice none 0 0, .slice none 0 0, .slice none 0 0, .slice none 0 0, .slice none 0 0, .int .i64 0] by rw [hw2, World.setRow_alloc_new])
 have b2 : Below w.heap.size w w2 := by rw [hw2]; exact b1.alloc b1.size _
 have e2 : w2.heap.size = w.heap.size + 4 := by rw [hw2]; simp [e1]
 have hz2 : w.heap.size + 4 ≤ w2.heap.size := Nat.le_of_eq e2.symm
 have H2 := hide (H.on b2)
 have HT2 := hide (Turn.of (q := q) b2)
 have HX := hide (show HoldB W1.heap.size 41 [.int .i64 0, .string ⟨#[]⟩, .slice (some ⟨W0.heap.size, 0, none⟩) 1 1, .int .i64 0, .string ⟨#[]⟩, .int .i64 0, .int .i64 0, .string ⟨#[]⟩, .string ⟨#[]⟩, .slice none 0 0, .slice none 0 0, .slice none 0 0, .slice none 0 0, .slice none 0 0, .slice none 0 0, .int .i64 0] w2 by rw [hw2]; exact heap_alloc_new _ _)
 have HB2 := hide (show BoxAt (w.heap.size + 1) 41 16 w2 by
  refine ⟨#[.int .i64 0, .string ⟨#[]⟩, .slice none 0 0, .int .i64 0, .string ⟨#[]⟩, .int .i64 0, .int .i64 0, .string ⟨#[]⟩, .string ⟨#[]⟩, .slice none 0 0, .slice none 0 0, .slice none 0 0, .slice none 0 0, .slice none 0 0, .slice none 0 0, .int .i64 0], ?_, rfl⟩
  rw [hw2, Below.heap_alloc _ _ _ (by omega), hW1, Below.heap_alloc _ _ _ (by omega)]; exact k1)
 have HAb := hide (show W0.heap.size < w2.heap.size by omega)
 have HAr := hide (show Rep (PSt' Pq w.heap.size W0.heap.size W1.heap.size) w2 (.row 16 [dq]) (.slice (some ⟨W0.heap.size, 0, none⟩) 1 1) from
  rep_one (t := 41) hq ⟨fun b hb h => Or.inl ⟨h, hb⟩, b2.size, fun b _ hb => b2.block b hb⟩ (Or.inr (Or.inl rfl)) (by omega) (by
   rw [hw2, Below.heap_alloc _ _ _ (by omega), hW1]; exact heap_alloc_new _ _))
 have hnp : ¬ PSt' Pq w.heap.size W0.heap.size W1.heap.size q := by
  rintro (h | h | h)
  ·exact hPq h.1
  ·omega
  ·omega
 have hlo0 : w.heap.size + 2 ≤ W0.heap.size := by omega
 have hlo1 : W0.heap.size < W1.heap.size := by omega
 have hlo2 : W1.heap.size < w2.heap.size := by omega
 have hqt : q < W1.heap.size := by omega
 have hup : W1.heap.size ≤ w.heap.size + 3 := by omega
 have hup0 : W0.heap.size ≤ w.heap.size + 2 := by omega
 have HK0 := hide k0
 have HAo := hide (show HoldB W0.heap.size 41 vq w2 by rw [hw2, HoldB, Below.heap_alloc _ _ _ (by omega), hW1]; exact heap_alloc_new _ _)
 have hqa : q < W0.heap.size := by omega
 unfold PlanTo
 clear hk e0 e1 e2 k0 k1 hW0 hW1 hw2 b0 b1 b2
 obtain ⟨w3, hw3⟩ : ∃ W, W = w2.alloc (.cells #[.string ⟨#[119, 104, 101, 114, 101]⟩, .string ⟨#[107, 101, 101, 112]⟩, .string ⟨#[106, 111, 105, 110]⟩, .string ⟨#[108, 101, 102, 116]⟩, .string ⟨#[103, 114, 111, 117, 112]⟩, .string ⟨#[117, 110, 105, 111, 110]⟩, .string ⟨#[100, 105, 115, 116, 105, 110, 99, 116]⟩, .string ⟨#[102, 105, 114, 115, 116]⟩] 9) := ⟨_, rfl⟩
 have HW3 := hide hw3
 have H3 := hide (show ParAt q TL E w3 _ by rw [hw3]; exact H2.out.alloc _)
 have HT3 := hide (show Turn q w w3 by rw [hw3]; exact HT2.out.alloc _)
 have hz3 : w.heap.size + 4 ≤ w3.heap.size := by rw [hw3]; simp; omega
 have HB3 := hide (show BoxAt (w.heap.size + 1) 41 16 w3 by rw [hw3]; exact HB2.out.turn ((Turn.refl q _).alloc _) crq)
 replace HAr := hide (HAr.out.stay (Stay.below (show Below w2.heap.size w2 w3 by rw [hw3]; exact Joins.below_alloc1 _ _)))
 replace HX := hide (show HoldB _ _ _ w3 by rw [hw3]; exact holds_turn HX.out ((Turn.refl q _).alloc _) hqt)
 replace HAo := hide (show HoldB _ _ _ w3 by rw [hw3]; exact holds_turn HAo.out ((Turn.refl q _).alloc _) hqa)
 have HS3 := hide (show StrW q w3 (some ⟨w2.heap.size, 0, none⟩) stepWords by rw [hw3]; exact strW_new w2 q stepWords _ (by omega))
 clear hw3 H2 HT2 HB2
 go_enter Tryz.func58, Tryz.ntmps58
 go_wp2_with (first | rw [← HW0.out] | rw [← HW3.out] | (refine wpList_loadBig rfl 41 _ rfl w.heap.size 16 vq big_plan hlq rfl HK0.out ?_) | (refine wpList_buildOne rfl 31 41 _ rfl 16 vq rfl hlq (by decide) (by decide) Tryz.underlying31 i0 _ hi hzi hsi ?_; rw [← HW1.out]) | (refine wpList_storeBig rfl 41 _ _ rfl W1.heap.size 16 [.int .i64 0, .string ⟨#[]⟩, .slice (some ⟨W0.heap.size, 0, none⟩) 1 1, .int .i64 0, .string ⟨#[]⟩, .int .i64 0, .int .i64 0, .string ⟨#[]⟩, .string ⟨#[]⟩, .slice none 0 0, .slice none 0 0, .slice none 0 0, .slice none 0 0, .slice none 0 0, .slice none 0 0, .int .i64 0] big_plan rfl (by simp [Value.oneCell']) rfl rfl (box_new _ _ _ rfl) ?_; rw [← HW2.out]))
 clear HW0 HW1 HW2 HW3 HK0
 refine (HOf.out _ w3 H3.out HS3.out).mono ?_
 rintro e w4 ⟨rfl, h, ht⟩
 have H4 := hide h
 have HT4 := hide (HT3.out.trans ht)
 have HB4 := hide (HB3.out.turn ht crq)
 have hz4 : w.heap.size + 4 ≤ w4.heap.size := Nat.le_trans hz3 ht.size
 replace HAr := hide (HAr.out.stay (Stay.turn ht hnp))
 replace HX := hide (holds_turn HX.out ht hqt)
 replace HAo := hide (holds_turn HAo.out ht hqa)
 clear h ht H3 HT3 HB3 HS3 HOf
 obtain ⟨w5, hw5⟩ : ∃ W, W = (w4.setCell ⟨W1.heap.size, 0, none⟩ (.int .i64 7)) := ⟨_, rfl⟩
 have HW5 := hide hw5
 have H5 := hide (show ParAt q TL E w5 _ by rw [hw5]; exact (H4.out.put (p := ⟨W1.heap.size, 0, none⟩) hqt _))
 have HT5 := hide (show Turn q w w5 by rw [hw5]; exact (HT4.out.put (p := ⟨W1.heap.size, 0, none⟩) (by simp; omega) _))
 have HX' := hide (show HoldB W1.heap.size 41 [.int .i64 7, .string ⟨#[]⟩, .slice (some ⟨W0.heap.size, 0, none⟩) 1 1, .int .i64 0, .string ⟨#[]⟩, .int .i64 0, .int .i64 0, .string ⟨#[]⟩, .string ⟨#[]⟩, .slice none 0 0, .slice none 0 0, .slice none 0 0, .slice none 0 0, .slice none 0 0, .slice none 0 0, .int .i64 0] w5 by rw [hw5]; exact (Joins.block_setCell (i := 0) HX.out _))
 have hz5 : w.heap.size + 4 ≤ w5.heap.size := by rw [hw5]; simp; omega
 have HB5 := hide (show BoxAt (w.heap.size + 1) 41 16 w5 by rw [hw5]; exact (HB4.out.set (by omega) _ _))
 have hst : Stay (PSt' Pq w.heap.size W0.heap.size W1.heap.size) (PSt' Pq w.heap.size W0.heap.size W1.heap.size) w4 w5 := ⟨fun _ _ h => h, by rw [hw5]; simp, fun b hb _ => by
  have hbt : b ≠ W1.heap.size := pst_ne hb (by omega) hlo1
  rw [hw5]; exact Below.heap_setCell w4 ⟨W1.heap.size, 0, none⟩ (.int .i64 7) b hbt⟩
 replace HAr := hide (HAr.out.stay hst)
 have HAo' := hide (show HoldB W0.heap.size 41 vq w5 by
  have b := W0.heap.size
  have hbt : W0.heap.size ≠ W1.heap.size := by omega
  rw [hw5]; exact (Below.heap_setCell w4 ⟨W1.heap.size, 0, none⟩ (.int .i64 7) W0.heap.size hbt).trans HAo.out)
 clear HAo
 have HAo := HAo'
 clear HAo' hst
 have x0 := Lib.cell_of_heap HX.out 0
 have x1 := Lib.cell_of_heap HX.out 1
 have x2 := Lib.cell_of_heap HX.out 2
 have x3 := Lib.cell_of_heap HX.out 3
 have x4 := Lib.cell_of_heap HX.out 4
 have x5 := Lib.cell_of_heap HX.out 5
 have x6 := Lib.cell_of_heap HX.out 6
 have x7 := Lib.cell_of_heap HX.out 7
 have x8 := Lib.cell_of_heap HX.out 8
 have x9 := Lib.cell_of_heap HX.out 9
 have x10 := Lib.cell_of_heap HX.out 10
 have x11 := Lib.cell_of_heap HX.out 11
 have x12 := Lib.cell_of_heap HX.out 12
 have x13 := Lib.cell_of_heap HX.out 13
 have x14 := Lib.cell_of_heap HX.out 14
 have x15 := Lib.cell_of_heap HX.out 15
 have xf := Lib.frozen_of_heap HX.out
 have xs := holds_size HX.out
 simp only [List.getElem?_toArray, List.getElem?_cons_zero, List.getElem?_cons_succ] at x0 x1 x2 x3 x4 x5 x6 x7 x8 x9 x10 x11 x12 x13 x14 x15
 have y0 := Lib.cell_of_heap HX'.out 0
 have y2 := Lib.cell_of_heap HX'.out 2
 have y4 := Lib.cell_of_heap HX'.out 10
 have y5 := Lib.cell_of_heap HX'.out 11
 simp only [List.getElem?_toArray, List.getElem?_cons_zero, List.getElem?_cons_succ] at y0 y2 y4 y5
 clear hw5
 go_wp2_with (first | rw [← HW5.out])
 clear xf xs x0 x1 x2 x3 x4 x5 x6 x7 x8 x9 x10 x11 x12 x13 x14 x15
 clear y0 y2 y4 y5 HX H4 HT4 HB4 HW5
 have HX := HX'
 clear HX'
 have HMp := hide (HM.out w5.drew (H5.out.on ((Below.refl _ _).drew)))
 clear HM
 refine wp_region_heldBut (S := fun w' => HoldB W1.heap.size 41 [.int .i64 7, .string ⟨#[]⟩, .slice (some ⟨W0.heap.size, 0, none⟩) 1 1, .int .i64 0, .string ⟨#[]⟩, .int .i64 0, .int .i64 0, .string ⟨#[]⟩, .string ⟨#[]⟩, .slice none 0 0, .slice none 0 0, .slice none 0 0, .slice none 0 0, .slice none 0 0, .slice none 0 0, .int .i64 0] w') (L := 7) (by kernel_rfl) (HX.out) (fun hS => ?_)
 refine heldBut_take (i := 0) (oi := ⟨some 82, _, _, _, _, _⟩) (v := ?_) rfl (by kernel_rfl) (by kernel_rfl) (by kernel_rfl) (by kernel_rfl) (fun _ _ _ h => h) (Or.inl ⟨by rfl, ?_⟩) hS ?_
 rotate_left 1
 ·intro w' hw'
  have x2 := Lib.cell_of_heap hw' 2; simp only [List.getElem?_toArray, List.getElem?_cons_zero, List.getElem?_cons_succ] at x2; have xs := holds_size hw'
  go_simp
  all_goals with_reducible rfl
 try simp only [Act.put, List.setIfInBounds_toArray, List.set_cons_zero, List.set_cons_succ]
 refine heldBut_take (i := 1) (oi := ⟨some 83, _, _, _, _, _⟩) (v := ?_) rfl (by kernel_rfl) (by kernel_rfl) (by kernel_rfl) (by kernel_rfl) (fun _ _ _ h => h) (Or.inl ⟨by rfl, ?_⟩) hS ?_
 rotate_left 1
 ·intro w' hw'
  have x2 := Lib.cell_of_heap hw' 2; simp only [List.getElem?_toArray, List.getElem?_cons_zero, List.getElem?_cons_succ] at x2; have xs := holds_size hw'
  go_simp
  all_goals with_reducible rfl
 try simp only [Act.put, List.setIfInBounds_toArray, List.set_cons_zero, List.set_cons_succ]
 refine heldBut_take (i := 2) (oi := ⟨some 84, _, _, _, _, _⟩) (v := ?_) rfl (by kernel_rfl) (by kernel_rfl) (by kernel_rfl) (by kernel_rfl) (fun _ _ _ h => h) (Or.inl ⟨by rfl, ?_⟩) hS ?_
 rotate_left 1
 ·intro w' hw'
  have x2 := Lib.cell_of_heap hw' 2; simp only [List.getElem?_toArray, List.getElem?_cons_zero, List.getElem?_cons_succ] at x2; have xs := holds_size hw'
  go_simp
  all_goals with_reducible rfl
 try simp only [Act.put, List.setIfInBounds_toArray, List.set_cons_zero, List.set_cons_succ]
 refine heldBut_one (i := 3) (o := ⟨some 85, _, _, _, _, _⟩) (by kernel_rfl) rfl (fun K hK => ?_)
 go_simp
 go_at_call 56
 refine (HMp.out).mono ?_
 rintro e wp ⟨vp, rfl, hv, hp, htp⟩
 have HTp := hide (Turn.trans ((Turn.refl q w5).drew) htp)
 have HSp := hide (holds_turn hS htp hqt)
 have HP := hide hp
 have HVp := hide hv
 have hlp : vp.length = 16 := hv.1.trans (enc_len _)
 have hop := hv.one_cell
 have hrow := own_of (base := w.heap.size) (holds_turn HAo.out HTp.out hqa) (by omega) hlq
 clear hv hp htp
 refine hK.out _ _ (Or.inr HSp.out) (fun hS => ?_)
 clear hK K
 replace hS := hS.resolve_left (by decide)
 try simp only [Act.put, List.setIfInBounds_toArray, List.set_cons_zero, List.set_cons_succ]
 refine heldBut_one (i := 4) (o := ⟨some 86, _, _, _, _, _⟩) (by kernel_rfl) rfl (fun K hK => ?_)
 refine step_buildOne rfl 31 41 _ rfl 16 vp rfl hlp (by decide) (by decide) Tryz.underlying31 i0 _ hi hzi hsi ?_
 refine hK.out _ _ (Or.inr (holds_turn HSp.out ((Turn.refl q wp).alloc _) hqt)) (fun hS => ?_)
 clear hK K
 replace hS := hS.resolve_left (by decide)
 try simp only [Act.put, List.setIfInBounds_toArray, List.set_cons_zero, List.set_cons_succ]
 refine heldBut_one (i := 5) (o := ⟨some 87, _, _, _, _, _⟩) (by kernel_rfl) rfl (fun K hK => ?_)
 refine step_append_own rfl _ _ 31 rfl w.heap.size 41 i0 _ 16 272 Tryz.underlying31 hi hzi hsi hbi rfl (by decide) (.slice (some ⟨W0.heap.size, 0, none⟩) 1 1) 1 vq rfl (hrow.alloc _) ⟨wp.heap.size, 0, none⟩ 1 1 vp rfl (by rw [hlp]) (new_cells _ _ _ _ rfl) hop (by decide) (by decide) (by have := HTp.out.size; simp; omega) ?_
 intro va wa hown hgrow _ hat
 obtain ⟨ga, ca, rfl⟩ := own_slice hown (by decide)
 have HTa := hide (Turn.grown ((HT5.out.trans HTp.out).alloc (.cells vp.toArray 41)) hgrow (fun g hg => row_le hg (by omega)))
 have HGr := hide hgrow
 have HOw := hide hown
 have HAt := hide hat
 have HSa := hide (show HoldB W1.heap.size 41 [.int .i64 7, .string ⟨#[]⟩, .slice (some ⟨W0.heap.size, 0, none⟩) 1 1, .int .i64 0, .string ⟨#[]⟩, .int .i64 0, .int .i64 0, .string ⟨#[]⟩, .string ⟨#[]⟩, .slice none 0 0, .slice none 0 0, .slice none 0 0, .slice none 0 0, .slice none 0 0, .slice none 0 0, .int .i64 0] wa from (hgrow.block W1.heap.size (by have := holds_size HSp.out; simp; omega) (by simp [Value.ownBlock]; omega)).trans (holds_turn HSp.out ((Turn.refl q wp).alloc _) hqt))
 clear hown hgrow hat hrow
 refine hK.out _ _ (Or.inr HSa.out) (fun hS => ?_)
 clear hK K
 replace hS := hS.resolve_left (by decide)
 try simp only [Act.put, List.setIfInBounds_toArray, List.set_cons_zero, List.set_cons_succ]
 refine heldBut_take (i := 6) (oi := ⟨some 88, _, _, _, _, _⟩) (v := ?_) rfl (by kernel_rfl) (by kernel_rfl) (by kernel_rfl) (by kernel_rfl) (fun _ _ _ h => h) (Or.inl ⟨by rfl, ?_⟩) hS ?_
 rotate_left 1
 ·intro w' hw'
  have x2 := Lib.cell_of_heap hw' 2; simp only [List.getElem?_toArray, List.getElem?_cons_zero, List.getElem?_cons_succ] at x2; have xs := holds_size hw'
  go_simp
  all_goals with_reducible rfl
 try simp only [Act.put, List.setIfInBounds_toArray, List.set_cons_zero, List.set_cons_succ]
 refine heldBut_one (i := 7) (o := ⟨none, _, _, _, _, _⟩) (by kernel_rfl) rfl (fun K hK => ?_)
 have hfa := Lib.frozen_of_heap HSa.out
 have hxa := Lib.cell_of_heap HSa.out 2
 simp only [List.getElem?_toArray, List.getElem?_cons_zero, List.getElem?_cons_succ] at hxa
 go_simp
 clear hfa hxa
 refine hK.out _ _ (Or.inl rfl) (fun hS => ?_)
 clear hK K
 try simp only [Act.put]
 refine heldBut_done (by kernel_rfl) ?_ _
 obtain ⟨w6, hw6⟩ : ∃ W, W = wa.setCell ⟨W1.heap.size, 2, none⟩ (.slice (some ⟨ga, 0, none⟩) 2 ca) := ⟨_, rfl⟩
 have HW6 := hide hw6
 have hszp := HTp.out.size
 have hsza := HGr.out.size
 have hszq : wp.heap.size < wa.heap.size := by simp at hsza; omega
 have HWaT := HTa
 have HPa := hide (show ParAt q TL E wa X.2 from (HP.out.alloc (.cells vp.toArray 41)).grown HGr.out (fun g hg => row_le hg (by omega)))
 have H6 := hide (show ParAt q TL E w6 X.2 by rw [hw6]; exact HPa.out.put (p := ⟨W1.heap.size, 2, none⟩) hqt _)
 have HT6 := hide (show Turn q w w6 by rw [hw6]; exact HWaT.out.put (p := ⟨W1.heap.size, 2, none⟩) (by simp; omega) _)
 have HX' := hide (show HoldB W1.heap.size 41 [.int .i64 7, .string ⟨#[]⟩, .slice (some ⟨ga, 0, none⟩) 2 ca, .int .i64 0, .string ⟨#[]⟩, .int .i64 0, .int .i64 0, .string ⟨#[]⟩, .string ⟨#[]⟩, .slice none 0 0, .slice none 0 0, .slice none 0 0, .slice none 0 0, .slice none 0 0, .slice none 0 0, .int .i64 0] w6 by rw [hw6]; exact Joins.block_setCell (i := 2) HSa.out _)
 have hz6 : w.heap.size + 4 ≤ w6.heap.size := by rw [hw6]; simp; omega
 have HB6 := hide (show BoxAt (w.heap.size + 1) 41 16 w6 by
  obtain ⟨o, h, hn⟩ := HB5.out.turn (HTp.out.alloc (.cells vp.toArray 41)) crq
  rw [hw6]
  exact BoxAt.set ⟨o, (HGr.out.block (w.heap.size + 1) (by simp; omega) (by simp [Value.ownBlock]; omega)).trans h, hn⟩ (by omega) _ _)
 have HAr' := hide (show Rep (PSt' Pq w.heap.size W0.heap.size W1.heap.size) w6 (.row 16 [dq, X.1.enc]) (.slice (some ⟨ga, 0, none⟩) 2 ca) from by
  have hset : ∀ b, b ≠ W1.heap.size → w6.heap[b]? = wa.heap[b]? := fun b hb => by rw [hw6]; exact Below.heap_setCell _ _ _ _ hb
  have hga : ga = W0.heap.size ∨ W1.heap.size < ga := by
   rcases HAt.out with h | h
   ·simp [Value.ownBlock] at h; exact Or.inl h
   ·simp [Value.ownBlock] at h; exact Or.inr (by omega)
  have r1 : RepC (PSt' Pq w.heap.size W0.heap.size W1.heap.size) w6 dq vq := hq.stay ⟨fun b hb h => Or.inl ⟨h, hb⟩, HT6.out.size, fun b hb hlt => HT6.out.block b hlt (by rintro ⟨⟩; exact hPq hb)⟩
  have r2 : RepC (PSt' Pq w.heap.size W0.heap.size W1.heap.size) w6 X.1.enc vp := HVp.out.stay ⟨fun b hb h => Or.inr (Or.inr (by have h2 : w5.drew.heap.size ≤ b := h; have h3 : w5.heap.size ≤ b := h2; omega)), by rw [hw6]; simp; omega, fun b h hlt => by
   have h3 : w5.heap.size ≤ b := h
   rw [hset b (by omega), HGr.out.block b (by simp; omega) (by simp [Value.ownBlock]; omega)]
   exact Below.heap_alloc _ _ _ hlt⟩
  refine rep_of_row (base := w.heap.size) (t := 41) (cs := vq ++ vp) (els := [dq, X.1.enc]) ?_ (fun g hg => ?_) ⟨fun e he => ?_, ?_⟩
  ·have ho := HOw.out
   rw [hw6]
   have hne : ga ≠ W1.heap.size := by rcases hga with h | h <;> omega
   exact ownsRow_setCell_other (a := ⟨W1.heap.size, 2, none⟩) ho (fun e => hne (by simpa [Value.ownBlock] using e)) _
  ·have h0 : ga = g := by simpa [Value.ownBlock] using hg
   rcases hga with h | h
   ·exact Or.inr (Or.inl (by omega))
   ·exact Or.inr (Or.inr (by omega))
  ·simp at he; rcases he with rfl | rfl; exact hdq; exact enc_len _
  ·simp only [List.flatten_cons, List.flatten_nil, List.append_nil]
   exact r1.append r2)
 clear HAr HAo HWaT HPa HTa HGr HOw HAt HSa HSp HVp HTp HP hS
 have HAr := HAr'
 clear HAr'
 rw [← HW6.out]
 clear hw6 HW6 HX H5 HT5 HB5
 have HX := HX'
 clear HX'
 have x0 := Lib.cell_of_heap HX.out 0
 have x1 := Lib.cell_of_heap HX.out 1
 have x2 := Lib.cell_of_heap HX.out 2
 have x3 := Lib.cell_of_heap HX.out 3
 have x4 := Lib.cell_of_heap HX.out 4
 have x5 := Lib.cell_of_heap HX.out 5
 have x6 := Lib.cell_of_heap HX.out 6
 have x7 := Lib.cell_of_heap HX.out 7
 have x8 := Lib.cell_of_heap HX.out 8
 have x9 := Lib.cell_of_heap HX.out 9
 have x10 := Lib.cell_of_heap HX.out 10
 have x11 := Lib.cell_of_heap HX.out 11
 have x12 := Lib.cell_of_heap HX.out 12
 have x13 := Lib.cell_of_heap HX.out 13
 have x14 := Lib.cell_of_heap HX.out 14
 have x15 := Lib.cell_of_heap HX.out 15
 have xf := Lib.frozen_of_heap HX.out
 have xs := holds_size HX.out
 simp only [List.getElem?_toArray, List.getElem?_cons_zero, List.getElem?_cons_succ] at x0 x1 x2 x3 x4 x5 x6 x7 x8 x9 x10 x11 x12 x13 x14 x15
 go_wp2_with (first | (refine wpList_loadBig rfl 41 _ rfl W1.heap.size 16 [.int .i64 7, .string ⟨#[]⟩, .slice (some ⟨ga, 0, none⟩) 2 ca, .int .i64 0, .string ⟨#[]⟩, .int .i64 0, .int .i64 0, .string ⟨#[]⟩, .string ⟨#[]⟩, .slice none 0 0, .slice none 0 0, .slice none 0 0, .slice none 0 0, .slice none 0 0, .slice none 0 0, .int .i64 0] big_plan rfl rfl HX.out ?_) | (refine wpList_storeBig rfl 41 _ _ rfl (w.heap.size + 1) 16 [.int .i64 7, .string ⟨#[]⟩, .slice (some ⟨ga, 0, none⟩) 2 ca, .int .i64 0, .string ⟨#[]⟩, .int .i64 0, .int .i64 0, .string ⟨#[]⟩, .string ⟨#[]⟩, .slice none 0 0, .slice none 0 0, .slice none 0 0, .slice none 0 0, .slice none 0 0, .slice none 0 0, .int .i64 0] big_plan rfl (by intro u hu; simp only [List.mem_cons, List.not_mem_nil, or_false] at hu; rcases hu with rfl | rfl | rfl | rfl | rfl | rfl | rfl | rfl | rfl | rfl | rfl | rfl | rfl | rfl | rfl | rfl <;> rfl) rfl rfl HB6.out ?_))
 clear xf xs x0 x1 x2 x3 x4 x5 x6 x7 x8 x9 x10 x11 x12 x13 x14 x15
 refine bodyPost_ret (v := .agg #[.int .i64 7, .string ⟨#[]⟩, .slice (some ⟨ga, 0, none⟩) 2 ca, .int .i64 0, .string ⟨#[]⟩, .int .i64 0, .int .i64 0, .string ⟨#[]⟩, .string ⟨#[]⟩, .slice none 0 0, .slice none 0 0, .slice none 0 0, .slice none 0 0, .slice none 0 0, .slice none 0 0, .int .i64 0]) (results_big (vs := [.int .i64 7, .string ⟨#[]⟩, .slice (some ⟨ga, 0, none⟩) 2 ca, .int .i64 0, .string ⟨#[]⟩, .int .i64 0, .int .i64 0, .string ⟨#[]⟩, .string ⟨#[]⟩, .slice none 0 0, .slice none 0 0, .slice none 0 0, .slice none 0 0, .slice none 0 0, .slice none 0 0, .int .i64 0]) rfl rfl big_plan rfl (set_row _ HB6.out.choose_spec.1)) rfl ?_
 exact ⟨[.int .i64 7, .string ⟨#[]⟩, .slice (some ⟨ga, 0, none⟩) 2 ca, .int .i64 0, .string ⟨#[]⟩, .int .i64 0, .int .i64 0, .string ⟨#[]⟩, .string ⟨#[]⟩, .slice none 0 0, .slice none 0 0, .slice none 0 0, .slice none 0 0, .slice none 0 0, .slice none 0 0, .int .i64 0], rfl, (rep_plan (p := {k := 7, args := [dq, X.1.enc]}) HAr.out (rep_zeroE _ _) (rep_nil _ _ _) (rep_nil _ _ _) (rep_nil _ _ _) (rep_nil _ _ _) (rep_nil _ _ _)).stay (pst_fin _ _ hlo0 (by omega)), H6.out.row crq _, HT6.out.row (Nat.le_succ _) _⟩
end Go.Proofs.YtljoajjlkjjgeaaGreatDoor
namespace Go.Proofs.YtljoajjlkjjgeaaGreatDoor
open Go.RowKit Go.Sort LM Go

attribute [local go_sem] fld_tok0 fld_tok1 fld_tok2
set_option maxHeartbeats 8000000 in
set_option maxRecDepth 100000 in
theorem stepJoin {q : Nat} {TL : List Tk} {E : Nat} {Pq : Nat → Prop} (hPq : ¬ Pq q) (X : Pl × PSt) (Y : List (ByteArray × ByteArray) × PSt) (dq : List Dt) (hdq : dq.length = 16) (vq : List Value) (s : PSt) (w : World) (H : ParAt q TL E w s) (hq : RepC Pq w dq vq) (hk : (oneOfS stepWords s).1 = 3)
  (HM : ∀ w1, ParAt q TL E w1 (oneOfS stepWords s).2 → Calls Tryz.prog 56 #[pP q] w1 (AggTo q TL E w1 X.1.enc X.2))
  (HM2 : ∀ w1, ParAt q TL E w1 (expectS [111, 110] X.2) → Calls Tryz.prog 76 #[pP q, .func (.func 77) #[pP q] #[]] w1 (OneTo q TL E w1 (.row 2 (Y.1.map dPair)) Y.2)) :
  Calls Tryz.prog 58 #[pP q, .agg vq.toArray] w (PlanTo q TL E Pq w ({k := 4, args := [dq, X.1.enc], on := Y.1} : Pl).enc Y.2) := by
 have cq := H.lt
 have crq : q < w.heap.size + 1 := by omega
 obtain ⟨i0, hi, hzi, hsi, hbi⟩ := info_parts plan_info
 have hlq : vq.length = 16 := hq.1.trans hdq
 have HOf := hide (fun A w1 (h : ParAt q TL E w1 s) (hA : StrW q w1 A stepWords) => oneOf_any A 8 stepWords w1 h hA (by decide))
 unfold StepTo at HOf
 rw [hk] at HOf
 have HEx := hide (fun w1 (h : ParAt q TL E w1 X.2) => expect_any [111, 110] w1 h)
 unfold StepTo at HEx
 unfold AggTo at HM
 unfold OneTo at HM2
 replace HM := hide HM
 replace HM2 := hide HM2
 have h1q := hq.one_cell
 obtain ⟨W0, hW0⟩ : ∃ W0, W0 = (w.alloc (.cells vq.toArray 41)).alloc (.cells #[.int .i64 0, .string ⟨#[]⟩, .slice none 0 0, .int .i64 0, .string ⟨#[]⟩, .int .i64 0, .int .i64 0, .string ⟨#[]⟩, .string ⟨#[]⟩, .slice none 0 0, .slice none 0 0, .slice none 0 0, .slice none 0 0, .slice none 0 0, .slice none 0 0, .int .i64 0] 41) := ⟨_, rfl⟩
 have e0 : W0.heap.size = w.heap.size + 2 := by rw [hW0]; simp
 have HW0 := hide hW0
 have b0 : Below w.heap.size w W0 := by rw [hW0]; exact (Joins.below_alloc1 w _).alloc (Joins.below_alloc1 w _).size _
 have k0 : W0.heap[w.heap.size]? = some (.cells vq.toArray 41 (0, 0)) := by rw [hW0, Below.heap_alloc _ _ _ (by simp)]; exact heap_alloc_new _ _
 have k1 : W0.heap[w.heap.size + 1]? = some (.cells #[.int .i64 0, .string ⟨#[]⟩, .slice none 0 0, .int .i64 0, .string ⟨#[]⟩, .int .i64 0, .int .i64 0, .string ⟨#[]⟩, .string ⟨#[]⟩, .slice none 0 0, .slice none 0 0, .slice none 0 0, .slice none 0 0, .slice none 0 0, .slice none 0 0, .int .i64 0] 41 (0, 0)) := by rw [hW0, show w.heap.size + 1 = (w.alloc (.cells vq.toArray 41)).heap.size by simp]; exact heap_alloc_new _ _
 obtain ⟨W1, hW1⟩ : ∃ W1, W1 = W0.alloc (.cells vq.toArray 41) := ⟨_, rfl⟩
 have e1 : W1.heap.size = w.heap.size + 3 := by rw [hW1]; simp [e0]
 have HW1 := hide hW1
 have b1 : Below w.heap.size w W1 := by rw [hW1]; exact b0.alloc b0.size _
 obtain ⟨w2, hw2⟩ : ∃ w2, w2 = W1.alloc (.cells #[.int .i64 0, .string ⟨#[]⟩, .slice (some ⟨W0.heap.size, 0, none⟩) 1 1, .int .i64 0, .string ⟨#[]⟩, .int .i64 0, .int .i64 0, .string ⟨#[]⟩, .string ⟨#[]⟩, .slice none 0 0, .slice none 0 0, .slice none 0 0, .slice none 0 0, .slice none 0 0, .slice none 0 0, .int .i64 0] 41) := ⟨_, rfl⟩
 have HW2 := hide (show w2 = (W1.alloc (.cells #[.int .i64 0, .string ⟨#[]⟩, .slice none 0 0, .int .i64 0, .string ⟨#[]⟩, .int .i64 0, .int .i64 0, .string ⟨#[]⟩, .string ⟨#[]⟩, .slice none 0 0, .slice none 0 0, .slice none 0 0, .slice none 0 0, .slice none 0 0, .slice none 0 0, .int .i64 0] 41)).setRow W1.heap.size #[.int .i64 0, .string ⟨#[]⟩, .slice (some ⟨W0.heap.size, 0, none⟩) 1 1, .int .i64 0, .string ⟨#[]⟩, .int .i64 0, .int .i64 0, .string ⟨#[]⟩, .string ⟨#[]⟩, .slice none 0 0, .slice none 0 0, .slice none 0 0, .slice none 0 0, .slice none 0 0, .slice none 0 0, .int .i64 0] by rw [hw2, World.setRow_alloc_new])
 have b2 : Below w.heap.size w w2 := by rw [hw2]; exact b1.alloc b1.size _
 have e2 : w2.heap.size = w.heap.size + 4 := by rw [hw2]; simp [e1]
 have hz2 : w.heap.size + 4 ≤ w2.heap.size := Nat.le_of_eq e2.symm
 have H2 := hide (H.on b2)
 have HT2 := hide (Turn.of (q := q) b2)
 have HX := hide (show HoldB W1.heap.size 41 [.int .i64 0, .string ⟨#[]⟩, .slice (some ⟨W0.heap.size, 0, none⟩) 1 1, .int .i64 0, .string ⟨#[]⟩, .int .i64 0, .int .i64 0, .string ⟨#[]⟩, .string ⟨#[]⟩, .slice none 0 0, .slice none 0 0, .slice none 0 0, .slice none 0 0, .slice none 0 0, .slice none 0 0, .int .i64 0] w2 by rw [hw2]; exact heap_alloc_new _ _)
 have HB2 := hide (show BoxAt (w.heap.size + 1) 41 16 w2 by
  refine ⟨#[.int .i64 0, .string ⟨#[]⟩, .slice none 0 0, .int .i64 0, .string ⟨#[]⟩, .int .i64 0, .int .i64 0, .string ⟨#[]⟩, .string ⟨#[]⟩, .slice none 0 0, .slice none 0 0, .slice none 0 0, .slice none 0 0, .slice none 0 0, .slice none 0 0, .int .i64 0], ?_, rfl⟩
  rw [hw2, Below.heap_alloc _ _ _ (by omega), hW1, Below.heap_alloc _ _ _ (by omega)]; exact k1)
 have HAb := hide (show W0.heap.size < w2.heap.size by omega)
 have HAr := hide (show Rep (PSt' Pq w.heap.size W0.heap.size W1.heap.size) w2 (.row 16 [dq]) (.slice (some ⟨W0.heap.size, 0, none⟩) 1 1) from
  rep_one (t := 41) hq ⟨fun b hb h => Or.inl ⟨h, hb⟩, b2.size, fun b _ hb => b2.block b hb⟩ (Or.inr (Or.inl rfl)) (by omega) (by
   rw [hw2, Below.heap_alloc _ _ _ (by omega), hW1]; exact heap_alloc_new _ _))
 have hnp : ¬ PSt' Pq w.heap.size W0.heap.size W1.heap.size q := by
  rintro (h | h | h)
  ·exact hPq h.1
  ·omega
  ·omega
 have hlo0 : w.heap.size + 2 ≤ W0.heap.size := by omega
 have hlo1 : W0.heap.size < W1.heap.size := by omega
 have hlo2 : W1.heap.size < w2.heap.size := by omega
 have hqt : q < W1.heap.size := by omega
 have hup : W1.heap.size ≤ w.heap.size + 3 := by omega
 have hup0 : W0.heap.size ≤ w.heap.size + 2 := by omega
 have HK0 := hide k0
 have HAo := hide (show HoldB W0.heap.size 41 vq w2 by rw [hw2, HoldB, Below.heap_alloc _ _ _ (by omega), hW1]; exact heap_alloc_new _ _)
 have hqa : q < W0.heap.size := by omega
 unfold PlanTo
 clear hk e0 e1 e2 k0 k1 hW0 hW1 hw2 b0 b1 b2
 obtain ⟨w3, hw3⟩ : ∃ W, W = w2.alloc (.cells #[.string ⟨#[119, 104, 101, 114, 101]⟩, .string ⟨#[107, 101, 101, 112]⟩, .string ⟨#[106, 111, 105, 110]⟩, .string ⟨#[108, 101, 102, 116]⟩, .string ⟨#[103, 114, 111, 117, 112]⟩, .string ⟨#[117, 110, 105, 111, 110]⟩, .string ⟨#[100, 105, 115, 116, 105, 110, 99, 116]⟩, .string ⟨#[102, 105, 114, 115, 116]⟩] 9) := ⟨_, rfl⟩
 have HW3 := hide hw3
 have H3 := hide (show ParAt q TL E w3 _ by rw [hw3]; exact H2.out.alloc _)
 have HT3 := hide (show Turn q w w3 by rw [hw3]; exact HT2.out.alloc _)
 have hz3 : w.heap.size + 4 ≤ w3.heap.size := by rw [hw3]; simp; omega
 have HB3 := hide (show BoxAt (w.heap.size + 1) 41 16 w3 by rw [hw3]; exact HB2.out.turn ((Turn.refl q _).alloc _) crq)
 replace HAr := hide (HAr.out.stay (Stay.below (show Below w2.heap.size w2 w3 by rw [hw3]; exact Joins.below_alloc1 _ _)))
 replace HX := hide (show HoldB _ _ _ w3 by rw [hw3]; exact holds_turn HX.out ((Turn.refl q _).alloc _) hqt)
 replace HAo := hide (show HoldB _ _ _ w3 by rw [hw3]; exact holds_turn HAo.out ((Turn.refl q _).alloc _) hqa)
 have HS3 := hide (show StrW q w3 (some ⟨w2.heap.size, 0, none⟩) stepWords by rw [hw3]; exact strW_new w2 q stepWords _ (by omega))
 clear hw3 H2 HT2 HB2
 go_enter Tryz.func58, Tryz.ntmps58
 go_wp2_with (first | rw [← HW0.out] | rw [← HW3.out] | (refine wpList_loadBig rfl 41 _ rfl w.heap.size 16 vq big_plan hlq rfl HK0.out ?_) | (refine wpList_buildOne rfl 31 41 _ rfl 16 vq rfl hlq (by decide) (by decide) Tryz.underlying31 i0 _ hi hzi hsi ?_; rw [← HW1.out]) | (refine wpList_storeBig rfl 41 _ _ rfl W1.heap.size 16 [.int .i64 0, .string ⟨#[]⟩, .slice (some ⟨W0.heap.size, 0, none⟩) 1 1, .int .i64 0, .string ⟨#[]⟩, .int .i64 0, .int .i64 0, .string ⟨#[]⟩, .string ⟨#[]⟩, .slice none 0 0, .slice none 0 0, .slice none 0 0, .slice none 0 0, .slice none 0 0, .slice none 0 0, .int .i64 0] big_plan rfl (by simp [Value.oneCell']) rfl rfl (box_new _ _ _ rfl) ?_; rw [← HW2.out]))
 clear HW0 HW1 HW2 HW3 HK0
 refine (HOf.out _ w3 H3.out HS3.out).mono ?_
 rintro e w4 ⟨rfl, h, ht⟩
 have H4 := hide h
 have HT4 := hide (HT3.out.trans ht)
 have HB4 := hide (HB3.out.turn ht crq)
 have hz4 : w.heap.size + 4 ≤ w4.heap.size := Nat.le_trans hz3 ht.size
 replace HAr := hide (HAr.out.stay (Stay.turn ht hnp))
 replace HX := hide (holds_turn HX.out ht hqt)
 replace HAo := hide (holds_turn HAo.out ht hqa)
 clear h ht H3 HT3 HB3 HS3 HOf
 obtain ⟨w5, hw5⟩ : ∃ W, W = (w4.setCell ⟨W1.heap.size, 0, none⟩ (.int .i64 4)) := ⟨_, rfl⟩
 have HW5 := hide hw5
 have H5 := hide (show ParAt q TL E w5 _ by rw [hw5]; exact (H4.out.put (p := ⟨W1.heap.size, 0, none⟩) hqt _))
 have HT5 := hide (show Turn q w w5 by rw [hw5]; exact (HT4.out.put (p := ⟨W1.heap.size, 0, none⟩) (by simp; omega) _))
 have HX' := hide (show HoldB W1.heap.size 41 [.int .i64 4, .string ⟨#[]⟩, .slice (some ⟨W0.heap.size, 0, none⟩) 1 1, .int .i64 0, .string ⟨#[]⟩, .int .i64 0, .int .i64 0, .string ⟨#[]⟩, .string ⟨#[]⟩, .slice none 0 0, .slice none 0 0, .slice none 0 0, .slice none 0 0, .slice none 0 0, .slice none 0 0, .int .i64 0] w5 by rw [hw5]; exact (Joins.block_setCell (i := 0) HX.out _))
 have hz5 : w.heap.size + 4 ≤ w5.heap.size := by rw [hw5]; simp; omega
 have HB5 := hide (show BoxAt (w.heap.size + 1) 41 16 w5 by rw [hw5]; exact (HB4.out.set (by omega) _ _))
 have hst : Stay (PSt' Pq w.heap.size W0.heap.size W1.heap.size) (PSt' Pq w.heap.size W0.heap.size W1.heap.size) w4 w5 := ⟨fun _ _ h => h, by rw [hw5]; simp, fun b hb _ => by
  have hbt : b ≠ W1.heap.size := pst_ne hb (by omega) hlo1
  rw [hw5]; exact Below.heap_setCell w4 ⟨W1.heap.size, 0, none⟩ (.int .i64 4) b hbt⟩
 replace HAr := hide (HAr.out.stay hst)
 have HAo' := hide (show HoldB W0.heap.size 41 vq w5 by
  have b := W0.heap.size
  have hbt : W0.heap.size ≠ W1.heap.size := by omega
  rw [hw5]; exact (Below.heap_setCell w4 ⟨W1.heap.size, 0, none⟩ (.int .i64 4) W0.heap.size hbt).trans HAo.out)
 clear HAo
 have HAo := HAo'
 clear HAo' hst
 have x0 := Lib.cell_of_heap HX.out 0
 have x1 := Lib.cell_of_heap HX.out 1
 have x2 := Lib.cell_of_heap HX.out 2
 have x3 := Lib.cell_of_heap HX.out 3
 have x4 := Lib.cell_of_heap HX.out 4
 have x5 := Lib.cell_of_heap HX.out 5
 have x6 := Lib.cell_of_heap HX.out 6
 have x7 := Lib.cell_of_heap HX.out 7
 have x8 := Lib.cell_of_heap HX.out 8
 have x9 := Lib.cell_of_heap HX.out 9
 have x10 := Lib.cell_of_heap HX.out 10
 have x11 := Lib.cell_of_heap HX.out 11
 have x12 := Lib.cell_of_heap HX.out 12
 have x13 := Lib.cell_of_heap HX.out 13
 have x14 := Lib.cell_of_heap HX.out 14
 have x15 := Lib.cell_of_heap HX.out 15
 have xf := Lib.frozen_of_heap HX.out
 have xs := holds_size HX.out
 simp only [List.getElem?_toArray, List.getElem?_cons_zero, List.getElem?_cons_succ] at x0 x1 x2 x3 x4 x5 x6 x7 x8 x9 x10 x11 x12 x13 x14 x15
 have y0 := Lib.cell_of_heap HX'.out 0
 have y2 := Lib.cell_of_heap HX'.out 2
 have y4 := Lib.cell_of_heap HX'.out 10
 have y5 := Lib.cell_of_heap HX'.out 11
 simp only [List.getElem?_toArray, List.getElem?_cons_zero, List.getElem?_cons_succ] at y0 y2 y4 y5
 clear hw5
 go_wp2_with (first | rw [← HW5.out])
 clear xf xs x0 x1 x2 x3 x4 x5 x6 x7 x8 x9 x10 x11 x12 x13 x14 x15
 clear y0 y2 y4 y5 HX H4 HT4 HB4 HW5
 have HX := HX'
 clear HX'
 have HMp := hide (HM.out w5.drew (H5.out.on ((Below.refl _ _).drew)))
 clear HM
 refine wp_region_heldBut (S := fun w' => HoldB W1.heap.size 41 [.int .i64 4, .string ⟨#[]⟩, .slice (some ⟨W0.heap.size, 0, none⟩) 1 1, .int .i64 0, .string ⟨#[]⟩, .int .i64 0, .int .i64 0, .string ⟨#[]⟩, .string ⟨#[]⟩, .slice none 0 0, .slice none 0 0, .slice none 0 0, .slice none 0 0, .slice none 0 0, .slice none 0 0, .int .i64 0] w') (L := 7) (by kernel_rfl) (HX.out) (fun hS => ?_)
 refine heldBut_take (i := 0) (oi := ⟨some 52, _, _, _, _, _⟩) (v := ?_) rfl (by kernel_rfl) (by kernel_rfl) (by kernel_rfl) (by kernel_rfl) (fun _ _ _ h => h) (Or.inl ⟨by rfl, ?_⟩) hS ?_
 rotate_left 1
 ·intro w' hw'
  have x2 := Lib.cell_of_heap hw' 2; simp only [List.getElem?_toArray, List.getElem?_cons_zero, List.getElem?_cons_succ] at x2; have xs := holds_size hw'
  go_simp
  all_goals with_reducible rfl
 try simp only [Act.put, List.setIfInBounds_toArray, List.set_cons_zero, List.set_cons_succ]
 refine heldBut_take (i := 1) (oi := ⟨some 53, _, _, _, _, _⟩) (v := ?_) rfl (by kernel_rfl) (by kernel_rfl) (by kernel_rfl) (by kernel_rfl) (fun _ _ _ h => h) (Or.inl ⟨by rfl, ?_⟩) hS ?_
 rotate_left 1
 ·intro w' hw'
  have x2 := Lib.cell_of_heap hw' 2; simp only [List.getElem?_toArray, List.getElem?_cons_zero, List.getElem?_cons_succ] at x2; have xs := holds_size hw'
  go_simp
  all_goals with_reducible rfl
 try simp only [Act.put, List.setIfInBounds_toArray, List.set_cons_zero, List.set_cons_succ]
 refine heldBut_take (i := 2) (oi := ⟨some 54, _, _, _, _, _⟩) (v := ?_) rfl (by kernel_rfl) (by kernel_rfl) (by kernel_rfl) (by kernel_rfl) (fun _ _ _ h => h) (Or.inl ⟨by rfl, ?_⟩) hS ?_
 rotate_left 1
 ·intro w' hw'
  have x2 := Lib.cell_of_heap hw' 2; simp only [List.getElem?_toArray, List.getElem?_cons_zero, List.getElem?_cons_succ] at x2; have xs := holds_size hw'
  go_simp
  all_goals with_reducible rfl
 try simp only [Act.put, List.setIfInBounds_toArray, List.set_cons_zero, List.set_cons_succ]
 refine heldBut_one (i := 3) (o := ⟨some 55, _, _, _, _, _⟩) (by kernel_rfl) rfl (fun K hK => ?_)
 go_simp
 go_at_call 56
 refine (HMp.out).mono ?_
 rintro e wp ⟨vp, rfl, hv, hp, htp⟩
 have HTp := hide (Turn.trans ((Turn.refl q w5).drew) htp)
 have HSp := hide (holds_turn hS htp hqt)
 have HP := hide hp
 have HVp := hide hv
 have hlp : vp.length = 16 := hv.1.trans (enc_len _)
 have hop := hv.one_cell
 have hrow := own_of (base := w.heap.size) (holds_turn HAo.out HTp.out hqa) (by omega) hlq
 clear hv hp htp
 refine hK.out _ _ (Or.inr HSp.out) (fun hS => ?_)
 clear hK K
 replace hS := hS.resolve_left (by decide)
 try simp only [Act.put, List.setIfInBounds_toArray, List.set_cons_zero, List.set_cons_succ]
 refine heldBut_one (i := 4) (o := ⟨some 56, _, _, _, _, _⟩) (by kernel_rfl) rfl (fun K hK => ?_)
 refine step_buildOne rfl 31 41 _ rfl 16 vp rfl hlp (by decide) (by decide) Tryz.underlying31 i0 _ hi hzi hsi ?_
 refine hK.out _ _ (Or.inr (holds_turn HSp.out ((Turn.refl q wp).alloc _) hqt)) (fun hS => ?_)
 clear hK K
 replace hS := hS.resolve_left (by decide)
 try simp only [Act.put, List.setIfInBounds_toArray, List.set_cons_zero, List.set_cons_succ]
 refine heldBut_one (i := 5) (o := ⟨some 57, _, _, _, _, _⟩) (by kernel_rfl) rfl (fun K hK => ?_)
 refine step_append_own rfl _ _ 31 rfl w.heap.size 41 i0 _ 16 272 Tryz.underlying31 hi hzi hsi hbi rfl (by decide) (.slice (some ⟨W0.heap.size, 0, none⟩) 1 1) 1 vq rfl (hrow.alloc _) ⟨wp.heap.size, 0, none⟩ 1 1 vp rfl (by rw [hlp]) (new_cells _ _ _ _ rfl) hop (by decide) (by decide) (by have := HTp.out.size; simp; omega) ?_
 intro va wa hown hgrow _ hat
 obtain ⟨ga, ca, rfl⟩ := own_slice hown (by decide)
 have HTa := hide (Turn.grown ((HT5.out.trans HTp.out).alloc (.cells vp.toArray 41)) hgrow (fun g hg => row_le hg (by omega)))
 have HGr := hide hgrow
 have HOw := hide hown
 have HAt := hide hat
 have HSa := hide (show HoldB W1.heap.size 41 [.int .i64 4, .string ⟨#[]⟩, .slice (some ⟨W0.heap.size, 0, none⟩) 1 1, .int .i64 0, .string ⟨#[]⟩, .int .i64 0, .int .i64 0, .string ⟨#[]⟩, .string ⟨#[]⟩, .slice none 0 0, .slice none 0 0, .slice none 0 0, .slice none 0 0, .slice none 0 0, .slice none 0 0, .int .i64 0] wa from (hgrow.block W1.heap.size (by have := holds_size HSp.out; simp; omega) (by simp [Value.ownBlock]; omega)).trans (holds_turn HSp.out ((Turn.refl q wp).alloc _) hqt))
 clear hown hgrow hat hrow
 refine hK.out _ _ (Or.inr HSa.out) (fun hS => ?_)
 clear hK K
 replace hS := hS.resolve_left (by decide)
 try simp only [Act.put, List.setIfInBounds_toArray, List.set_cons_zero, List.set_cons_succ]
 refine heldBut_take (i := 6) (oi := ⟨some 58, _, _, _, _, _⟩) (v := ?_) rfl (by kernel_rfl) (by kernel_rfl) (by kernel_rfl) (by kernel_rfl) (fun _ _ _ h => h) (Or.inl ⟨by rfl, ?_⟩) hS ?_
 rotate_left 1
 ·intro w' hw'
  have x2 := Lib.cell_of_heap hw' 2; simp only [List.getElem?_toArray, List.getElem?_cons_zero, List.getElem?_cons_succ] at x2; have xs := holds_size hw'
  go_simp
  all_goals with_reducible rfl
 try simp only [Act.put, List.setIfInBounds_toArray, List.set_cons_zero, List.set_cons_succ]
 refine heldBut_one (i := 7) (o := ⟨none, _, _, _, _, _⟩) (by kernel_rfl) rfl (fun K hK => ?_)
 have hfa := Lib.frozen_of_heap HSa.out
 have hxa := Lib.cell_of_heap HSa.out 2
 simp only [List.getElem?_toArray, List.getElem?_cons_zero, List.getElem?_cons_succ] at hxa
 go_simp
 clear hfa hxa
 refine hK.out _ _ (Or.inl rfl) (fun hS => ?_)
 clear hK K
 try simp only [Act.put]
 refine heldBut_done (by kernel_rfl) ?_ _
 obtain ⟨w6, hw6⟩ : ∃ W, W = wa.setCell ⟨W1.heap.size, 2, none⟩ (.slice (some ⟨ga, 0, none⟩) 2 ca) := ⟨_, rfl⟩
 have HW6 := hide hw6
 have hszp := HTp.out.size
 have hsza := HGr.out.size
 have hszq : wp.heap.size < wa.heap.size := by simp at hsza; omega
 have HWaT := HTa
 have HPa := hide (show ParAt q TL E wa X.2 from (HP.out.alloc (.cells vp.toArray 41)).grown HGr.out (fun g hg => row_le hg (by omega)))
 have H6 := hide (show ParAt q TL E w6 X.2 by rw [hw6]; exact HPa.out.put (p := ⟨W1.heap.size, 2, none⟩) hqt _)
 have HT6 := hide (show Turn q w w6 by rw [hw6]; exact HWaT.out.put (p := ⟨W1.heap.size, 2, none⟩) (by simp; omega) _)
 have HX' := hide (show HoldB W1.heap.size 41 [.int .i64 4, .string ⟨#[]⟩, .slice (some ⟨ga, 0, none⟩) 2 ca, .int .i64 0, .string ⟨#[]⟩, .int .i64 0, .int .i64 0, .string ⟨#[]⟩, .string ⟨#[]⟩, .slice none 0 0, .slice none 0 0, .slice none 0 0, .slice none 0 0, .slice none 0 0, .slice none 0 0, .int .i64 0] w6 by rw [hw6]; exact Joins.block_setCell (i := 2) HSa.out _)
 have hz6 : w.heap.size + 4 ≤ w6.heap.size := by rw [hw6]; simp; omega
 have HB6 := hide (show BoxAt (w.heap.size + 1) 41 16 w6 by
  obtain ⟨o, h, hn⟩ := HB5.out.turn (HTp.out.alloc (.cells vp.toArray 41)) crq
  rw [hw6]
  exact BoxAt.set ⟨o, (HGr.out.block (w.heap.size + 1) (by simp; omega) (by simp [Value.ownBlock]; omega)).trans h, hn⟩ (by omega) _ _)
 have HAr' := hide (show Rep (PSt' Pq w.heap.size W0.heap.size W1.heap.size) w6 (.row 16 [dq, X.1.enc]) (.slice (some ⟨ga, 0, none⟩) 2 ca) from by
  have hset : ∀ b, b ≠ W1.heap.size → w6.heap[b]? = wa.heap[b]? := fun b hb => by rw [hw6]; exact Below.heap_setCell _ _ _ _ hb
  have hga : ga = W0.heap.size ∨ W1.heap.size < ga := by
   rcases HAt.out with h | h
   ·simp [Value.ownBlock] at h; exact Or.inl h
   ·simp [Value.ownBlock] at h; exact Or.inr (by omega)
  have r1 : RepC (PSt' Pq w.heap.size W0.heap.size W1.heap.size) w6 dq vq := hq.stay ⟨fun b hb h => Or.inl ⟨h, hb⟩, HT6.out.size, fun b hb hlt => HT6.out.block b hlt (by rintro ⟨⟩; exact hPq hb)⟩
  have r2 : RepC (PSt' Pq w.heap.size W0.heap.size W1.heap.size) w6 X.1.enc vp := HVp.out.stay ⟨fun b hb h => Or.inr (Or.inr (by have h2 : w5.drew.heap.size ≤ b := h; have h3 : w5.heap.size ≤ b := h2; omega)), by rw [hw6]; simp; omega, fun b h hlt => by
   have h3 : w5.heap.size ≤ b := h
   rw [hset b (by omega), HGr.out.block b (by simp; omega) (by simp [Value.ownBlock]; omega)]
   exact Below.heap_alloc _ _ _ hlt⟩
  refine rep_of_row (base := w.heap.size) (t := 41) (cs := vq ++ vp) (els := [dq, X.1.enc]) ?_ (fun g hg => ?_) ⟨fun e he => ?_, ?_⟩
  ·have ho := HOw.out
   rw [hw6]
   have hne : ga ≠ W1.heap.size := by rcases hga with h | h <;> omega
   exact ownsRow_setCell_other (a := ⟨W1.heap.size, 2, none⟩) ho (fun e => hne (by simpa [Value.ownBlock] using e)) _
  ·have h0 : ga = g := by simpa [Value.ownBlock] using hg
   rcases hga with h | h
   ·exact Or.inr (Or.inl (by omega))
   ·exact Or.inr (Or.inr (by omega))
  ·simp at he; rcases he with rfl | rfl; exact hdq; exact enc_len _
  ·simp only [List.flatten_cons, List.flatten_nil, List.append_nil]
   exact r1.append r2)
 clear HAr HAo HWaT HPa HTa HGr HOw HAt HSa HSp HVp HTp HP hS
 have HAr := HAr'
 clear HAr'
 rw [← HW6.out]
 clear hw6 HW6 HX H5 HT5 HB5
 have HX := HX'
 clear HX'
 have x0 := Lib.cell_of_heap HX.out 0
 have x1 := Lib.cell_of_heap HX.out 1
 have x2 := Lib.cell_of_heap HX.out 2
 have x3 := Lib.cell_of_heap HX.out 3
 have x4 := Lib.cell_of_heap HX.out 4
 have x5 := Lib.cell_of_heap HX.out 5
 have x6 := Lib.cell_of_heap HX.out 6
 have x7 := Lib.cell_of_heap HX.out 7
 have x8 := Lib.cell_of_heap HX.out 8
 have x9 := Lib.cell_of_heap HX.out 9
 have x10 := Lib.cell_of_heap HX.out 10
 have x11 := Lib.cell_of_heap HX.out 11
 have x12 := Lib.cell_of_heap HX.out 12
 have x13 := Lib.cell_of_heap HX.out 13
 have x14 := Lib.cell_of_heap HX.out 14
 have x15 := Lib.cell_of_heap HX.out 15
 have xf := Lib.frozen_of_heap HX.out
 have xs := holds_size HX.out
 simp only [List.getElem?_toArray, List.getElem?_cons_zero, List.getElem?_cons_succ] at x0 x1 x2 x3 x4 x5 x6 x7 x8 x9 x10 x11 x12 x13 x14 x15
 go_wp2_with fail
 clear xf xs x0 x1 x2 x3 x4 x5 x6 x7 x8 x9 x10 x11 x12 x13 x14 x15
 refine (HEx.out w6 H6.out).mono ?_
 rintro e w7 ⟨rfl, h, ht⟩
 have H7 := hide h
 have HT7 := hide (HT6.out.trans ht)
 have HB7 := hide (HB6.out.turn ht crq)
 have hz7 : w.heap.size + 4 ≤ w7.heap.size := Nat.le_trans hz6 ht.size
 replace HAr := hide (HAr.out.stay (Stay.turn ht hnp))
 replace HX := hide (holds_turn HX.out ht hqt)
 clear h ht H6 HT6 HB6 HEx
 have x0 := Lib.cell_of_heap HX.out 0
 have x1 := Lib.cell_of_heap HX.out 1
 have x2 := Lib.cell_of_heap HX.out 2
 have x3 := Lib.cell_of_heap HX.out 3
 have x4 := Lib.cell_of_heap HX.out 4
 have x5 := Lib.cell_of_heap HX.out 5
 have x6 := Lib.cell_of_heap HX.out 6
 have x7 := Lib.cell_of_heap HX.out 7
 have x8 := Lib.cell_of_heap HX.out 8
 have x9 := Lib.cell_of_heap HX.out 9
 have x10 := Lib.cell_of_heap HX.out 10
 have x11 := Lib.cell_of_heap HX.out 11
 have x12 := Lib.cell_of_heap HX.out 12
 have x13 := Lib.cell_of_heap HX.out 13
 have x14 := Lib.cell_of_heap HX.out 14
 have x15 := Lib.cell_of_heap HX.out 15
 have xf := Lib.frozen_of_heap HX.out
 have xs := holds_size HX.out
 simp only [List.getElem?_toArray, List.getElem?_cons_zero, List.getElem?_cons_succ] at x0 x1 x2 x3 x4 x5 x6 x7 x8 x9 x10 x11 x12 x13 x14 x15
 go_wp2_with fail
 clear xf xs x0 x1 x2 x3 x4 x5 x6 x7 x8 x9 x10 x11 x12 x13 x14 x15
 refine (HM2.out w7 H7.out).mono ?_
 rintro e w8 ⟨v8, rfl, hv, h, ht⟩
 have H8 := hide h
 have HT8 := hide (HT7.out.trans ht)
 have HB8 := hide (HB7.out.turn ht crq)
 have hz8 : w.heap.size + 4 ≤ w8.heap.size := Nat.le_trans hz7 ht.size
 replace HAr := hide (HAr.out.stay (Stay.turn ht hnp))
 replace HX := hide (holds_turn HX.out ht hqt)
 have HV8 := hide (hv.stay (Stay.at (Q := PSt' Pq w.heap.size W0.heap.size W1.heap.size) (fun b hb => Or.inr (Or.inr (by have h1 := hz7; have h2 : _ ≤ b := hb; omega))) _))
 clear hv
 clear h ht H7 HT7 HB7 HM2
 obtain ⟨A8, n8, c8, hsl⟩ := HV8.out.slice
 subst hsl
 obtain ⟨w9, hw9⟩ : ∃ W, W = (w8.setCell ⟨W1.heap.size, 12, none⟩ (.slice A8 n8 c8)) := ⟨_, rfl⟩
 have HW9 := hide hw9
 have H9 := hide (show ParAt q TL E w9 _ by rw [hw9]; exact (H8.out.put (p := ⟨W1.heap.size, 12, none⟩) hqt _))
 have HT9 := hide (show Turn q w w9 by rw [hw9]; exact (HT8.out.put (p := ⟨W1.heap.size, 12, none⟩) (by simp; omega) _))
 have HX' := hide (show HoldB W1.heap.size 41 [.int .i64 4, .string ⟨#[]⟩, .slice (some ⟨ga, 0, none⟩) 2 ca, .int .i64 0, .string ⟨#[]⟩, .int .i64 0, .int .i64 0, .string ⟨#[]⟩, .string ⟨#[]⟩, .slice none 0 0, .slice none 0 0, .slice none 0 0, .slice A8 n8 c8, .slice none 0 0, .slice none 0 0, .int .i64 0] w9 by rw [hw9]; exact (Joins.block_setCell (i := 12) HX.out _))
 have hz9 : w.heap.size + 4 ≤ w9.heap.size := by rw [hw9]; simp; omega
 have HB9 := hide (show BoxAt (w.heap.size + 1) 41 16 w9 by rw [hw9]; exact (HB8.out.set (by omega) _ _))
 have hst : Stay (PSt' Pq w.heap.size W0.heap.size W1.heap.size) (PSt' Pq w.heap.size W0.heap.size W1.heap.size) w8 w9 := ⟨fun _ _ h => h, by rw [hw9]; simp, fun b hb _ => by
  have hbt : b ≠ W1.heap.size := pst_ne hb (by omega) hlo1
  rw [hw9]; exact Below.heap_setCell w8 ⟨W1.heap.size, 12, none⟩ (.slice A8 n8 c8) b hbt⟩
 replace HAr := hide (HAr.out.stay hst)
 replace HV8 := hide (HV8.out.stay hst)
 have x0 := Lib.cell_of_heap HX.out 0
 have x1 := Lib.cell_of_heap HX.out 1
 have x2 := Lib.cell_of_heap HX.out 2
 have x3 := Lib.cell_of_heap HX.out 3
 have x4 := Lib.cell_of_heap HX.out 4
 have x5 := Lib.cell_of_heap HX.out 5
 have x6 := Lib.cell_of_heap HX.out 6
 have x7 := Lib.cell_of_heap HX.out 7
 have x8 := Lib.cell_of_heap HX.out 8
 have x9 := Lib.cell_of_heap HX.out 9
 have x10 := Lib.cell_of_heap HX.out 10
 have x11 := Lib.cell_of_heap HX.out 11
 have x12 := Lib.cell_of_heap HX.out 12
 have x13 := Lib.cell_of_heap HX.out 13
 have x14 := Lib.cell_of_heap HX.out 14
 have x15 := Lib.cell_of_heap HX.out 15
 have xf := Lib.frozen_of_heap HX.out
 have xs := holds_size HX.out
 simp only [List.getElem?_toArray, List.getElem?_cons_zero, List.getElem?_cons_succ] at x0 x1 x2 x3 x4 x5 x6 x7 x8 x9 x10 x11 x12 x13 x14 x15
 have y0 := Lib.cell_of_heap HX'.out 0
 have y2 := Lib.cell_of_heap HX'.out 2
 have y4 := Lib.cell_of_heap HX'.out 10
 have y5 := Lib.cell_of_heap HX'.out 11
 simp only [List.getElem?_toArray, List.getElem?_cons_zero, List.getElem?_cons_succ] at y0 y2 y4 y5
 clear hw9
 go_wp2_with (first | rw [← HW9.out] | (refine wpList_loadBig rfl 41 _ rfl W1.heap.size 16 [.int .i64 4, .string ⟨#[]⟩, .slice (some ⟨ga, 0, none⟩) 2 ca, .int .i64 0, .string ⟨#[]⟩, .int .i64 0, .int .i64 0, .string ⟨#[]⟩, .string ⟨#[]⟩, .slice none 0 0, .slice none 0 0, .slice none 0 0, .slice A8 n8 c8, .slice none 0 0, .slice none 0 0, .int .i64 0] big_plan rfl rfl HX'.out ?_) | (refine wpList_storeBig rfl 41 _ _ rfl (w.heap.size + 1) 16 [.int .i64 4, .string ⟨#[]⟩, .slice (some ⟨ga, 0, none⟩) 2 ca, .int .i64 0, .string ⟨#[]⟩, .int .i64 0, .int .i64 0, .string ⟨#[]⟩, .string ⟨#[]⟩, .slice none 0 0, .slice none 0 0, .slice none 0 0, .slice A8 n8 c8, .slice none 0 0, .slice none 0 0, .int .i64 0] big_plan rfl (by intro u hu; simp only [List.mem_cons, List.not_mem_nil, or_false] at hu; rcases hu with rfl | rfl | rfl | rfl | rfl | rfl | rfl | rfl | rfl | rfl | rfl | rfl | rfl | rfl | rfl | rfl <;> rfl) rfl rfl HB9.out ?_))
 clear xf xs x0 x1 x2 x3 x4 x5 x6 x7 x8 x9 x10 x11 x12 x13 x14 x15
 clear y0 y2 y4 y5 HX H8 HT8 HB8 HW9
 have HX := HX'
 clear HX'
 refine bodyPost_ret (v := .agg #[.int .i64 4, .string ⟨#[]⟩, .slice (some ⟨ga, 0, none⟩) 2 ca, .int .i64 0, .string ⟨#[]⟩, .int .i64 0, .int .i64 0, .string ⟨#[]⟩, .string ⟨#[]⟩, .slice none 0 0, .slice none 0 0, .slice none 0 0, .slice A8 n8 c8, .slice none 0 0, .slice none 0 0, .int .i64 0]) (results_big (vs := [.int .i64 4, .string ⟨#[]⟩, .slice (some ⟨ga, 0, none⟩) 2 ca, .int .i64 0, .string ⟨#[]⟩, .int .i64 0, .int .i64 0, .string ⟨#[]⟩, .string ⟨#[]⟩, .slice none 0 0, .slice none 0 0, .slice none 0 0, .slice A8 n8 c8, .slice none 0 0, .slice none 0 0, .int .i64 0]) rfl rfl big_plan rfl (set_row _ HB9.out.choose_spec.1)) rfl ?_
 exact ⟨[.int .i64 4, .string ⟨#[]⟩, .slice (some ⟨ga, 0, none⟩) 2 ca, .int .i64 0, .string ⟨#[]⟩, .int .i64 0, .int .i64 0, .string ⟨#[]⟩, .string ⟨#[]⟩, .slice none 0 0, .slice none 0 0, .slice none 0 0, .slice A8 n8 c8, .slice none 0 0, .slice none 0 0, .int .i64 0], rfl, (rep_plan (p := {k := 4, args := [dq, X.1.enc], on := Y.1}) HAr.out (rep_zeroE _ _) (rep_nil _ _ _) (rep_nil _ _ _) HV8.out (rep_nil _ _ _) (rep_nil _ _ _)).stay (pst_fin _ _ hlo0 (by omega)), H9.out.row crq _, HT9.out.row (Nat.le_succ _) _⟩
set_option maxHeartbeats 8000000 in
set_option maxRecDepth 100000 in
theorem stepLeft {q : Nat} {TL : List Tk} {E : Nat} {Pq : Nat → Prop} (hPq : ¬ Pq q) (X : Pl × PSt) (Y : List (ByteArray × ByteArray) × PSt) (dq : List Dt) (hdq : dq.length = 16) (vq : List Value) (s : PSt) (w : World) (H : ParAt q TL E w s) (hq : RepC Pq w dq vq) (hk : (oneOfS stepWords s).1 = 4)
  (HM : ∀ w1, ParAt q TL E w1 (oneOfS stepWords s).2 → Calls Tryz.prog 56 #[pP q] w1 (AggTo q TL E w1 X.1.enc X.2))
  (HM2 : ∀ w1, ParAt q TL E w1 (expectS [111, 110] X.2) → Calls Tryz.prog 76 #[pP q, .func (.func 77) #[pP q] #[]] w1 (OneTo q TL E w1 (.row 2 (Y.1.map dPair)) Y.2)) :
  Calls Tryz.prog 58 #[pP q, .agg vq.toArray] w (PlanTo q TL E Pq w ({k := 5, args := [dq, X.1.enc], on := Y.1} : Pl).enc Y.2) := by
 have cq := H.lt
 have crq : q < w.heap.size + 1 := by omega
 obtain ⟨i0, hi, hzi, hsi, hbi⟩ := info_parts plan_info
 have hlq : vq.length = 16 := hq.1.trans hdq
 have HOf := hide (fun A w1 (h : ParAt q TL E w1 s) (hA : StrW q w1 A stepWords) => oneOf_any A 8 stepWords w1 h hA (by decide))
 unfold StepTo at HOf
 rw [hk] at HOf
 have HEx := hide (fun w1 (h : ParAt q TL E w1 X.2) => expect_any [111, 110] w1 h)
 unfold StepTo at HEx
 unfold AggTo at HM
 unfold OneTo at HM2
 replace HM := hide HM
 replace HM2 := hide HM2
 have h1q := hq.one_cell
 obtain ⟨W0, hW0⟩ : ∃ W0, W0 = (w.alloc (.cells vq.toArray 41)).alloc (.cells #[.int .i64 0, .string ⟨#[]⟩, .slice none 0 0, .int .i64 0, .string ⟨#[]⟩, .int .i64 0, .int .i64 0, .string ⟨#[]⟩, .string ⟨#[]⟩, .slice none 0 0, .slice none 0 0, .slice none 0 0, .slice none 0 0, .slice none 0 0, .slice none 0 0, .int .i64 0] 41) := ⟨_, rfl⟩
 have e0 : W0.heap.size = w.heap.size + 2 := by rw [hW0]; simp
 have HW0 := hide hW0
 have b0 : Below w.heap.size w W0 := by rw [hW0]; exact (Joins.below_alloc1 w _).alloc (Joins.below_alloc1 w _).size _
 have k0 : W0.heap[w.heap.size]? = some (.cells vq.toArray 41 (0, 0)) := by rw [hW0, Below.heap_alloc _ _ _ (by simp)]; exact heap_alloc_new _ _
 have k1 : W0.heap[w.heap.size + 1]? = some (.cells #[.int .i64 0, .string ⟨#[]⟩, .slice none 0 0, .int .i64 0, .string ⟨#[]⟩, .int .i64 0, .int .i64 0, .string ⟨#[]⟩, .string ⟨#[]⟩, .slice none 0 0, .slice none 0 0, .slice none 0 0, .slice none 0 0, .slice none 0 0, .slice none 0 0, .int .i64 0] 41 (0, 0)) := by rw [hW0, show w.heap.size + 1 = (w.alloc (.cells vq.toArray 41)).heap.size by simp]; exact heap_alloc_new _ _
 obtain ⟨W1, hW1⟩ : ∃ W1, W1 = W0.alloc (.cells vq.toArray 41) := ⟨_, rfl⟩
 have e1 : W1.heap.size = w.heap.size + 3 := by rw [hW1]; simp [e0]
 have HW1 := hide hW1
 have b1 : Below w.heap.size w W1 := by rw [hW1]; exact b0.alloc b0.size _
 obtain ⟨w2, hw2⟩ : ∃ w2, w2 = W1.alloc (.cells #[.int .i64 0, .string ⟨#[]⟩, .slice (some ⟨W0.heap.size, 0, none⟩) 1 1, .int .i64 0, .string ⟨#[]⟩, .int .i64 0, .int .i64 0, .string ⟨#[]⟩, .string ⟨#[]⟩, .slice none 0 0, .slice none 0 0, .slice none 0 0, .slice none 0 0, .slice none 0 0, .slice none 0 0, .int .i64 0] 41) := ⟨_, rfl⟩
 have HW2 := hide (show w2 = (W1.alloc (.cells #[.int .i64 0, .string ⟨#[]⟩, .slice none 0 0, .int .i64 0, .string ⟨#[]⟩, .int .i64 0, .int .i64 0, .string ⟨#[]⟩, .string ⟨#[]⟩, .slice none 0 0, .slice none 0 0, .slice none 0 0, .slice none 0 0, .slice none 0 0, .slice none 0 0, .int .i64 0] 41)).setRow W1.heap.size #[.int .i64 0, .string ⟨#[]⟩, .slice (some ⟨W0.heap.size, 0, none⟩) 1 1, .int .i64 0, .string ⟨#[]⟩, .int .i64 0, .int .i64 0, .string ⟨#[]⟩, .string ⟨#[]⟩, .slice none 0 0, .slice none 0 0, .slice none 0 0, .slice none 0 0, .slice none 0 0, .slice none 0 0, .int .i64 0] by rw [hw2, World.setRow_alloc_new])
 have b2 : Below w.heap.size w w2 := by rw [hw2]; exact b1.alloc b1.size _
 have e2 : w2.heap.size = w.heap.size + 4 := by rw [hw2]; simp [e1]
 have hz2 : w.heap.size + 4 ≤ w2.heap.size := Nat.le_of_eq e2.symm
 have H2 := hide (H.on b2)
 have HT2 := hide (Turn.of (q := q) b2)
 have HX := hide (show HoldB W1.heap.size 41 [.int .i64 0, .string ⟨#[]⟩, .slice (some ⟨W0.heap.size, 0, none⟩) 1 1, .int .i64 0, .string ⟨#[]⟩, .int .i64 0, .int .i64 0, .string ⟨#[]⟩, .string ⟨#[]⟩, .slice none 0 0, .slice none 0 0, .slice none 0 0, .slice none 0 0, .slice none 0 0, .slice none 0 0, .int .i64 0] w2 by rw [hw2]; exact heap_alloc_new _ _)
 have HB2 := hide (show BoxAt (w.heap.size + 1) 41 16 w2 by
  refine ⟨#[.int .i64 0, .string ⟨#[]⟩, .slice none 0 0, .int .i64 0, .string ⟨#[]⟩, .int .i64 0, .int .i64 0, .string ⟨#[]⟩, .string ⟨#[]⟩, .slice none 0 0, .slice none 0 0, .slice none 0 0, .slice none 0 0, .slice none 0 0, .slice none 0 0, .int .i64 0], ?_, rfl⟩
  rw [hw2, Below.heap_alloc _ _ _ (by omega), hW1, Below.heap_alloc _ _ _ (by omega)]; exact k1)
 have HAb := hide (show W0.heap.size < w2.heap.size by omega)
 have HAr := hide (show Rep (PSt' Pq w.heap.size W0.heap.size W1.heap.size) w2 (.row 16 [dq]) (.slice (some ⟨W0.heap.size, 0, none⟩) 1 1) from
  rep_one (t := 41) hq ⟨fun b hb h => Or.inl ⟨h, hb⟩, b2.size, fun b _ hb => b2.block b hb⟩ (Or.inr (Or.inl rfl)) (by omega) (by
   rw [hw2, Below.heap_alloc _ _ _ (by omega), hW1]; exact heap_alloc_new _ _))
 have hnp : ¬ PSt' Pq w.heap.size W0.heap.size W1.heap.size q := by
  rintro (h | h | h)
  ·exact hPq h.1
  ·omega
  ·omega
 have hlo0 : w.heap.size + 2 ≤ W0.heap.size := by omega
 have hlo1 : W0.heap.size < W1.heap.size := by omega
 have hlo2 : W1.heap.size < w2.heap.size := by omega
 have hqt : q < W1.heap.size := by omega
 have hup : W1.heap.size ≤ w.heap.size + 3 := by omega
 have hup0 : W0.heap.size ≤ w.heap.size + 2 := by omega
 have HK0 := hide k0
 have HAo := hide (show HoldB W0.heap.size 41 vq w2 by rw [hw2, HoldB, Below.heap_alloc _ _ _ (by omega), hW1]; exact heap_alloc_new _ _)
 have hqa : q < W0.heap.size := by omega
 unfold PlanTo
 clear hk e0 e1 e2 k0 k1 hW0 hW1 hw2 b0 b1 b2
 obtain ⟨w3, hw3⟩ : ∃ W, W = w2.alloc (.cells #[.string ⟨#[119, 104, 101, 114, 101]⟩, .string ⟨#[107, 101, 101, 112]⟩, .string ⟨#[106, 111, 105, 110]⟩, .string ⟨#[108, 101, 102, 116]⟩, .string ⟨#[103, 114, 111, 117, 112]⟩, .string ⟨#[117, 110, 105, 111, 110]⟩, .string ⟨#[100, 105, 115, 116, 105, 110, 99, 116]⟩, .string ⟨#[102, 105, 114, 115, 116]⟩] 9) := ⟨_, rfl⟩
 have HW3 := hide hw3
 have H3 := hide (show ParAt q TL E w3 _ by rw [hw3]; exact H2.out.alloc _)
 have HT3 := hide (show Turn q w w3 by rw [hw3]; exact HT2.out.alloc _)
 have hz3 : w.heap.size + 4 ≤ w3.heap.size := by rw [hw3]; simp; omega
 have HB3 := hide (show BoxAt (w.heap.size + 1) 41 16 w3 by rw [hw3]; exact HB2.out.turn ((Turn.refl q _).alloc _) crq)
 replace HAr := hide (HAr.out.stay (Stay.below (show Below w2.heap.size w2 w3 by rw [hw3]; exact Joins.below_alloc1 _ _)))
 replace HX := hide (show HoldB _ _ _ w3 by rw [hw3]; exact holds_turn HX.out ((Turn.refl q _).alloc _) hqt)
 replace HAo := hide (show HoldB _ _ _ w3 by rw [hw3]; exact holds_turn HAo.out ((Turn.refl q _).alloc _) hqa)
 have HS3 := hide (show StrW q w3 (some ⟨w2.heap.size, 0, none⟩) stepWords by rw [hw3]; exact strW_new w2 q stepWords _ (by omega))
 clear hw3 H2 HT2 HB2
 go_enter Tryz.func58, Tryz.ntmps58
 go_wp2_with (first | rw [← HW0.out] | rw [← HW3.out] | (refine wpList_loadBig rfl 41 _ rfl w.heap.size 16 vq big_plan hlq rfl HK0.out ?_) | (refine wpList_buildOne rfl 31 41 _ rfl 16 vq rfl hlq (by decide) (by decide) Tryz.underlying31 i0 _ hi hzi hsi ?_; rw [← HW1.out]) | (refine wpList_storeBig rfl 41 _ _ rfl W1.heap.size 16 [.int .i64 0, .string ⟨#[]⟩, .slice (some ⟨W0.heap.size, 0, none⟩) 1 1, .int .i64 0, .string ⟨#[]⟩, .int .i64 0, .int .i64 0, .string ⟨#[]⟩, .string ⟨#[]⟩, .slice none 0 0, .slice none 0 0, .slice none 0 0, .slice none 0 0, .slice none 0 0, .slice none 0 0, .int .i64 0] big_plan rfl (by simp [Value.oneCell']) rfl rfl (box_new _ _ _ rfl) ?_; rw [← HW2.out]))
 clear HW0 HW1 HW2 HW3 HK0
 refine (HOf.out _ w3 H3.out HS3.out).mono ?_
 rintro e w4 ⟨rfl, h, ht⟩
 have H4 := hide h
 have HT4 := hide (HT3.out.trans ht)
 have HB4 := hide (HB3.out.turn ht crq)
 have hz4 : w.heap.size + 4 ≤ w4.heap.size := Nat.le_trans hz3 ht.size
 replace HAr := hide (HAr.out.stay (Stay.turn ht hnp))
 replace HX := hide (holds_turn HX.out ht hqt)
 replace HAo := hide (holds_turn HAo.out ht hqa)
 clear h ht H3 HT3 HB3 HS3 HOf
 obtain ⟨w5, hw5⟩ : ∃ W, W = (w4.setCell ⟨W1.heap.size, 0, none⟩ (.int .i64 5)) := ⟨_, rfl⟩
 have HW5 := hide hw5
 have H5 := hide (show ParAt q TL E w5 _ by rw [hw5]; exact (H4.out.put (p := ⟨W1.heap.size, 0, none⟩) hqt _))
 have HT5 := hide (show Turn q w w5 by rw [hw5]; exact (HT4.out.put (p := ⟨W1.heap.size, 0, none⟩) (by simp; omega) _))
 have HX' := hide (show HoldB W1.heap.size 41 [.int .i64 5, .string ⟨#[]⟩, .slice (some ⟨W0.heap.size, 0, none⟩) 1 1, .int .i64 0, .string ⟨#[]⟩, .int .i64 0, .int .i64 0, .string ⟨#[]⟩, .string ⟨#[]⟩, .slice none 0 0, .slice none 0 0, .slice none 0 0, .slice none 0 0, .slice none 0 0, .slice none 0 0, .int .i64 0] w5 by rw [hw5]; exact (Joins.block_setCell (i := 0) HX.out _))
 have hz5 : w.heap.size + 4 ≤ w5.heap.size := by rw [hw5]; simp; omega
 have HB5 := hide (show BoxAt (w.heap.size + 1) 41 16 w5 by rw [hw5]; exact (HB4.out.set (by omega) _ _))
 have hst : Stay (PSt' Pq w.heap.size W0.heap.size W1.heap.size) (PSt' Pq w.heap.size W0.heap.size W1.heap.size) w4 w5 := ⟨fun _ _ h => h, by rw [hw5]; simp, fun b hb _ => by
  have hbt : b ≠ W1.heap.size := pst_ne hb (by omega) hlo1
  rw [hw5]; exact Below.heap_setCell w4 ⟨W1.heap.size, 0, none⟩ (.int .i64 5) b hbt⟩
 replace HAr := hide (HAr.out.stay hst)
 have HAo' := hide (show HoldB W0.heap.size 41 vq w5 by
  have b := W0.heap.size
  have hbt : W0.heap.size ≠ W1.heap.size := by omega
  rw [hw5]; exact (Below.heap_setCell w4 ⟨W1.heap.size, 0, none⟩ (.int .i64 5) W0.heap.size hbt).trans HAo.out)
 clear HAo
 have HAo := HAo'
 clear HAo' hst
 have x0 := Lib.cell_of_heap HX.out 0
 have x1 := Lib.cell_of_heap HX.out 1
 have x2 := Lib.cell_of_heap HX.out 2
 have x3 := Lib.cell_of_heap HX.out 3
 have x4 := Lib.cell_of_heap HX.out 4
 have x5 := Lib.cell_of_heap HX.out 5
 have x6 := Lib.cell_of_heap HX.out 6
 have x7 := Lib.cell_of_heap HX.out 7
 have x8 := Lib.cell_of_heap HX.out 8
 have x9 := Lib.cell_of_heap HX.out 9
 have x10 := Lib.cell_of_heap HX.out 10
 have x11 := Lib.cell_of_heap HX.out 11
 have x12 := Lib.cell_of_heap HX.out 12
 have x13 := Lib.cell_of_heap HX.out 13
 have x14 := Lib.cell_of_heap HX.out 14
 have x15 := Lib.cell_of_heap HX.out 15
 have xf := Lib.frozen_of_heap HX.out
 have xs := holds_size HX.out
 simp only [List.getElem?_toArray, List.getElem?_cons_zero, List.getElem?_cons_succ] at x0 x1 x2 x3 x4 x5 x6 x7 x8 x9 x10 x11 x12 x13 x14 x15
 have y0 := Lib.cell_of_heap HX'.out 0
 have y2 := Lib.cell_of_heap HX'.out 2
 have y4 := Lib.cell_of_heap HX'.out 10
 have y5 := Lib.cell_of_heap HX'.out 11
 simp only [List.getElem?_toArray, List.getElem?_cons_zero, List.getElem?_cons_succ] at y0 y2 y4 y5
 clear hw5
 go_wp2_with (first | rw [← HW5.out])
 clear xf xs x0 x1 x2 x3 x4 x5 x6 x7 x8 x9 x10 x11 x12 x13 x14 x15
 clear y0 y2 y4 y5 HX H4 HT4 HB4 HW5
 have HX := HX'
 clear HX'
 have HMp := hide (HM.out w5.drew (H5.out.on ((Below.refl _ _).drew)))
 clear HM
 refine wp_region_heldBut (S := fun w' => HoldB W1.heap.size 41 [.int .i64 5, .string ⟨#[]⟩, .slice (some ⟨W0.heap.size, 0, none⟩) 1 1, .int .i64 0, .string ⟨#[]⟩, .int .i64 0, .int .i64 0, .string ⟨#[]⟩, .string ⟨#[]⟩, .slice none 0 0, .slice none 0 0, .slice none 0 0, .slice none 0 0, .slice none 0 0, .slice none 0 0, .int .i64 0] w') (L := 7) (by kernel_rfl) (HX.out) (fun hS => ?_)
 refine heldBut_take (i := 0) (oi := ⟨some 52, _, _, _, _, _⟩) (v := ?_) rfl (by kernel_rfl) (by kernel_rfl) (by kernel_rfl) (by kernel_rfl) (fun _ _ _ h => h) (Or.inl ⟨by rfl, ?_⟩) hS ?_
 rotate_left 1
 ·intro w' hw'
  have x2 := Lib.cell_of_heap hw' 2; simp only [List.getElem?_toArray, List.getElem?_cons_zero, List.getElem?_cons_succ] at x2; have xs := holds_size hw'
  go_simp
  all_goals with_reducible rfl
 try simp only [Act.put, List.setIfInBounds_toArray, List.set_cons_zero, List.set_cons_succ]
 refine heldBut_take (i := 1) (oi := ⟨some 53, _, _, _, _, _⟩) (v := ?_) rfl (by kernel_rfl) (by kernel_rfl) (by kernel_rfl) (by kernel_rfl) (fun _ _ _ h => h) (Or.inl ⟨by rfl, ?_⟩) hS ?_
 rotate_left 1
 ·intro w' hw'
  have x2 := Lib.cell_of_heap hw' 2; simp only [List.getElem?_toArray, List.getElem?_cons_zero, List.getElem?_cons_succ] at x2; have xs := holds_size hw'
  go_simp
  all_goals with_reducible rfl
 try simp only [Act.put, List.setIfInBounds_toArray, List.set_cons_zero, List.set_cons_succ]
 refine heldBut_take (i := 2) (oi := ⟨some 54, _, _, _, _, _⟩) (v := ?_) rfl (by kernel_rfl) (by kernel_rfl) (by kernel_rfl) (by kernel_rfl) (fun _ _ _ h => h) (Or.inl ⟨by rfl, ?_⟩) hS ?_
 rotate_left 1
 ·intro w' hw'
  have x2 := Lib.cell_of_heap hw' 2; simp only [List.getElem?_toArray, List.getElem?_cons_zero, List.getElem?_cons_succ] at x2; have xs := holds_size hw'
  go_simp
  all_goals with_reducible rfl
 try simp only [Act.put, List.setIfInBounds_toArray, List.set_cons_zero, List.set_cons_succ]
 refine heldBut_one (i := 3) (o := ⟨some 55, _, _, _, _, _⟩) (by kernel_rfl) rfl (fun K hK => ?_)
 go_simp
 go_at_call 56
 refine (HMp.out).mono ?_
 rintro e wp ⟨vp, rfl, hv, hp, htp⟩
 have HTp := hide (Turn.trans ((Turn.refl q w5).drew) htp)
 have HSp := hide (holds_turn hS htp hqt)
 have HP := hide hp
 have HVp := hide hv
 have hlp : vp.length = 16 := hv.1.trans (enc_len _)
 have hop := hv.one_cell
 have hrow := own_of (base := w.heap.size) (holds_turn HAo.out HTp.out hqa) (by omega) hlq
 clear hv hp htp
 refine hK.out _ _ (Or.inr HSp.out) (fun hS => ?_)
 clear hK K
 replace hS := hS.resolve_left (by decide)
 try simp only [Act.put, List.setIfInBounds_toArray, List.set_cons_zero, List.set_cons_succ]
 refine heldBut_one (i := 4) (o := ⟨some 56, _, _, _, _, _⟩) (by kernel_rfl) rfl (fun K hK => ?_)
 refine step_buildOne rfl 31 41 _ rfl 16 vp rfl hlp (by decide) (by decide) Tryz.underlying31 i0 _ hi hzi hsi ?_
 refine hK.out _ _ (Or.inr (holds_turn HSp.out ((Turn.refl q wp).alloc _) hqt)) (fun hS => ?_)
 clear hK K
 replace hS := hS.resolve_left (by decide)
 try simp only [Act.put, List.setIfInBounds_toArray, List.set_cons_zero, List.set_cons_succ]
 refine heldBut_one (i := 5) (o := ⟨some 57, _, _, _, _, _⟩) (by kernel_rfl) rfl (fun K hK => ?_)
 refine step_append_own rfl _ _ 31 rfl w.heap.size 41 i0 _ 16 272 Tryz.underlying31 hi hzi hsi hbi rfl (by decide) (.slice (some ⟨W0.heap.size, 0, none⟩) 1 1) 1 vq rfl (hrow.alloc _) ⟨wp.heap.size, 0, none⟩ 1 1 vp rfl (by rw [hlp]) (new_cells _ _ _ _ rfl) hop (by decide) (by decide) (by have := HTp.out.size; simp; omega) ?_
 intro va wa hown hgrow _ hat
 obtain ⟨ga, ca, rfl⟩ := own_slice hown (by decide)
 have HTa := hide (Turn.grown ((HT5.out.trans HTp.out).alloc (.cells vp.toArray 41)) hgrow (fun g hg => row_le hg (by omega)))
 have HGr := hide hgrow
 have HOw := hide hown
 have HAt := hide hat
 have HSa := hide (show HoldB W1.heap.size 41 [.int .i64 5, .string ⟨#[]⟩, .slice (some ⟨W0.heap.size, 0, none⟩) 1 1, .int .i64 0, .string ⟨#[]⟩, .int .i64 0, .int .i64 0, .string ⟨#[]⟩, .string ⟨#[]⟩, .slice none 0 0, .slice none 0 0, .slice none 0 0, .slice none 0 0, .slice none 0 0, .slice none 0 0, .int .i64 0] wa from (hgrow.block W1.heap.size (by have := holds_size HSp.out; simp; omega) (by simp [Value.ownBlock]; omega)).trans (holds_turn HSp.out ((Turn.refl q wp).alloc _) hqt))
 clear hown hgrow hat hrow
 refine hK.out _ _ (Or.inr HSa.out) (fun hS => ?_)
 clear hK K
 replace hS := hS.resolve_left (by decide)
 try simp only [Act.put, List.setIfInBounds_toArray, List.set_cons_zero, List.set_cons_succ]
 refine heldBut_take (i := 6) (oi := ⟨some 58, _, _, _, _, _⟩) (v := ?_) rfl (by kernel_rfl) (by kernel_rfl) (by kernel_rfl) (by kernel_rfl) (fun _ _ _ h => h) (Or.inl ⟨by rfl, ?_⟩) hS ?_
 rotate_left 1
 ·intro w' hw'
  have x2 := Lib.cell_of_heap hw' 2; simp only [List.getElem?_toArray, List.getElem?_cons_zero, List.getElem?_cons_succ] at x2; have xs := holds_size hw'
  go_simp
  all_goals with_reducible rfl
 try simp only [Act.put, List.setIfInBounds_toArray, List.set_cons_zero, List.set_cons_succ]
 refine heldBut_one (i := 7) (o := ⟨none, _, _, _, _, _⟩) (by kernel_rfl) rfl (fun K hK => ?_)
 have hfa := Lib.frozen_of_heap HSa.out
 have hxa := Lib.cell_of_heap HSa.out 2
 simp only [List.getElem?_toArray, List.getElem?_cons_zero, List.getElem?_cons_succ] at hxa
 go_simp
 clear hfa hxa
 refine hK.out _ _ (Or.inl rfl) (fun hS => ?_)
 clear hK K
 try simp only [Act.put]
 refine heldBut_done (by kernel_rfl) ?_ _
 obtain ⟨w6, hw6⟩ : ∃ W, W = wa.setCell ⟨W1.heap.size, 2, none⟩ (.slice (some ⟨ga, 0, none⟩) 2 ca) := ⟨_, rfl⟩
 have HW6 := hide hw6
 have hszp := HTp.out.size
 have hsza := HGr.out.size
 have hszq : wp.heap.size < wa.heap.size := by simp at hsza; omega
 have HWaT := HTa
 have HPa := hide (show ParAt q TL E wa X.2 from (HP.out.alloc (.cells vp.toArray 41)).grown HGr.out (fun g hg => row_le hg (by omega)))
 have H6 := hide (show ParAt q TL E w6 X.2 by rw [hw6]; exact HPa.out.put (p := ⟨W1.heap.size, 2, none⟩) hqt _)
 have HT6 := hide (show Turn q w w6 by rw [hw6]; exact HWaT.out.put (p := ⟨W1.heap.size, 2, none⟩) (by simp; omega) _)
 have HX' := hide (show HoldB W1.heap.size 41 [.int .i64 5, .string ⟨#[]⟩, .slice (some ⟨ga, 0, none⟩) 2 ca, .int .i64 0, .string ⟨#[]⟩, .int .i64 0, .int .i64 0, .string ⟨#[]⟩, .string ⟨#[]⟩, .slice none 0 0, .slice none 0 0, .slice none 0 0, .slice none 0 0, .slice none 0 0, .slice none 0 0, .int .i64 0] w6 by rw [hw6]; exact Joins.block_setCell (i := 2) HSa.out _)
 have hz6 : w.heap.size + 4 ≤ w6.heap.size := by rw [hw6]; simp; omega
 have HB6 := hide (show BoxAt (w.heap.size + 1) 41 16 w6 by
  obtain ⟨o, h, hn⟩ := HB5.out.turn (HTp.out.alloc (.cells vp.toArray 41)) crq
  rw [hw6]
  exact BoxAt.set ⟨o, (HGr.out.block (w.heap.size + 1) (by simp; omega) (by simp [Value.ownBlock]; omega)).trans h, hn⟩ (by omega) _ _)
 have HAr' := hide (show Rep (PSt' Pq w.heap.size W0.heap.size W1.heap.size) w6 (.row 16 [dq, X.1.enc]) (.slice (some ⟨ga, 0, none⟩) 2 ca) from by
  have hset : ∀ b, b ≠ W1.heap.size → w6.heap[b]? = wa.heap[b]? := fun b hb => by rw [hw6]; exact Below.heap_setCell _ _ _ _ hb
  have hga : ga = W0.heap.size ∨ W1.heap.size < ga := by
   rcases HAt.out with h | h
   ·simp [Value.ownBlock] at h; exact Or.inl h
   ·simp [Value.ownBlock] at h; exact Or.inr (by omega)
  have r1 : RepC (PSt' Pq w.heap.size W0.heap.size W1.heap.size) w6 dq vq := hq.stay ⟨fun b hb h => Or.inl ⟨h, hb⟩, HT6.out.size, fun b hb hlt => HT6.out.block b hlt (by rintro ⟨⟩; exact hPq hb)⟩
  have r2 : RepC (PSt' Pq w.heap.size W0.heap.size W1.heap.size) w6 X.1.enc vp := HVp.out.stay ⟨fun b hb h => Or.inr (Or.inr (by have h2 : w5.drew.heap.size ≤ b := h; have h3 : w5.heap.size ≤ b := h2; omega)), by rw [hw6]; simp; omega, fun b h hlt => by
   have h3 : w5.heap.size ≤ b := h
   rw [hset b (by omega), HGr.out.block b (by simp; omega) (by simp [Value.ownBlock]; omega)]
   exact Below.heap_alloc _ _ _ hlt⟩
  refine rep_of_row (base := w.heap.size) (t := 41) (cs := vq ++ vp) (els := [dq, X.1.enc]) ?_ (fun g hg => ?_) ⟨fun e he => ?_, ?_⟩
  ·have ho := HOw.out
   rw [hw6]
   have hne : ga ≠ W1.heap.size := by rcases hga with h | h <;> omega
   exact ownsRow_setCell_other (a := ⟨W1.heap.size, 2, none⟩) ho (fun e => hne (by simpa [Value.ownBlock] using e)) _
  ·have h0 : ga = g := by simpa [Value.ownBlock] using hg
   rcases hga with h | h
   ·exact Or.inr (Or.inl (by omega))
   ·exact Or.inr (Or.inr (by omega))
  ·simp at he; rcases he with rfl | rfl; exact hdq; exact enc_len _
  ·simp only [List.flatten_cons, List.flatten_nil, List.append_nil]
   exact r1.append r2)
 clear HAr HAo HWaT HPa HTa HGr HOw HAt HSa HSp HVp HTp HP hS
 have HAr := HAr'
 clear HAr'
 rw [← HW6.out]
 clear hw6 HW6 HX H5 HT5 HB5
 have HX := HX'
 clear HX'
 have x0 := Lib.cell_of_heap HX.out 0
 have x1 := Lib.cell_of_heap HX.out 1
 have x2 := Lib.cell_of_heap HX.out 2
 have x3 := Lib.cell_of_heap HX.out 3
 have x4 := Lib.cell_of_heap HX.out 4
 have x5 := Lib.cell_of_heap HX.out 5
 have x6 := Lib.cell_of_heap HX.out 6
 have x7 := Lib.cell_of_heap HX.out 7
 have x8 := Lib.cell_of_heap HX.out 8
 have x9 := Lib.cell_of_heap HX.out 9
 have x10 := Lib.cell_of_heap HX.out 10
 have x11 := Lib.cell_of_heap HX.out 11
 have x12 := Lib.cell_of_heap HX.out 12
 have x13 := Lib.cell_of_heap HX.out 13
 have x14 := Lib.cell_of_heap HX.out 14
 have x15 := Lib.cell_of_heap HX.out 15
 have xf := Lib.frozen_of_heap HX.out
 have xs := holds_size HX.out
 simp only [List.getElem?_toArray, List.getElem?_cons_zero, List.getElem?_cons_succ] at x0 x1 x2 x3 x4 x5 x6 x7 x8 x9 x10 x11 x12 x13 x14 x15
 go_wp2_with fail
 clear xf xs x0 x1 x2 x3 x4 x5 x6 x7 x8 x9 x10 x11 x12 x13 x14 x15
 refine (HEx.out w6 H6.out).mono ?_
 rintro e w7 ⟨rfl, h, ht⟩
 have H7 := hide h
 have HT7 := hide (HT6.out.trans ht)
 have HB7 := hide (HB6.out.turn ht crq)
 have hz7 : w.heap.size + 4 ≤ w7.heap.size := Nat.le_trans hz6 ht.size
 replace HAr := hide (HAr.out.stay (Stay.turn ht hnp))
 replace HX := hide (holds_turn HX.out ht hqt)
 clear h ht H6 HT6 HB6 HEx
 have x0 := Lib.cell_of_heap HX.out 0
 have x1 := Lib.cell_of_heap HX.out 1
 have x2 := Lib.cell_of_heap HX.out 2
 have x3 := Lib.cell_of_heap HX.out 3
 have x4 := Lib.cell_of_heap HX.out 4
 have x5 := Lib.cell_of_heap HX.out 5
 have x6 := Lib.cell_of_heap HX.out 6
 have x7 := Lib.cell_of_heap HX.out 7
 have x8 := Lib.cell_of_heap HX.out 8
 have x9 := Lib.cell_of_heap HX.out 9
 have x10 := Lib.cell_of_heap HX.out 10
 have x11 := Lib.cell_of_heap HX.out 11
 have x12 := Lib.cell_of_heap HX.out 12
 have x13 := Lib.cell_of_heap HX.out 13
 have x14 := Lib.cell_of_heap HX.out 14
 have x15 := Lib.cell_of_heap HX.out 15
 have xf := Lib.frozen_of_heap HX.out
 have xs := holds_size HX.out
 simp only [List.getElem?_toArray, List.getElem?_cons_zero, List.getElem?_cons_succ] at x0 x1 x2 x3 x4 x5 x6 x7 x8 x9 x10 x11 x12 x13 x14 x15
 go_wp2_with fail
 clear xf xs x0 x1 x2 x3 x4 x5 x6 x7 x8 x9 x10 x11 x12 x13 x14 x15
 refine (HM2.out w7 H7.out).mono ?_
 rintro e w8 ⟨v8, rfl, hv, h, ht⟩
 have H8 := hide h
 have HT8 := hide (HT7.out.trans ht)
 have HB8 := hide (HB7.out.turn ht crq)
 have hz8 : w.heap.size + 4 ≤ w8.heap.size := Nat.le_trans hz7 ht.size
 replace HAr := hide (HAr.out.stay (Stay.turn ht hnp))
 replace HX := hide (holds_turn HX.out ht hqt)
 have HV8 := hide (hv.stay (Stay.at (Q := PSt' Pq w.heap.size W0.heap.size W1.heap.size) (fun b hb => Or.inr (Or.inr (by have h1 := hz7; have h2 : _ ≤ b := hb; omega))) _))
 clear hv
 clear h ht H7 HT7 HB7 HM2
 obtain ⟨A8, n8, c8, hsl⟩ := HV8.out.slice
 subst hsl
 obtain ⟨w9, hw9⟩ : ∃ W, W = (w8.setCell ⟨W1.heap.size, 12, none⟩ (.slice A8 n8 c8)) := ⟨_, rfl⟩
 have HW9 := hide hw9
 have H9 := hide (show ParAt q TL E w9 _ by rw [hw9]; exact (H8.out.put (p := ⟨W1.heap.size, 12, none⟩) hqt _))
 have HT9 := hide (show Turn q w w9 by rw [hw9]; exact (HT8.out.put (p := ⟨W1.heap.size, 12, none⟩) (by simp; omega) _))
 have HX' := hide (show HoldB W1.heap.size 41 [.int .i64 5, .string ⟨#[]⟩, .slice (some ⟨ga, 0, none⟩) 2 ca, .int .i64 0, .string ⟨#[]⟩, .int .i64 0, .int .i64 0, .string ⟨#[]⟩, .string ⟨#[]⟩, .slice none 0 0, .slice none 0 0, .slice none 0 0, .slice A8 n8 c8, .slice none 0 0, .slice none 0 0, .int .i64 0] w9 by rw [hw9]; exact (Joins.block_setCell (i := 12) HX.out _))
 have hz9 : w.heap.size + 4 ≤ w9.heap.size := by rw [hw9]; simp; omega
 have HB9 := hide (show BoxAt (w.heap.size + 1) 41 16 w9 by rw [hw9]; exact (HB8.out.set (by omega) _ _))
 have hst : Stay (PSt' Pq w.heap.size W0.heap.size W1.heap.size) (PSt' Pq w.heap.size W0.heap.size W1.heap.size) w8 w9 := ⟨fun _ _ h => h, by rw [hw9]; simp, fun b hb _ => by
  have hbt : b ≠ W1.heap.size := pst_ne hb (by omega) hlo1
  rw [hw9]; exact Below.heap_setCell w8 ⟨W1.heap.size, 12, none⟩ (.slice A8 n8 c8) b hbt⟩
 replace HAr := hide (HAr.out.stay hst)
 replace HV8 := hide (HV8.out.stay hst)
 have x0 := Lib.cell_of_heap HX.out 0
 have x1 := Lib.cell_of_heap HX.out 1
 have x2 := Lib.cell_of_heap HX.out 2
 have x3 := Lib.cell_of_heap HX.out 3
 have x4 := Lib.cell_of_heap HX.out 4
 have x5 := Lib.cell_of_heap HX.out 5
 have x6 := Lib.cell_of_heap HX.out 6
 have x7 := Lib.cell_of_heap HX.out 7
 have x8 := Lib.cell_of_heap HX.out 8
 have x9 := Lib.cell_of_heap HX.out 9
 have x10 := Lib.cell_of_heap HX.out 10
 have x11 := Lib.cell_of_heap HX.out 11
 have x12 := Lib.cell_of_heap HX.out 12
 have x13 := Lib.cell_of_heap HX.out 13
 have x14 := Lib.cell_of_heap HX.out 14
 have x15 := Lib.cell_of_heap HX.out 15
 have xf := Lib.frozen_of_heap HX.out
 have xs := holds_size HX.out
 simp only [List.getElem?_toArray, List.getElem?_cons_zero, List.getElem?_cons_succ] at x0 x1 x2 x3 x4 x5 x6 x7 x8 x9 x10 x11 x12 x13 x14 x15
 have y0 := Lib.cell_of_heap HX'.out 0
 have y2 := Lib.cell_of_heap HX'.out 2
 have y4 := Lib.cell_of_heap HX'.out 10
 have y5 := Lib.cell_of_heap HX'.out 11
 simp only [List.getElem?_toArray, List.getElem?_cons_zero, List.getElem?_cons_succ] at y0 y2 y4 y5
 clear hw9
 go_wp2_with (first | rw [← HW9.out] | (refine wpList_loadBig rfl 41 _ rfl W1.heap.size 16 [.int .i64 5, .string ⟨#[]⟩, .slice (some ⟨ga, 0, none⟩) 2 ca, .int .i64 0, .string ⟨#[]⟩, .int .i64 0, .int .i64 0, .string ⟨#[]⟩, .string ⟨#[]⟩, .slice none 0 0, .slice none 0 0, .slice none 0 0, .slice A8 n8 c8, .slice none 0 0, .slice none 0 0, .int .i64 0] big_plan rfl rfl HX'.out ?_) | (refine wpList_storeBig rfl 41 _ _ rfl (w.heap.size + 1) 16 [.int .i64 5, .string ⟨#[]⟩, .slice (some ⟨ga, 0, none⟩) 2 ca, .int .i64 0, .string ⟨#[]⟩, .int .i64 0, .int .i64 0, .string ⟨#[]⟩, .string ⟨#[]⟩, .slice none 0 0, .slice none 0 0, .slice none 0 0, .slice A8 n8 c8, .slice none 0 0, .slice none 0 0, .int .i64 0] big_plan rfl (by intro u hu; simp only [List.mem_cons, List.not_mem_nil, or_false] at hu; rcases hu with rfl | rfl | rfl | rfl | rfl | rfl | rfl | rfl | rfl | rfl | rfl | rfl | rfl | rfl | rfl | rfl <;> rfl) rfl rfl HB9.out ?_))
 clear xf xs x0 x1 x2 x3 x4 x5 x6 x7 x8 x9 x10 x11 x12 x13 x14 x15
 clear y0 y2 y4 y5 HX H8 HT8 HB8 HW9
 have HX := HX'
 clear HX'
 refine bodyPost_ret (v := .agg #[.int .i64 5, .string ⟨#[]⟩, .slice (some ⟨ga, 0, none⟩) 2 ca, .int .i64 0, .string ⟨#[]⟩, .int .i64 0, .int .i64 0, .string ⟨#[]⟩, .string ⟨#[]⟩, .slice none 0 0, .slice none 0 0, .slice none 0 0, .slice A8 n8 c8, .slice none 0 0, .slice none 0 0, .int .i64 0]) (results_big (vs := [.int .i64 5, .string ⟨#[]⟩, .slice (some ⟨ga, 0, none⟩) 2 ca, .int .i64 0, .string ⟨#[]⟩, .int .i64 0, .int .i64 0, .string ⟨#[]⟩, .string ⟨#[]⟩, .slice none 0 0, .slice none 0 0, .slice none 0 0, .slice A8 n8 c8, .slice none 0 0, .slice none 0 0, .int .i64 0]) rfl rfl big_plan rfl (set_row _ HB9.out.choose_spec.1)) rfl ?_
 exact ⟨[.int .i64 5, .string ⟨#[]⟩, .slice (some ⟨ga, 0, none⟩) 2 ca, .int .i64 0, .string ⟨#[]⟩, .int .i64 0, .int .i64 0, .string ⟨#[]⟩, .string ⟨#[]⟩, .slice none 0 0, .slice none 0 0, .slice none 0 0, .slice A8 n8 c8, .slice none 0 0, .slice none 0 0, .int .i64 0], rfl, (rep_plan (p := {k := 5, args := [dq, X.1.enc], on := Y.1}) HAr.out (rep_zeroE _ _) (rep_nil _ _ _) (rep_nil _ _ _) HV8.out (rep_nil _ _ _) (rep_nil _ _ _)).stay (pst_fin _ _ hlo0 (by omega)), H9.out.row crq _, HT9.out.row (Nat.le_succ _) _⟩
end Go.Proofs.YtljoajjlkjjgeaaGreatDoor
namespace Go.Proofs.YtljoajjlkjjgeaaGreatDoor
open Go.RowKit Go.Sort LM Go

attribute [local go_sem] fld_tok0 fld_tok1 fld_tok2
abbrev dK (x : XT × ByteArray) : List Dt := dE x.1 ++ [dS x.2]
theorem own_val {w : World} {base n sz : Nat} {t : TypeId} {v : Value} {cs : List Value} (h : w.ownsRow base t sz v n cs) : ∃ A c, v = .slice A n c := by
 rcases h.2 with ⟨rfl, h0⟩ | ⟨g, cap, cur, e, _⟩
 ·rw [h0]; exact ⟨none, 0, rfl⟩
 ·exact ⟨_, cap, e⟩
theorem kept_at {P : Nat → Prop} {w : World} {x : XT} {nm : ByteArray} {f : Nat → Value} (h : ∀ i, i < 8 → Rep P w ((dK (x, nm)).getD i d0) (f i)) :
  ∃ A m cap, f 0 = .int .i64 x.kind ∧ f 1 = .string x.name ∧ f 2 = .int .i64 x.val.1 ∧ f 3 = .int .i64 x.val.2.1 ∧ f 4 = .string x.val.2.2 ∧ f 5 = .string x.op ∧ f 6 = .slice A m cap ∧ f 7 = .string nm ∧
   RepC P w (dE x) [.int .i64 x.kind, .string x.name, .int .i64 x.val.1, .int .i64 x.val.2.1, .string x.val.2.2, .string x.op, .slice A m cap] := by
 obtain ⟨k, n, u, o, A, c, ts⟩ := x
 have e0 := (show Rep P w (dI k) (f 0) from h 0 (by decide)).int
 have e1 := (show Rep P w (dS n) (f 1) from h 1 (by decide)).str
 have e2 := (show Rep P w (dI u.1) (f 2) from h 2 (by decide)).int
 have e3 := (show Rep P w (dI u.2.1) (f 3) from h 3 (by decide)).int
 have e4 := (show Rep P w (dS u.2.2) (f 4) from h 4 (by decide)).str
 have e5 := (show Rep P w (dS o) (f 5) from h 5 (by decide)).str
 have h6 : Rep P w (.row 7 (dEs ts)) (f 6) := h 6 (by decide)
 have e7 := (show Rep P w (dS nm) (f 7) from h 7 (by decide)).str
 obtain ⟨A', n', c', e6⟩ := h6.slice
 rw [e6] at h6
 exact ⟨A', n', c', e0, e1, e2, e3, e4, e5, e6, e7, RepC.cons (rep_int _ _ _) (RepC.cons (rep_str _ _ _) (RepC.cons (rep_int _ _ _) (RepC.cons (rep_int _ _ _) (RepC.cons (rep_str _ _ _) (RepC.cons (rep_str _ _ _) (RepC.cons h6 (RepC.nil _ _)))))))⟩
theorem dK_len (x : XT × ByteArray) : (dK x).length = 8 := by simp [dK, dE_len]
theorem dKs_at {l : List (XT × ByteArray)} {j : Nat} (h : j < l.length) : (l.map dK).getD j [] = dK l[j] := by
 rw [List.getD_eq_getElem?_getD, List.getElem?_map, List.getElem?_eq_getElem h]; rfl
theorem take_map {α β : Type} (f : α → β) (l : List α) (j : Nat) (h : j < l.length) : (l.take (j + 1)).map f = (l.take j).map f ++ [f l[j]] := by
 rw [List.take_succ_eq_append_getElem h, List.map_append, List.map_singleton]
theorem put_out {Pq : Nat → Prop} {lo ab tb Lb : Nat} {w w' : World} (P := fun b => PSt' Pq lo ab tb b ∧ b < Lb) (hs : w.heap.size ≤ w'.heap.size) (h : ∀ b, P b → b < w.heap.size → w'.heap[b]? = w.heap[b]?) : Stay P P w w' := ⟨fun _ _ h => h, hs, h⟩
theorem strs_rep (P : Nat → Prop) (w : World) : ∀ l : List (XT × ByteArray), RepC P w (l.map ((fun s => [dS s]) ∘ (·.2))).flatten (l.map fun y => Value.string y.2)
 | [] => RepC.nil _ _
 | _ :: r => RepC.cons (rep_str _ _ _) (strs_rep P w r)
set_option maxHeartbeats 8000000 in
set_option maxRecDepth 100000 in
theorem stepKeep {q : Nat} {TL : List Tk} {E : Nat} {Pq : Nat → Prop} (hPq : ¬ Pq q) (X : List (XT × ByteArray) × PSt) (dq : List Dt) (hdq : dq.length = 16) (vq : List Value) (s : PSt) (w : World) (H : ParAt q TL E w s) (hq : RepC Pq w dq vq) (hk : (oneOfS stepWords s).1 = 2) (hlx : X.1.length ≤ 20000)
  (HM : ∀ w1, ParAt q TL E w1 (oneOfS stepWords s).2 → Calls Tryz.prog 74 #[pP q, .func (.func 75) #[pP q] #[]] w1 (OneTo q TL E w1 (.row 8 (X.1.map dK)) X.2)) :
  Calls Tryz.prog 58 #[pP q, .agg vq.toArray] w (PlanTo q TL E Pq w ({k := 3, args := [dq], exprs := X.1.map (·.1), names := X.1.map (·.2)} : Pl).enc X.2) := by
 have cq := H.lt
 have crq : q < w.heap.size + 1 := by omega
 obtain ⟨i0, hi, hzi, hsi, hbi⟩ := info_parts plan_info
 have hlq : vq.length = 16 := hq.1.trans hdq
 have HOf := hide (fun A w1 (h : ParAt q TL E w1 s) (hA : StrW q w1 A stepWords) => oneOf_any A 8 stepWords w1 h hA (by decide))
 unfold StepTo at HOf
 rw [hk] at HOf
 unfold OneTo at HM
 replace HM := hide HM
 have h1q := hq.one_cell
 obtain ⟨W0, hW0⟩ : ∃ W0, W0 = (w.alloc (.cells vq.toArray 41)).alloc (.cells #[.int .i64 0, .string ⟨#[]⟩, .slice none 0 0, .int .i64 0, .string ⟨#[]⟩, .int .i64 0, .int .i64 0, .string ⟨#[]⟩, .string ⟨#[]⟩, .slice none 0 0, .slice none 0 0, .slice none 0 0, .slice none 0 0, .slice none 0 0, .slice none 0 0, .int .i64 0] 41) := ⟨_, rfl⟩
 have e0 : W0.heap.size = w.heap.size + 2 := by rw [hW0]; simp
 have HW0 := hide hW0
 have b0 : Below w.heap.size w W0 := by rw [hW0]; exact (Joins.below_alloc1 w _).alloc (Joins.below_alloc1 w _).size _
 have k0 : W0.heap[w.heap.size]? = some (.cells vq.toArray 41 (0, 0)) := by rw [hW0, Below.heap_alloc _ _ _ (by simp)]; exact heap_alloc_new _ _
 have k1 : W0.heap[w.heap.size + 1]? = some (.cells #[.int .i64 0, .string ⟨#[]⟩, .slice none 0 0, .int .i64 0, .string ⟨#[]⟩, .int .i64 0, .int .i64 0, .string ⟨#[]⟩, .string ⟨#[]⟩, .slice none 0 0, .slice none 0 0, .slice none 0 0, .slice none 0 0, .slice none 0 0, .slice none 0 0, .int .i64 0] 41 (0, 0)) := by rw [hW0, show w.heap.size + 1 = (w.alloc (.cells vq.toArray 41)).heap.size by simp]; exact heap_alloc_new _ _
 obtain ⟨W1, hW1⟩ : ∃ W1, W1 = W0.alloc (.cells vq.toArray 41) := ⟨_, rfl⟩
 have e1 : W1.heap.size = w.heap.size + 3 := by rw [hW1]; simp [e0]
 have HW1 := hide hW1
 have b1 : Below w.heap.size w W1 := by rw [hW1]; exact b0.alloc b0.size _
 obtain ⟨w2, hw2⟩ : ∃ w2, w2 = W1.alloc (.cells #[.int .i64 0, .string ⟨#[]⟩, .slice (some ⟨W0.heap.size, 0, none⟩) 1 1, .int .i64 0, .string ⟨#[]⟩, .int .i64 0, .int .i64 0, .string ⟨#[]⟩, .string ⟨#[]⟩, .slice none 0 0, .slice none 0 0, .slice none 0 0, .slice none 0 0, .slice none 0 0, .slice none 0 0, .int .i64 0] 41) := ⟨_, rfl⟩
 have HW2 := hide (show w2 = (W1.alloc (.cells #[.int .i64 0, .string ⟨#[]⟩, .slice none 0 0, .int .i64 0, .string ⟨#[]⟩, .int .i64 0, .int .i64 0, .string ⟨#[]⟩, .string ⟨#[]⟩, .slice none 0 0, .slice none 0 0, .slice none 0 0, .slice none 0 0, .slice none 0 0, .slice none 0 0, .int .i64 0] 41)).setRow W1.heap.size #[.int .i64 0, .string ⟨#[]⟩, .slice (some ⟨W0.heap.size, 0, none⟩) 1 1, .int .i64 0, .string ⟨#[]⟩, .int .i64 0, .int .i64 0, .string ⟨#[]⟩, .string ⟨#[]⟩, .slice none 0 0, .slice none 0 0, .slice none 0 0, .slice none 0 0, .slice none 0 0, .slice none 0 0, .int .i64 0] by rw [hw2, World.setRow_alloc_new])
 have b2 : Below w.heap.size w w2 := by rw [hw2]; exact b1.alloc b1.size _
 have e2 : w2.heap.size = w.heap.size + 4 := by rw [hw2]; simp [e1]
 have hz2 : w.heap.size + 4 ≤ w2.heap.size := Nat.le_of_eq e2.symm
 have H2 := hide (H.on b2)
 have HT2 := hide (Turn.of (q := q) b2)
 have HX := hide (show HoldB W1.heap.size 41 [.int .i64 0, .string ⟨#[]⟩, .slice (some ⟨W0.heap.size, 0, none⟩) 1 1, .int .i64 0, .string ⟨#[]⟩, .int .i64 0, .int .i64 0, .string ⟨#[]⟩, .string ⟨#[]⟩, .slice none 0 0, .slice none 0 0, .slice none 0 0, .slice none 0 0, .slice none 0 0, .slice none 0 0, .int .i64 0] w2 by rw [hw2]; exact heap_alloc_new _ _)
 have HB2 := hide (show BoxAt (w.heap.size + 1) 41 16 w2 by
  refine ⟨#[.int .i64 0, .string ⟨#[]⟩, .slice none 0 0, .int .i64 0, .string ⟨#[]⟩, .int .i64 0, .int .i64 0, .string ⟨#[]⟩, .string ⟨#[]⟩, .slice none 0 0, .slice none 0 0, .slice none 0 0, .slice none 0 0, .slice none 0 0, .slice none 0 0, .int .i64 0], ?_, rfl⟩
  rw [hw2, Below.heap_alloc _ _ _ (by omega), hW1, Below.heap_alloc _ _ _ (by omega)]; exact k1)
 have HAb := hide (show W0.heap.size < w2.heap.size by omega)
 have HAr := hide (show Rep (PSt' Pq w.heap.size W0.heap.size W1.heap.size) w2 (.row 16 [dq]) (.slice (some ⟨W0.heap.size, 0, none⟩) 1 1) from
  rep_one (t := 41) hq ⟨fun b hb h => Or.inl ⟨h, hb⟩, b2.size, fun b _ hb => b2.block b hb⟩ (Or.inr (Or.inl rfl)) (by omega) (by
   rw [hw2, Below.heap_alloc _ _ _ (by omega), hW1]; exact heap_alloc_new _ _))
 have hnp : ¬ PSt' Pq w.heap.size W0.heap.size W1.heap.size q := by
  rintro (h | h | h)
  ·exact hPq h.1
  ·omega
  ·omega
 have hlo0 : w.heap.size + 2 ≤ W0.heap.size := by omega
 have hlo1 : W0.heap.size < W1.heap.size := by omega
 have hlo2 : W1.heap.size < w2.heap.size := by omega
 have hqt : q < W1.heap.size := by omega
 have hup : W1.heap.size ≤ w.heap.size + 3 := by omega
 have hup0 : W0.heap.size ≤ w.heap.size + 2 := by omega
 have HK0 := hide k0
 have HAo := hide (show HoldB W0.heap.size 41 vq w2 by rw [hw2, HoldB, Below.heap_alloc _ _ _ (by omega), hW1]; exact heap_alloc_new _ _)
 have hqa : q < W0.heap.size := by omega
 unfold PlanTo
 clear hk e0 e1 e2 k0 k1 hW0 hW1 hw2 b0 b1 b2
 obtain ⟨w3, hw3⟩ : ∃ W, W = w2.alloc (.cells #[.string ⟨#[119, 104, 101, 114, 101]⟩, .string ⟨#[107, 101, 101, 112]⟩, .string ⟨#[106, 111, 105, 110]⟩, .string ⟨#[108, 101, 102, 116]⟩, .string ⟨#[103, 114, 111, 117, 112]⟩, .string ⟨#[117, 110, 105, 111, 110]⟩, .string ⟨#[100, 105, 115, 116, 105, 110, 99, 116]⟩, .string ⟨#[102, 105, 114, 115, 116]⟩] 9) := ⟨_, rfl⟩
 have HW3 := hide hw3
 have H3 := hide (show ParAt q TL E w3 _ by rw [hw3]; exact H2.out.alloc _)
 have HT3 := hide (show Turn q w w3 by rw [hw3]; exact HT2.out.alloc _)
 have hz3 : w.heap.size + 4 ≤ w3.heap.size := by rw [hw3]; simp; omega
 have HB3 := hide (show BoxAt (w.heap.size + 1) 41 16 w3 by rw [hw3]; exact HB2.out.turn ((Turn.refl q _).alloc _) crq)
 replace HAr := hide (HAr.out.stay (Stay.below (show Below w2.heap.size w2 w3 by rw [hw3]; exact Joins.below_alloc1 _ _)))
 replace HX := hide (show HoldB _ _ _ w3 by rw [hw3]; exact holds_turn HX.out ((Turn.refl q _).alloc _) hqt)
 replace HAo := hide (show HoldB _ _ _ w3 by rw [hw3]; exact holds_turn HAo.out ((Turn.refl q _).alloc _) hqa)
 have HS3 := hide (show StrW q w3 (some ⟨w2.heap.size, 0, none⟩) stepWords by rw [hw3]; exact strW_new w2 q stepWords _ (by omega))
 clear hw3 H2 HT2 HB2
 go_enter Tryz.func58, Tryz.ntmps58
 go_wp2_with (first | rw [← HW0.out] | rw [← HW3.out] | (refine wpList_loadBig rfl 41 _ rfl w.heap.size 16 vq big_plan hlq rfl HK0.out ?_) | (refine wpList_buildOne rfl 31 41 _ rfl 16 vq rfl hlq (by decide) (by decide) Tryz.underlying31 i0 _ hi hzi hsi ?_; rw [← HW1.out]) | (refine wpList_storeBig rfl 41 _ _ rfl W1.heap.size 16 [.int .i64 0, .string ⟨#[]⟩, .slice (some ⟨W0.heap.size, 0, none⟩) 1 1, .int .i64 0, .string ⟨#[]⟩, .int .i64 0, .int .i64 0, .string ⟨#[]⟩, .string ⟨#[]⟩, .slice none 0 0, .slice none 0 0, .slice none 0 0, .slice none 0 0, .slice none 0 0, .slice none 0 0, .int .i64 0] big_plan rfl (by simp [Value.oneCell']) rfl rfl (box_new _ _ _ rfl) ?_; rw [← HW2.out]))
 clear HW0 HW1 HW2 HW3 HK0
 refine (HOf.out _ w3 H3.out HS3.out).mono ?_
 rintro e w4 ⟨rfl, h, ht⟩
 have H4 := hide h
 have HT4 := hide (HT3.out.trans ht)
 have HB4 := hide (HB3.out.turn ht crq)
 have hz4 : w.heap.size + 4 ≤ w4.heap.size := Nat.le_trans hz3 ht.size
 replace HAr := hide (HAr.out.stay (Stay.turn ht hnp))
 replace HX := hide (holds_turn HX.out ht hqt)
 replace HAo := hide (holds_turn HAo.out ht hqa)
 clear h ht H3 HT3 HB3 HS3 HOf
 obtain ⟨w5, hw5⟩ : ∃ W, W = (w4.setCell ⟨W1.heap.size, 0, none⟩ (.int .i64 3)) := ⟨_, rfl⟩
 have HW5 := hide hw5
 have H5 := hide (show ParAt q TL E w5 _ by rw [hw5]; exact (H4.out.put (p := ⟨W1.heap.size, 0, none⟩) hqt _))
 have HT5 := hide (show Turn q w w5 by rw [hw5]; exact (HT4.out.put (p := ⟨W1.heap.size, 0, none⟩) (by simp; omega) _))
 have HX' := hide (show HoldB W1.heap.size 41 [.int .i64 3, .string ⟨#[]⟩, .slice (some ⟨W0.heap.size, 0, none⟩) 1 1, .int .i64 0, .string ⟨#[]⟩, .int .i64 0, .int .i64 0, .string ⟨#[]⟩, .string ⟨#[]⟩, .slice none 0 0, .slice none 0 0, .slice none 0 0, .slice none 0 0, .slice none 0 0, .slice none 0 0, .int .i64 0] w5 by rw [hw5]; exact (Joins.block_setCell (i := 0) HX.out _))
 have hz5 : w.heap.size + 4 ≤ w5.heap.size := by rw [hw5]; simp; omega
 have HB5 := hide (show BoxAt (w.heap.size + 1) 41 16 w5 by rw [hw5]; exact (HB4.out.set (by omega) _ _))
 have hst : Stay (PSt' Pq w.heap.size W0.heap.size W1.heap.size) (PSt' Pq w.heap.size W0.heap.size W1.heap.size) w4 w5 := ⟨fun _ _ h => h, by rw [hw5]; simp, fun b hb _ => by
  have hbt : b ≠ W1.heap.size := pst_ne hb (by omega) hlo1
  rw [hw5]; exact Below.heap_setCell w4 ⟨W1.heap.size, 0, none⟩ (.int .i64 3) b hbt⟩
 replace HAr := hide (HAr.out.stay hst)
 have HAo' := hide (show HoldB W0.heap.size 41 vq w5 by
  have b := W0.heap.size
  have hbt : W0.heap.size ≠ W1.heap.size := by omega
  rw [hw5]; exact (Below.heap_setCell w4 ⟨W1.heap.size, 0, none⟩ (.int .i64 3) W0.heap.size hbt).trans HAo.out)
 clear HAo
 have HAo := HAo'
 clear HAo' hst
 have x0 := Lib.cell_of_heap HX.out 0
 have x1 := Lib.cell_of_heap HX.out 1
 have x2 := Lib.cell_of_heap HX.out 2
 have x3 := Lib.cell_of_heap HX.out 3
 have x4 := Lib.cell_of_heap HX.out 4
 have x5 := Lib.cell_of_heap HX.out 5
 have x6 := Lib.cell_of_heap HX.out 6
 have x7 := Lib.cell_of_heap HX.out 7
 have x8 := Lib.cell_of_heap HX.out 8
 have x9 := Lib.cell_of_heap HX.out 9
 have x10 := Lib.cell_of_heap HX.out 10
 have x11 := Lib.cell_of_heap HX.out 11
 have x12 := Lib.cell_of_heap HX.out 12
 have x13 := Lib.cell_of_heap HX.out 13
 have x14 := Lib.cell_of_heap HX.out 14
 have x15 := Lib.cell_of_heap HX.out 15
 have xf := Lib.frozen_of_heap HX.out
 have xs := holds_size HX.out
 simp only [List.getElem?_toArray, List.getElem?_cons_zero, List.getElem?_cons_succ] at x0 x1 x2 x3 x4 x5 x6 x7 x8 x9 x10 x11 x12 x13 x14 x15
 have y0 := Lib.cell_of_heap HX'.out 0
 have y2 := Lib.cell_of_heap HX'.out 2
 have y4 := Lib.cell_of_heap HX'.out 10
 have y5 := Lib.cell_of_heap HX'.out 11
 simp only [List.getElem?_toArray, List.getElem?_cons_zero, List.getElem?_cons_succ] at y0 y2 y4 y5
 clear hw5
 go_wp2_with (first | rw [← HW5.out])
 clear xf xs x0 x1 x2 x3 x4 x5 x6 x7 x8 x9 x10 x11 x12 x13 x14 x15
 clear y0 y2 y4 y5 HX H4 HT4 HB4 HW5
 have HX := HX'
 clear HX'
 refine (HM.out w5 H5.out).mono ?_
 rintro e w6 ⟨v6, rfl, hv, h, ht⟩
 have H6 := hide h
 have HT6 := hide (HT5.out.trans ht)
 have HB6 := hide (HB5.out.turn ht crq)
 have hz6 : w.heap.size + 4 ≤ w6.heap.size := Nat.le_trans hz5 ht.size
 replace HAr := hide (HAr.out.stay (Stay.turn ht hnp))
 replace HX := hide (holds_turn HX.out ht hqt)
 replace HAo := hide (holds_turn HAo.out ht hqa)
 have HV6 := hide (hv.stay (Stay.at (Q := PSt' Pq w.heap.size W0.heap.size W1.heap.size) (fun b hb => Or.inr (Or.inr (by have h1 := hz5; have h2 : _ ≤ b := hb; omega))) _))
 clear hv
 clear h ht H5 HT5 HB5 HM
 obtain ⟨A6, n6, c6, hsl⟩ := HV6.out.slice
 subst hsl
 have hrowl := HV6.out.row_inv
 obtain ⟨A0, cap0, e0, -, us, hcs, hrs⟩ := hrowl
 injection e0 with e0a e0b e0c
 have e0b' : n6 = X.1.length := by rw [e0b]; simp
 subst e0b'
 subst e0a
 clear e0b e0c
 have HCS := hide hcs
 have HRS := hide hrs
 have hll : X.1.length ≤ 20000 := hlx
 obtain ⟨ie, hie, hze, hse, hbe⟩ := info_parts infoExpr
 obtain ⟨is, his, hzs, hss, hbs⟩ := info_parts infoStr
 have hLb : W1.heap.size < w6.heap.size := by omega
 clear hcs hrs HV6
 have hl1 : (X.1.length : Int) ≤ 20000 := by omega
 have x0 := Lib.cell_of_heap HX.out 0
 have x1 := Lib.cell_of_heap HX.out 1
 have x2 := Lib.cell_of_heap HX.out 2
 have x3 := Lib.cell_of_heap HX.out 3
 have x4 := Lib.cell_of_heap HX.out 4
 have x5 := Lib.cell_of_heap HX.out 5
 have x6 := Lib.cell_of_heap HX.out 6
 have x7 := Lib.cell_of_heap HX.out 7
 have x8 := Lib.cell_of_heap HX.out 8
 have x9 := Lib.cell_of_heap HX.out 9
 have x10 := Lib.cell_of_heap HX.out 10
 have x11 := Lib.cell_of_heap HX.out 11
 have x12 := Lib.cell_of_heap HX.out 12
 have x13 := Lib.cell_of_heap HX.out 13
 have x14 := Lib.cell_of_heap HX.out 14
 have x15 := Lib.cell_of_heap HX.out 15
 have xf := Lib.frozen_of_heap HX.out
 have xs := holds_size HX.out
 simp only [List.getElem?_toArray, List.getElem?_cons_zero, List.getElem?_cons_succ] at x0 x1 x2 x3 x4 x5 x6 x7 x8 x9 x10 x11 x12 x13 x14 x15
 go_wp2_with fail
 clear xf xs x0 x1 x2 x3 x4 x5 x6 x7 x8 x9 x10 x11 x12 x13 x14 x15
 have HS0 := hide (Stay.refl (fun b => PSt' Pq w.heap.size W0.heap.size W1.heap.size b ∧ b < w6.heap.size) w6)
 go_loopw [30] (fun i wr => ∃ (j : Nat) (vN vE : Value) (csE : List Value), i = .int .i64 j ∧ j ≤ X.1.length ∧ wr.ownsRow w6.heap.size 9 1 vN j ((X.1.take j).map fun y => Value.string y.2) ∧ wr.ownsRow w6.heap.size 36 7 vE j csE ∧ Hid (RepL (fun b => PSt' Pq w.heap.size W0.heap.size W1.heap.size b ∧ b < w6.heap.size) wr 7 ((X.1.take j).map fun y => dE y.1) csE) ∧ Hid (Stay (fun b => PSt' Pq w.heap.size W0.heap.size W1.heap.size b ∧ b < w6.heap.size) (fun b => PSt' Pq w.heap.size W0.heap.size W1.heap.size b ∧ b < w6.heap.size) w6 wr) ∧
   Hid (HoldB W1.heap.size 41 [.int .i64 3, .string ⟨#[]⟩, .slice (some ⟨W0.heap.size, 0, none⟩) 1 1, .int .i64 0, .string ⟨#[]⟩, .int .i64 0, .int .i64 0, .string ⟨#[]⟩, .string ⟨#[]⟩, .slice none 0 0, vN, vE, .slice none 0 0, .slice none 0 0, .slice none 0 0, .int .i64 0] wr) ∧ Hid (ParAt q TL E wr X.2) ∧ Hid (Turn q w wr) ∧ Hid (BoxAt (w.heap.size + 1) 41 16 wr) ∧ (∀ g, vN.ownBlock = some g → ¬ vE.ownBlock = some g) ∧ w6.heap.size ≤ wr.heap.size) (fun i _ => X.1.length - (intOf i).toNat)
 case atStart => exact ⟨0, .slice none 0 0, .slice none 0 0, [], rfl, Nat.zero_le _, World.ownsRow_nil _ _ _ _, World.ownsRow_nil _ _ _ _, hide (RepL.nil _ _ _), HS0, HX, H6, HT6, HB6, (fun g h => by cases h), Nat.le_refl _⟩
 case round =>
  obtain ⟨j, vN, vE, csE, rfl, hj, hN, hE, HRE, HSt, HX, HP, HTr, HB, hap, hsz⟩ := hrel
  clear HS0 
  obtain ⟨AN, cN, rfl⟩ := own_val hN
  obtain ⟨AE, cE, rfl⟩ := own_val hE
  have HNo := hide hN
  have HEo := hide hE
  have HAp := hide hap
  clear hN hE hap
  have x0 := Lib.cell_of_heap HX.out 0
  have x1 := Lib.cell_of_heap HX.out 1
  have x2 := Lib.cell_of_heap HX.out 2
  have x3 := Lib.cell_of_heap HX.out 3
  have x4 := Lib.cell_of_heap HX.out 4
  have x5 := Lib.cell_of_heap HX.out 5
  have x6 := Lib.cell_of_heap HX.out 6
  have x7 := Lib.cell_of_heap HX.out 7
  have x8 := Lib.cell_of_heap HX.out 8
  have x9 := Lib.cell_of_heap HX.out 9
  have x10 := Lib.cell_of_heap HX.out 10
  have x11 := Lib.cell_of_heap HX.out 11
  have x12 := Lib.cell_of_heap HX.out 12
  have x13 := Lib.cell_of_heap HX.out 13
  have x14 := Lib.cell_of_heap HX.out 14
  have x15 := Lib.cell_of_heap HX.out 15
  have xf := Lib.frozen_of_heap HX.out
  have xs := holds_size HX.out
  simp only [List.getElem?_toArray, List.getElem?_cons_zero, List.getElem?_cons_succ] at x0 x1 x2 x3 x4 x5 x6 x7 x8 x9 x10 x11 x12 x13 x14 x15
  by_cases hlt : j < X.1.length
  ·obtain ⟨b, off, eb, hPb, hbl, hcell⟩ := HCS.out j (by simpa using hlt)
   rw [dKs_at hlt, dK_len] at hcell
   have hr8 := fun i (hi : i < 8) => HRS.out j i (by simpa using hlt) (by rw [dKs_at hlt, dK_len]; exact hi)
   rw [dKs_at hlt] at hr8
   obtain ⟨xA, xm, xc, f0, f1, f2, f3, f4, f5, f6, f7, hrx⟩ := kept_at (x := X.1[j].1) (nm := X.1[j].2) (f := us j) hr8
   have hbw : b < w6.heap.size := hbl
   have hc : ∀ i, i < 8 → wr.cell? ⟨b, off + j * 8 + i, none⟩ = some (us j i) := fun i hi => (World.cell?_of_block (a := ⟨b, _, none⟩) (HSt.out.same b ⟨hPb, hbl⟩ hbl)).trans (hcell i hi)
   have g0 := (hc 0 (by decide)).trans (congrArg some f0); have g1 := (hc 1 (by decide)).trans (congrArg some f1); have g2 := (hc 2 (by decide)).trans (congrArg some f2); have g3 := (hc 3 (by decide)).trans (congrArg some f3)
   have g4 := (hc 4 (by decide)).trans (congrArg some f4); have g5 := (hc 5 (by decide)).trans (congrArg some f5); have g6 := (hc 6 (by decide)).trans (congrArg some f6); have g7 := (hc 7 (by decide)).trans (congrArg some f7)
   simp only [Nat.add_zero] at g0
   have hbr : b < wr.heap.size := by omega
   have HTN := hide (take_map (fun y : XT × ByteArray => Value.string y.2) X.1 j hlt)
   have HTE := hide (take_map (fun y : XT × ByteArray => dE y.1) X.1 j hlt)
   have HRX := hide (hrx.stay (Stay.trans (Q := (fun b => PSt' Pq w.heap.size W0.heap.size W1.heap.size b ∧ b < w6.heap.size)) ⟨fun b hb h => ⟨h, hb⟩, Nat.le_refl _, fun _ _ _ => rfl⟩ HSt.out))
   generalize X.1[j].1 = x at *
   generalize X.1[j].2 = nm at *
   subst eb
   clear hc hr8 hrx f0 f1 f2 f3 f4 f5 f6 f7 hcell
   have hl2 : (j : Int) < (X.1.length : Int) := by omega
   obtain ⟨wk, hwk⟩ : ∃ wk, wk = wr.alloc (.cells #[.int .i64 x.kind, .string x.name, .int .i64 x.val.1, .int .i64 x.val.2.1, .string x.val.2.2, .string x.op, .slice xA xm xc, .string nm] 146) := ⟨_, rfl⟩
   obtain ⟨wb, hwb⟩ : ∃ wb, wb = wk.alloc (.cells #[.int .i64 x.kind, .string x.name, .int .i64 x.val.1, .int .i64 x.val.2.1, .string x.val.2.2, .string x.op, .slice xA xm xc] 36) := ⟨_, rfl⟩
   have HWK := hide hwk
   have HWB := hide hwb
   have ek : wk.heap.size = wr.heap.size + 1 := by rw [hwk]; simp
   have ebb : wb.heap.size = wr.heap.size + 2 := by rw [hwb]; simp [ek]
   have hbk : ∀ c, c < wr.heap.size → wk.heap[c]? = wr.heap[c]? := fun c hc => by rw [hwk]; exact Below.heap_alloc _ _ _ hc
   have hbb : ∀ c, c < wr.heap.size → wb.heap[c]? = wr.heap[c]? := fun c hc => by rw [hwb]; exact (Below.heap_alloc _ _ _ (by omega)).trans (hbk c hc)
   have hKk : HoldB wr.heap.size 146 [.int .i64 x.kind, .string x.name, .int .i64 x.val.1, .int .i64 x.val.2.1, .string x.val.2.2, .string x.op, .slice xA xm xc, .string nm] wk := by rw [hwk]; exact heap_alloc_new _ _
   have hKb : HoldB wr.heap.size 146 [.int .i64 x.kind, .string x.name, .int .i64 x.val.1, .int .i64 x.val.2.1, .string x.val.2.2, .string x.op, .slice xA xm xc, .string nm] wb := by rw [hwb]; exact (Below.heap_alloc _ _ _ (by omega)).trans hKk
   have HKb := hide hKb
   have xk := Lib.cell_of_heap ((hbk W1.heap.size xs).trans HX.out) 11
   have kc0 := Lib.cell_of_heap hKk 0; have kc1 := Lib.cell_of_heap hKk 1; have kc2 := Lib.cell_of_heap hKk 2; have kc3 := Lib.cell_of_heap hKk 3; have kc4 := Lib.cell_of_heap hKk 4; have kc5 := Lib.cell_of_heap hKk 5; have kc6 := Lib.cell_of_heap hKk 6
   simp only [List.getElem?_toArray, List.getElem?_cons_zero, List.getElem?_cons_succ] at xk kc0 kc1 kc2 kc3 kc4 kc5 kc6
   have hEb : wb.ownsRow w6.heap.size 36 7 (.slice AE j cE) j csE := by rw [hwb, hwk]; exact (HEo.out.alloc _).alloc _
   have hNb : wb.ownsRow w6.heap.size 9 1 (.slice AN j cN) j ((X.1.take j).map fun y => Value.string y.2) := by rw [hwb, hwk]; exact (HNo.out.alloc _).alloc _
   have HNb := hide hNb
   have hnew : ∀ i u, ([.int .i64 x.kind, .string x.name, .int .i64 x.val.1, .int .i64 x.val.2.1, .string x.val.2.2, .string x.op, .slice xA xm xc] : List Value)[i]? = some u → wb.cell? ((⟨wk.heap.size, 0, none⟩ : Addr).add i) = some u := by rw [hwb]; exact new_cells wk [.int .i64 x.kind, .string x.name, .int .i64 x.val.1, .int .i64 x.val.2.1, .string x.val.2.2, .string x.op, .slice xA xm xc] 36 _ rfl
   have hone7 : ∀ u ∈ ([.int .i64 x.kind, .string x.name, .int .i64 x.val.1, .int .i64 x.val.2.1, .string x.val.2.2, .string x.op, .slice xA xm xc] : List Value), u.oneCell' = true := by simp [Value.oneCell']
   have HXb := hide (show HoldB W1.heap.size 41 [.int .i64 3, .string ⟨#[]⟩, .slice (some ⟨W0.heap.size, 0, none⟩) 1 1, .int .i64 0, .string ⟨#[]⟩, .int .i64 0, .int .i64 0, .string ⟨#[]⟩, .string ⟨#[]⟩, .slice none 0 0, .slice AN j cN, .slice AE j cE, .slice none 0 0, .slice none 0 0, .slice none 0 0, .int .i64 0] wb from (hbb W1.heap.size xs).trans HX.out)
   have HTb := hide (show Turn q w wb by rw [hwb, hwk]; exact (HTr.out.alloc _).alloc _)
   have HPb := hide (show ParAt q TL E wb X.2 by rw [hwb, hwk]; exact (HP.out.alloc _).alloc _)
   have Hbb := hide hbb
   have Hrb := hide (show wr.heap.size + 2 ≤ wb.heap.size by omega)
   have hjl : j < 20000 := by omega
   clear hwk hwb hbk hbb hKk hKb hNb ek ebb
   go_wp2_with (first | rw [← HWK.out] | (refine wpList_buildOne rfl 34 36 _ rfl 7 [.int .i64 x.kind, .string x.name, .int .i64 x.val.1, .int .i64 x.val.2.1, .string x.val.2.2, .string x.op, .slice xA xm xc] rfl rfl (by decide) (by decide) Tryz.underlying34 ie _ hie hze hse ?_; rw [← HWB.out]) | (at_builtin; go_must (refine wpList_append_own_at _ rfl _ _ 34 rfl w6.heap.size 36 ie _ 7 96 Tryz.underlying34 hie hze hse hbe rfl (by decide) (.slice AE j cE) j csE rfl hEb ⟨wk.heap.size, 0, none⟩ 1 1 [.int .i64 x.kind, .string x.name, .int .i64 x.val.1, .int .i64 x.val.2.1, .string x.val.2.2, .string x.op, .slice xA xm xc] rfl rfl hnew hone7 (by unfold maxLen; omega) (by omega) (by have := Hrb.out; omega) ?_)))
   intro vE1 we hownE hgrowE _ hatE
   obtain ⟨gE, cE1, rfl⟩ := own_slice hownE (Nat.succ_pos _)
   have hrowE : ∀ g, (Value.slice AE j cE).ownBlock = some g → w6.heap.size ≤ g ∧ g < wr.heap.size := fun g hg => HEo.out.lt g hg
   have hrowN : ∀ g, (Value.slice AN j cN).ownBlock = some g → w6.heap.size ≤ g ∧ g < wr.heap.size := fun g hg => HNo.out.lt g hg
   have hrb := Hrb.out
   have hse' := hgrowE.size
   have hneE : ∀ c, (c < w6.heap.size ∨ wr.heap.size ≤ c) → some c ≠ (Value.slice AE j cE).ownBlock := fun c hc e => by have := hrowE c e.symm; omega
   have hgE : (Value.slice AE j cE).ownBlock = some gE ∨ wb.heap.size = gE := by
    rcases hatE with h | h
    ·exact Or.inl (by rw [← h]; rfl)
    ·exact Or.inr (by simpa [Value.ownBlock] using h.symm)
   have hgE1 : w6.heap.size ≤ gE := by
    rcases hgE with h | h
    ·exact (hrowE _ h).1
    ·omega
   have HXe := hide (show HoldB W1.heap.size 41 [.int .i64 3, .string ⟨#[]⟩, .slice (some ⟨W0.heap.size, 0, none⟩) 1 1, .int .i64 0, .string ⟨#[]⟩, .int .i64 0, .int .i64 0, .string ⟨#[]⟩, .string ⟨#[]⟩, .slice none 0 0, .slice AN j cN, .slice AE j cE, .slice none 0 0, .slice none 0 0, .slice none 0 0, .int .i64 0] we from (hgrowE.block _ (holds_size HXb.out) (hneE _ (Or.inl hLb))).trans HXb.out)
   have HKe := hide (show HoldB wr.heap.size 146 [.int .i64 x.kind, .string x.name, .int .i64 x.val.1, .int .i64 x.val.2.1, .string x.val.2.2, .string x.op, .slice xA xm xc, .string nm] we from (hgrowE.block _ (holds_size HKb.out) (hneE _ (Or.inr (Nat.le_refl _)))).trans HKb.out)
   obtain ⟨w1, hw1⟩ : ∃ w1, w1 = we.setCell ⟨W1.heap.size, 11, none⟩ (.slice (some ⟨gE, 0, none⟩) (j + 1) cE1) := ⟨_, rfl⟩
   obtain ⟨wc, hwc⟩ : ∃ wc, wc = w1.alloc (.cells #[.string nm] 9) := ⟨_, rfl⟩
   have HW1' := hide hw1
   have HWC := hide hwc
   have e1 : w1.heap.size = we.heap.size := by rw [hw1]; simp
   have ec : wc.heap.size = we.heap.size + 1 := by rw [hwc]; simp [e1]
   have hs1 : ∀ c, c ≠ W1.heap.size → w1.heap[c]? = we.heap[c]? := fun c hc => by rw [hw1]; exact Below.heap_setCell _ _ _ _ hc
   have HX1 := hide (show HoldB W1.heap.size 41 [.int .i64 3, .string ⟨#[]⟩, .slice (some ⟨W0.heap.size, 0, none⟩) 1 1, .int .i64 0, .string ⟨#[]⟩, .int .i64 0, .int .i64 0, .string ⟨#[]⟩, .string ⟨#[]⟩, .slice none 0 0, .slice AN j cN, .slice (some ⟨gE, 0, none⟩) (j + 1) cE1, .slice none 0 0, .slice none 0 0, .slice none 0 0, .int .i64 0] w1 by rw [hw1]; exact Joins.block_setCell (i := 11) HXe.out _)
   have HK1 := hide (show HoldB wr.heap.size 146 [.int .i64 x.kind, .string x.name, .int .i64 x.val.1, .int .i64 x.val.2.1, .string x.val.2.2, .string x.op, .slice xA xm xc, .string nm] w1 from (hs1 _ (by omega)).trans HKe.out)
   have hkeepN : we.ownsRow w6.heap.size 9 1 (.slice AN j cN) j ((X.1.take j).map fun y => Value.string y.2) := HNb.out.kept hgrowE (by
    cases hv : (Value.slice AN j cN).ownBlock with
    | none => exact Or.inl rfl
    | some g => exact Or.inr (fun e => HAp.out g hv e.symm))
   have hN1 : w1.ownsRow w6.heap.size 9 1 (.slice AN j cN) j ((X.1.take j).map fun y => Value.string y.2) := by
    rw [hw1]
    exact ownsRow_setCell_other (a := ⟨W1.heap.size, 11, none⟩) hkeepN (fun e => by have := (hrowN _ e).1; simp at this; omega) _
   have hNc : wc.ownsRow w6.heap.size 9 1 (.slice AN j cN) j ((X.1.take j).map fun y => Value.string y.2) := by rw [hwc]; exact hN1.alloc _
   have hE1 : w1.ownsRow w6.heap.size 36 7 (.slice (some ⟨gE, 0, none⟩) (j + 1) cE1) (j + 1) (csE ++ [.int .i64 x.kind, .string x.name, .int .i64 x.val.1, .int .i64 x.val.2.1, .string x.val.2.2, .string x.op, .slice xA xm xc]) := by
    rw [hw1]
    exact ownsRow_setCell_other (a := ⟨W1.heap.size, 11, none⟩) hownE (fun e => by have h : gE = W1.heap.size := (by simpa [Value.ownBlock] using e); omega) _
   have HEc := hide (show wc.ownsRow w6.heap.size 36 7 (.slice (some ⟨gE, 0, none⟩) (j + 1) cE1) (j + 1) (csE ++ [.int .i64 x.kind, .string x.name, .int .i64 x.val.1, .int .i64 x.val.2.1, .string x.val.2.2, .string x.op, .slice xA xm xc]) by rw [hwc]; exact hE1.alloc _)
   have hnewN : ∀ i u, ([.string nm] : List Value)[i]? = some u → wc.cell? ((⟨w1.heap.size, 0, none⟩ : Addr).add i) = some u := by rw [hwc]; exact new_cells w1 [.string nm] 9 _ rfl
   have hoN : ∀ u ∈ ([.string nm] : List Value), u.oneCell' = true := by simp [Value.oneCell']
   have HXc := hide (show HoldB W1.heap.size 41 [.int .i64 3, .string ⟨#[]⟩, .slice (some ⟨W0.heap.size, 0, none⟩) 1 1, .int .i64 0, .string ⟨#[]⟩, .int .i64 0, .int .i64 0, .string ⟨#[]⟩, .string ⟨#[]⟩, .slice none 0 0, .slice AN j cN, .slice (some ⟨gE, 0, none⟩) (j + 1) cE1, .slice none 0 0, .slice none 0 0, .slice none 0 0, .int .i64 0] wc by rw [hwc]; exact (Below.heap_alloc _ _ _ (holds_size HX1.out)).trans HX1.out)
   have hTe : Turn q w we := HTb.out.grown hgrowE (fun g hg => by have := (hrowE g hg).1; omega)
   have hPe : ParAt q TL E we X.2 := HPb.out.grown hgrowE (fun g hg => by have := (hrowE g hg).1; omega)
   have HTc := hide (show Turn q w wc by rw [hwc, hw1]; exact (hTe.put (p := ⟨W1.heap.size, 11, none⟩) (by simp; omega) _).alloc _)
   have HPc := hide (show ParAt q TL E wc X.2 by rw [hwc, hw1]; exact (hPe.put (p := ⟨W1.heap.size, 11, none⟩) hqt _).alloc _)
   have Hcc := hide (show ∀ c, c < w6.heap.size → c ≠ W1.heap.size → wc.heap[c]? = wr.heap[c]? from fun c hc hn => by
    rw [hwc, Below.heap_alloc _ _ _ (by omega), hs1 c hn, hgrowE.block c (by omega) (hneE c (Or.inl hc))]
    exact Hbb.out c (by omega))
   have Hrc := hide (show wr.heap.size + 3 ≤ wc.heap.size by omega)
   have HgE := hide (show (Value.slice AE j cE).ownBlock = some gE ∨ wr.heap.size ≤ gE ∧ gE < wc.heap.size by
    rcases hgE with h | h
    ·exact Or.inl h
    ·have := (hownE.lt gE rfl).2; exact Or.inr (by omega))
   have xe := Lib.cell_of_heap HXe.out 11
   have xef := Lib.frozen_of_heap HXe.out
   have xn := Lib.cell_of_heap HX1.out 10
   have xm1 := Lib.cell_of_heap HK1.out 7
   simp only [List.getElem?_toArray, List.getElem?_cons_zero, List.getElem?_cons_succ] at xe xn xm1
   clear hw1 hwc e1 ec hs1 hkeepN hN1 hE1 hTe hPe hgrowE hatE hownE xk kc0 kc1 kc2 kc3 kc4 kc5 kc6 hEb hnew hone7 HXb HTb HPb Hbb HNb HKb hneE hse' hgE HXe HKe
   go_wp2_with (first | rw [← HW1'.out] | (refine wpList_buildOne rfl 22 9 _ rfl 1 [.string nm] rfl rfl (by decide) (by decide) Tryz.underlying22 is _ his hzs hss ?_; rw [← HWC.out]) | (at_builtin; go_must (refine wpList_append_own_at _ rfl _ _ 22 rfl w6.heap.size 9 is _ 1 16 Tryz.underlying22 his hzs hss hbs rfl (by decide) (.slice AN j cN) j _ rfl hNc ⟨w1.heap.size, 0, none⟩ 1 1 [.string nm] rfl rfl hnewN hoN (by unfold maxLen; omega) (by omega) (by have := Hrc.out; omega) ?_)))
   intro vN1 wn hownN hgrowN _ hatN
   obtain ⟨gN, cN1, rfl⟩ := own_slice hownN (Nat.succ_pos _)
   have hsn := hgrowN.size
   have hneN : ∀ c, (c < w6.heap.size ∨ wr.heap.size ≤ c) → some c ≠ (Value.slice AN j cN).ownBlock := fun c hc e => by have := hrowN c e.symm; omega
   have hgN : (Value.slice AN j cN).ownBlock = some gN ∨ wc.heap.size = gN := by
    rcases hatN with h | h
    ·exact Or.inl (by rw [← h]; rfl)
    ·exact Or.inr (by simpa [Value.ownBlock] using h.symm)
   have hgN1 : w6.heap.size ≤ gN := by
    rcases hgN with h | h
    ·exact (hrowN _ h).1
    ·have := Hrc.out; omega
   have hgne : gN ≠ gE := fun e => by
    rcases hgN with h | h
    ·rcases HgE.out with h2 | h2
     ·exact HAp.out gN h (by rw [e]; exact h2)
     ·have := (hrowN _ h).2; omega
    ·rcases HgE.out with h2 | h2
     ·have := (hrowE _ h2).2; have := Hrc.out; omega
     ·omega
   have HXn := hide (show HoldB W1.heap.size 41 [.int .i64 3, .string ⟨#[]⟩, .slice (some ⟨W0.heap.size, 0, none⟩) 1 1, .int .i64 0, .string ⟨#[]⟩, .int .i64 0, .int .i64 0, .string ⟨#[]⟩, .string ⟨#[]⟩, .slice none 0 0, .slice AN j cN, .slice (some ⟨gE, 0, none⟩) (j + 1) cE1, .slice none 0 0, .slice none 0 0, .slice none 0 0, .int .i64 0] wn from (hgrowN.block _ (holds_size HXc.out) (hneN _ (Or.inl hLb))).trans HXc.out)
   obtain ⟨w2', hw2'⟩ : ∃ w2', w2' = wn.setCell ⟨W1.heap.size, 10, none⟩ (.slice (some ⟨gN, 0, none⟩) (j + 1) cN1) := ⟨_, rfl⟩
   have HW2' := hide hw2'
   have HX2 := hide (show HoldB W1.heap.size 41 [.int .i64 3, .string ⟨#[]⟩, .slice (some ⟨W0.heap.size, 0, none⟩) 1 1, .int .i64 0, .string ⟨#[]⟩, .int .i64 0, .int .i64 0, .string ⟨#[]⟩, .string ⟨#[]⟩, .slice none 0 0, .slice (some ⟨gN, 0, none⟩) (j + 1) cN1, .slice (some ⟨gE, 0, none⟩) (j + 1) cE1, .slice none 0 0, .slice none 0 0, .slice none 0 0, .int .i64 0] w2' by rw [hw2']; exact Joins.block_setCell (i := 10) HXn.out _)
   have hEn : wn.ownsRow w6.heap.size 36 7 (.slice (some ⟨gE, 0, none⟩) (j + 1) cE1) (j + 1) (csE ++ [.int .i64 x.kind, .string x.name, .int .i64 x.val.1, .int .i64 x.val.2.1, .string x.val.2.2, .string x.op, .slice xA xm xc]) := HEc.out.kept hgrowN (Or.inr (fun e => by
    have e2 : (Value.slice AN j cN).ownBlock = some gE := e.symm
    rcases hgN with h | h
    ·rw [h] at e2; injection e2 with e2; exact hgne e2
    ·rcases HgE.out with h2 | h2
     ·exact HAp.out gE e2 h2
     ·have := (hrowN _ e2).2; omega))
   have HE2 := hide (show w2'.ownsRow w6.heap.size 36 7 (.slice (some ⟨gE, 0, none⟩) (j + 1) cE1) (j + 1) (csE ++ [.int .i64 x.kind, .string x.name, .int .i64 x.val.1, .int .i64 x.val.2.1, .string x.val.2.2, .string x.op, .slice xA xm xc]) by
    rw [hw2']
    exact ownsRow_setCell_other (a := ⟨W1.heap.size, 10, none⟩) hEn (fun e => by have h : gE = W1.heap.size := (by simpa [Value.ownBlock] using e); omega) _)
   have HN2 := hide (show w2'.ownsRow w6.heap.size 9 1 (.slice (some ⟨gN, 0, none⟩) (j + 1) cN1) (j + 1) ((X.1.take (j + 1)).map fun y => Value.string y.2) by
    rw [hw2', HTN.out, List.map_take]
    exact ownsRow_setCell_other (a := ⟨W1.heap.size, 10, none⟩) hownN (fun e => by have h : gN = W1.heap.size := (by simpa [Value.ownBlock] using e); omega) _)
   have HT2 := hide (show Turn q w w2' by rw [hw2']; exact (HTc.out.grown hgrowN (fun g hg => by have := (hrowN g hg).1; omega)).put (p := ⟨W1.heap.size, 10, none⟩) (by simp; omega) _)
   have HP2 := hide (show ParAt q TL E w2' X.2 by rw [hw2']; exact (HPc.out.grown hgrowN (fun g hg => by have := (hrowN g hg).1; omega)).put (p := ⟨W1.heap.size, 10, none⟩) hqt _)
   have hcc : ∀ c, c < w6.heap.size → c ≠ W1.heap.size → w2'.heap[c]? = wr.heap[c]? := fun c hc hn => by
    rw [hw2', Below.heap_setCell _ _ _ _ hn, hgrowN.block c (by have := Hrc.out; omega) (hneN c (Or.inl hc))]
    exact Hcc.out c hc hn
   have e2 : wr.heap.size ≤ w2'.heap.size := by rw [hw2']; simp; have := Hrc.out; omega
   have HS2 := hide (show Stay (fun b => PSt' Pq w.heap.size W0.heap.size W1.heap.size b ∧ b < w6.heap.size) (fun b => PSt' Pq w.heap.size W0.heap.size W1.heap.size b ∧ b < w6.heap.size) w6 w2' from HSt.out.trans ⟨fun _ _ h => h, e2, fun b hb _ => hcc b hb.2 (pst_ne hb.1 (by omega) hlo1)⟩)
   have HSr : Stay (fun b => PSt' Pq w.heap.size W0.heap.size W1.heap.size b ∧ b < w6.heap.size) (fun b => PSt' Pq w.heap.size W0.heap.size W1.heap.size b ∧ b < w6.heap.size) wr w2' := ⟨fun _ _ h => h, e2, fun b hb _ => hcc b hb.2 (pst_ne hb.1 (by omega) hlo1)⟩
   have HR2 := hide (show RepL (fun b => PSt' Pq w.heap.size W0.heap.size W1.heap.size b ∧ b < w6.heap.size) w2' 7 ((X.1.take (j + 1)).map fun y => dE y.1) (csE ++ [.int .i64 x.kind, .string x.name, .int .i64 x.val.1, .int .i64 x.val.2.1, .string x.val.2.2, .string x.op, .slice xA xm xc]) by
    rw [HTE.out]
    exact (HRE.out.stay HSr).snoc (dE_len _) (HRX.out.stay HSr))
   have HB2' := hide (show BoxAt (w.heap.size + 1) 41 16 w2' by
    obtain ⟨o, h, hn⟩ := HB.out
    exact ⟨o, (hcc _ (by omega) (by omega)).trans h, hn⟩)
   have xq := Lib.cell_of_heap HXn.out 10
   have xqf := Lib.frozen_of_heap HXn.out
   simp only [List.getElem?_toArray, List.getElem?_cons_zero, List.getElem?_cons_succ] at xq
   have hap2 : ∀ g, (Value.slice (some ⟨gN, 0, none⟩) (j + 1) cN1).ownBlock = some g → ¬ (Value.slice (some ⟨gE, 0, none⟩) (j + 1) cE1).ownBlock = some g := fun g h1 h2 => by
    have e1 : gN = g := (by simpa [Value.ownBlock] using h1)
    have e3 : gE = g := (by simpa [Value.ownBlock] using h2)
    exact hgne (by omega)
   have HAP2 := hide hap2
   have Hsz2 := hide (show w6.heap.size ≤ w2'.heap.size by omega)
   clear hw2' hEn hcc HSr hap2 hgrowN hatN hownN hneN hgN HXn HEc HTc HPc Hcc HXc HX1 HK1 hNc hnewN hoN xe xef xn xm1 e2
   go_wp2_with (first | rw [← HW2'.out])
   go_roundw
   case rel => exact ⟨j + 1, _, _, _, by go_num, by omega, HN2.out, HE2.out, HR2, HS2, HX2, HP2, HT2, HB2', HAP2.out, Hsz2.out⟩
   case measure => simp [intOf]; omega
  ·obtain rfl : j = X.1.length := by omega
   have hl2 : ¬ ((X.1.length : Nat) : Int) < ((X.1.length : Nat) : Int) := by omega
   have hT : X.1.take X.1.length = X.1 := List.take_length
   rw [hT] at HRE HNo
   have HRf := hide (show RepC (PSt' Pq w.heap.size W0.heap.size W1.heap.size) wr ({k := 3, args := [dq], exprs := X.1.map (·.1), names := X.1.map (·.2)} : Pl).enc [.int .i64 3, .string ⟨#[]⟩, .slice (some ⟨W0.heap.size, 0, none⟩) 1 1, .int .i64 0, .string ⟨#[]⟩, .int .i64 0, .int .i64 0, .string ⟨#[]⟩, .string ⟨#[]⟩, .slice none 0 0, .slice AN X.1.length cN, .slice AE X.1.length cE, .slice none 0 0, .slice none 0 0, .slice none 0 0, .int .i64 0] from by
    have hrE : Rep (PSt' Pq w.heap.size W0.heap.size W1.heap.size) wr (.row 7 ((X.1.map (·.1)).map dE)) (.slice AE X.1.length cE) := by
     have := HEo.out
     rw [List.map_map]
     refine rep_of_row (base := w6.heap.size) (t := 36) (cs := csE) (els := X.1.map (dE ∘ (·.1))) (by rw [List.length_map]; exact this) (fun g hg => Or.inr (Or.inr (by have := (HEo.out.lt g hg).1; omega))) (HRE.out.stay (Stay.at (fun _ h => h.1) _))
    have hrN : Rep (PSt' Pq w.heap.size W0.heap.size W1.heap.size) wr (dStrs (X.1.map (·.2))) (.slice AN X.1.length cN) := by
     unfold dStrs
     rw [List.map_map]
     refine rep_of_row (P := PSt' Pq w.heap.size W0.heap.size W1.heap.size) (base := w6.heap.size) (t := 9) (cs := X.1.map fun y => Value.string y.2) (els := X.1.map ((fun s => [dS s]) ∘ (·.2))) (by rw [List.length_map]; exact HNo.out) (fun g hg => Or.inr (Or.inr (by have := (HNo.out.lt g hg).1; omega))) ⟨fun e he => ?_, ?_⟩
     ·obtain ⟨y, _, rfl⟩ := List.mem_map.1 he; rfl
     ·exact strs_rep _ _ X.1
    have hrA := HAr.out.stay (Stay.trans (Q := (fun b => PSt' Pq w.heap.size W0.heap.size W1.heap.size b ∧ b < w6.heap.size)) ⟨fun b hb h => ⟨h, hb⟩, Nat.le_refl _, fun _ _ _ => rfl⟩ (HSt.out.trans (Stay.at (fun _ h => h.1) _)))
    exact rep_plan (p := {k := 3, args := [dq], exprs := X.1.map (·.1), names := X.1.map (·.2)}) hrA (rep_zeroE _ _) hrN hrE (rep_nil _ _ _) (rep_nil _ _ _) (rep_nil _ _ _))
   have hHX := HX.out
   clear HCS HRS
   go_wp2_with (first | (refine wpList_loadBig rfl 41 _ rfl W1.heap.size 16 [.int .i64 3, .string ⟨#[]⟩, .slice (some ⟨W0.heap.size, 0, none⟩) 1 1, .int .i64 0, .string ⟨#[]⟩, .int .i64 0, .int .i64 0, .string ⟨#[]⟩, .string ⟨#[]⟩, .slice none 0 0, .slice AN X.1.length cN, .slice AE X.1.length cE, .slice none 0 0, .slice none 0 0, .slice none 0 0, .int .i64 0] big_plan rfl rfl hHX ?_) | (refine wpList_storeBig rfl 41 _ _ rfl (w.heap.size + 1) 16 [.int .i64 3, .string ⟨#[]⟩, .slice (some ⟨W0.heap.size, 0, none⟩) 1 1, .int .i64 0, .string ⟨#[]⟩, .int .i64 0, .int .i64 0, .string ⟨#[]⟩, .string ⟨#[]⟩, .slice none 0 0, .slice AN X.1.length cN, .slice AE X.1.length cE, .slice none 0 0, .slice none 0 0, .slice none 0 0, .int .i64 0] big_plan rfl (by intro u hu; simp only [List.mem_cons, List.not_mem_nil, or_false] at hu; rcases hu with rfl | rfl | rfl | rfl | rfl | rfl | rfl | rfl | rfl | rfl | rfl | rfl | rfl | rfl | rfl | rfl <;> rfl) rfl rfl HB.out ?_))
   refine bodyPost_ret (v := .agg #[.int .i64 3, .string ⟨#[]⟩, .slice (some ⟨W0.heap.size, 0, none⟩) 1 1, .int .i64 0, .string ⟨#[]⟩, .int .i64 0, .int .i64 0, .string ⟨#[]⟩, .string ⟨#[]⟩, .slice none 0 0, .slice AN X.1.length cN, .slice AE X.1.length cE, .slice none 0 0, .slice none 0 0, .slice none 0 0, .int .i64 0]) (results_big (vs := [.int .i64 3, .string ⟨#[]⟩, .slice (some ⟨W0.heap.size, 0, none⟩) 1 1, .int .i64 0, .string ⟨#[]⟩, .int .i64 0, .int .i64 0, .string ⟨#[]⟩, .string ⟨#[]⟩, .slice none 0 0, .slice AN X.1.length cN, .slice AE X.1.length cE, .slice none 0 0, .slice none 0 0, .slice none 0 0, .int .i64 0]) rfl rfl big_plan rfl (set_row _ HB.out.choose_spec.1)) rfl ?_
   exact ⟨[.int .i64 3, .string ⟨#[]⟩, .slice (some ⟨W0.heap.size, 0, none⟩) 1 1, .int .i64 0, .string ⟨#[]⟩, .int .i64 0, .int .i64 0, .string ⟨#[]⟩, .string ⟨#[]⟩, .slice none 0 0, .slice AN X.1.length cN, .slice AE X.1.length cE, .slice none 0 0, .slice none 0 0, .slice none 0 0, .int .i64 0], rfl, HRf.out.stay (pst_fin _ _ hlo0 (by omega)), HP.out.row crq _, HTr.out.row (Nat.le_succ _) _⟩
end Go.Proofs.YtljoajjlkjjgeaaGreatDoor
