/-
  What a step of a query makes: words.
  step: where.
  step: distinct, a word that is none, first, group.
-/
import Derived.Test.YtljoajjlkjjgeaaGreatDoorMQ2
namespace Go.Proofs.YtljoajjlkjjgeaaGreatDoor
open Go.RowKit Go.Sort LM Go

theorem pst_ne {Pq : Nat → Prop} {lo ab tb b : Nat} (h : (Pq b ∧ b < lo) ∨ b = ab ∨ tb < b) (h1 : lo ≤ tb) (h2 : ab < tb) : b ≠ tb := by
 rcases h with h | h | h <;> omega
theorem pst_fin {Pq : Nat → Prop} {lo ab tb : Nat} (w : World) (c : Array Value) (h1 : lo + 2 ≤ ab) (h2 : lo + 2 ≤ tb) : Stay (fun b => (Pq b ∧ b < lo) ∨ b = ab ∨ tb < b) (fun b => Pq b ∨ lo ≤ b) w (w.setRow (lo + 1) c) :=
 ⟨fun b _ h => by rcases h with h | h | h; exact Or.inl h.1; exact Or.inr (by omega); exact Or.inr (by omega), by rw [set_row_size]; exact Nat.le_refl _, fun b h _ => set_row_other _ _ (by rcases h with h | h | h <;> omega)⟩
theorem Rep.slice {P : Nat → Prop} {w : World} {sz : Nat} {els : List (List Dt)} {v : Value} (h : Rep P w (.row sz els) v) : ∃ A n c, v = .slice A n c := by
 obtain ⟨A, cap, e, _⟩ := h.row_inv
 exact ⟨A, _, cap, e⟩
theorem own_of {w : World} {base n g : Nat} {t : TypeId} {vs : List Value} (h : HoldB g t vs w) (hb : base ≤ g) (hn : vs.length = n) : w.ownsRow base t n (.slice (some ⟨g, 0, none⟩) 1 1) 1 vs :=
 ⟨by omega, .inr ⟨g, 1, vs.toArray, rfl, hb, h, Nat.le_refl _, by decide, by simp [hn], by simp [← hn]⟩⟩
/-- A step tells a plan over the plan that it was given. -/
def PlanTo (q : Nat) (TL : List Tk) (E : Nat) (Pq : Nat → Prop) (w : World) (ds : List Dt) (s : PSt) (e : Ending) (w' : World) : Prop := ∃ vs : List Value, e = .returned (.agg vs.toArray) ∧ RepC (fun b => Pq b ∨ w.heap.size ≤ b) w' ds vs ∧ ParAt q TL E w' s ∧ Turn q w w'
/-- What a step's plan may lead to. -/
abbrev PSt' (Pq : Nat → Prop) (lo ab tb : Nat) : Nat → Prop := fun b => (Pq b ∧ b < lo) ∨ b = ab ∨ tb < b
theorem enc_len (p : Pl) : p.enc.length = 16 := by
 unfold Pl.enc
 simp [dE_len]
theorem rep_zeroE (P : Nat → Prop) (w : World) : RepC P w (dE (.mk 0 z0 (0, 0, z0) z0 none 0 [])) [.int .i64 0, .string ⟨#[]⟩, .int .i64 0, .int .i64 0, .string ⟨#[]⟩, .string ⟨#[]⟩, .slice none 0 0] :=
 RepC.cons (rep_int _ _ _) (RepC.cons (rep_str _ _ _) (RepC.cons (rep_int _ _ _) (RepC.cons (rep_int _ _ _) (RepC.cons (rep_str _ _ _) (RepC.cons (rep_str _ _ _) (RepC.cons (rep_nil _ _ _) (RepC.nil _ _)))))))
theorem rep_plan {P : Nat → Prop} {w : World} {p : Pl} {va vn vx vo vg vb : Value} {cs : List Value} (h1 : Rep P w (.row 16 p.args) va) (h2 : RepC P w (dE p.cond) cs) (h3 : Rep P w (dStrs p.names) vn) (h4 : Rep P w (.row 7 (p.exprs.map dE)) vx) (h5 : Rep P w (.row 2 (p.on.map dPair)) vo) (h6 : Rep P w (.row 3 (p.aggs.map dAgg)) vg) (h7 : Rep P w (.row 2 (p.ord.map dOrd)) vb) :
  RepC P w p.enc ([.int .i64 p.k, .string p.nm, va] ++ cs ++ [vn, vx, vo, vg, vb, .int .i64 p.cnt]) := by
 unfold Pl.enc
 exact ((RepC.cons (rep_int _ _ _) (RepC.cons (rep_str _ _ _) (RepC.cons h1 (RepC.nil _ _)))).append h2).append (RepC.cons h3 (RepC.cons h4 (RepC.cons h5 (RepC.cons h6 (RepC.cons h7 (RepC.cons (rep_int _ _ _) (RepC.nil _ _)))))))
theorem plan_info : (Tryz.prog.info? 41).map (fun i => (i.zero, i.size, i.bytes)) = some (some (.agg #[.int .i64 0, .string ⟨#[]⟩, .slice none 0 0, .int .i64 0, .string ⟨#[]⟩, .int .i64 0, .int .i64 0, .string ⟨#[]⟩, .string ⟨#[]⟩, .slice none 0 0, .slice none 0 0, .slice none 0 0, .slice none 0 0, .slice none 0 0, .slice none 0 0, .int .i64 0]), 16, 272) := by kernel_rfl
/-- A row of one element reads so. -/
theorem rep_one {P Q : Nat → Prop} {w w' : World} {sz b : Nat} {d : List Dt} {vs : List Value} (h : RepC P w d vs) (hs : Stay P Q w w') (hQ : Q b) (hb : b < w'.heap.size) {t : TypeId} (hc : w'.heap[b]? = some (.cells vs.toArray t (0, 0))) : Rep Q w' (.row sz [d]) (.slice (some ⟨b, 0, none⟩) 1 1) := by
 refine Rep.row (els := [d]) (fun _ i => vs.getD i v0) (fun e => by cases e) (fun j hj => ⟨b, 0, rfl, hQ, hb, fun i hi => ?_⟩) (fun j i hj hi => ?_)
 ·obtain rfl : j = 0 := by simpa using hj
  have hi' : i < d.length := hi
  rw [show 0 + 0 * sz + i = i by omega, Lib.cell_of_heap hc]
  have hl : i < vs.length := by rw [h.1]; exact hi'
  simp [List.getD_eq_getElem?_getD, List.getElem?_eq_getElem hl]
 ·obtain rfl : j = 0 := by simpa using hj
  exact (h.stay hs).2 i hi
set_option maxHeartbeats 8000000 in
set_option maxRecDepth 100000 in
theorem partYes {q : Nat} {TL : List Tk} {E : Nat} (X : Pl × PSt) (s : PSt) (w : World) (H : ParAt q TL E w s) (hc : isT (aheadS 0 s) [40] = true)
  (HM : ∀ w1, ParAt q TL E w1 s → Calls Tryz.prog 68 #[pP q, .func (.func 69) #[pP q] #[]] w1 (AggTo q TL E w1 X.1.enc X.2)) :
  Calls Tryz.prog 56 #[pP q] w (AggTo q TL E w X.1.enc X.2) := by
 have HMh := hide HM
 clear HM
 have HAh := hide (fun w1 (h : ParAt q TL E w1 s) => aheadI_any 0 (by decide) w1 h)
 have HIs := hide (fun a w1 => is_any (aheadS 0 s) a [40] w1)
 rw [hc] at HIs
 generalize aheadS 0 s = t3 at *
 obtain ⟨tk, tt, tn⟩ := t3
 clear hc
 have cq := H.lt
 have hqq : q < w.heap.size + 1 := by omega
 obtain ⟨W0, hW0⟩ : ∃ W0, W0 = w.alloc (.cells #[.int .i64 0, .string ⟨#[]⟩, .slice none 0 0, .int .i64 0, .string ⟨#[]⟩, .int .i64 0, .int .i64 0, .string ⟨#[]⟩, .string ⟨#[]⟩, .slice none 0 0, .slice none 0 0, .slice none 0 0, .slice none 0 0, .slice none 0 0, .slice none 0 0, .int .i64 0] 41) := ⟨_, rfl⟩
 have H0 := hide (show ParAt q TL E W0 s by rw [hW0]; exact H.alloc _)
 have HT0 := hide (show Turn q w W0 by rw [hW0]; exact (Turn.refl _ _).alloc _)
 have HB0 := hide (show BoxAt w.heap.size 41 16 W0 by rw [hW0]; exact box_new _ _ _ rfl)
 have hz0 : w.heap.size + 1 ≤ W0.heap.size := by rw [hW0]; simp
 have HW0 := hide hW0
 clear hW0
 unfold AggTo at HMh ⊢
 clear H
 go_enter Tryz.func56, Tryz.ntmps56
 go_wp2_with fail
 rw [← HW0.out]
 refine (HAh.out W0 H0.out).mono ?_
 rintro e w1 ⟨⟨a1, rfl⟩, hb⟩
 have ht : Turn q W0 w1 := Turn.of hb
 have H1 := hide (H0.out.on hb)
 have HT1 := hide (HT0.out.trans ht)
 have HB1 := hide (HB0.out.turn ht cq)
 have hz1 : w.heap.size + 1 ≤ w1.heap.size := Nat.le_trans hz0 ht.size
 clear hb ht H0 HT0 HB0 HAh
 go_wp2_with fail
 refine (HIs.out a1 w1).mono ?_
 rintro e w2 ⟨rfl, hb⟩
 have ht : Turn q w1 w2 := Turn.of hb
 have H2 := hide (H1.out.on hb)
 have HT2 := hide (HT1.out.trans ht)
 have HB2 := hide (HB1.out.turn ht cq)
 have hz2 : w.heap.size + 1 ≤ w2.heap.size := Nat.le_trans hz1 ht.size
 clear hb ht H1 HT1 HB1 HIs
 go_wp2_with fail
 refine (HMh.out w2 H2.out).mono ?_
 rintro e w3 ⟨vs3, rfl, hv, h, ht⟩
 have H3 := hide h
 have HT3 := hide (HT2.out.trans ht)
 have HB3 := hide (HB2.out.turn ht cq)
 have hz3 : w.heap.size + 1 ≤ w3.heap.size := Nat.le_trans hz2 ht.size
 have HV3 := hide (hv.stay (Stay.at (fun _ hb => Nat.le_trans hz2 hb) _))
 clear hv
 clear h ht H2 HT2 HB2 HMh
 have hlen : vs3.length = 16 := HV3.out.1.trans (enc_len _)
 have hone := HV3.out.one_cell
 go_wp2_with ((refine wpList_storeBig rfl 41 _ _ rfl w.heap.size 16 vs3 big_plan hlen hone rfl rfl HB3.out ?_))
 refine bodyPost_ret (v := .agg vs3.toArray) (results_big rfl rfl big_plan hlen (set_row _ HB3.out.choose_spec.1)) rfl ?_
 exact ⟨vs3, rfl, HV3.out.ret (Nat.lt_succ_self _) (Nat.le_succ _) _, H3.out.row cq _, HT3.out.row (Nat.le_refl _) _⟩
set_option maxHeartbeats 8000000 in
set_option maxRecDepth 100000 in
theorem partNo {q : Nat} {TL : List Tk} {E : Nat} (s : PSt) (w : World) (H : ParAt q TL E w s) (hc : isT (aheadS 0 s) [40] = false) :
  Calls Tryz.prog 56 #[pP q] w (AggTo q TL E w ({k := 1, nm := (nameS s).1} : Pl).enc (nameS s).2) := by
 have HNm := hide (fun w1 (h : ParAt q TL E w1 s) => name_any w1 h)
 unfold StepTo at HNm
 have HAh := hide (fun w1 (h : ParAt q TL E w1 s) => aheadI_any 0 (by decide) w1 h)
 have HIs := hide (fun a w1 => is_any (aheadS 0 s) a [40] w1)
 rw [hc] at HIs
 generalize aheadS 0 s = t3 at *
 obtain ⟨tk, tt, tn⟩ := t3
 clear hc
 have cq := H.lt
 have hqq : q < w.heap.size + 1 := by omega
 obtain ⟨W0, hW0⟩ : ∃ W0, W0 = w.alloc (.cells #[.int .i64 0, .string ⟨#[]⟩, .slice none 0 0, .int .i64 0, .string ⟨#[]⟩, .int .i64 0, .int .i64 0, .string ⟨#[]⟩, .string ⟨#[]⟩, .slice none 0 0, .slice none 0 0, .slice none 0 0, .slice none 0 0, .slice none 0 0, .slice none 0 0, .int .i64 0] 41) := ⟨_, rfl⟩
 have H0 := hide (show ParAt q TL E W0 s by rw [hW0]; exact H.alloc _)
 have HT0 := hide (show Turn q w W0 by rw [hW0]; exact (Turn.refl _ _).alloc _)
 have HB0 := hide (show BoxAt w.heap.size 41 16 W0 by rw [hW0]; exact box_new _ _ _ rfl)
 have hz0 : w.heap.size + 1 ≤ W0.heap.size := by rw [hW0]; simp
 have HW0 := hide hW0
 clear hW0
 unfold AggTo
 clear H
 go_enter Tryz.func56, Tryz.ntmps56
 go_wp2_with fail
 rw [← HW0.out]
 refine (HAh.out W0 H0.out).mono ?_
 rintro e w1 ⟨⟨a1, rfl⟩, hb⟩
 have ht : Turn q W0 w1 := Turn.of hb
 have H1 := hide (H0.out.on hb)
 have HT1 := hide (HT0.out.trans ht)
 have HB1 := hide (HB0.out.turn ht cq)
 have hz1 : w.heap.size + 1 ≤ w1.heap.size := Nat.le_trans hz0 ht.size
 clear hb ht H0 HT0 HB0 HAh
 go_wp2_with fail
 refine (HIs.out a1 w1).mono ?_
 rintro e w2 ⟨rfl, hb⟩
 have ht : Turn q w1 w2 := Turn.of hb
 have H2 := hide (H1.out.on hb)
 have HT2 := hide (HT1.out.trans ht)
 have HB2 := hide (HB1.out.turn ht cq)
 have hz2 : w.heap.size + 1 ≤ w2.heap.size := Nat.le_trans hz1 ht.size
 clear hb ht H1 HT1 HB1 HIs
 go_wp2_with fail
 refine (HNm.out w2 H2.out).mono ?_
 rintro e w3 ⟨rfl, h, ht⟩
 have H3 := hide h
 have HT3 := hide (HT2.out.trans ht)
 have HB3 := hide (HB2.out.turn ht cq)
 have hz3 : w.heap.size + 1 ≤ w3.heap.size := Nat.le_trans hz2 ht.size
 clear h ht H2 HT2 HB2 HNm
 go_wp2_with (refine wpList_storeBig rfl 41 _ _ rfl w.heap.size 16 [.int .i64 1, .string (nameS s).1, .slice none 0 0, .int .i64 0, .string ⟨#[]⟩, .int .i64 0, .int .i64 0, .string ⟨#[]⟩, .string ⟨#[]⟩, .slice none 0 0, .slice none 0 0, .slice none 0 0, .slice none 0 0, .slice none 0 0, .slice none 0 0, .int .i64 0] big_plan rfl (by simp [Value.oneCell']) rfl rfl HB3.out ?_)
 refine bodyPost_ret (v := .agg #[.int .i64 1, .string (nameS s).1, .slice none 0 0, .int .i64 0, .string ⟨#[]⟩, .int .i64 0, .int .i64 0, .string ⟨#[]⟩, .string ⟨#[]⟩, .slice none 0 0, .slice none 0 0, .slice none 0 0, .slice none 0 0, .slice none 0 0, .slice none 0 0, .int .i64 0]) (results_big (vs := [.int .i64 1, .string (nameS s).1, .slice none 0 0, .int .i64 0, .string ⟨#[]⟩, .int .i64 0, .int .i64 0, .string ⟨#[]⟩, .string ⟨#[]⟩, .slice none 0 0, .slice none 0 0, .slice none 0 0, .slice none 0 0, .slice none 0 0, .slice none 0 0, .int .i64 0]) rfl rfl big_plan rfl (set_row _ HB3.out.choose_spec.1)) rfl ?_
 exact ⟨[.int .i64 1, .string (nameS s).1, .slice none 0 0, .int .i64 0, .string ⟨#[]⟩, .int .i64 0, .int .i64 0, .string ⟨#[]⟩, .string ⟨#[]⟩, .slice none 0 0, .slice none 0 0, .slice none 0 0, .slice none 0 0, .slice none 0 0, .slice none 0 0, .int .i64 0], rfl, rep_plan (p := {k := 1, nm := (nameS s).1}) (rep_nil _ _ _) (rep_zeroE _ _) (rep_nil _ _ _) (rep_nil _ _ _) (rep_nil _ _ _) (rep_nil _ _ _) (rep_nil _ _ _), H3.out.row cq _, HT3.out.row (Nat.le_refl _) _⟩
set_option maxHeartbeats 8000000 in
set_option maxRecDepth 100000 in
theorem enclosedQueryW {q : Nat} {TL : List Tk} {E : Nat} (R : Pl × PSt) (s : PSt) (w : World) (H : ParAt q TL E w s)
  (HM : ∀ w1, ParAt q TL E w1 s → Calls Tryz.prog 104 #[pP q, .func (.func 33) #[pP q] #[]] w1 (AggTo q TL E w1 R.1.enc R.2)) :
  Calls Tryz.prog 69 #[pP q] w (AggTo q TL E w R.1.enc R.2) := by
 have HMh := hide HM
 generalize R = RES at *
 have cq := H.lt
 have hqq : q < w.heap.size + 1 := by omega
 obtain ⟨W0, hW0⟩ : ∃ W0, W0 = w.alloc (.cells #[.int .i64 0, .string ⟨#[]⟩, .slice none 0 0, .int .i64 0, .string ⟨#[]⟩, .int .i64 0, .int .i64 0, .string ⟨#[]⟩, .string ⟨#[]⟩, .slice none 0 0, .slice none 0 0, .slice none 0 0, .slice none 0 0, .slice none 0 0, .slice none 0 0, .int .i64 0] 41) := ⟨_, rfl⟩
 have H0 := hide (show ParAt q TL E W0 s by rw [hW0]; exact H.alloc _)
 have HT0 := hide (show Turn q w W0 by rw [hW0]; exact (Turn.refl _ _).alloc _)
 have HB0 := hide (show BoxAt w.heap.size 41 16 W0 by rw [hW0]; exact box_new _ _ _ rfl)
 have hz0 : w.heap.size + 1 ≤ W0.heap.size := by rw [hW0]; simp
 have HW0 := hide hW0
 clear hW0
 unfold AggTo at HMh ⊢
 clear HM
 clear H
 go_enter Tryz.func69, Tryz.ntmps69
 go_wp2_with fail
 rw [← HW0.out]
 refine (HMh.out W0 H0.out).mono ?_
 rintro e w1 ⟨vs1, rfl, hv, h, ht⟩
 have H1 := hide h
 have HT1 := hide (HT0.out.trans ht)
 have HB1 := hide (HB0.out.turn ht cq)
 have hz1 : w.heap.size + 1 ≤ w1.heap.size := Nat.le_trans hz0 ht.size
 have HV1 := hide (hv.stay (Stay.at (fun _ hb => Nat.le_trans hz0 hb) _))
 clear hv
 clear h ht H0 HT0 HB0
 have hlen : vs1.length = 16 := HV1.out.1.trans (enc_len _)
 have hone := HV1.out.one_cell
 go_wp2_with (refine wpList_storeBig rfl 41 _ _ rfl w.heap.size 16 vs1 big_plan hlen hone rfl rfl HB1.out ?_)
 refine bodyPost_ret (v := .agg vs1.toArray) (results_big rfl rfl big_plan hlen (set_row _ HB1.out.choose_spec.1)) rfl ?_
 exact ⟨vs1, rfl, HV1.out.ret (Nat.lt_succ_self _) (Nat.le_succ _) _, H1.out.row cq _, HT1.out.row (Nat.le_refl _) _⟩
end Go.Proofs.YtljoajjlkjjgeaaGreatDoor
namespace Go.Proofs.YtljoajjlkjjgeaaGreatDoor
open Go.RowKit Go.Sort LM Go

set_option maxHeartbeats 8000000 in
set_option maxRecDepth 100000 in
theorem stepWhere {q : Nat} {TL : List Tk} {E : Nat} {Pq : Nat → Prop} (hPq : ¬ Pq q) (X : XT × PSt) (dq : List Dt) (hdq : dq.length = 16) (vq : List Value) (s : PSt) (w : World) (H : ParAt q TL E w s) (hq : RepC Pq w dq vq) (hk : (oneOfS stepWords s).1 = 1)
  (HM : ∀ w1, ParAt q TL E w1 (oneOfS stepWords s).2 → Calls Tryz.prog 73 #[pP q] w1 (AggTo q TL E w1 (dE X.1) X.2)) :
  Calls Tryz.prog 58 #[pP q, .agg vq.toArray] w (PlanTo q TL E Pq w ({k := 2, args := [dq], cond := X.1} : Pl).enc X.2) := by
 have cq := H.lt
 have crq : q < w.heap.size + 1 := by omega
 obtain ⟨i0, hi, hzi, hsi, hbi⟩ := info_parts plan_info
 have hlq : vq.length = 16 := hq.1.trans hdq
 have HOf := hide (fun A w1 (h : ParAt q TL E w1 s) (hA : StrW q w1 A stepWords) => oneOf_any A 8 stepWords w1 h hA (by decide))
 unfold StepTo at HOf
 rw [hk] at HOf
 unfold AggTo at HM
 replace HM := hide HM
 have h1q := hq.one_cell
 obtain ⟨W0, hW0⟩ : ∃ W0, W0 = (w.alloc (.cells vq.toArray 41)).alloc (.cells #[.int .i64 0, .string ⟨#[]⟩, .slice none 0 0, .int .i64 0, .string ⟨#[]⟩, .int .i64 0, .int .i64 0, .string ⟨#[]⟩, .string ⟨#[]⟩, .slice none 0 0, .slice none 0 0, .slice none 0 0, .slice none 0 0, .slice none 0 0, .slice none 0 0, .int .i64 0] 41) := ⟨_, rfl⟩
 have e0 : W0.heap.size = w.heap.size + 2 := by rw [hW0]; simp
 have HW0 := hide hW0
 have b0 : Below w.heap.size w W0 := by rw [hW0]; exact (Joins.below_alloc1 w _).alloc (Joins.below_alloc1 w _).size _
 have k0 : W0.heap[w.heap.size]? = some (.cells vq.toArray 41 (0, 0)) := by rw [hW0, Below.heap_alloc _ _ _ (by simp)]; exact heap_alloc_new _ _
 have k1 : W0.heap[w.heap.size + 1]? = some (.cells #[.int .i64 0, .string ⟨#[]⟩, .slice none 0 0, .int .i64 0, .string ⟨#[]⟩, .int .i64 0, .int .i64 0, .string ⟨#[]⟩, .string ⟨#[]⟩, .slice none 0 0, .slice none 0 0, .slice none 0 0, .slice none 0 0, .slice none 0 0, .slice none 0 0, .int .i64 0] 41 (0, 0)) := by rw [hW0, show w.heap.size + 1 = (w.alloc (.cells vq.toArray 41)).heap.size by simp]; exact heap_alloc_new _ _
 obtain ⟨W1, hW1⟩ : ∃ W1, W1 = W0.alloc (.cells vq.toArray 41) := ⟨_, rfl⟩
 have e1 : W1.heap.size = w.heap.size + 3 := by rw [hW1]; simp [e0]
 have HW1 := hide hW1
 have b1 : Below w.heap.size w W1 := by rw [hW1]; exact b0.alloc b0.size _
 obtain ⟨w2, hw2⟩ : ∃ w2, w2 = W1.alloc (.cells #[.int .i64 0, .string ⟨#[]⟩, .slice (some ⟨W0.heap.size, 0, none⟩) 1 1, .int .i64 0, .string ⟨#[]⟩, .int .i64 0, .int .i64 0, .string ⟨#[]⟩, .string ⟨#[]⟩, .slice none 0 0, .slice none 0 0, .slice none 0 0, .slice none 0 0, .slice none 0 0, .slice none 0 0, .int .i64 0] 41) := ⟨_, rfl⟩
 have HW2 := hide (show w2 = (W1.alloc (.cells #[.int .i64 0, .string ⟨#[]⟩, .slice none 0 0, .int .i64 0, .string ⟨#[]⟩, .int .i64 0, .int .i64 0, .string ⟨#[]⟩, .string ⟨#[]⟩, .slice none 0 0, .slice none 0 0, .slice none 0 0, .slice none 0 0, .slice none 0 0, .slice none 0 0, .int .i64 0] 41)).setRow W1.heap.size #[.int .i64 0, .string ⟨#[]⟩, .slice (some ⟨W0.heap.size, 0, none⟩) 1 1, .int .i64 0, .string ⟨#[]⟩, .int .i64 0, .int .i64 0, .string ⟨#[]⟩, .string ⟨#[]⟩, .slice none 0 0, .slice none 0 0, .slice none 0 0, .slice none 0 0, .slice none 0 0, .slice none 0 0, .int .i64 0] by rw [hw2, World.setRow_alloc_new])
 have b2 : Below w.heap.size w w2 := by rw [hw2]; exact b1.alloc b1.size _
 have e2 : w2.heap.size = w.heap.size + 4 := by rw [hw2]; simp [e1]
 have hz2 : w.heap.size + 4 ≤ w2.heap.size := Nat.le_of_eq e2.symm
 have H2 := hide (H.on b2)
 have HT2 := hide (Turn.of (q := q) b2)
 have HX := hide (show HoldB W1.heap.size 41 [.int .i64 0, .string ⟨#[]⟩, .slice (some ⟨W0.heap.size, 0, none⟩) 1 1, .int .i64 0, .string ⟨#[]⟩, .int .i64 0, .int .i64 0, .string ⟨#[]⟩, .string ⟨#[]⟩, .slice none 0 0, .slice none 0 0, .slice none 0 0, .slice none 0 0, .slice none 0 0, .slice none 0 0, .int .i64 0] w2 by rw [hw2]; exact heap_alloc_new _ _)
 have HB2 := hide (show BoxAt (w.heap.size + 1) 41 16 w2 by
  refine ⟨#[.int .i64 0, .string ⟨#[]⟩, .slice none 0 0, .int .i64 0, .string ⟨#[]⟩, .int .i64 0, .int .i64 0, .string ⟨#[]⟩, .string ⟨#[]⟩, .slice none 0 0, .slice none 0 0, .slice none 0 0, .slice none 0 0, .slice none 0 0, .slice none 0 0, .int .i64 0], ?_, rfl⟩
  rw [hw2, Below.heap_alloc _ _ _ (by omega), hW1, Below.heap_alloc _ _ _ (by omega)]; exact k1)
 have HAb := hide (show W0.heap.size < w2.heap.size by omega)
 have HAr := hide (show Rep (PSt' Pq w.heap.size W0.heap.size W1.heap.size) w2 (.row 16 [dq]) (.slice (some ⟨W0.heap.size, 0, none⟩) 1 1) from
  rep_one (t := 41) hq ⟨fun b hb h => Or.inl ⟨h, hb⟩, b2.size, fun b _ hb => b2.block b hb⟩ (Or.inr (Or.inl rfl)) (by omega) (by
   rw [hw2, Below.heap_alloc _ _ _ (by omega), hW1]; exact heap_alloc_new _ _))
 have hnp : ¬ PSt' Pq w.heap.size W0.heap.size W1.heap.size q := by
  rintro (h | h | h)
  ·exact hPq h.1
  ·omega
  ·omega
 have hlo0 : w.heap.size + 2 ≤ W0.heap.size := by omega
 have hlo1 : W0.heap.size < W1.heap.size := by omega
 have hlo2 : W1.heap.size < w2.heap.size := by omega
 have hqt : q < W1.heap.size := by omega
 have hup : W1.heap.size ≤ w.heap.size + 3 := by omega
 have hup0 : W0.heap.size ≤ w.heap.size + 2 := by omega
 have HK0 := hide k0
 have HAo := hide (show HoldB W0.heap.size 41 vq w2 by rw [hw2, HoldB, Below.heap_alloc _ _ _ (by omega), hW1]; exact heap_alloc_new _ _)
 have hqa : q < W0.heap.size := by omega
 unfold PlanTo
 clear hk e0 e1 e2 k0 k1 hW0 hW1 hw2 b0 b1 b2
 obtain ⟨w3, hw3⟩ : ∃ W, W = w2.alloc (.cells #[.string ⟨#[119, 104, 101, 114, 101]⟩, .string ⟨#[107, 101, 101, 112]⟩, .string ⟨#[106, 111, 105, 110]⟩, .string ⟨#[108, 101, 102, 116]⟩, .string ⟨#[103, 114, 111, 117, 112]⟩, .string ⟨#[117, 110, 105, 111, 110]⟩, .string ⟨#[100, 105, 115, 116, 105, 110, 99, 116]⟩, .string ⟨#[102, 105, 114, 115, 116]⟩] 9) := ⟨_, rfl⟩
 have HW3 := hide hw3
 have H3 := hide (show ParAt q TL E w3 _ by rw [hw3]; exact H2.out.alloc _)
 have HT3 := hide (show Turn q w w3 by rw [hw3]; exact HT2.out.alloc _)
 have hz3 : w.heap.size + 4 ≤ w3.heap.size := by rw [hw3]; simp; omega
 have HB3 := hide (show BoxAt (w.heap.size + 1) 41 16 w3 by rw [hw3]; exact HB2.out.turn ((Turn.refl q _).alloc _) crq)
 replace HAr := hide (HAr.out.stay (Stay.below (show Below w2.heap.size w2 w3 by rw [hw3]; exact Joins.below_alloc1 _ _)))
 replace HX := hide (show HoldB _ _ _ w3 by rw [hw3]; exact holds_turn HX.out ((Turn.refl q _).alloc _) hqt)
 replace HAo := hide (show HoldB _ _ _ w3 by rw [hw3]; exact holds_turn HAo.out ((Turn.refl q _).alloc _) hqa)
 have HS3 := hide (show StrW q w3 (some ⟨w2.heap.size, 0, none⟩) stepWords by rw [hw3]; exact strW_new w2 q stepWords _ (by omega))
 clear hw3 H2 HT2 HB2
 go_enter Tryz.func58, Tryz.ntmps58
 go_wp2_with (first | rw [← HW0.out] | rw [← HW3.out] | (refine wpList_loadBig rfl 41 _ rfl w.heap.size 16 vq big_plan hlq rfl HK0.out ?_) | (refine wpList_buildOne rfl 31 41 _ rfl 16 vq rfl hlq (by decide) (by decide) Tryz.underlying31 i0 _ hi hzi hsi ?_; rw [← HW1.out]) | (refine wpList_storeBig rfl 41 _ _ rfl W1.heap.size 16 [.int .i64 0, .string ⟨#[]⟩, .slice (some ⟨W0.heap.size, 0, none⟩) 1 1, .int .i64 0, .string ⟨#[]⟩, .int .i64 0, .int .i64 0, .string ⟨#[]⟩, .string ⟨#[]⟩, .slice none 0 0, .slice none 0 0, .slice none 0 0, .slice none 0 0, .slice none 0 0, .slice none 0 0, .int .i64 0] big_plan rfl (by simp [Value.oneCell']) rfl rfl (box_new _ _ _ rfl) ?_; rw [← HW2.out]))
 clear HW0 HW1 HW2 HW3 HK0
 refine (HOf.out _ w3 H3.out HS3.out).mono ?_
 rintro e w4 ⟨rfl, h, ht⟩
 have H4 := hide h
 have HT4 := hide (HT3.out.trans ht)
 have HB4 := hide (HB3.out.turn ht crq)
 have hz4 : w.heap.size + 4 ≤ w4.heap.size := Nat.le_trans hz3 ht.size
 replace HAr := hide (HAr.out.stay (Stay.turn ht hnp))
 replace HX := hide (holds_turn HX.out ht hqt)
 replace HAo := hide (holds_turn HAo.out ht hqa)
 clear h ht H3 HT3 HB3 HS3 HOf
 obtain ⟨w5, hw5⟩ : ∃ W, W = (w4.setCell ⟨W1.heap.size, 0, none⟩ (.int .i64 2)) := ⟨_, rfl⟩
 have HW5 := hide hw5
 have H5 := hide (show ParAt q TL E w5 _ by rw [hw5]; exact (H4.out.put (p := ⟨W1.heap.size, 0, none⟩) hqt _))
 have HT5 := hide (show Turn q w w5 by rw [hw5]; exact (HT4.out.put (p := ⟨W1.heap.size, 0, none⟩) (by simp; omega) _))
 have HX' := hide (show HoldB W1.heap.size 41 [.int .i64 2, .string ⟨#[]⟩, .slice (some ⟨W0.heap.size, 0, none⟩) 1 1, .int .i64 0, .string ⟨#[]⟩, .int .i64 0, .int .i64 0, .string ⟨#[]⟩, .string ⟨#[]⟩, .slice none 0 0, .slice none 0 0, .slice none 0 0, .slice none 0 0, .slice none 0 0, .slice none 0 0, .int .i64 0] w5 by rw [hw5]; exact (Joins.block_setCell (i := 0) HX.out _))
 have hz5 : w.heap.size + 4 ≤ w5.heap.size := by rw [hw5]; simp; omega
 have HB5 := hide (show BoxAt (w.heap.size + 1) 41 16 w5 by rw [hw5]; exact (HB4.out.set (by omega) _ _))
 have hst : Stay (PSt' Pq w.heap.size W0.heap.size W1.heap.size) (PSt' Pq w.heap.size W0.heap.size W1.heap.size) w4 w5 := ⟨fun _ _ h => h, by rw [hw5]; simp, fun b hb _ => by
  have hbt : b ≠ W1.heap.size := pst_ne hb (by omega) hlo1
  rw [hw5]; exact Below.heap_setCell w4 ⟨W1.heap.size, 0, none⟩ (.int .i64 2) b hbt⟩
 replace HAr := hide (HAr.out.stay hst)
 have HAo' := hide (show HoldB W0.heap.size 41 vq w5 by
  have b := W0.heap.size
  have hbt : W0.heap.size ≠ W1.heap.size := by omega
  rw [hw5]; exact (Below.heap_setCell w4 ⟨W1.heap.size, 0, none⟩ (.int .i64 2) W0.heap.size hbt).trans HAo.out)
 clear HAo
 have HAo := HAo'
 clear HAo' hst
 have x0 := Lib.cell_of_heap HX.out 0
 have x1 := Lib.cell_of_heap HX.out 1
 have x2 := Lib.cell_of_heap HX.out 2
 have x3 := Lib.cell_of_heap HX.out 3
 have x4 := Lib.cell_of_heap HX.out 4
 have x5 := Lib.cell_of_heap HX.out 5
 have x6 := Lib.cell_of_heap HX.out 6
 have x7 := Lib.cell_of_heap HX.out 7
 have x8 := Lib.cell_of_heap HX.out 8
 have x9 := Lib.cell_of_heap HX.out 9
 have x10 := Lib.cell_of_heap HX.out 10
 have x11 := Lib.cell_of_heap HX.out 11
 have x12 := Lib.cell_of_heap HX.out 12
 have x13 := Lib.cell_of_heap HX.out 13
 have x14 := Lib.cell_of_heap HX.out 14
 have x15 := Lib.cell_of_heap HX.out 15
 have xf := Lib.frozen_of_heap HX.out
 have xs := holds_size HX.out
 simp only [List.getElem?_toArray, List.getElem?_cons_zero, List.getElem?_cons_succ] at x0 x1 x2 x3 x4 x5 x6 x7 x8 x9 x10 x11 x12 x13 x14 x15
 have y0 := Lib.cell_of_heap HX'.out 0
 have y2 := Lib.cell_of_heap HX'.out 2
 have y4 := Lib.cell_of_heap HX'.out 10
 have y5 := Lib.cell_of_heap HX'.out 11
 simp only [List.getElem?_toArray, List.getElem?_cons_zero, List.getElem?_cons_succ] at y0 y2 y4 y5
 clear hw5
 go_wp2_with (first | rw [← HW5.out])
 clear xf xs x0 x1 x2 x3 x4 x5 x6 x7 x8 x9 x10 x11 x12 x13 x14 x15
 clear y0 y2 y4 y5 HX H4 HT4 HB4 HW5
 have HX := HX'
 clear HX'
 refine (HM.out w5 H5.out).mono ?_
 rintro e w6 ⟨vs6, rfl, hv, h, ht⟩
 have H6 := hide h
 have HT6 := hide (HT5.out.trans ht)
 have HB6 := hide (HB5.out.turn ht crq)
 have hz6 : w.heap.size + 4 ≤ w6.heap.size := Nat.le_trans hz5 ht.size
 replace HAr := hide (HAr.out.stay (Stay.turn ht hnp))
 replace HX := hide (holds_turn HX.out ht hqt)
 replace HAo := hide (holds_turn HAo.out ht hqa)
 have HV6 := hide (hv.stay (Stay.at (Q := PSt' Pq w.heap.size W0.heap.size W1.heap.size) (fun b hb => Or.inr (Or.inr (by have h1 := hz5; have h2 : _ ≤ b := hb; omega))) _))
 clear hv
 clear h ht H5 HT5 HB5 HM
 obtain ⟨a7, n7, c7, hvs⟩ := cells7 HV6.out
 subst hvs
 obtain ⟨w7, hw7⟩ : ∃ W, W = (((((((w6.setCell ⟨W1.heap.size, 3, none⟩ (.int .i64 X.1.kind)).setCell ⟨W1.heap.size, 4, none⟩ (.string X.1.name)).setCell ⟨W1.heap.size, 5, none⟩ (.int .i64 X.1.val.1)).setCell ⟨W1.heap.size, 6, none⟩ (.int .i64 X.1.val.2.1)).setCell ⟨W1.heap.size, 7, none⟩ (.string X.1.val.2.2)).setCell ⟨W1.heap.size, 8, none⟩ (.string X.1.op)).setCell ⟨W1.heap.size, 9, none⟩ (.slice a7 n7 c7)) := ⟨_, rfl⟩
 have HW7 := hide hw7
 have H7 := hide (show ParAt q TL E w7 _ by rw [hw7]; exact (((((((H6.out.put (p := ⟨W1.heap.size, 3, none⟩) hqt _).put (p := ⟨W1.heap.size, 4, none⟩) hqt _).put (p := ⟨W1.heap.size, 5, none⟩) hqt _).put (p := ⟨W1.heap.size, 6, none⟩) hqt _).put (p := ⟨W1.heap.size, 7, none⟩) hqt _).put (p := ⟨W1.heap.size, 8, none⟩) hqt _).put (p := ⟨W1.heap.size, 9, none⟩) hqt _))
 have HT7 := hide (show Turn q w w7 by rw [hw7]; exact (((((((HT6.out.put (p := ⟨W1.heap.size, 3, none⟩) (by simp; omega) _).put (p := ⟨W1.heap.size, 4, none⟩) (by simp; omega) _).put (p := ⟨W1.heap.size, 5, none⟩) (by simp; omega) _).put (p := ⟨W1.heap.size, 6, none⟩) (by simp; omega) _).put (p := ⟨W1.heap.size, 7, none⟩) (by simp; omega) _).put (p := ⟨W1.heap.size, 8, none⟩) (by simp; omega) _).put (p := ⟨W1.heap.size, 9, none⟩) (by simp; omega) _))
 have HX' := hide (show HoldB W1.heap.size 41 [.int .i64 2, .string ⟨#[]⟩, .slice (some ⟨W0.heap.size, 0, none⟩) 1 1, .int .i64 X.1.kind, .string X.1.name, .int .i64 X.1.val.1, .int .i64 X.1.val.2.1, .string X.1.val.2.2, .string X.1.op, .slice a7 n7 c7, .slice none 0 0, .slice none 0 0, .slice none 0 0, .slice none 0 0, .slice none 0 0, .int .i64 0] w7 by rw [hw7]; exact (Joins.block_setCell (i := 9) (Joins.block_setCell (i := 8) (Joins.block_setCell (i := 7) (Joins.block_setCell (i := 6) (Joins.block_setCell (i := 5) (Joins.block_setCell (i := 4) (Joins.block_setCell (i := 3) HX.out _) _) _) _) _) _) _))
 have hz7 : w.heap.size + 4 ≤ w7.heap.size := by rw [hw7]; simp; omega
 have HB7 := hide (show BoxAt (w.heap.size + 1) 41 16 w7 by rw [hw7]; exact (((((((HB6.out.set (by omega) _ _).set (by omega) _ _).set (by omega) _ _).set (by omega) _ _).set (by omega) _ _).set (by omega) _ _).set (by omega) _ _))
 have hst : Stay (PSt' Pq w.heap.size W0.heap.size W1.heap.size) (PSt' Pq w.heap.size W0.heap.size W1.heap.size) w6 w7 := ⟨fun _ _ h => h, by rw [hw7]; simp, fun b hb _ => by
  have hbt : b ≠ W1.heap.size := pst_ne hb (by omega) hlo1
  rw [hw7]; exact ((((((Below.heap_setCell ((((((w6.setCell ⟨W1.heap.size, 3, none⟩ (.int .i64 X.1.kind)).setCell ⟨W1.heap.size, 4, none⟩ (.string X.1.name)).setCell ⟨W1.heap.size, 5, none⟩ (.int .i64 X.1.val.1)).setCell ⟨W1.heap.size, 6, none⟩ (.int .i64 X.1.val.2.1)).setCell ⟨W1.heap.size, 7, none⟩ (.string X.1.val.2.2)).setCell ⟨W1.heap.size, 8, none⟩ (.string X.1.op)) ⟨W1.heap.size, 9, none⟩ (.slice a7 n7 c7) b hbt).trans (Below.heap_setCell (((((w6.setCell ⟨W1.heap.size, 3, none⟩ (.int .i64 X.1.kind)).setCell ⟨W1.heap.size, 4, none⟩ (.string X.1.name)).setCell ⟨W1.heap.size, 5, none⟩ (.int .i64 X.1.val.1)).setCell ⟨W1.heap.size, 6, none⟩ (.int .i64 X.1.val.2.1)).setCell ⟨W1.heap.size, 7, none⟩ (.string X.1.val.2.2)) ⟨W1.heap.size, 8, none⟩ (.string X.1.op) b hbt)).trans (Below.heap_setCell ((((w6.setCell ⟨W1.heap.size, 3, none⟩ (.int .i64 X.1.kind)).setCell ⟨W1.heap.size, 4, none⟩ (.string X.1.name)).setCell ⟨W1.heap.size, 5, none⟩ (.int .i64 X.1.val.1)).setCell ⟨W1.heap.size, 6, none⟩ (.int .i64 X.1.val.2.1)) ⟨W1.heap.size, 7, none⟩ (.string X.1.val.2.2) b hbt)).trans (Below.heap_setCell (((w6.setCell ⟨W1.heap.size, 3, none⟩ (.int .i64 X.1.kind)).setCell ⟨W1.heap.size, 4, none⟩ (.string X.1.name)).setCell ⟨W1.heap.size, 5, none⟩ (.int .i64 X.1.val.1)) ⟨W1.heap.size, 6, none⟩ (.int .i64 X.1.val.2.1) b hbt)).trans (Below.heap_setCell ((w6.setCell ⟨W1.heap.size, 3, none⟩ (.int .i64 X.1.kind)).setCell ⟨W1.heap.size, 4, none⟩ (.string X.1.name)) ⟨W1.heap.size, 5, none⟩ (.int .i64 X.1.val.1) b hbt)).trans (Below.heap_setCell (w6.setCell ⟨W1.heap.size, 3, none⟩ (.int .i64 X.1.kind)) ⟨W1.heap.size, 4, none⟩ (.string X.1.name) b hbt)).trans (Below.heap_setCell w6 ⟨W1.heap.size, 3, none⟩ (.int .i64 X.1.kind) b hbt)⟩
 replace HAr := hide (HAr.out.stay hst)
 replace HV6 := hide (HV6.out.stay hst)
 have HAo' := hide (show HoldB W0.heap.size 41 vq w7 by
  have b := W0.heap.size
  have hbt : W0.heap.size ≠ W1.heap.size := by omega
  rw [hw7]; exact (((((((Below.heap_setCell ((((((w6.setCell ⟨W1.heap.size, 3, none⟩ (.int .i64 X.1.kind)).setCell ⟨W1.heap.size, 4, none⟩ (.string X.1.name)).setCell ⟨W1.heap.size, 5, none⟩ (.int .i64 X.1.val.1)).setCell ⟨W1.heap.size, 6, none⟩ (.int .i64 X.1.val.2.1)).setCell ⟨W1.heap.size, 7, none⟩ (.string X.1.val.2.2)).setCell ⟨W1.heap.size, 8, none⟩ (.string X.1.op)) ⟨W1.heap.size, 9, none⟩ (.slice a7 n7 c7) W0.heap.size hbt).trans (Below.heap_setCell (((((w6.setCell ⟨W1.heap.size, 3, none⟩ (.int .i64 X.1.kind)).setCell ⟨W1.heap.size, 4, none⟩ (.string X.1.name)).setCell ⟨W1.heap.size, 5, none⟩ (.int .i64 X.1.val.1)).setCell ⟨W1.heap.size, 6, none⟩ (.int .i64 X.1.val.2.1)).setCell ⟨W1.heap.size, 7, none⟩ (.string X.1.val.2.2)) ⟨W1.heap.size, 8, none⟩ (.string X.1.op) W0.heap.size hbt)).trans (Below.heap_setCell ((((w6.setCell ⟨W1.heap.size, 3, none⟩ (.int .i64 X.1.kind)).setCell ⟨W1.heap.size, 4, none⟩ (.string X.1.name)).setCell ⟨W1.heap.size, 5, none⟩ (.int .i64 X.1.val.1)).setCell ⟨W1.heap.size, 6, none⟩ (.int .i64 X.1.val.2.1)) ⟨W1.heap.size, 7, none⟩ (.string X.1.val.2.2) W0.heap.size hbt)).trans (Below.heap_setCell (((w6.setCell ⟨W1.heap.size, 3, none⟩ (.int .i64 X.1.kind)).setCell ⟨W1.heap.size, 4, none⟩ (.string X.1.name)).setCell ⟨W1.heap.size, 5, none⟩ (.int .i64 X.1.val.1)) ⟨W1.heap.size, 6, none⟩ (.int .i64 X.1.val.2.1) W0.heap.size hbt)).trans (Below.heap_setCell ((w6.setCell ⟨W1.heap.size, 3, none⟩ (.int .i64 X.1.kind)).setCell ⟨W1.heap.size, 4, none⟩ (.string X.1.name)) ⟨W1.heap.size, 5, none⟩ (.int .i64 X.1.val.1) W0.heap.size hbt)).trans (Below.heap_setCell (w6.setCell ⟨W1.heap.size, 3, none⟩ (.int .i64 X.1.kind)) ⟨W1.heap.size, 4, none⟩ (.string X.1.name) W0.heap.size hbt)).trans (Below.heap_setCell w6 ⟨W1.heap.size, 3, none⟩ (.int .i64 X.1.kind) W0.heap.size hbt)).trans HAo.out)
 clear HAo
 have HAo := HAo'
 clear HAo' hst
 have x0 := Lib.cell_of_heap HX.out 0
 have x1 := Lib.cell_of_heap HX.out 1
 have x2 := Lib.cell_of_heap HX.out 2
 have x3 := Lib.cell_of_heap HX.out 3
 have x4 := Lib.cell_of_heap HX.out 4
 have x5 := Lib.cell_of_heap HX.out 5
 have x6 := Lib.cell_of_heap HX.out 6
 have x7 := Lib.cell_of_heap HX.out 7
 have x8 := Lib.cell_of_heap HX.out 8
 have x9 := Lib.cell_of_heap HX.out 9
 have x10 := Lib.cell_of_heap HX.out 10
 have x11 := Lib.cell_of_heap HX.out 11
 have x12 := Lib.cell_of_heap HX.out 12
 have x13 := Lib.cell_of_heap HX.out 13
 have x14 := Lib.cell_of_heap HX.out 14
 have x15 := Lib.cell_of_heap HX.out 15
 have xf := Lib.frozen_of_heap HX.out
 have xs := holds_size HX.out
 simp only [List.getElem?_toArray, List.getElem?_cons_zero, List.getElem?_cons_succ] at x0 x1 x2 x3 x4 x5 x6 x7 x8 x9 x10 x11 x12 x13 x14 x15
 have y0 := Lib.cell_of_heap HX'.out 0
 have y2 := Lib.cell_of_heap HX'.out 2
 have y4 := Lib.cell_of_heap HX'.out 10
 have y5 := Lib.cell_of_heap HX'.out 11
 simp only [List.getElem?_toArray, List.getElem?_cons_zero, List.getElem?_cons_succ] at y0 y2 y4 y5
 clear hw7
 go_wp2_with (first | rw [← HW7.out] | (refine wpList_loadBig rfl 41 _ rfl W1.heap.size 16 [.int .i64 2, .string ⟨#[]⟩, .slice (some ⟨W0.heap.size, 0, none⟩) 1 1, .int .i64 X.1.kind, .string X.1.name, .int .i64 X.1.val.1, .int .i64 X.1.val.2.1, .string X.1.val.2.2, .string X.1.op, .slice a7 n7 c7, .slice none 0 0, .slice none 0 0, .slice none 0 0, .slice none 0 0, .slice none 0 0, .int .i64 0] big_plan rfl rfl HX'.out ?_) | (refine wpList_storeBig rfl 41 _ _ rfl (w.heap.size + 1) 16 [.int .i64 2, .string ⟨#[]⟩, .slice (some ⟨W0.heap.size, 0, none⟩) 1 1, .int .i64 X.1.kind, .string X.1.name, .int .i64 X.1.val.1, .int .i64 X.1.val.2.1, .string X.1.val.2.2, .string X.1.op, .slice a7 n7 c7, .slice none 0 0, .slice none 0 0, .slice none 0 0, .slice none 0 0, .slice none 0 0, .int .i64 0] big_plan rfl (by intro u hu; simp only [List.mem_cons, List.not_mem_nil, or_false] at hu; rcases hu with rfl | rfl | rfl | rfl | rfl | rfl | rfl | rfl | rfl | rfl | rfl | rfl | rfl | rfl | rfl | rfl <;> rfl) rfl rfl HB7.out ?_))
 clear xf xs x0 x1 x2 x3 x4 x5 x6 x7 x8 x9 x10 x11 x12 x13 x14 x15
 clear y0 y2 y4 y5 HX H6 HT6 HB6 HW7
 have HX := HX'
 clear HX'
 refine bodyPost_ret (v := .agg #[.int .i64 2, .string ⟨#[]⟩, .slice (some ⟨W0.heap.size, 0, none⟩) 1 1, .int .i64 X.1.kind, .string X.1.name, .int .i64 X.1.val.1, .int .i64 X.1.val.2.1, .string X.1.val.2.2, .string X.1.op, .slice a7 n7 c7, .slice none 0 0, .slice none 0 0, .slice none 0 0, .slice none 0 0, .slice none 0 0, .int .i64 0]) (results_big (vs := [.int .i64 2, .string ⟨#[]⟩, .slice (some ⟨W0.heap.size, 0, none⟩) 1 1, .int .i64 X.1.kind, .string X.1.name, .int .i64 X.1.val.1, .int .i64 X.1.val.2.1, .string X.1.val.2.2, .string X.1.op, .slice a7 n7 c7, .slice none 0 0, .slice none 0 0, .slice none 0 0, .slice none 0 0, .slice none 0 0, .int .i64 0]) rfl rfl big_plan rfl (set_row _ HB7.out.choose_spec.1)) rfl ?_
 exact ⟨[.int .i64 2, .string ⟨#[]⟩, .slice (some ⟨W0.heap.size, 0, none⟩) 1 1, .int .i64 X.1.kind, .string X.1.name, .int .i64 X.1.val.1, .int .i64 X.1.val.2.1, .string X.1.val.2.2, .string X.1.op, .slice a7 n7 c7, .slice none 0 0, .slice none 0 0, .slice none 0 0, .slice none 0 0, .slice none 0 0, .int .i64 0], rfl, (rep_plan (p := {k := 2, args := [dq], cond := X.1}) HAr.out HV6.out (rep_nil _ _ _) (rep_nil _ _ _) (rep_nil _ _ _) (rep_nil _ _ _) (rep_nil _ _ _)).stay (pst_fin _ _ hlo0 (by omega)), H7.out.row crq _, HT7.out.row (Nat.le_succ _) _⟩
end Go.Proofs.YtljoajjlkjjgeaaGreatDoor
namespace Go.Proofs.YtljoajjlkjjgeaaGreatDoor
open Go.RowKit Go.Sort LM Go

attribute [local go_sem] fld_tok0 fld_tok1 fld_tok2
set_option maxHeartbeats 8000000 in
set_option maxRecDepth 100000 in
theorem stepNone {q : Nat} {TL : List Tk} {E : Nat} {Pq : Nat → Prop} (hPq : ¬ Pq q) (dq : List Dt) (hdq : dq.length = 16) (vq : List Value) (s : PSt) (w : World) (H : ParAt q TL E w s) (hq : RepC Pq w dq vq) (hk : (oneOfS stepWords s).1 = 0) :
  Calls Tryz.prog 58 #[pP q, .agg vq.toArray] w (PlanTo q TL E Pq w ({k := 1, args := [dq]} : Pl).enc (oneOfS stepWords s).2) := by
 have cq := H.lt
 have crq : q < w.heap.size + 1 := by omega
 obtain ⟨i0, hi, hzi, hsi, hbi⟩ := info_parts plan_info
 have hlq : vq.length = 16 := hq.1.trans hdq
 have HOf := hide (fun A w1 (h : ParAt q TL E w1 s) (hA : StrW q w1 A stepWords) => oneOf_any A 8 stepWords w1 h hA (by decide))
 unfold StepTo at HOf
 rw [hk] at HOf

 have h1q := hq.one_cell
 obtain ⟨W0, hW0⟩ : ∃ W0, W0 = (w.alloc (.cells vq.toArray 41)).alloc (.cells #[.int .i64 0, .string ⟨#[]⟩, .slice none 0 0, .int .i64 0, .string ⟨#[]⟩, .int .i64 0, .int .i64 0, .string ⟨#[]⟩, .string ⟨#[]⟩, .slice none 0 0, .slice none 0 0, .slice none 0 0, .slice none 0 0, .slice none 0 0, .slice none 0 0, .int .i64 0] 41) := ⟨_, rfl⟩
 have e0 : W0.heap.size = w.heap.size + 2 := by rw [hW0]; simp
 have HW0 := hide hW0
 have b0 : Below w.heap.size w W0 := by rw [hW0]; exact (Joins.below_alloc1 w _).alloc (Joins.below_alloc1 w _).size _
 have k0 : W0.heap[w.heap.size]? = some (.cells vq.toArray 41 (0, 0)) := by rw [hW0, Below.heap_alloc _ _ _ (by simp)]; exact heap_alloc_new _ _
 have k1 : W0.heap[w.heap.size + 1]? = some (.cells #[.int .i64 0, .string ⟨#[]⟩, .slice none 0 0, .int .i64 0, .string ⟨#[]⟩, .int .i64 0, .int .i64 0, .string ⟨#[]⟩, .string ⟨#[]⟩, .slice none 0 0, .slice none 0 0, .slice none 0 0, .slice none 0 0, .slice none 0 0, .slice none 0 0, .int .i64 0] 41 (0, 0)) := by rw [hW0, show w.heap.size + 1 = (w.alloc (.cells vq.toArray 41)).heap.size by simp]; exact heap_alloc_new _ _
 obtain ⟨W1, hW1⟩ : ∃ W1, W1 = W0.alloc (.cells vq.toArray 41) := ⟨_, rfl⟩
 have e1 : W1.heap.size = w.heap.size + 3 := by rw [hW1]; simp [e0]
 have HW1 := hide hW1
 have b1 : Below w.heap.size w W1 := by rw [hW1]; exact b0.alloc b0.size _
 obtain ⟨w2, hw2⟩ : ∃ w2, w2 = W1.alloc (.cells #[.int .i64 0, .string ⟨#[]⟩, .slice (some ⟨W0.heap.size, 0, none⟩) 1 1, .int .i64 0, .string ⟨#[]⟩, .int .i64 0, .int .i64 0, .string ⟨#[]⟩, .string ⟨#[]⟩, .slice none 0 0, .slice none 0 0, .slice none 0 0, .slice none 0 0, .slice none 0 0, .slice none 0 0, .int .i64 0] 41) := ⟨_, rfl⟩
 have HW2 := hide (show w2 = (W1.alloc (.cells #[.int .i64 0, .string ⟨#[]⟩, .slice none 0 0, .int .i64 0, .string ⟨#[]⟩, .int .i64 0, .int .i64 0, .string ⟨#[]⟩, .string ⟨#[]⟩, .slice none 0 0, .slice none 0 0, .slice none 0 0, .slice none 0 0, .slice none 0 0, .slice none 0 0, .int .i64 0] 41)).setRow W1.heap.size #[.int .i64 0, .string ⟨#[]⟩, .slice (some ⟨W0.heap.size, 0, none⟩) 1 1, .int .i64 0, .string ⟨#[]⟩, .int .i64 0, .int .i64 0, .string ⟨#[]⟩, .string ⟨#[]⟩, .slice none 0 0, .slice none 0 0, .slice none 0 0, .slice none 0 0, .slice none 0 0, .slice none 0 0, .int .i64 0] by rw [hw2, World.setRow_alloc_new])
 have b2 : Below w.heap.size w w2 := by rw [hw2]; exact b1.alloc b1.size _
 have e2 : w2.heap.size = w.heap.size + 4 := by rw [hw2]; simp [e1]
 have hz2 : w.heap.size + 4 ≤ w2.heap.size := Nat.le_of_eq e2.symm
 have H2 := hide (H.on b2)
 have HT2 := hide (Turn.of (q := q) b2)
 have HX := hide (show HoldB W1.heap.size 41 [.int .i64 0, .string ⟨#[]⟩, .slice (some ⟨W0.heap.size, 0, none⟩) 1 1, .int .i64 0, .string ⟨#[]⟩, .int .i64 0, .int .i64 0, .string ⟨#[]⟩, .string ⟨#[]⟩, .slice none 0 0, .slice none 0 0, .slice none 0 0, .slice none 0 0, .slice none 0 0, .slice none 0 0, .int .i64 0] w2 by rw [hw2]; exact heap_alloc_new _ _)
 have HB2 := hide (show BoxAt (w.heap.size + 1) 41 16 w2 by
  refine ⟨#[.int .i64 0, .string ⟨#[]⟩, .slice none 0 0, .int .i64 0, .string ⟨#[]⟩, .int .i64 0, .int .i64 0, .string ⟨#[]⟩, .string ⟨#[]⟩, .slice none 0 0, .slice none 0 0, .slice none 0 0, .slice none 0 0, .slice none 0 0, .slice none 0 0, .int .i64 0], ?_, rfl⟩
  rw [hw2, Below.heap_alloc _ _ _ (by omega), hW1, Below.heap_alloc _ _ _ (by omega)]; exact k1)
 have HAb := hide (show W0.heap.size < w2.heap.size by omega)
 have HAr := hide (show Rep (PSt' Pq w.heap.size W0.heap.size W1.heap.size) w2 (.row 16 [dq]) (.slice (some ⟨W0.heap.size, 0, none⟩) 1 1) from
  rep_one (t := 41) hq ⟨fun b hb h => Or.inl ⟨h, hb⟩, b2.size, fun b _ hb => b2.block b hb⟩ (Or.inr (Or.inl rfl)) (by omega) (by
   rw [hw2, Below.heap_alloc _ _ _ (by omega), hW1]; exact heap_alloc_new _ _))
 have hnp : ¬ PSt' Pq w.heap.size W0.heap.size W1.heap.size q := by
  rintro (h | h | h)
  ·exact hPq h.1
  ·omega
  ·omega
 have hlo0 : w.heap.size + 2 ≤ W0.heap.size := by omega
 have hlo1 : W0.heap.size < W1.heap.size := by omega
 have hlo2 : W1.heap.size < w2.heap.size := by omega
 have hqt : q < W1.heap.size := by omega
 have hup : W1.heap.size ≤ w.heap.size + 3 := by omega
 have hup0 : W0.heap.size ≤ w.heap.size + 2 := by omega
 have HK0 := hide k0
 have HAo := hide (show HoldB W0.heap.size 41 vq w2 by rw [hw2, HoldB, Below.heap_alloc _ _ _ (by omega), hW1]; exact heap_alloc_new _ _)
 have hqa : q < W0.heap.size := by omega
 unfold PlanTo
 clear hk e0 e1 e2 k0 k1 hW0 hW1 hw2 b0 b1 b2
 obtain ⟨w3, hw3⟩ : ∃ W, W = w2.alloc (.cells #[.string ⟨#[119, 104, 101, 114, 101]⟩, .string ⟨#[107, 101, 101, 112]⟩, .string ⟨#[106, 111, 105, 110]⟩, .string ⟨#[108, 101, 102, 116]⟩, .string ⟨#[103, 114, 111, 117, 112]⟩, .string ⟨#[117, 110, 105, 111, 110]⟩, .string ⟨#[100, 105, 115, 116, 105, 110, 99, 116]⟩, .string ⟨#[102, 105, 114, 115, 116]⟩] 9) := ⟨_, rfl⟩
 have HW3 := hide hw3
 have H3 := hide (show ParAt q TL E w3 _ by rw [hw3]; exact H2.out.alloc _)
 have HT3 := hide (show Turn q w w3 by rw [hw3]; exact HT2.out.alloc _)
 have hz3 : w.heap.size + 4 ≤ w3.heap.size := by rw [hw3]; simp; omega
 have HB3 := hide (show BoxAt (w.heap.size + 1) 41 16 w3 by rw [hw3]; exact HB2.out.turn ((Turn.refl q _).alloc _) crq)
 replace HAr := hide (HAr.out.stay (Stay.below (show Below w2.heap.size w2 w3 by rw [hw3]; exact Joins.below_alloc1 _ _)))
 replace HX := hide (show HoldB _ _ _ w3 by rw [hw3]; exact holds_turn HX.out ((Turn.refl q _).alloc _) hqt)
 replace HAo := hide (show HoldB _ _ _ w3 by rw [hw3]; exact holds_turn HAo.out ((Turn.refl q _).alloc _) hqa)
 have HS3 := hide (show StrW q w3 (some ⟨w2.heap.size, 0, none⟩) stepWords by rw [hw3]; exact strW_new w2 q stepWords _ (by omega))
 clear hw3 H2 HT2 HB2
 go_enter Tryz.func58, Tryz.ntmps58
 go_wp2_with (first | rw [← HW0.out] | rw [← HW3.out] | (refine wpList_loadBig rfl 41 _ rfl w.heap.size 16 vq big_plan hlq rfl HK0.out ?_) | (refine wpList_buildOne rfl 31 41 _ rfl 16 vq rfl hlq (by decide) (by decide) Tryz.underlying31 i0 _ hi hzi hsi ?_; rw [← HW1.out]) | (refine wpList_storeBig rfl 41 _ _ rfl W1.heap.size 16 [.int .i64 0, .string ⟨#[]⟩, .slice (some ⟨W0.heap.size, 0, none⟩) 1 1, .int .i64 0, .string ⟨#[]⟩, .int .i64 0, .int .i64 0, .string ⟨#[]⟩, .string ⟨#[]⟩, .slice none 0 0, .slice none 0 0, .slice none 0 0, .slice none 0 0, .slice none 0 0, .slice none 0 0, .int .i64 0] big_plan rfl (by simp [Value.oneCell']) rfl rfl (box_new _ _ _ rfl) ?_; rw [← HW2.out]))
 clear HW0 HW1 HW2 HW3 HK0
 refine (HOf.out _ w3 H3.out HS3.out).mono ?_
 rintro e w4 ⟨rfl, h, ht⟩
 have H4 := hide h
 have HT4 := hide (HT3.out.trans ht)
 have HB4 := hide (HB3.out.turn ht crq)
 have hz4 : w.heap.size + 4 ≤ w4.heap.size := Nat.le_trans hz3 ht.size
 replace HAr := hide (HAr.out.stay (Stay.turn ht hnp))
 replace HX := hide (holds_turn HX.out ht hqt)
 replace HAo := hide (holds_turn HAo.out ht hqa)
 clear h ht H3 HT3 HB3 HS3 HOf
 obtain ⟨w5, hw5⟩ : ∃ W, W = (w4.setCell ⟨W1.heap.size, 0, none⟩ (.int .i64 1)) := ⟨_, rfl⟩
 have HW5 := hide hw5
 have H5 := hide (show ParAt q TL E w5 _ by rw [hw5]; exact (H4.out.put (p := ⟨W1.heap.size, 0, none⟩) hqt _))
 have HT5 := hide (show Turn q w w5 by rw [hw5]; exact (HT4.out.put (p := ⟨W1.heap.size, 0, none⟩) (by simp; omega) _))
 have HX' := hide (show HoldB W1.heap.size 41 [.int .i64 1, .string ⟨#[]⟩, .slice (some ⟨W0.heap.size, 0, none⟩) 1 1, .int .i64 0, .string ⟨#[]⟩, .int .i64 0, .int .i64 0, .string ⟨#[]⟩, .string ⟨#[]⟩, .slice none 0 0, .slice none 0 0, .slice none 0 0, .slice none 0 0, .slice none 0 0, .slice none 0 0, .int .i64 0] w5 by rw [hw5]; exact (Joins.block_setCell (i := 0) HX.out _))
 have hz5 : w.heap.size + 4 ≤ w5.heap.size := by rw [hw5]; simp; omega
 have HB5 := hide (show BoxAt (w.heap.size + 1) 41 16 w5 by rw [hw5]; exact (HB4.out.set (by omega) _ _))
 have hst : Stay (PSt' Pq w.heap.size W0.heap.size W1.heap.size) (PSt' Pq w.heap.size W0.heap.size W1.heap.size) w4 w5 := ⟨fun _ _ h => h, by rw [hw5]; simp, fun b hb _ => by
  have hbt : b ≠ W1.heap.size := pst_ne hb (by omega) hlo1
  rw [hw5]; exact Below.heap_setCell w4 ⟨W1.heap.size, 0, none⟩ (.int .i64 1) b hbt⟩
 replace HAr := hide (HAr.out.stay hst)
 have HAo' := hide (show HoldB W0.heap.size 41 vq w5 by
  have b := W0.heap.size
  have hbt : W0.heap.size ≠ W1.heap.size := by omega
  rw [hw5]; exact (Below.heap_setCell w4 ⟨W1.heap.size, 0, none⟩ (.int .i64 1) W0.heap.size hbt).trans HAo.out)
 clear HAo
 have HAo := HAo'
 clear HAo' hst
 have x0 := Lib.cell_of_heap HX.out 0
 have x1 := Lib.cell_of_heap HX.out 1
 have x2 := Lib.cell_of_heap HX.out 2
 have x3 := Lib.cell_of_heap HX.out 3
 have x4 := Lib.cell_of_heap HX.out 4
 have x5 := Lib.cell_of_heap HX.out 5
 have x6 := Lib.cell_of_heap HX.out 6
 have x7 := Lib.cell_of_heap HX.out 7
 have x8 := Lib.cell_of_heap HX.out 8
 have x9 := Lib.cell_of_heap HX.out 9
 have x10 := Lib.cell_of_heap HX.out 10
 have x11 := Lib.cell_of_heap HX.out 11
 have x12 := Lib.cell_of_heap HX.out 12
 have x13 := Lib.cell_of_heap HX.out 13
 have x14 := Lib.cell_of_heap HX.out 14
 have x15 := Lib.cell_of_heap HX.out 15
 have xf := Lib.frozen_of_heap HX.out
 have xs := holds_size HX.out
 simp only [List.getElem?_toArray, List.getElem?_cons_zero, List.getElem?_cons_succ] at x0 x1 x2 x3 x4 x5 x6 x7 x8 x9 x10 x11 x12 x13 x14 x15
 have y0 := Lib.cell_of_heap HX'.out 0
 have y2 := Lib.cell_of_heap HX'.out 2
 have y4 := Lib.cell_of_heap HX'.out 10
 have y5 := Lib.cell_of_heap HX'.out 11
 simp only [List.getElem?_toArray, List.getElem?_cons_zero, List.getElem?_cons_succ] at y0 y2 y4 y5
 clear hw5
 go_wp2_with (first | rw [← HW5.out] | (refine wpList_loadBig rfl 41 _ rfl W1.heap.size 16 [.int .i64 1, .string ⟨#[]⟩, .slice (some ⟨W0.heap.size, 0, none⟩) 1 1, .int .i64 0, .string ⟨#[]⟩, .int .i64 0, .int .i64 0, .string ⟨#[]⟩, .string ⟨#[]⟩, .slice none 0 0, .slice none 0 0, .slice none 0 0, .slice none 0 0, .slice none 0 0, .slice none 0 0, .int .i64 0] big_plan rfl rfl HX'.out ?_) | (refine wpList_storeBig rfl 41 _ _ rfl (w.heap.size + 1) 16 [.int .i64 1, .string ⟨#[]⟩, .slice (some ⟨W0.heap.size, 0, none⟩) 1 1, .int .i64 0, .string ⟨#[]⟩, .int .i64 0, .int .i64 0, .string ⟨#[]⟩, .string ⟨#[]⟩, .slice none 0 0, .slice none 0 0, .slice none 0 0, .slice none 0 0, .slice none 0 0, .slice none 0 0, .int .i64 0] big_plan rfl (by intro u hu; simp only [List.mem_cons, List.not_mem_nil, or_false] at hu; rcases hu with rfl | rfl | rfl | rfl | rfl | rfl | rfl | rfl | rfl | rfl | rfl | rfl | rfl | rfl | rfl | rfl <;> rfl) rfl rfl HB5.out ?_))
 clear xf xs x0 x1 x2 x3 x4 x5 x6 x7 x8 x9 x10 x11 x12 x13 x14 x15
 clear y0 y2 y4 y5 HX H4 HT4 HB4 HW5
 have HX := HX'
 clear HX'
 refine bodyPost_ret (v := .agg #[.int .i64 1, .string ⟨#[]⟩, .slice (some ⟨W0.heap.size, 0, none⟩) 1 1, .int .i64 0, .string ⟨#[]⟩, .int .i64 0, .int .i64 0, .string ⟨#[]⟩, .string ⟨#[]⟩, .slice none 0 0, .slice none 0 0, .slice none 0 0, .slice none 0 0, .slice none 0 0, .slice none 0 0, .int .i64 0]) (results_big (vs := [.int .i64 1, .string ⟨#[]⟩, .slice (some ⟨W0.heap.size, 0, none⟩) 1 1, .int .i64 0, .string ⟨#[]⟩, .int .i64 0, .int .i64 0, .string ⟨#[]⟩, .string ⟨#[]⟩, .slice none 0 0, .slice none 0 0, .slice none 0 0, .slice none 0 0, .slice none 0 0, .slice none 0 0, .int .i64 0]) rfl rfl big_plan rfl (set_row _ HB5.out.choose_spec.1)) rfl ?_
 exact ⟨[.int .i64 1, .string ⟨#[]⟩, .slice (some ⟨W0.heap.size, 0, none⟩) 1 1, .int .i64 0, .string ⟨#[]⟩, .int .i64 0, .int .i64 0, .string ⟨#[]⟩, .string ⟨#[]⟩, .slice none 0 0, .slice none 0 0, .slice none 0 0, .slice none 0 0, .slice none 0 0, .slice none 0 0, .int .i64 0], rfl, (rep_plan (p := {k := 1, args := [dq]}) HAr.out (rep_zeroE _ _) (rep_nil _ _ _) (rep_nil _ _ _) (rep_nil _ _ _) (rep_nil _ _ _) (rep_nil _ _ _)).stay (pst_fin _ _ hlo0 (by omega)), H5.out.row crq _, HT5.out.row (Nat.le_succ _) _⟩
set_option maxHeartbeats 8000000 in
set_option maxRecDepth 100000 in
theorem stepDistinct {q : Nat} {TL : List Tk} {E : Nat} {Pq : Nat → Prop} (hPq : ¬ Pq q) (dq : List Dt) (hdq : dq.length = 16) (vq : List Value) (s : PSt) (w : World) (H : ParAt q TL E w s) (hq : RepC Pq w dq vq) (hk : (oneOfS stepWords s).1 = 7) :
  Calls Tryz.prog 58 #[pP q, .agg vq.toArray] w (PlanTo q TL E Pq w ({k := 8, args := [dq]} : Pl).enc (oneOfS stepWords s).2) := by
 have cq := H.lt
 have crq : q < w.heap.size + 1 := by omega
 obtain ⟨i0, hi, hzi, hsi, hbi⟩ := info_parts plan_info
 have hlq : vq.length = 16 := hq.1.trans hdq
 have HOf := hide (fun A w1 (h : ParAt q TL E w1 s) (hA : StrW q w1 A stepWords) => oneOf_any A 8 stepWords w1 h hA (by decide))
 unfold StepTo at HOf
 rw [hk] at HOf

 have h1q := hq.one_cell
 obtain ⟨W0, hW0⟩ : ∃ W0, W0 = (w.alloc (.cells vq.toArray 41)).alloc (.cells #[.int .i64 0, .string ⟨#[]⟩, .slice none 0 0, .int .i64 0, .string ⟨#[]⟩, .int .i64 0, .int .i64 0, .string ⟨#[]⟩, .string ⟨#[]⟩, .slice none 0 0, .slice none 0 0, .slice none 0 0, .slice none 0 0, .slice none 0 0, .slice none 0 0, .int .i64 0] 41) := ⟨_, rfl⟩
 have e0 : W0.heap.size = w.heap.size + 2 := by rw [hW0]; simp
 have HW0 := hide hW0
 have b0 : Below w.heap.size w W0 := by rw [hW0]; exact (Joins.below_alloc1 w _).alloc (Joins.below_alloc1 w _).size _
 have k0 : W0.heap[w.heap.size]? = some (.cells vq.toArray 41 (0, 0)) := by rw [hW0, Below.heap_alloc _ _ _ (by simp)]; exact heap_alloc_new _ _
 have k1 : W0.heap[w.heap.size + 1]? = some (.cells #[.int .i64 0, .string ⟨#[]⟩, .slice none 0 0, .int .i64 0, .string ⟨#[]⟩, .int .i64 0, .int .i64 0, .string ⟨#[]⟩, .string ⟨#[]⟩, .slice none 0 0, .slice none 0 0, .slice none 0 0, .slice none 0 0, .slice none 0 0, .slice none 0 0, .int .i64 0] 41 (0, 0)) := by rw [hW0, show w.heap.size + 1 = (w.alloc (.cells vq.toArray 41)).heap.size by simp]; exact heap_alloc_new _ _
 obtain ⟨W1, hW1⟩ : ∃ W1, W1 = W0.alloc (.cells vq.toArray 41) := ⟨_, rfl⟩
 have e1 : W1.heap.size = w.heap.size + 3 := by rw [hW1]; simp [e0]
 have HW1 := hide hW1
 have b1 : Below w.heap.size w W1 := by rw [hW1]; exact b0.alloc b0.size _
 obtain ⟨w2, hw2⟩ : ∃ w2, w2 = W1.alloc (.cells #[.int .i64 0, .string ⟨#[]⟩, .slice (some ⟨W0.heap.size, 0, none⟩) 1 1, .int .i64 0, .string ⟨#[]⟩, .int .i64 0, .int .i64 0, .string ⟨#[]⟩, .string ⟨#[]⟩, .slice none 0 0, .slice none 0 0, .slice none 0 0, .slice none 0 0, .slice none 0 0, .slice none 0 0, .int .i64 0] 41) := ⟨_, rfl⟩
 have HW2 := hide (show w2 = (W1.alloc (.cells #[.int .i64 0, .string ⟨#[]⟩, .slice none 0 0, .int .i64 0, .string ⟨#[]⟩, .int .i64 0, .int .i64 0, .string ⟨#[]⟩, .string ⟨#[]⟩, .slice none 0 0, .slice none 0 0, .slice none 0 0, .slice none 0 0, .slice none 0 0, .slice none 0 0, .int .i64 0] 41)).setRow W1.heap.size #[.int .i64 0, .string ⟨#[]⟩, .slice (some ⟨W0.heap.size, 0, none⟩) 1 1, .int .i64 0, .string ⟨#[]⟩, .int .i64 0, .int .i64 0, .string ⟨#[]⟩, .string ⟨#[]⟩, .slice none 0 0, .slice none 0 0, .slice none 0 0, .slice none 0 0, .slice none 0 0, .slice none 0 0, .int .i64 0] by rw [hw2, World.setRow_alloc_new])
 have b2 : Below w.heap.size w w2 := by rw [hw2]; exact b1.alloc b1.size _
 have e2 : w2.heap.size = w.heap.size + 4 := by rw [hw2]; simp [e1]
 have hz2 : w.heap.size + 4 ≤ w2.heap.size := Nat.le_of_eq e2.symm
 have H2 := hide (H.on b2)
 have HT2 := hide (Turn.of (q := q) b2)
 have HX := hide (show HoldB W1.heap.size 41 [.int .i64 0, .string ⟨#[]⟩, .slice (some ⟨W0.heap.size, 0, none⟩) 1 1, .int .i64 0, .string ⟨#[]⟩, .int .i64 0, .int .i64 0, .string ⟨#[]⟩, .string ⟨#[]⟩, .slice none 0 0, .slice none 0 0, .slice none 0 0, .slice none 0 0, .slice none 0 0, .slice none 0 0, .int .i64 0] w2 by rw [hw2]; exact heap_alloc_new _ _)
 have HB2 := hide (show BoxAt (w.heap.size + 1) 41 16 w2 by
  refine ⟨#[.int .i64 0, .string ⟨#[]⟩, .slice none 0 0, .int .i64 0, .string ⟨#[]⟩, .int .i64 0, .int .i64 0, .string ⟨#[]⟩, .string ⟨#[]⟩, .slice none 0 0, .slice none 0 0, .slice none 0 0, .slice none 0 0, .slice none 0 0, .slice none 0 0, .int .i64 0], ?_, rfl⟩
  rw [hw2, Below.heap_alloc _ _ _ (by omega), hW1, Below.heap_alloc _ _ _ (by omega)]; exact k1)
 have HAb := hide (show W0.heap.size < w2.heap.size by omega)
 have HAr := hide (show Rep (PSt' Pq w.heap.size W0.heap.size W1.heap.size) w2 (.row 16 [dq]) (.slice (some ⟨W0.heap.size, 0, none⟩) 1 1) from
  rep_one (t := 41) hq ⟨fun b hb h => Or.inl ⟨h, hb⟩, b2.size, fun b _ hb => b2.block b hb⟩ (Or.inr (Or.inl rfl)) (by omega) (by
   rw [hw2, Below.heap_alloc _ _ _ (by omega), hW1]; exact heap_alloc_new _ _))
 have hnp : ¬ PSt' Pq w.heap.size W0.heap.size W1.heap.size q := by
  rintro (h | h | h)
  ·exact hPq h.1
  ·omega
  ·omega
 have hlo0 : w.heap.size + 2 ≤ W0.heap.size := by omega
 have hlo1 : W0.heap.size < W1.heap.size := by omega
 have hlo2 : W1.heap.size < w2.heap.size := by omega
 have hqt : q < W1.heap.size := by omega
 have hup : W1.heap.size ≤ w.heap.size + 3 := by omega
 have hup0 : W0.heap.size ≤ w.heap.size + 2 := by omega
 have HK0 := hide k0
 have HAo := hide (show HoldB W0.heap.size 41 vq w2 by rw [hw2, HoldB, Below.heap_alloc _ _ _ (by omega), hW1]; exact heap_alloc_new _ _)
 have hqa : q < W0.heap.size := by omega
 unfold PlanTo
 clear hk e0 e1 e2 k0 k1 hW0 hW1 hw2 b0 b1 b2
 obtain ⟨w3, hw3⟩ : ∃ W, W = w2.alloc (.cells #[.string ⟨#[119, 104, 101, 114, 101]⟩, .string ⟨#[107, 101, 101, 112]⟩, .string ⟨#[106, 111, 105, 110]⟩, .string ⟨#[108, 101, 102, 116]⟩, .string ⟨#[103, 114, 111, 117, 112]⟩, .string ⟨#[117, 110, 105, 111, 110]⟩, .string ⟨#[100, 105, 115, 116, 105, 110, 99, 116]⟩, .string ⟨#[102, 105, 114, 115, 116]⟩] 9) := ⟨_, rfl⟩
 have HW3 := hide hw3
 have H3 := hide (show ParAt q TL E w3 _ by rw [hw3]; exact H2.out.alloc _)
 have HT3 := hide (show Turn q w w3 by rw [hw3]; exact HT2.out.alloc _)
 have hz3 : w.heap.size + 4 ≤ w3.heap.size := by rw [hw3]; simp; omega
 have HB3 := hide (show BoxAt (w.heap.size + 1) 41 16 w3 by rw [hw3]; exact HB2.out.turn ((Turn.refl q _).alloc _) crq)
 replace HAr := hide (HAr.out.stay (Stay.below (show Below w2.heap.size w2 w3 by rw [hw3]; exact Joins.below_alloc1 _ _)))
 replace HX := hide (show HoldB _ _ _ w3 by rw [hw3]; exact holds_turn HX.out ((Turn.refl q _).alloc _) hqt)
 replace HAo := hide (show HoldB _ _ _ w3 by rw [hw3]; exact holds_turn HAo.out ((Turn.refl q _).alloc _) hqa)
 have HS3 := hide (show StrW q w3 (some ⟨w2.heap.size, 0, none⟩) stepWords by rw [hw3]; exact strW_new w2 q stepWords _ (by omega))
 clear hw3 H2 HT2 HB2
 go_enter Tryz.func58, Tryz.ntmps58
 go_wp2_with (first | rw [← HW0.out] | rw [← HW3.out] | (refine wpList_loadBig rfl 41 _ rfl w.heap.size 16 vq big_plan hlq rfl HK0.out ?_) | (refine wpList_buildOne rfl 31 41 _ rfl 16 vq rfl hlq (by decide) (by decide) Tryz.underlying31 i0 _ hi hzi hsi ?_; rw [← HW1.out]) | (refine wpList_storeBig rfl 41 _ _ rfl W1.heap.size 16 [.int .i64 0, .string ⟨#[]⟩, .slice (some ⟨W0.heap.size, 0, none⟩) 1 1, .int .i64 0, .string ⟨#[]⟩, .int .i64 0, .int .i64 0, .string ⟨#[]⟩, .string ⟨#[]⟩, .slice none 0 0, .slice none 0 0, .slice none 0 0, .slice none 0 0, .slice none 0 0, .slice none 0 0, .int .i64 0] big_plan rfl (by simp [Value.oneCell']) rfl rfl (box_new _ _ _ rfl) ?_; rw [← HW2.out]))
 clear HW0 HW1 HW2 HW3 HK0
 refine (HOf.out _ w3 H3.out HS3.out).mono ?_
 rintro e w4 ⟨rfl, h, ht⟩
 have H4 := hide h
 have HT4 := hide (HT3.out.trans ht)
 have HB4 := hide (HB3.out.turn ht crq)
 have hz4 : w.heap.size + 4 ≤ w4.heap.size := Nat.le_trans hz3 ht.size
 replace HAr := hide (HAr.out.stay (Stay.turn ht hnp))
 replace HX := hide (holds_turn HX.out ht hqt)
 replace HAo := hide (holds_turn HAo.out ht hqa)
 clear h ht H3 HT3 HB3 HS3 HOf
 obtain ⟨w5, hw5⟩ : ∃ W, W = (w4.setCell ⟨W1.heap.size, 0, none⟩ (.int .i64 8)) := ⟨_, rfl⟩
 have HW5 := hide hw5
 have H5 := hide (show ParAt q TL E w5 _ by rw [hw5]; exact (H4.out.put (p := ⟨W1.heap.size, 0, none⟩) hqt _))
 have HT5 := hide (show Turn q w w5 by rw [hw5]; exact (HT4.out.put (p := ⟨W1.heap.size, 0, none⟩) (by simp; omega) _))
 have HX' := hide (show HoldB W1.heap.size 41 [.int .i64 8, .string ⟨#[]⟩, .slice (some ⟨W0.heap.size, 0, none⟩) 1 1, .int .i64 0, .string ⟨#[]⟩, .int .i64 0, .int .i64 0, .string ⟨#[]⟩, .string ⟨#[]⟩, .slice none 0 0, .slice none 0 0, .slice none 0 0, .slice none 0 0, .slice none 0 0, .slice none 0 0, .int .i64 0] w5 by rw [hw5]; exact (Joins.block_setCell (i := 0) HX.out _))
 have hz5 : w.heap.size + 4 ≤ w5.heap.size := by rw [hw5]; simp; omega
 have HB5 := hide (show BoxAt (w.heap.size + 1) 41 16 w5 by rw [hw5]; exact (HB4.out.set (by omega) _ _))
 have hst : Stay (PSt' Pq w.heap.size W0.heap.size W1.heap.size) (PSt' Pq w.heap.size W0.heap.size W1.heap.size) w4 w5 := ⟨fun _ _ h => h, by rw [hw5]; simp, fun b hb _ => by
  have hbt : b ≠ W1.heap.size := pst_ne hb (by omega) hlo1
  rw [hw5]; exact Below.heap_setCell w4 ⟨W1.heap.size, 0, none⟩ (.int .i64 8) b hbt⟩
 replace HAr := hide (HAr.out.stay hst)
 have HAo' := hide (show HoldB W0.heap.size 41 vq w5 by
  have b := W0.heap.size
  have hbt : W0.heap.size ≠ W1.heap.size := by omega
  rw [hw5]; exact (Below.heap_setCell w4 ⟨W1.heap.size, 0, none⟩ (.int .i64 8) W0.heap.size hbt).trans HAo.out)
 clear HAo
 have HAo := HAo'
 clear HAo' hst
 have x0 := Lib.cell_of_heap HX.out 0
 have x1 := Lib.cell_of_heap HX.out 1
 have x2 := Lib.cell_of_heap HX.out 2
 have x3 := Lib.cell_of_heap HX.out 3
 have x4 := Lib.cell_of_heap HX.out 4
 have x5 := Lib.cell_of_heap HX.out 5
 have x6 := Lib.cell_of_heap HX.out 6
 have x7 := Lib.cell_of_heap HX.out 7
 have x8 := Lib.cell_of_heap HX.out 8
 have x9 := Lib.cell_of_heap HX.out 9
 have x10 := Lib.cell_of_heap HX.out 10
 have x11 := Lib.cell_of_heap HX.out 11
 have x12 := Lib.cell_of_heap HX.out 12
 have x13 := Lib.cell_of_heap HX.out 13
 have x14 := Lib.cell_of_heap HX.out 14
 have x15 := Lib.cell_of_heap HX.out 15
 have xf := Lib.frozen_of_heap HX.out
 have xs := holds_size HX.out
 simp only [List.getElem?_toArray, List.getElem?_cons_zero, List.getElem?_cons_succ] at x0 x1 x2 x3 x4 x5 x6 x7 x8 x9 x10 x11 x12 x13 x14 x15
 have y0 := Lib.cell_of_heap HX'.out 0
 have y2 := Lib.cell_of_heap HX'.out 2
 have y4 := Lib.cell_of_heap HX'.out 10
 have y5 := Lib.cell_of_heap HX'.out 11
 simp only [List.getElem?_toArray, List.getElem?_cons_zero, List.getElem?_cons_succ] at y0 y2 y4 y5
 clear hw5
 go_wp2_with (first | rw [← HW5.out] | (refine wpList_loadBig rfl 41 _ rfl W1.heap.size 16 [.int .i64 8, .string ⟨#[]⟩, .slice (some ⟨W0.heap.size, 0, none⟩) 1 1, .int .i64 0, .string ⟨#[]⟩, .int .i64 0, .int .i64 0, .string ⟨#[]⟩, .string ⟨#[]⟩, .slice none 0 0, .slice none 0 0, .slice none 0 0, .slice none 0 0, .slice none 0 0, .slice none 0 0, .int .i64 0] big_plan rfl rfl HX'.out ?_) | (refine wpList_storeBig rfl 41 _ _ rfl (w.heap.size + 1) 16 [.int .i64 8, .string ⟨#[]⟩, .slice (some ⟨W0.heap.size, 0, none⟩) 1 1, .int .i64 0, .string ⟨#[]⟩, .int .i64 0, .int .i64 0, .string ⟨#[]⟩, .string ⟨#[]⟩, .slice none 0 0, .slice none 0 0, .slice none 0 0, .slice none 0 0, .slice none 0 0, .slice none 0 0, .int .i64 0] big_plan rfl (by intro u hu; simp only [List.mem_cons, List.not_mem_nil, or_false] at hu; rcases hu with rfl | rfl | rfl | rfl | rfl | rfl | rfl | rfl | rfl | rfl | rfl | rfl | rfl | rfl | rfl | rfl <;> rfl) rfl rfl HB5.out ?_))
 clear xf xs x0 x1 x2 x3 x4 x5 x6 x7 x8 x9 x10 x11 x12 x13 x14 x15
 clear y0 y2 y4 y5 HX H4 HT4 HB4 HW5
 have HX := HX'
 clear HX'
 refine bodyPost_ret (v := .agg #[.int .i64 8, .string ⟨#[]⟩, .slice (some ⟨W0.heap.size, 0, none⟩) 1 1, .int .i64 0, .string ⟨#[]⟩, .int .i64 0, .int .i64 0, .string ⟨#[]⟩, .string ⟨#[]⟩, .slice none 0 0, .slice none 0 0, .slice none 0 0, .slice none 0 0, .slice none 0 0, .slice none 0 0, .int .i64 0]) (results_big (vs := [.int .i64 8, .string ⟨#[]⟩, .slice (some ⟨W0.heap.size, 0, none⟩) 1 1, .int .i64 0, .string ⟨#[]⟩, .int .i64 0, .int .i64 0, .string ⟨#[]⟩, .string ⟨#[]⟩, .slice none 0 0, .slice none 0 0, .slice none 0 0, .slice none 0 0, .slice none 0 0, .slice none 0 0, .int .i64 0]) rfl rfl big_plan rfl (set_row _ HB5.out.choose_spec.1)) rfl ?_
 exact ⟨[.int .i64 8, .string ⟨#[]⟩, .slice (some ⟨W0.heap.size, 0, none⟩) 1 1, .int .i64 0, .string ⟨#[]⟩, .int .i64 0, .int .i64 0, .string ⟨#[]⟩, .string ⟨#[]⟩, .slice none 0 0, .slice none 0 0, .slice none 0 0, .slice none 0 0, .slice none 0 0, .slice none 0 0, .int .i64 0], rfl, (rep_plan (p := {k := 8, args := [dq]}) HAr.out (rep_zeroE _ _) (rep_nil _ _ _) (rep_nil _ _ _) (rep_nil _ _ _) (rep_nil _ _ _) (rep_nil _ _ _)).stay (pst_fin _ _ hlo0 (by omega)), H5.out.row crq _, HT5.out.row (Nat.le_succ _) _⟩
end Go.Proofs.YtljoajjlkjjgeaaGreatDoor
