/-
  Equal of two plans that read the same: their parts.
  Equal of two plans that read the same.
  Equal of two definitions that read the same.
-/
import Derived.Test.YtljoajjlkjjgeaaGreatDoorMEq1
import Derived.Test.YtljoajjlkjjgeaaGreatDoorME3
import Derived.BigFrame
namespace Go.Proofs.YtljoajjlkjjgeaaGreatDoor
open Go.RowKit Go.Sort LM Go

/-- A row's elements, in any world that keeps them. -/
theorem Rep.elems {P : Nat → Prop} {w : World} {sz : Nat} {els : List (List Dt)} {v : Value} (h : Rep P w (.row sz els) v) (hl : ∀ e ∈ els, e.length = sz) : ∃ A cap, v = .slice A els.length cap ∧
  ∀ wr, Below w.heap.size w wr → ∀ j, j < els.length → ∃ b off, ∃ vs : List Value, A = some ⟨b, off, none⟩ ∧ b < w.heap.size ∧ vs.length = sz ∧ (∀ i, i < sz → wr.cell? ⟨b, off + j * sz + i, none⟩ = some (vs.getD i v0)) ∧ RepC P w (els.getD j []) vs := by
 obtain ⟨A, cap, rfl, _, us, hc, hs⟩ := h.row_inv
 refine ⟨A, cap, rfl, fun wr hb j hj => ?_⟩
 obtain ⟨b, off, e, -, hlt, hcc⟩ := hc j hj
 have hmem : els.getD j [] ∈ els := by rw [List.getD_eq_getElem?_getD, List.getElem?_eq_getElem hj]; exact List.getElem_mem hj
 have hlen := hl _ hmem
 have hat : ∀ i, i < sz → ((List.range sz).map (us j)).getD i v0 = us j i := fun i hi => by
  rw [List.getD_eq_getElem?_getD, List.getElem?_map, List.getElem?_range hi]; rfl
 refine ⟨b, off, (List.range sz).map (us j), e, hlt, by simp, fun i hi => ?_, by rw [hlen]; simp, fun i hi => ?_⟩
 ·rw [hat i hi]
  exact (hb.cell (p := ⟨b, off + j * sz + i, none⟩) hlt).trans (hcc i (by rw [hlen]; exact hi))
 ·rw [hat i (by rw [← hlen]; exact hi)]
  exact hs j i hj hi
/-- A struct of many cells, loaded from a row. -/
theorem run_loadBigAt {w : World} {b off n : Nat} {t : TypeId} {vs : List Value} (hB : Big t n) (hn : vs.length = n) (h : ∀ i, i < n → w.cell? ⟨b, off + i, none⟩ = some (vs.getD i v0)) : (loadVar t ⟨b, off, none⟩).run Tryz.prog w = .ok (.agg vs.toArray) w := by
 have hl : (loadCells ⟨b, off, none⟩ vs.length).run Tryz.prog w = .ok vs.toArray w :=
  run_loadCells_list (P := Tryz.prog) w ⟨b, off, none⟩ vs (fun j v hv => by
   have hadd : (⟨b, off, none⟩ : Addr).add j = ⟨b, off + j, none⟩ := by unfold Addr.add; split <;> simp_all
   have hj : j < n := by rw [← hn]; exact (List.getElem?_eq_some_iff.1 hv).1
   rw [hadd, h j hj, List.getD_eq_getElem?_getD, hv]; rfl)
 have hq := hB.size
 cases hi : Tryz.prog.info? t with
 | none => rw [hi] at hq; cases hq
 | some i =>
  rw [hi] at hq
  have hs : i.size = vs.length := by rw [hn]; simpa using hq
  have hagg : (isAgg t).run Tryz.prog w = .ok true w := by
   unfold isAgg
   rw [Sem.run_bind, run_underlying hB.und w]
   simp
  simp [loadVar, Sem.run_bind, hagg, sizeOf, typeInfo, hi, hs, hl]
section
variable {ops : Array Oper} {rest : List Oper} {o : Oper} {a : Act} {w : World} {Q : Exit → Act → World → Prop}
theorem wpList_loadBigAt (hgd : o.guard = none) (t : TypeId) (x : Operand) (ho : o.op = .load t x) (b off n : Nat) (vs : List Value) (hB : Big t n) (hn : vs.length = n) (hx : a.eval x = .pointer (some ⟨b, off, none⟩)) (hp : ∀ i, i < n → w.cell? ⟨b, off + i, none⟩ = some (vs.getD i v0))
  (h : wpList Tryz.prog ops Q rest (a.put o.dst (.agg vs.toArray)) w) : wpList Tryz.prog ops Q (o :: rest) a w :=
 wpList_plain hgd fun _ hK => by
  unfold Oper.wp execOp
  simp only [ho, hx, Instr.loadAt, Instr.sureAddr, Sem.run_bind, Sem.run_pure, Result.andThen_ok, run_loadBigAt hB hn hp]
  exact hK _ _ h
end
/-- The bounds of a plan's own lists. -/
structure PlOk (p : Pl) : Prop where
 args : p.args.length ≤ 1000000
 cond : szX p.cond ≤ 1000000
 names : p.names.length ≤ 1000000
 exprs : p.exprs.length ≤ 1000000
 each : ∀ x ∈ p.exprs, szX x ≤ 1000000
 on : p.on.length ≤ 1000000
 aggs : p.aggs.length ≤ 1000000
 ord : p.ord.length ≤ 1000000
/-- Cells that read as a plan, not deeper than n. -/
def PEnc : Nat → List Dt → Prop
 | 0, _ => False
 | n + 1, ds => ∃ p : Pl, ds = p.enc ∧ PlOk p ∧ ∀ a ∈ p.args, PEnc n a
theorem PEnc.len : ∀ {n : Nat} {ds : List Dt}, PEnc n ds → ds.length = 16
 | 0, _, h => by cases h
 | n + 1, ds, h => by
  obtain ⟨p, rfl, -⟩ := h
  exact enc_len p
def CEqP (n : Nat) : Prop := ∀ (P P' : Nat → Prop) (ds : List Dt) (vs vs' : List Value) (w : World), PEnc n ds → RepC P w ds vs → RepC P' w ds vs' →
 Calls Tryz.prog 23 #[.agg vs.toArray, .agg vs'.toArray] w fun e w' => e = .returned (.bool true) ∧ Below w.heap.size w w'
set_option maxHeartbeats 6400000 in
set_option maxRecDepth 100000 in
theorem eqPlans_same {n : Nat} (ih : CEqP n) {P P' : Nat → Prop} (els : List (List Dt)) (v v' : Value) (w : World) (h : Rep P w (.row 16 els) v) (h' : Rep P' w (.row 16 els) v') (he : ∀ e ∈ els, PEnc n e) (hl : els.length ≤ 1000000) :
  Calls Tryz.prog 40 #[v, v', .func (.func 23) #[] #[]] w fun e w' => e = .returned (.bool true) ∧ Below w.heap.size w w' := by
 obtain ⟨A, c, rfl, hA⟩ := h.elems (fun e k => (he e k).len)
 obtain ⟨A', c', rfl, hA'⟩ := h'.elems (fun e k => (he e k).len)
 have HA := hide hA
 have HA' := hide hA'
 have IH := hide ih
 have HE := hide (fun j (hj : j < els.length) => he (els.getD j []) (by rw [List.getD_eq_getElem?_getD, List.getElem?_eq_getElem hj]; exact List.getElem_mem hj))
 have HB0 := hide (Below.refl w.heap.size w)
 clear hA hA' h h' he ih
 go_enter Tryz.func40, Tryz.ntmps40
 go_wp2_with fail
 go_loopw [17] (fun i wr => ∃ k : Nat, k ≤ els.length ∧ i = .int .i64 k ∧ Hid (Below w.heap.size w wr)) (fun i _ => els.length - (intOf i).toNat)
 case atStart => exact ⟨0, Nat.zero_le _, rfl, HB0⟩
 case round =>
  obtain ⟨k, hk, rfl, HBr⟩ := hrel
  by_cases hlt : k < els.length
  ·obtain ⟨b, off, vs, rfl, hb, hvl, hc, hr⟩ := HA.out wr HBr.out k hlt
   obtain ⟨b', off', vs', rfl, hb', hvl', hc', hr'⟩ := HA'.out wr HBr.out k hlt
   have hone := hr.one_cell
   have hone' := hr'.one_cell
   have hsz := HBr.out.size
   obtain ⟨W1, e1⟩ : ∃ W1, W1 = wr.alloc (.cells vs.toArray 41) := ⟨_, rfl⟩
   obtain ⟨W2, e2⟩ : ∃ W2, W2 = W1.alloc (.cells vs'.toArray 41) := ⟨_, rfl⟩
   have hb1 : Below wr.heap.size wr W1 := by rw [e1]; exact Joins.below_alloc1 wr _
   have hb2 : Below W1.heap.size W1 W2 := by rw [e2]; exact Joins.below_alloc1 W1 _
   have hB12 := HBr.out.trans ((hb1.trans (hb2.mono hb1.size)).mono hsz)
   have hX1 : HoldB wr.heap.size 41 vs W2 := (hb2.block _ (by rw [e1]; simp)).trans (by rw [e1]; exact heap_alloc_new _ _)
   have hX2 : HoldB W1.heap.size 41 vs' W2 := by rw [e2]; exact heap_alloc_new _ _
   have hc2 : ∀ i, i < 16 → W1.cell? ⟨b', off' + k * 16 + i, none⟩ = some (vs'.getD i v0) := fun i hi => (hb1.cell (p := ⟨b', off' + k * 16 + i, none⟩) (by show b' < wr.heap.size; omega)).trans (hc' i hi)
   have HCall := hide (IH.out P P' (els.getD k []) vs vs' W2 (HE.out k hlt) (hr.stay (Stay.below hB12)) (hr'.stay (Stay.below hB12)))
   have HB2 := hide hB12
   have HW1 := hide e1
   have HW2 := hide e2
   clear e1 e2 hb1 hb2 hB12 hc' hr hr'
   go_wp2_with (first | (refine wpList_loadBigAt rfl 41 _ rfl b (off + k * 16) 16 vs big_plan hvl rfl hc ?_) | (refine wpList_loadBigAt rfl 41 _ rfl b' (off' + k * 16) 16 vs' big_plan hvl' rfl hc2 ?_) | (refine wpList_storeBig rfl 41 _ _ rfl wr.heap.size 16 vs big_plan hvl hone rfl rfl (box_new _ _ _ rfl) ?_; rw [World.setRow_alloc_new, ← HW1.out]) | (refine wpList_storeBig rfl 41 _ _ rfl W1.heap.size 16 vs' big_plan hvl' hone' rfl rfl (box_new _ _ _ rfl) ?_; rw [World.setRow_alloc_new, ← HW2.out]) | (refine wpList_loadBig rfl 41 _ rfl wr.heap.size 16 vs big_plan hvl rfl hX1 ?_) | (refine wpList_loadBig rfl 41 _ rfl W1.heap.size 16 vs' big_plan hvl' rfl hX2 ?_))
   refine HCall.out.mono ?_
   rintro e w3 ⟨rfl, hb3⟩
   have HB3 := hide (then_below HB2.out hb3)
   clear hb3 hX1 hX2 hc hc2
   go_wp2_with fail
   go_roundw
   case rel => exact ⟨k + 1, by omega, by go_num, HB3⟩
   case measure => simp [intOf]; omega
  ·go_wp2_with fail
   go_ret
   exact ⟨rfl, HBr.out⟩
end Go.Proofs.YtljoajjlkjjgeaaGreatDoor
namespace Go.Proofs.YtljoajjlkjjgeaaGreatDoor
open Go.RowKit Go.Sort LM Go

/-- The cells of what reads as a plan. -/
theorem plan_cells {P : Nat → Prop} {w : World} {p : Pl} {vs : List Value} (h : RepC P w p.enc vs) : ∃ x v2 v10 v11 v12 v13 v14, vs = [.int .i64 p.k, .string p.nm, v2] ++ cX x ++ [v10, v11, v12, v13, v14, .int .i64 p.cnt] ∧ LiesX w.heap.size w x ∧ stripX x = stripX p.cond ∧
  Rep P w (.row 16 p.args) v2 ∧ Rep P w (dStrs p.names) v10 ∧ Rep P w (.row 7 (dEs p.exprs)) v11 ∧ Rep P w (.row 2 (p.on.map dPair)) v12 ∧ Rep P w (.row 3 (p.aggs.map dAgg)) v13 ∧ Rep P w (.row 2 (p.ord.map dOrd)) v14 := by
 unfold Pl.enc at h
 obtain ⟨us, ts, rfl, h1, h2⟩ := h.split
 obtain ⟨us, xs, rfl, h0, hx⟩ := h1.split
 obtain ⟨x, rfl, hl, hs⟩ := lies_rep _ _ hx
 obtain ⟨a0, r, rfl, k0, h0⟩ := h0.uncons
 obtain ⟨a1, r, rfl, k1, h0⟩ := h0.uncons
 obtain ⟨a2, r, rfl, k2, h0⟩ := h0.uncons
 obtain rfl := h0.unnil
 obtain ⟨b0, r, rfl, m0, h2⟩ := h2.uncons
 obtain ⟨b1, r, rfl, m1, h2⟩ := h2.uncons
 obtain ⟨b2, r, rfl, m2, h2⟩ := h2.uncons
 obtain ⟨b3, r, rfl, m3, h2⟩ := h2.uncons
 obtain ⟨b4, r, rfl, m4, h2⟩ := h2.uncons
 obtain ⟨b5, r, rfl, m5, h2⟩ := h2.uncons
 obtain rfl := h2.unnil
 obtain rfl := k0.int
 obtain rfl := k1.str
 obtain rfl := m5.int
 rw [← dEs_map] at m1
 exact ⟨x, a2, b0, b1, b2, b3, b4, rfl, hl, hs, k2, m0, m1, m2, m3, m4⟩
theorem eqX_both {x y z : XT} (h : stripX x = stripX z) (k : stripX y = stripX z) : eqX x y = true := eqX_iff.2 (h.trans k.symm)
set_option maxHeartbeats 6400000 in
set_option maxRecDepth 100000 in
theorem eqExprs_same {P P' : Nat → Prop} (l : List XT) (v v' : Value) (w : World) (h : Rep P w (.row 7 (dEs l)) v) (h' : Rep P' w (.row 7 (dEs l)) v') (hl : l.length ≤ 1000000) (hz : ∀ x ∈ l, szX x ≤ 1000000) :
  Calls Tryz.prog 36 #[v, v', .func (.func 34) #[] #[]] w fun e w' => e = .returned (.bool true) ∧ Below w.heap.size w w' := by
 obtain ⟨A, c, xs, rfl, hA, hs⟩ := args_rep h
 obtain ⟨A', c', ys, rfl, hA', hs'⟩ := args_rep h'
 have len : ∀ {a b : List XT}, stripXs a = stripXs b → a.length = b.length := fun {a b} e => eqXs_len (eqXs_iff.2 e)
 have hx := len hs
 have hy := len hs'
 have bnd : ∀ {a : List XT}, stripXs a = stripXs l → ∀ k, k < a.length → szX (a.getD k dX) ≤ 1000000 := fun {a} e k hk => by
  have hq := eqXs_iff.2 e
  have hln := len e
  have he : eqX (a.getD k dX) (l.getD k dX) = true := by
   rcases hc : eqX (a.getD k dX) (l.getD k dX) with _ | _
   ·have := eqXs_bad hln hk hc
    rw [hq] at this; cases this
   ·rfl
  rw [size_strip _ _ (eqX_iff.1 he)]
  refine hz _ ?_
  rw [List.getD_eq_getElem?_getD, List.getElem?_eq_getElem (by omega : k < l.length)]
  exact List.getElem_mem _
 have h1 := equalFunc_step 1000000 (equal_ok 1000000) xs ys A A' c c' w (bnd hs) (by unfold maxLen; omega) hA hA' (bnd hs) (bnd hs')
 rw [show eqXs xs ys = true from eqXs_iff.2 (hs.trans hs'.symm)] at h1
 exact h1
set_option maxHeartbeats 8000000 in
set_option maxRecDepth 100000 in
theorem eqPlan_step {n : Nat} (ih : CEqP n) : CEqP (n + 1) := by
 intro P P' ds vs vs' w hd h h'
 obtain ⟨p, rfl, hok, hargs⟩ := hd
 obtain ⟨x, u2, u10, u11, u12, u13, u14, rfl, hx, hsx, r2, r10, r11, r12, r13, r14⟩ := plan_cells h
 obtain ⟨y, z2, z10, z11, z12, z13, z14, rfl, hy, hsy, s2, s10, s11, s12, s13, s14⟩ := plan_cells h'
 obtain ⟨q0, q1, q2, q3, q4, q5, q6, q7⟩ := hok
 have zx : szX x ≤ 1000000 := by rw [size_strip _ _ hsx]; exact q1
 have zy : szX y ≤ 1000000 := by rw [size_strip _ _ hsy]; exact q1
 have heq := eqX_both hsx hsy
 obtain ⟨K, hK⟩ : ∃ K, K = p.k := ⟨_, rfl⟩
 obtain ⟨NM, hNM⟩ : ∃ K, K = p.nm := ⟨_, rfl⟩
 obtain ⟨CN, hCN⟩ : ∃ K, K = p.cnt := ⟨_, rfl⟩
 rw [← hK, ← hNM, ← hCN]
 have sl : ∀ {R : Nat → Prop} {sz : Nat} {els : List (List Dt)} {v : Value}, Rep R w (.row sz els) v → ∃ A a c, v = .slice A a c := fun hh => by
  obtain ⟨A, c, rfl, -⟩ := hh.row_inv
  exact ⟨A, _, c, rfl⟩
 have HCo := hide (fun w' (hb : Below w.heap.size w w') => equal_any x y w' (hx.on hb) (hy.on hb) zx zy)
 rw [heq] at HCo
 have HNa := hide (fun w' (hb : Below w.heap.size w w') => eqStr_same p.names u10 z10 w' (r10.stay (Stay.below hb)) (s10.stay (Stay.below hb)) q2)
 have HEx := hide (fun w' (hb : Below w.heap.size w w') => eqExprs_same p.exprs u11 z11 w' (r11.stay (Stay.below hb)) (s11.stay (Stay.below hb)) q3 q4)
 have HOn := hide (fun w' (hb : Below w.heap.size w w') => eqPair_same p.on u12 z12 w' (r12.stay (Stay.below hb)) (s12.stay (Stay.below hb)) q5)
 have HAg := hide (fun w' (hb : Below w.heap.size w w') => eqAgg_same p.aggs u13 z13 w' (r13.stay (Stay.below hb)) (s13.stay (Stay.below hb)) q6)
 have HOr := hide (fun w' (hb : Below w.heap.size w w') => eqOrd_same p.ord u14 z14 w' (r14.stay (Stay.below hb)) (s14.stay (Stay.below hb)) q7)
 have HAr := hide (fun w' (hb : Below w.heap.size w w') => eqPlans_same ih p.args u2 z2 w' (r2.stay (Stay.below hb)) (s2.stay (Stay.below hb)) hargs q0)
 obtain ⟨a2, a2n, a2c, rfl⟩ := sl r2
 obtain ⟨b2, b2n, b2c, rfl⟩ := sl s2
 obtain ⟨a10, a10n, a10c, rfl⟩ := sl r10
 obtain ⟨b10, b10n, b10c, rfl⟩ := sl s10
 obtain ⟨a11, a11n, a11c, rfl⟩ := sl r11
 obtain ⟨b11, b11n, b11c, rfl⟩ := sl s11
 obtain ⟨a12, a12n, a12c, rfl⟩ := sl r12
 obtain ⟨b12, b12n, b12c, rfl⟩ := sl s12
 obtain ⟨a13, a13n, a13c, rfl⟩ := sl r13
 obtain ⟨b13, b13n, b13c, rfl⟩ := sl s13
 obtain ⟨a14, a14n, a14c, rfl⟩ := sl r14
 obtain ⟨b14, b14n, b14c, rfl⟩ := sl s14
 clear sl r2 r10 r11 r12 r13 r14 s2 s10 s11 s12 s13 s14 hargs ih h h' hx hy hsx hsy q0 q1 q2 q3 q4 q5 q6 q7 zx zy heq hK hNM hCN
 obtain ⟨k1, n1, ⟨v1, v2, v3⟩, o1, A1, c1, t1⟩ := x
 obtain ⟨k2, n2, ⟨y1, y2, y3⟩, o2, A2, c2, t2⟩ := y
 obtain ⟨W1, e1⟩ : ∃ W1, W1 = w.alloc (.cells #[.int .i64 K, .string NM, .slice a2 a2n a2c, .int .i64 k1, .string n1, .int .i64 v1, .int .i64 v2, .string v3, .string o1, .slice A1 t1.length c1, .slice a10 a10n a10c, .slice a11 a11n a11c, .slice a12 a12n a12c, .slice a13 a13n a13c, .slice a14 a14n a14c, .int .i64 CN] 41) := ⟨_, rfl⟩
 obtain ⟨W, e2⟩ : ∃ W2, W2 = W1.alloc (.cells #[.int .i64 K, .string NM, .slice b2 b2n b2c, .int .i64 k2, .string n2, .int .i64 y1, .int .i64 y2, .string y3, .string o2, .slice A2 t2.length c2, .slice b10 b10n b10c, .slice b11 b11n b11c, .slice b12 b12n b12c, .slice b13 b13n b13c, .slice b14 b14n b14c, .int .i64 CN] 41) := ⟨_, rfl⟩
 have hb1 : Below w.heap.size w W1 := by rw [e1]; exact Joins.below_alloc1 w _
 have hb2 : Below W1.heap.size W1 W := by rw [e2]; exact Joins.below_alloc1 W1 _
 have hB12 := hb1.trans (hb2.mono hb1.size)
 have hX1 : HoldB w.heap.size 41 [.int .i64 K, .string NM, .slice a2 a2n a2c, .int .i64 k1, .string n1, .int .i64 v1, .int .i64 v2, .string v3, .string o1, .slice A1 t1.length c1, .slice a10 a10n a10c, .slice a11 a11n a11c, .slice a12 a12n a12c, .slice a13 a13n a13c, .slice a14 a14n a14c, .int .i64 CN] W := (hb2.block _ (by rw [e1]; simp)).trans (by rw [e1]; exact heap_alloc_new _ _)
 have hX2 : HoldB W1.heap.size 41 [.int .i64 K, .string NM, .slice b2 b2n b2c, .int .i64 k2, .string n2, .int .i64 y1, .int .i64 y2, .string y3, .string o2, .slice A2 t2.length c2, .slice b10 b10n b10c, .slice b11 b11n b11c, .slice b12 b12n b12c, .slice b13 b13n b13c, .slice b14 b14n b14c, .int .i64 CN] W := by rw [e2]; exact heap_alloc_new _ _
 have hs1 : w.heap.size < W1.heap.size := by rw [e1]; simp
 have hs2 : W1.heap.size < W.heap.size := by rw [e2]; simp
 have HF := hide (fun w' (hb : Below W.heap.size W w') => (show HoldB w.heap.size 41 [.int .i64 K, .string NM, .slice a2 a2n a2c, .int .i64 k1, .string n1, .int .i64 v1, .int .i64 v2, .string v3, .string o1, .slice A1 t1.length c1, .slice a10 a10n a10c, .slice a11 a11n a11c, .slice a12 a12n a12c, .slice a13 a13n a13c, .slice a14 a14n a14c, .int .i64 CN] w' ∧ HoldB W1.heap.size 41 [.int .i64 K, .string NM, .slice b2 b2n b2c, .int .i64 k2, .string n2, .int .i64 y1, .int .i64 y2, .string y3, .string o2, .slice A2 t2.length c2, .slice b10 b10n b10c, .slice b11 b11n b11c, .slice b12 b12n b12c, .slice b13 b13n b13c, .slice b14 b14n b14c, .int .i64 CN] w' from ⟨(hb.block _ (by omega)).trans hX1, (hb.block _ hs2).trans hX2⟩))
 have HBB := hide (fun w' (hb : Below W.heap.size W w') => then_below hB12 hb)
 have HW := hide (show W = (w.alloc (.cells #[.int .i64 K, .string NM, .slice a2 a2n a2c, .int .i64 k1, .string n1, .int .i64 v1, .int .i64 v2, .string v3, .string o1, .slice A1 t1.length c1, .slice a10 a10n a10c, .slice a11 a11n a11c, .slice a12 a12n a12c, .slice a13 a13n a13c, .slice a14 a14n a14c, .int .i64 CN] 41)).alloc (.cells #[.int .i64 K, .string NM, .slice b2 b2n b2c, .int .i64 k2, .string n2, .int .i64 y1, .int .i64 y2, .string y3, .string o2, .slice A2 t2.length c2, .slice b10 b10n b10c, .slice b11 b11n b11c, .slice b12 b12n b12c, .slice b13 b13n b13c, .slice b14 b14n b14c, .int .i64 CN] 41) by rw [e2, e1])
 have hW1 : W1.heap.size = w.heap.size + 1 := by rw [e1]; simp
 rw [hW1] at HF
 have HB0 := hide (Below.refl W.heap.size W)
 clear hb1 hb2 hB12 hX1 hX2 hs1 hs2 e1 e2 hW1
 obtain ⟨f1, f2⟩ := HF.out _ HB0.out
 have x0 := Lib.cell_of_heap f1 0
 have y0' := Lib.cell_of_heap f2 0
 have x1 := Lib.cell_of_heap f1 1
 have y1' := Lib.cell_of_heap f2 1
 have x2 := Lib.cell_of_heap f1 2
 have y2' := Lib.cell_of_heap f2 2
 have x3 := Lib.cell_of_heap f1 3
 have y3' := Lib.cell_of_heap f2 3
 have x4 := Lib.cell_of_heap f1 4
 have y4' := Lib.cell_of_heap f2 4
 have x5 := Lib.cell_of_heap f1 5
 have y5' := Lib.cell_of_heap f2 5
 have x6 := Lib.cell_of_heap f1 6
 have y6' := Lib.cell_of_heap f2 6
 have x7 := Lib.cell_of_heap f1 7
 have y7' := Lib.cell_of_heap f2 7
 have x8 := Lib.cell_of_heap f1 8
 have y8' := Lib.cell_of_heap f2 8
 have x9 := Lib.cell_of_heap f1 9
 have y9' := Lib.cell_of_heap f2 9
 have x10 := Lib.cell_of_heap f1 10
 have y10' := Lib.cell_of_heap f2 10
 have x11 := Lib.cell_of_heap f1 11
 have y11' := Lib.cell_of_heap f2 11
 have x12 := Lib.cell_of_heap f1 12
 have y12' := Lib.cell_of_heap f2 12
 have x13 := Lib.cell_of_heap f1 13
 have y13' := Lib.cell_of_heap f2 13
 have x14 := Lib.cell_of_heap f1 14
 have y14' := Lib.cell_of_heap f2 14
 have x15 := Lib.cell_of_heap f1 15
 have y15' := Lib.cell_of_heap f2 15
 have xs := holds_size f1
 have ys := holds_size f2
 simp only [List.getElem?_toArray, List.getElem?_cons_zero, List.getElem?_cons_succ] at x0 y0' x1 y1' x2 y2' x3 y3' x4 y4' x5 y5' x6 y6' x7 y7' x8 y8' x9 y9' x10 y10' x11 y11' x12 y12' x13 y13' x14 y14' x15 y15'
 show Calls Tryz.prog 23 #[.agg #[.int .i64 K, .string NM, .slice a2 a2n a2c, .int .i64 k1, .string n1, .int .i64 v1, .int .i64 v2, .string v3, .string o1, .slice A1 t1.length c1, .slice a10 a10n a10c, .slice a11 a11n a11c, .slice a12 a12n a12c, .slice a13 a13n a13c, .slice a14 a14n a14c, .int .i64 CN], .agg #[.int .i64 K, .string NM, .slice b2 b2n b2c, .int .i64 k2, .string n2, .int .i64 y1, .int .i64 y2, .string y3, .string o2, .slice A2 t2.length c2, .slice b10 b10n b10c, .slice b11 b11n b11c, .slice b12 b12n b12c, .slice b13 b13n b13c, .slice b14 b14n b14c, .int .i64 CN]] w _
 go_enter Tryz.func23, Tryz.ntmps23
 go_wp2_with (rw [← HW.out])
 refine (HCo.out _ (HBB.out _ HB0.out)).mono ?_
 rintro e w1 ⟨rfl, hb⟩
 have HB1 := hide (then_below HB0.out hb)
 clear hb
 clear x0 y0' x1 y1' x2 y2' x3 y3' x4 y4' x5 y5' x6 y6' x7 y7' x8 y8' x9 y9' x10 y10' x11 y11' x12 y12' x13 y13' x14 y14' x15 y15' xs ys f1 f2
 obtain ⟨f1, f2⟩ := HF.out _ HB1.out
 have x0 := Lib.cell_of_heap f1 0
 have y0' := Lib.cell_of_heap f2 0
 have x1 := Lib.cell_of_heap f1 1
 have y1' := Lib.cell_of_heap f2 1
 have x2 := Lib.cell_of_heap f1 2
 have y2' := Lib.cell_of_heap f2 2
 have x3 := Lib.cell_of_heap f1 3
 have y3' := Lib.cell_of_heap f2 3
 have x4 := Lib.cell_of_heap f1 4
 have y4' := Lib.cell_of_heap f2 4
 have x5 := Lib.cell_of_heap f1 5
 have y5' := Lib.cell_of_heap f2 5
 have x6 := Lib.cell_of_heap f1 6
 have y6' := Lib.cell_of_heap f2 6
 have x7 := Lib.cell_of_heap f1 7
 have y7' := Lib.cell_of_heap f2 7
 have x8 := Lib.cell_of_heap f1 8
 have y8' := Lib.cell_of_heap f2 8
 have x9 := Lib.cell_of_heap f1 9
 have y9' := Lib.cell_of_heap f2 9
 have x10 := Lib.cell_of_heap f1 10
 have y10' := Lib.cell_of_heap f2 10
 have x11 := Lib.cell_of_heap f1 11
 have y11' := Lib.cell_of_heap f2 11
 have x12 := Lib.cell_of_heap f1 12
 have y12' := Lib.cell_of_heap f2 12
 have x13 := Lib.cell_of_heap f1 13
 have y13' := Lib.cell_of_heap f2 13
 have x14 := Lib.cell_of_heap f1 14
 have y14' := Lib.cell_of_heap f2 14
 have x15 := Lib.cell_of_heap f1 15
 have y15' := Lib.cell_of_heap f2 15
 have xs := holds_size f1
 have ys := holds_size f2
 simp only [List.getElem?_toArray, List.getElem?_cons_zero, List.getElem?_cons_succ] at x0 y0' x1 y1' x2 y2' x3 y3' x4 y4' x5 y5' x6 y6' x7 y7' x8 y8' x9 y9' x10 y10' x11 y11' x12 y12' x13 y13' x14 y14' x15 y15'
 go_wp2_with fail
 refine (HNa.out _ (HBB.out _ HB1.out)).mono ?_
 rintro e w2 ⟨rfl, hb⟩
 have HB2 := hide (then_below HB1.out hb)
 clear hb
 clear x0 y0' x1 y1' x2 y2' x3 y3' x4 y4' x5 y5' x6 y6' x7 y7' x8 y8' x9 y9' x10 y10' x11 y11' x12 y12' x13 y13' x14 y14' x15 y15' xs ys f1 f2
 obtain ⟨f1, f2⟩ := HF.out _ HB2.out
 have x0 := Lib.cell_of_heap f1 0
 have y0' := Lib.cell_of_heap f2 0
 have x1 := Lib.cell_of_heap f1 1
 have y1' := Lib.cell_of_heap f2 1
 have x2 := Lib.cell_of_heap f1 2
 have y2' := Lib.cell_of_heap f2 2
 have x3 := Lib.cell_of_heap f1 3
 have y3' := Lib.cell_of_heap f2 3
 have x4 := Lib.cell_of_heap f1 4
 have y4' := Lib.cell_of_heap f2 4
 have x5 := Lib.cell_of_heap f1 5
 have y5' := Lib.cell_of_heap f2 5
 have x6 := Lib.cell_of_heap f1 6
 have y6' := Lib.cell_of_heap f2 6
 have x7 := Lib.cell_of_heap f1 7
 have y7' := Lib.cell_of_heap f2 7
 have x8 := Lib.cell_of_heap f1 8
 have y8' := Lib.cell_of_heap f2 8
 have x9 := Lib.cell_of_heap f1 9
 have y9' := Lib.cell_of_heap f2 9
 have x10 := Lib.cell_of_heap f1 10
 have y10' := Lib.cell_of_heap f2 10
 have x11 := Lib.cell_of_heap f1 11
 have y11' := Lib.cell_of_heap f2 11
 have x12 := Lib.cell_of_heap f1 12
 have y12' := Lib.cell_of_heap f2 12
 have x13 := Lib.cell_of_heap f1 13
 have y13' := Lib.cell_of_heap f2 13
 have x14 := Lib.cell_of_heap f1 14
 have y14' := Lib.cell_of_heap f2 14
 have x15 := Lib.cell_of_heap f1 15
 have y15' := Lib.cell_of_heap f2 15
 have xs := holds_size f1
 have ys := holds_size f2
 simp only [List.getElem?_toArray, List.getElem?_cons_zero, List.getElem?_cons_succ] at x0 y0' x1 y1' x2 y2' x3 y3' x4 y4' x5 y5' x6 y6' x7 y7' x8 y8' x9 y9' x10 y10' x11 y11' x12 y12' x13 y13' x14 y14' x15 y15'
 go_wp2_with fail
 refine (HEx.out _ (HBB.out _ HB2.out)).mono ?_
 rintro e w3 ⟨rfl, hb⟩
 have HB3 := hide (then_below HB2.out hb)
 clear hb
 clear x0 y0' x1 y1' x2 y2' x3 y3' x4 y4' x5 y5' x6 y6' x7 y7' x8 y8' x9 y9' x10 y10' x11 y11' x12 y12' x13 y13' x14 y14' x15 y15' xs ys f1 f2
 obtain ⟨f1, f2⟩ := HF.out _ HB3.out
 have x0 := Lib.cell_of_heap f1 0
 have y0' := Lib.cell_of_heap f2 0
 have x1 := Lib.cell_of_heap f1 1
 have y1' := Lib.cell_of_heap f2 1
 have x2 := Lib.cell_of_heap f1 2
 have y2' := Lib.cell_of_heap f2 2
 have x3 := Lib.cell_of_heap f1 3
 have y3' := Lib.cell_of_heap f2 3
 have x4 := Lib.cell_of_heap f1 4
 have y4' := Lib.cell_of_heap f2 4
 have x5 := Lib.cell_of_heap f1 5
 have y5' := Lib.cell_of_heap f2 5
 have x6 := Lib.cell_of_heap f1 6
 have y6' := Lib.cell_of_heap f2 6
 have x7 := Lib.cell_of_heap f1 7
 have y7' := Lib.cell_of_heap f2 7
 have x8 := Lib.cell_of_heap f1 8
 have y8' := Lib.cell_of_heap f2 8
 have x9 := Lib.cell_of_heap f1 9
 have y9' := Lib.cell_of_heap f2 9
 have x10 := Lib.cell_of_heap f1 10
 have y10' := Lib.cell_of_heap f2 10
 have x11 := Lib.cell_of_heap f1 11
 have y11' := Lib.cell_of_heap f2 11
 have x12 := Lib.cell_of_heap f1 12
 have y12' := Lib.cell_of_heap f2 12
 have x13 := Lib.cell_of_heap f1 13
 have y13' := Lib.cell_of_heap f2 13
 have x14 := Lib.cell_of_heap f1 14
 have y14' := Lib.cell_of_heap f2 14
 have x15 := Lib.cell_of_heap f1 15
 have y15' := Lib.cell_of_heap f2 15
 have xs := holds_size f1
 have ys := holds_size f2
 simp only [List.getElem?_toArray, List.getElem?_cons_zero, List.getElem?_cons_succ] at x0 y0' x1 y1' x2 y2' x3 y3' x4 y4' x5 y5' x6 y6' x7 y7' x8 y8' x9 y9' x10 y10' x11 y11' x12 y12' x13 y13' x14 y14' x15 y15'
 go_wp2_with fail
 refine (HOn.out _ (HBB.out _ HB3.out)).mono ?_
 rintro e w4 ⟨rfl, hb⟩
 have HB4 := hide (then_below HB3.out hb)
 clear hb
 clear x0 y0' x1 y1' x2 y2' x3 y3' x4 y4' x5 y5' x6 y6' x7 y7' x8 y8' x9 y9' x10 y10' x11 y11' x12 y12' x13 y13' x14 y14' x15 y15' xs ys f1 f2
 obtain ⟨f1, f2⟩ := HF.out _ HB4.out
 have x0 := Lib.cell_of_heap f1 0
 have y0' := Lib.cell_of_heap f2 0
 have x1 := Lib.cell_of_heap f1 1
 have y1' := Lib.cell_of_heap f2 1
 have x2 := Lib.cell_of_heap f1 2
 have y2' := Lib.cell_of_heap f2 2
 have x3 := Lib.cell_of_heap f1 3
 have y3' := Lib.cell_of_heap f2 3
 have x4 := Lib.cell_of_heap f1 4
 have y4' := Lib.cell_of_heap f2 4
 have x5 := Lib.cell_of_heap f1 5
 have y5' := Lib.cell_of_heap f2 5
 have x6 := Lib.cell_of_heap f1 6
 have y6' := Lib.cell_of_heap f2 6
 have x7 := Lib.cell_of_heap f1 7
 have y7' := Lib.cell_of_heap f2 7
 have x8 := Lib.cell_of_heap f1 8
 have y8' := Lib.cell_of_heap f2 8
 have x9 := Lib.cell_of_heap f1 9
 have y9' := Lib.cell_of_heap f2 9
 have x10 := Lib.cell_of_heap f1 10
 have y10' := Lib.cell_of_heap f2 10
 have x11 := Lib.cell_of_heap f1 11
 have y11' := Lib.cell_of_heap f2 11
 have x12 := Lib.cell_of_heap f1 12
 have y12' := Lib.cell_of_heap f2 12
 have x13 := Lib.cell_of_heap f1 13
 have y13' := Lib.cell_of_heap f2 13
 have x14 := Lib.cell_of_heap f1 14
 have y14' := Lib.cell_of_heap f2 14
 have x15 := Lib.cell_of_heap f1 15
 have y15' := Lib.cell_of_heap f2 15
 have xs := holds_size f1
 have ys := holds_size f2
 simp only [List.getElem?_toArray, List.getElem?_cons_zero, List.getElem?_cons_succ] at x0 y0' x1 y1' x2 y2' x3 y3' x4 y4' x5 y5' x6 y6' x7 y7' x8 y8' x9 y9' x10 y10' x11 y11' x12 y12' x13 y13' x14 y14' x15 y15'
 go_wp2_with fail
 refine (HAg.out _ (HBB.out _ HB4.out)).mono ?_
 rintro e w5 ⟨rfl, hb⟩
 have HB5 := hide (then_below HB4.out hb)
 clear hb
 clear x0 y0' x1 y1' x2 y2' x3 y3' x4 y4' x5 y5' x6 y6' x7 y7' x8 y8' x9 y9' x10 y10' x11 y11' x12 y12' x13 y13' x14 y14' x15 y15' xs ys f1 f2
 obtain ⟨f1, f2⟩ := HF.out _ HB5.out
 have x0 := Lib.cell_of_heap f1 0
 have y0' := Lib.cell_of_heap f2 0
 have x1 := Lib.cell_of_heap f1 1
 have y1' := Lib.cell_of_heap f2 1
 have x2 := Lib.cell_of_heap f1 2
 have y2' := Lib.cell_of_heap f2 2
 have x3 := Lib.cell_of_heap f1 3
 have y3' := Lib.cell_of_heap f2 3
 have x4 := Lib.cell_of_heap f1 4
 have y4' := Lib.cell_of_heap f2 4
 have x5 := Lib.cell_of_heap f1 5
 have y5' := Lib.cell_of_heap f2 5
 have x6 := Lib.cell_of_heap f1 6
 have y6' := Lib.cell_of_heap f2 6
 have x7 := Lib.cell_of_heap f1 7
 have y7' := Lib.cell_of_heap f2 7
 have x8 := Lib.cell_of_heap f1 8
 have y8' := Lib.cell_of_heap f2 8
 have x9 := Lib.cell_of_heap f1 9
 have y9' := Lib.cell_of_heap f2 9
 have x10 := Lib.cell_of_heap f1 10
 have y10' := Lib.cell_of_heap f2 10
 have x11 := Lib.cell_of_heap f1 11
 have y11' := Lib.cell_of_heap f2 11
 have x12 := Lib.cell_of_heap f1 12
 have y12' := Lib.cell_of_heap f2 12
 have x13 := Lib.cell_of_heap f1 13
 have y13' := Lib.cell_of_heap f2 13
 have x14 := Lib.cell_of_heap f1 14
 have y14' := Lib.cell_of_heap f2 14
 have x15 := Lib.cell_of_heap f1 15
 have y15' := Lib.cell_of_heap f2 15
 have xs := holds_size f1
 have ys := holds_size f2
 simp only [List.getElem?_toArray, List.getElem?_cons_zero, List.getElem?_cons_succ] at x0 y0' x1 y1' x2 y2' x3 y3' x4 y4' x5 y5' x6 y6' x7 y7' x8 y8' x9 y9' x10 y10' x11 y11' x12 y12' x13 y13' x14 y14' x15 y15'
 go_wp2_with fail
 refine (HOr.out _ (HBB.out _ HB5.out)).mono ?_
 rintro e w6 ⟨rfl, hb⟩
 have HB6 := hide (then_below HB5.out hb)
 clear hb
 clear x0 y0' x1 y1' x2 y2' x3 y3' x4 y4' x5 y5' x6 y6' x7 y7' x8 y8' x9 y9' x10 y10' x11 y11' x12 y12' x13 y13' x14 y14' x15 y15' xs ys f1 f2
 obtain ⟨f1, f2⟩ := HF.out _ HB6.out
 have x0 := Lib.cell_of_heap f1 0
 have y0' := Lib.cell_of_heap f2 0
 have x1 := Lib.cell_of_heap f1 1
 have y1' := Lib.cell_of_heap f2 1
 have x2 := Lib.cell_of_heap f1 2
 have y2' := Lib.cell_of_heap f2 2
 have x3 := Lib.cell_of_heap f1 3
 have y3' := Lib.cell_of_heap f2 3
 have x4 := Lib.cell_of_heap f1 4
 have y4' := Lib.cell_of_heap f2 4
 have x5 := Lib.cell_of_heap f1 5
 have y5' := Lib.cell_of_heap f2 5
 have x6 := Lib.cell_of_heap f1 6
 have y6' := Lib.cell_of_heap f2 6
 have x7 := Lib.cell_of_heap f1 7
 have y7' := Lib.cell_of_heap f2 7
 have x8 := Lib.cell_of_heap f1 8
 have y8' := Lib.cell_of_heap f2 8
 have x9 := Lib.cell_of_heap f1 9
 have y9' := Lib.cell_of_heap f2 9
 have x10 := Lib.cell_of_heap f1 10
 have y10' := Lib.cell_of_heap f2 10
 have x11 := Lib.cell_of_heap f1 11
 have y11' := Lib.cell_of_heap f2 11
 have x12 := Lib.cell_of_heap f1 12
 have y12' := Lib.cell_of_heap f2 12
 have x13 := Lib.cell_of_heap f1 13
 have y13' := Lib.cell_of_heap f2 13
 have x14 := Lib.cell_of_heap f1 14
 have y14' := Lib.cell_of_heap f2 14
 have x15 := Lib.cell_of_heap f1 15
 have y15' := Lib.cell_of_heap f2 15
 have xs := holds_size f1
 have ys := holds_size f2
 simp only [List.getElem?_toArray, List.getElem?_cons_zero, List.getElem?_cons_succ] at x0 y0' x1 y1' x2 y2' x3 y3' x4 y4' x5 y5' x6 y6' x7 y7' x8 y8' x9 y9' x10 y10' x11 y11' x12 y12' x13 y13' x14 y14' x15 y15'
 go_wp2_with fail
 refine (HAr.out _ (HBB.out _ HB6.out)).mono ?_
 rintro e w7 ⟨rfl, hb⟩
 have HB7 := hide (then_below HB6.out hb)
 clear hb
 clear x0 y0' x1 y1' x2 y2' x3 y3' x4 y4' x5 y5' x6 y6' x7 y7' x8 y8' x9 y9' x10 y10' x11 y11' x12 y12' x13 y13' x14 y14' x15 y15' xs ys f1 f2
 obtain ⟨f1, f2⟩ := HF.out _ HB7.out
 have x0 := Lib.cell_of_heap f1 0
 have y0' := Lib.cell_of_heap f2 0
 have x1 := Lib.cell_of_heap f1 1
 have y1' := Lib.cell_of_heap f2 1
 have x2 := Lib.cell_of_heap f1 2
 have y2' := Lib.cell_of_heap f2 2
 have x3 := Lib.cell_of_heap f1 3
 have y3' := Lib.cell_of_heap f2 3
 have x4 := Lib.cell_of_heap f1 4
 have y4' := Lib.cell_of_heap f2 4
 have x5 := Lib.cell_of_heap f1 5
 have y5' := Lib.cell_of_heap f2 5
 have x6 := Lib.cell_of_heap f1 6
 have y6' := Lib.cell_of_heap f2 6
 have x7 := Lib.cell_of_heap f1 7
 have y7' := Lib.cell_of_heap f2 7
 have x8 := Lib.cell_of_heap f1 8
 have y8' := Lib.cell_of_heap f2 8
 have x9 := Lib.cell_of_heap f1 9
 have y9' := Lib.cell_of_heap f2 9
 have x10 := Lib.cell_of_heap f1 10
 have y10' := Lib.cell_of_heap f2 10
 have x11 := Lib.cell_of_heap f1 11
 have y11' := Lib.cell_of_heap f2 11
 have x12 := Lib.cell_of_heap f1 12
 have y12' := Lib.cell_of_heap f2 12
 have x13 := Lib.cell_of_heap f1 13
 have y13' := Lib.cell_of_heap f2 13
 have x14 := Lib.cell_of_heap f1 14
 have y14' := Lib.cell_of_heap f2 14
 have x15 := Lib.cell_of_heap f1 15
 have y15' := Lib.cell_of_heap f2 15
 have xs := holds_size f1
 have ys := holds_size f2
 simp only [List.getElem?_toArray, List.getElem?_cons_zero, List.getElem?_cons_succ] at x0 y0' x1 y1' x2 y2' x3 y3' x4 y4' x5 y5' x6 y6' x7 y7' x8 y8' x9 y9' x10 y10' x11 y11' x12 y12' x13 y13' x14 y14' x15 y15'
 go_wp2_with fail
 go_ret
 exact ⟨rfl, HBB.out _ HB7.out⟩
theorem eqPlan_same : ∀ n, CEqP n
 | 0 => fun _ _ _ _ _ _ h => by cases h
 | n + 1 => eqPlan_step (eqPlan_same n)
end Go.Proofs.YtljoajjlkjjgeaaGreatDoor
namespace Go.Proofs.YtljoajjlkjjgeaaGreatDoor
open Go.RowKit Go.Sort LM Go

theorem eqf_Sch : Tryz.prog.underlying 24 = some (.struct (Tryz.prog.fieldsOf 24)) := by kernel_rfl
theorem eqs_Sch : Tryz.prog.stoodInHeld 24 = false := by kernel_rfl
theorem eqg_Sch : Tryz.prog.eqGuardType Tryz.prog.depth 24 = false := by kernel_rfl
theorem eql_Sch : (Tryz.prog.fieldsOf 24).toList.map (fun f => (f.type, f.offset, decide (f.name ≠ "_"))) = [(3, 0, true), (3, 1, true), (3, 2, true)] := by kernel_rfl
theorem eq_Sch (a b c : Int) (w : World) : (binOp .eql 24 (.agg #[.int .i64 a, .int .i64 b, .int .i64 c]) (.agg #[.int .i64 a, .int .i64 b, .int .i64 c])).run Tryz.prog w = .ok (.bool true) w := by
 have u0 := Tryz.underlying3
 have hf := eql_Sch
 rw [run_eql_struct, run_equalIn_agg w 9999 24 _ _ eqf_Sch eqs_Sch]
 generalize (Tryz.prog.fieldsOf 24).toList = fs at hf
 rcases fs with _ | ⟨f, _ | ⟨g, _ | ⟨h, _ | ⟨_, _⟩⟩⟩⟩ <;> simp at hf
 obtain ⟨⟨f1, f2, f3⟩, ⟨g1, g2, g3⟩, h1, h2, h3⟩ := hf
 simp [Op.eqFields, f1, f2, f3, g1, g2, g3, h1, h2, h3, go_sem]
theorem gd_Sch (a b c : Int) (u v : Operand) (w : World) : (eqGuard .eql 24 u v (.agg #[.int .i64 a, .int .i64 b, .int .i64 c]) (.agg #[.int .i64 a, .int .i64 b, .int .i64 c])).run Tryz.prog w = .ok () w := run_eqGuard_agg w .eql _ u v _ _ eqg_Sch
section
variable {ops : Array Oper} {rest : List Oper} {o : Oper} {a : Act} {w : World} {Q : Exit → Act → World → Prop}
theorem wpList_loadBigAtG (hw : Region.wanted o (yielded ops a.tmps) = true) (t : TypeId) (x : Operand) (ho : o.op = .load t x) (b off n : Nat) (vs : List Value) (hB : Big t n) (hn : vs.length = n) (hx : a.eval x = .pointer (some ⟨b, off, none⟩)) (hp : ∀ i, i < n → w.cell? ⟨b, off + i, none⟩ = some (vs.getD i v0))
  (h : wpList Tryz.prog ops Q rest (a.put o.dst (.agg vs.toArray)) w) : wpList Tryz.prog ops Q (o :: rest) a w :=
 Go.BigFrame.wpList_want hw fun _ hK => by
  unfold Oper.wp execOp
  simp only [ho, hx, Instr.loadAt, Instr.sureAddr, Sem.run_bind, Sem.run_pure, Result.andThen_ok, run_loadBigAt hB hn hp]
  exact hK _ _ h
end
set_option maxHeartbeats 2000000 in
set_option maxRecDepth 100000 in
theorem eqSchema_same {P P' : Nat → Prop} (l : List (ByteArray × Int)) (v v' : Value) (w : World) (h : Rep P w (.row 2 (l.map dCol)) v) (h' : Rep P' w (.row 2 (l.map dCol)) v') (hl : l.length ≤ 1000000) :
  Calls Tryz.prog 47 #[v, v'] w fun e w' => e = .returned (.bool true) ∧ Below w.heap.size w w' := by
 have HE := hide (eqCol_same l v v' w h h' hl)
 obtain ⟨A1, c1, rfl, -⟩ := h.row_inv
 obtain ⟨A2, c2, rfl, -⟩ := h'.row_inv
 simp only [List.length_map] at HE ⊢
 clear h h'
 go_enter Tryz.func47, Tryz.ntmps47
 go_wp2_with fail
 refine HE.out.mono ?_
 rintro e w1 ⟨rfl, hb⟩
 have HB := hide hb
 clear hb HE
 go_wp2_with fail
 go_ret
 exact ⟨rfl, HB.out⟩
theorem def_cells {P : Nat → Prop} {w : World} {d : Df} {vs : List Value} (h : RepC P w d.enc vs) : ∃ v2 v6 v24, ∃ ps : List Value, vs = [.int .i64 d.k, .string d.nm, v2, .int .i64 d.sc.1, .int .i64 d.sc.2.1, .int .i64 d.sc.2.2, v6] ++ ps ++ [.string d.cron, v24] ∧ RepC P w d.pl.enc ps ∧
  Rep P w (.row 2 (d.sch.map dCol)) v2 ∧ Rep P w (.row 4 (d.ins.map dInp)) v6 ∧ Rep P w (dStrs d.makes) v24 := by
 unfold Df.enc at h
 obtain ⟨us, ts, rfl, h1, h2⟩ := h.split
 obtain ⟨us, ps, rfl, h0, hp⟩ := h1.split
 obtain ⟨a0, r, rfl, k0, h0⟩ := h0.uncons
 obtain ⟨a1, r, rfl, k1, h0⟩ := h0.uncons
 obtain ⟨a2, r, rfl, k2, h0⟩ := h0.uncons
 obtain ⟨a3, r, rfl, k3, h0⟩ := h0.uncons
 obtain ⟨a4, r, rfl, k4, h0⟩ := h0.uncons
 obtain ⟨a5, r, rfl, k5, h0⟩ := h0.uncons
 obtain ⟨a6, r, rfl, k6, h0⟩ := h0.uncons
 obtain rfl := h0.unnil
 obtain ⟨b0, r, rfl, m0, h2⟩ := h2.uncons
 obtain ⟨b1, r, rfl, m1, h2⟩ := h2.uncons
 obtain rfl := h2.unnil
 obtain rfl := k0.int
 obtain rfl := k1.str
 obtain rfl := k3.int
 obtain rfl := k4.int
 obtain rfl := k5.int
 obtain rfl := m0.str
 exact ⟨a2, a6, b1, ps, rfl, hp, k2, k6, m1⟩
/-- A definition's bounds. -/
structure DfOk (n : Nat) (d : Df) : Prop where
 plan : PEnc n d.pl.enc
 sch : d.sch.length ≤ 1000000
 ins : d.ins.length ≤ 1000000
 makes : d.makes.length ≤ 1000000
/-- The cells of a definition's box. -/
structure Box25 (w : World) (b : Nat) (k : Int) (nm : ByteArray) (v2 : Value) (s1 s2 s3 : Int) (v6 : Value) (ps : List Value) (cr : ByteArray) (v24 : Value) : Prop where
 c0 : w.cell? ⟨b, 0, none⟩ = some (.int .i64 k)
 c1 : w.cell? ⟨b, 1, none⟩ = some (.string nm)
 c2 : w.cell? ⟨b, 2, none⟩ = some v2
 c3 : w.cell? ⟨b, 3, none⟩ = some (.int .i64 s1)
 c4 : w.cell? ⟨b, 4, none⟩ = some (.int .i64 s2)
 c5 : w.cell? ⟨b, 5, none⟩ = some (.int .i64 s3)
 c6 : w.cell? ⟨b, 6, none⟩ = some v6
 cp : ∀ i, i < 16 → w.cell? ⟨b, 7 + i, none⟩ = some (ps.getD i v0)
 c23 : w.cell? ⟨b, 23, none⟩ = some (.string cr)
 c24 : w.cell? ⟨b, 24, none⟩ = some v24
theorem box25 {w : World} {b : Nat} {k : Int} {nm cr : ByteArray} {v2 v6 v24 : Value} {s1 s2 s3 : Int} {ps L : List Value} (hL : L = [.int .i64 k, .string nm, v2, .int .i64 s1, .int .i64 s2, .int .i64 s3, v6] ++ ps ++ [.string cr, v24]) (hp : ps.length = 16) (h : HoldB b 43 L w) :
  Box25 w b k nm v2 s1 s2 s3 v6 ps cr v24 := by
 have hc : ∀ i, w.cell? ⟨b, i, none⟩ = L[i]? := fun i => by rw [Lib.cell_of_heap h i]; simp
 subst hL
 refine ⟨?_, ?_, ?_, ?_, ?_, ?_, ?_, fun i hi => ?_, ?_, ?_⟩
 all_goals rw [hc]
 ·rfl
 ·rfl
 ·rfl
 ·rfl
 ·rfl
 ·rfl
 ·rfl
 ·rw [List.append_assoc, List.getElem?_append_right (by simp), List.getElem?_append_left (by simp; omega), List.getD_eq_getElem?_getD, List.getElem?_eq_getElem (by simp; omega)]
  simp [List.getElem?_eq_getElem (show i < ps.length by omega)]
 ·rw [List.getElem?_append_right (by simp [hp])]
  simp [hp]
 ·rw [List.getElem?_append_right (by simp [hp])]
  simp [hp]
set_option maxHeartbeats 8000000 in
set_option maxRecDepth 100000 in
theorem eqDef_same {n : Nat} {P P' : Nat → Prop} (d : Df) (vs vs' : List Value) (w : World) (ok : DfOk n d) (h : RepC P w d.enc vs) (h' : RepC P' w d.enc vs') :
  Calls Tryz.prog 26 #[.agg vs.toArray, .agg vs'.toArray] w fun e w' => e = .returned (.bool true) ∧ Below w.heap.size w w' := by
 obtain ⟨u2, u6, u24, ps, hu, rp, r2, r6, r24⟩ := def_cells h
 obtain ⟨z2, z6, z24, qs, hz, sp, s2, s6, s24⟩ := def_cells h'
 have lp : ps.length = 16 := rp.1.trans (enc_len _)
 have lq : qs.length = 16 := sp.1.trans (enc_len _)
 obtain ⟨o1, o2, o3, o4⟩ := ok
 obtain ⟨K, hK⟩ : ∃ K, K = d.k := ⟨_, rfl⟩
 obtain ⟨NM, hNM⟩ : ∃ K, K = d.nm := ⟨_, rfl⟩
 obtain ⟨S1, hS1⟩ : ∃ K, K = d.sc.1 := ⟨_, rfl⟩
 obtain ⟨S2, hS2⟩ : ∃ K, K = d.sc.2.1 := ⟨_, rfl⟩
 obtain ⟨S3, hS3⟩ : ∃ K, K = d.sc.2.2 := ⟨_, rfl⟩
 obtain ⟨CR, hCR⟩ : ∃ K, K = d.cron := ⟨_, rfl⟩
 rw [← hK, ← hNM, ← hS1, ← hS2, ← hS3, ← hCR] at hu hz
 have sl : ∀ {R : Nat → Prop} {sz : Nat} {els : List (List Dt)} {v : Value}, Rep R w (.row sz els) v → ∃ A a c, v = .slice A a c := fun hh => by
  obtain ⟨A, c, rfl, -⟩ := hh.row_inv
  exact ⟨A, _, c, rfl⟩
 have HSc := hide (fun w' (hb : Below w.heap.size w w') => eqSchema_same d.sch u2 z2 w' (r2.stay (Stay.below hb)) (s2.stay (Stay.below hb)) o2)
 have HIn := hide (fun w' (hb : Below w.heap.size w w') => eqInp_same d.ins u6 z6 w' (r6.stay (Stay.below hb)) (s6.stay (Stay.below hb)) o3)
 have HPl := hide (fun w' (hb : Below w.heap.size w w') => eqPlan_same n P P' d.pl.enc ps qs w' o1 (rp.stay (Stay.below hb)) (sp.stay (Stay.below hb)))
 have HMk := hide (fun w' (hb : Below w.heap.size w w') => eqStr_same d.makes u24 z24 w' (r24.stay (Stay.below hb)) (s24.stay (Stay.below hb)) o4)
 obtain ⟨a2, a2n, a2c, rfl⟩ := sl r2
 obtain ⟨b2, b2n, b2c, rfl⟩ := sl s2
 obtain ⟨a6, a6n, a6c, rfl⟩ := sl r6
 obtain ⟨b6, b6n, b6c, rfl⟩ := sl s6
 obtain ⟨a24, a24n, a24c, rfl⟩ := sl r24
 obtain ⟨b24, b24n, b24c, rfl⟩ := sl s24
 have hes := eq_Sch S1 S2 S3
 have hgs := gd_Sch S1 S2 S3
 clear sl r2 r6 r24 s2 s6 s24 rp sp h h' o1 o2 o3 o4 hK hNM hS1 hS2 hS3 hCR
 obtain ⟨W1, e1⟩ : ∃ W1, W1 = w.alloc (.cells vs.toArray 43) := ⟨_, rfl⟩
 obtain ⟨W, e2⟩ : ∃ W2, W2 = W1.alloc (.cells vs'.toArray 43) := ⟨_, rfl⟩
 have hb1 : Below w.heap.size w W1 := by rw [e1]; exact Joins.below_alloc1 w _
 have hb2 : Below W1.heap.size W1 W := by rw [e2]; exact Joins.below_alloc1 W1 _
 have hB12 := hb1.trans (hb2.mono hb1.size)
 have hX1 : HoldB w.heap.size 43 vs W := (hb2.block _ (by rw [e1]; simp)).trans (by rw [e1]; exact heap_alloc_new _ _)
 have hX2 : HoldB W1.heap.size 43 vs' W := by rw [e2]; exact heap_alloc_new _ _
 have hs1 : w.heap.size < W1.heap.size := by rw [e1]; simp
 have hs2 : W1.heap.size < W.heap.size := by rw [e2]; simp
 have HF := hide (fun w' (hb : Below W.heap.size W w') => (show HoldB w.heap.size 43 vs w' ∧ HoldB W1.heap.size 43 vs' w' from ⟨(hb.block _ (by omega)).trans hX1, (hb.block _ hs2).trans hX2⟩))
 have HBB := hide (fun w' (hb : Below W.heap.size W w') => then_below hB12 hb)
 have HW := hide (show W = (w.alloc (.cells vs.toArray 43)).alloc (.cells vs'.toArray 43) by rw [e2, e1])
 have hW1 : W1.heap.size = w.heap.size + 1 := by rw [e1]; simp
 rw [hW1] at HF
 have HB0 := hide (Below.refl W.heap.size W)
 have Hu := hide hu
 have Hz := hide hz
 clear hb1 hb2 hB12 hX1 hX2 hs1 hs2 e1 e2 hW1 hu hz
 obtain ⟨f1, f2⟩ := HF.out _ HB0.out
 obtain ⟨x0, x1, x2, x3, x4, x5, x6, xp, x23, x24⟩ := box25 Hu.out lp f1
 obtain ⟨y0, y1, y2, y3, y4, y5, y6, yp, y23, y24⟩ := box25 Hz.out lq f2
 have xs := holds_size f1
 have ys := holds_size f2
 go_enter Tryz.func26, Tryz.ntmps26
 go_wp2_with (rw [← HW.out])
 refine (HSc.out _ (HBB.out _ HB0.out)).mono ?_
 rintro e w1 ⟨rfl, hb⟩
 have HB1 := hide (then_below HB0.out hb)
 clear hb
 clear x0 x1 x2 x3 x4 x5 x6 xp x23 x24 y0 y1 y2 y3 y4 y5 y6 yp y23 y24 xs ys f1 f2
 obtain ⟨f1, f2⟩ := HF.out _ HB1.out
 obtain ⟨x0, x1, x2, x3, x4, x5, x6, xp, x23, x24⟩ := box25 Hu.out lp f1
 obtain ⟨y0, y1, y2, y3, y4, y5, y6, yp, y23, y24⟩ := box25 Hz.out lq f2
 have xs := holds_size f1
 have ys := holds_size f2
 go_wp2_with fail
 refine (HIn.out _ (HBB.out _ HB1.out)).mono ?_
 rintro e w2 ⟨rfl, hb⟩
 have HB2 := hide (then_below HB1.out hb)
 clear hb
 clear x0 x1 x2 x3 x4 x5 x6 xp x23 x24 y0 y1 y2 y3 y4 y5 y6 yp y23 y24 xs ys f1 f2
 obtain ⟨f1, f2⟩ := HF.out _ HB2.out
 obtain ⟨x0, x1, x2, x3, x4, x5, x6, xp, x23, x24⟩ := box25 Hu.out lp f1
 obtain ⟨y0, y1, y2, y3, y4, y5, y6, yp, y23, y24⟩ := box25 Hz.out lq f2
 have xs := holds_size f1
 have ys := holds_size f2
 go_wp2_with (first | (refine wpList_loadBigAtG (by rfl) 41 _ rfl w.heap.size 7 16 ps big_plan lp rfl xp ?_) | (refine wpList_loadBigAtG (by rfl) 41 _ rfl (w.heap.size + 1) 7 16 qs big_plan lq rfl yp ?_))
 refine (HPl.out _ (HBB.out _ HB2.out)).mono ?_
 rintro e w3 ⟨rfl, hb⟩
 have HB3 := hide (then_below HB2.out hb)
 clear hb
 clear x0 x1 x2 x3 x4 x5 x6 xp x23 x24 y0 y1 y2 y3 y4 y5 y6 yp y23 y24 xs ys f1 f2
 obtain ⟨f1, f2⟩ := HF.out _ HB3.out
 obtain ⟨x0, x1, x2, x3, x4, x5, x6, xp, x23, x24⟩ := box25 Hu.out lp f1
 obtain ⟨y0, y1, y2, y3, y4, y5, y6, yp, y23, y24⟩ := box25 Hz.out lq f2
 have xs := holds_size f1
 have ys := holds_size f2
 go_wp2_with fail
 refine (HMk.out _ (HBB.out _ HB3.out)).mono ?_
 rintro e w4 ⟨rfl, hb⟩
 have HB4 := hide (then_below HB3.out hb)
 clear hb
 clear x0 x1 x2 x3 x4 x5 x6 xp x23 x24 y0 y1 y2 y3 y4 y5 y6 yp y23 y24 xs ys f1 f2
 obtain ⟨f1, f2⟩ := HF.out _ HB4.out
 obtain ⟨x0, x1, x2, x3, x4, x5, x6, xp, x23, x24⟩ := box25 Hu.out lp f1
 obtain ⟨y0, y1, y2, y3, y4, y5, y6, yp, y23, y24⟩ := box25 Hz.out lq f2
 have xs := holds_size f1
 have ys := holds_size f2
 go_wp2_with fail
 go_ret
 exact ⟨rfl, HBB.out _ HB4.out⟩
end Go.Proofs.YtljoajjlkjjgeaaGreatDoor
