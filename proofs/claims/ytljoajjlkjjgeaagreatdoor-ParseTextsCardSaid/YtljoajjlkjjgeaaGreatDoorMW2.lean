/-
  whole: a query that must be all of a text.
  Parse and Query.
-/
import Derived.Test.YtljoajjlkjjgeaaGreatDoorMW
namespace Go.Proofs.YtljoajjlkjjgeaaGreatDoor
open Go.RowKit Go.Sort LM Go

abbrev zP : List Value := [.int .i64 0, .string ⟨#[]⟩, .slice none 0 0, .int .i64 0, .string ⟨#[]⟩, .int .i64 0, .int .i64 0, .string ⟨#[]⟩, .string ⟨#[]⟩, .slice none 0 0, .slice none 0 0, .slice none 0 0, .slice none 0 0, .slice none 0 0, .slice none 0 0, .int .i64 0]
theorem results_big3 {fn : Func} {k a b r n : Nat} {t : TypeId} {vs : List Value} {w : World} {tmps : Array Value} {x y : Value} (hf : fn.results = #[.cell k t, .tmp a, .tmp b]) (ht : tmps.getD k undef = .pointer (some ⟨r, 0, none⟩)) (ha : tmps.getD a undef = x) (hb : tmps.getD b undef = y) (hB : Big t n) (hn : vs.length = n) (h : HoldB r t vs w) :
  (results fn tmps).run Tryz.prog w = .ok (.tuple #[.agg vs.toArray, x, y]) w := by
 have h2 := run_loadBig hB hn h
 have h3 : tmps[k]?.getD undef = .pointer (some ⟨r, 0, none⟩) := by simpa using ht
 subst ha hb
 unfold results
 rw [hf]
 simp [h3, asAddr, h2]
def S9 (r q : Nat) (p e : Int) (w : World) : Prop := HoldB r 41 zP w ∧ w.cell? ⟨q, 3, none⟩ = some (.int .i64 p) ∧ w.cell? ⟨q, 4, none⟩ = some (.int .i64 e)
theorem one_zP : ∀ u ∈ zP, u.oneCell' = true := by
 intro u hu
 simp [zP] at hu
 rcases hu with rfl | rfl | rfl | rfl | rfl | rfl | rfl | rfl | rfl <;> rfl
set_option maxHeartbeats 8000000 in
set_option maxRecDepth 100000 in
theorem wholePlan {T : PSt} {d : List Dt} (hd : d.length = 16) (s : ByteArray) (w : World) (hL : Lw w) (hs : s.size ≤ 140737488355328) (X : Res) (hX : X = lexA s.data.toList)
  (HM : ∀ q w1, ParAt q X.1 X.2.1 w1 (beg X) → Calls Tryz.prog 33 #[pP q] w1 (AggTo q X.1 X.2.1 w1 d T)) :
  Calls Tryz.prog 32 #[.string s, .func (.func 33) #[] #[]] w (WholeO X T (.agg zP.toArray) (fun w1 v => ∃ vs : List Value, v = .agg vs.toArray ∧ RepC (New w.heap.size) w1 d vs) w) := by
 have HLx := hide (lex_anyC s (w.alloc (.cells #[.int .i64 0, .string ⟨#[]⟩, .slice none 0 0, .int .i64 0, .string ⟨#[]⟩, .int .i64 0, .int .i64 0, .string ⟨#[]⟩, .string ⟨#[]⟩, .slice none 0 0, .slice none 0 0, .slice none 0 0, .slice none 0 0, .slice none 0 0, .slice none 0 0, .int .i64 0] 41)) (hL.on (Joins.below_alloc1 w _)) hs)
 have HMh := hide HM
 rw [← hX] at HLx
 have hEnd : endS T = if T.L = [] then T else failS 51 T := rfl
 have HEnd := hide hEnd
 clear hX HM hs hL hEnd
 unfold AggTo at HMh
 unfold WholeO
 generalize endS T = TE at *
 go_enter Tryz.func32, Tryz.ntmps32
 go_wp2_with fail
 refine HLx.out.mono ?_
 rintro e w1 ⟨⟨A, c, rfl, hA, h1, h2⟩, hb⟩
 have hsz0 : w.heap.size < w1.heap.size := by have := hb.size; simp at this; omega
 have hsz1 : w.heap.size ≤ w1.heap.size := by omega
 have HX1 := hide (show HoldB w.heap.size 41 zP w1 from (hb.block _ (by simp)).trans (heap_alloc_new w _))
 have HB1 := hide ((Joins.below_alloc1 w (.cells #[.int .i64 0, .string ⟨#[]⟩, .slice none 0 0, .int .i64 0, .string ⟨#[]⟩, .int .i64 0, .int .i64 0, .string ⟨#[]⟩, .string ⟨#[]⟩, .slice none 0 0, .slice none 0 0, .slice none 0 0, .slice none 0 0, .slice none 0 0, .slice none 0 0, .int .i64 0] 41)).trans (hb.mono (by simp)))
 have HP := hide (par_beg hA h1 h2)
 by_cases he : X.2.2 = 0
 ·have hne : (X.2.2 != 0) = false := by rw [he]; rfl
  obtain ⟨W, hW⟩ : ∃ W, W = w1.alloc (.cells #[.slice A X.1.length c, .int .i64 (X.2.1 : Nat), .int .i64 1, .int .i64 0, .int .i64 0] 125) := ⟨_, rfl⟩
  have HW := hide hW
  have HBW := hide (show Below w.heap.size w W by rw [hW]; exact HB1.out.trans ((Joins.below_alloc1 w1 _).mono hsz1))
  have HXW := hide (show HoldB w.heap.size 41 zP W by rw [hW]; exact ((Joins.below_alloc1 w1 _).block _ hsz0).trans HX1.out)
  have hszW : w.heap.size ≤ W.heap.size := HBW.out.size
  have hltW : w.heap.size < W.heap.size := by rw [hW]; simp; omega
  have HP := hide (show ParAt w1.heap.size X.1 X.2.1 W (beg X) by rw [hW]; exact HP.out)
  have HM := hide (HMh.out _ _ HP.out)
  have hqW : w1.heap.size < W.heap.size := HP.out.lt
  clear hb hA hW HMh HLx HB1 h1 h2 HX1
  go_wp2_with (first | rw [← HW.out])
  refine HM.out.mono ?_
  rintro e w2 ⟨vs, rfl, hv, h3, ht3⟩
  have hlen : vs.length = 16 := hv.1.trans hd
  have hone := hv.one_cell
  have hszt := ht3.size
  obtain ⟨W3, hW3⟩ : ∃ W3, W3 = w2.alloc (.cells vs.toArray 41) := ⟨_, rfl⟩
  have HW3 := hide hW3
  have hb3 : Below w2.heap.size w2 W3 := by rw [hW3]; exact Joins.below_alloc1 w2 _
  have HV := hide (show RepC (New W.heap.size) W3 d vs from hv.stay (Stay.below hb3))
  have HY := hide (show HoldB w2.heap.size 41 vs W3 by rw [hW3]; exact heap_alloc_new _ _)
  have HX3 := hide (show HoldB w.heap.size 41 zP W3 from (hb3.block _ (by omega)).trans ((ht3.block _ (by omega) (by simp; omega)).trans HXW.out))
  have hP3 : ParAt w1.heap.size X.1 X.2.1 W3 T := h3.on hb3
  have hB2 := (HBW.out.trans (ht3.below hsz1 hszW)).trans (hb3.mono (by omega))
  have HB2 := hide hB2
  have hsz3 := hb3.size
  obtain ⟨A2, cap, K, hK, -, -, -, -, hbx⟩ := hP3.ex
  obtain ⟨c0, c1, c2, c3, c4, cf, cq2⟩ := blk_cell hbx
  have hKl : K.length = T.L.length := by rw [← hK]; simp
  have hwf := h3.wf
  have her := h3.er
  have HF := hide (fail_any (q := w1.heap.size) (TL := X.1) (E := X.2.1) (s := T) 51 (by decide) W3 hP3)
  unfold StepTo at HF
  clear hW3 HP hqW hv h3 hb3 hB2 HXW HM HW HBW
  by_cases hb : T.L = []
  ·rw [if_pos hb] at HEnd
   rw [hKl, hb] at c0
   simp only [List.length_nil] at c0
   have HE := HEnd.out
   subst HE
   cases hTb : TE.b with
   | none =>
    rw [hTb] at c4
    simp only [errOf] at c4
    have HTb := hide hTb
    have hBx := holds_box HX3.out rfl
    clear hK hbx c1 c2 c3 ht3 HF hTb her hwf hP3
    go_wp2_with (first | (refine wpList_storeBig rfl 41 _ _ rfl w2.heap.size 16 vs big_plan hlen hone rfl rfl (box_new _ _ _ rfl) ?_; rw [World.setRow_alloc_new, ← HW3.out]) | (refine wpList_loadBig rfl 41 _ rfl w2.heap.size 16 vs big_plan hlen rfl HY.out ?_) | (refine wpList_storeBig rfl 41 _ _ rfl w.heap.size 16 vs big_plan hlen hone rfl rfl hBx ?_))
    refine bodyPost_ret (v := .tuple #[.agg vs.toArray, .int .i64 (X.2.1 : Nat), .int .i64 0]) (results_big3 (vs := vs) rfl rfl rfl rfl big_plan hlen (set_row _ HX3.out)) rfl ?_
    exact ⟨HB2.out.trans ⟨rfl, rfl, rfl, by rw [set_row_size]; exact Nat.le_refl _, fun k hk => set_row_other _ _ (by omega)⟩, Or.inr (Or.inl ⟨he, HTb.out, _, rfl, vs, rfl, HV.out.stay ⟨fun _ _ k => Nat.le_trans hszW k, by rw [set_row_size]; exact Nat.le_refl _, fun b k _ => set_row_other _ _ (by have : W.heap.size ≤ b := k; omega)⟩⟩)⟩
   | some x =>
    obtain ⟨z, k⟩ := x
    have hz : (z != 0) = true := by simpa using her z k hTb
    rw [hTb] at c3 c4
    simp only [errOf, atOf] at c3 c4
    have HTb := hide hTb
    have HS := hide (show S9 w.heap.size w1.heap.size (posOf X.1 X.2.1 k : Nat) z W3.drew from ⟨HX3.out, c3, c4⟩)
    clear hK hbx c1 c2 ht3 HF hTb her hwf hP3 HV
    go_wp2_with (first | (refine wpList_storeBig rfl 41 _ _ rfl w2.heap.size 16 vs big_plan hlen hone rfl rfl (box_new _ _ _ rfl) ?_; rw [World.setRow_alloc_new, ← HW3.out]))
    refine wp_region_heldBut (S := S9 w.heap.size w1.heap.size (posOf X.1 X.2.1 k : Nat) z) (L := 11) (by kernel_rfl) HS.out (fun hS => ?_)
    refine heldBut_take (i := 0) (oi := ⟨some 41, _, _, _, _, _⟩) (v := ?_) rfl (by kernel_rfl) (by kernel_rfl) (by kernel_rfl) (by kernel_rfl) (fun _ _ _ h => h) (Or.inl ⟨by rfl, ?_⟩) hS ?_
    rotate_left 1
    ·intro w' hw'
     refine run_load_op 41 (.tmp 4) ?_ w.heap.size 16 zP big_plan rfl ?_ hw'.1 <;> rfl
    try simp only [Act.put, List.setIfInBounds_toArray, List.set_cons_zero, List.set_cons_succ]
    refine heldBut_take (i := 1) (oi := ⟨some 42, _, _, _, _, _⟩) (v := ?_) rfl (by kernel_rfl) (by kernel_rfl) (by kernel_rfl) (by kernel_rfl) (fun _ _ _ h => h) (Or.inl ⟨by rfl, ?_⟩) hS ?_
    rotate_left 1
    ·intro w' hw'
     have hb1 := hw'.2.1; have hb2 := hw'.2.2
     go_simp
     all_goals with_reducible rfl
    try simp only [Act.put, List.setIfInBounds_toArray, List.set_cons_zero, List.set_cons_succ]
    refine heldBut_take (i := 2) (oi := ⟨some 43, _, _, _, _, _⟩) (v := ?_) rfl (by kernel_rfl) (by kernel_rfl) (by kernel_rfl) (by kernel_rfl) (fun _ _ _ h => h) (Or.inl ⟨by rfl, ?_⟩) hS ?_
    rotate_left 1
    ·intro w' hw'
     have hb1 := hw'.2.1; have hb2 := hw'.2.2
     go_simp
     all_goals with_reducible rfl
    try simp only [Act.put, List.setIfInBounds_toArray, List.set_cons_zero, List.set_cons_succ]
    refine heldBut_take (i := 3) (oi := ⟨some 44, _, _, _, _, _⟩) (v := ?_) rfl (by kernel_rfl) (by kernel_rfl) (by kernel_rfl) (by kernel_rfl) (fun _ _ _ h => h) (Or.inl ⟨by rfl, ?_⟩) hS ?_
    rotate_left 1
    ·intro w' hw'
     have hb1 := hw'.2.1; have hb2 := hw'.2.2
     go_simp
     all_goals with_reducible rfl
    try simp only [Act.put, List.setIfInBounds_toArray, List.set_cons_zero, List.set_cons_succ]
    refine heldBut_take (i := 4) (oi := ⟨some 45, _, _, _, _, _⟩) (v := ?_) rfl (by kernel_rfl) (by kernel_rfl) (by kernel_rfl) (by kernel_rfl) (fun _ _ _ h => h) (Or.inl ⟨by rfl, ?_⟩) hS ?_
    rotate_left 1
    ·intro w' hw'
     have hb1 := hw'.2.1; have hb2 := hw'.2.2
     go_simp
     all_goals with_reducible rfl
    try simp only [Act.put, List.setIfInBounds_toArray, List.set_cons_zero, List.set_cons_succ]
    refine heldBut_take (i := 5) (oi := ⟨some 46, _, _, _, _, _⟩) (v := ?_) rfl (by kernel_rfl) (by kernel_rfl) (by kernel_rfl) (by kernel_rfl) (fun _ _ _ h => h) (Or.inl ⟨by rfl, ?_⟩) hS ?_
    rotate_left 1
    ·intro w' hw'
     have hb1 := hw'.2.1; have hb2 := hw'.2.2
     go_simp
     all_goals with_reducible rfl
    try simp only [Act.put, List.setIfInBounds_toArray, List.set_cons_zero, List.set_cons_succ]
    refine heldBut_take (i := 6) (oi := ⟨some 47, _, _, _, _, _⟩) (v := ?_) rfl (by kernel_rfl) (by kernel_rfl) (by kernel_rfl) (by kernel_rfl) (fun _ _ _ h => h) (Or.inl ⟨by rfl, ?_⟩) hS ?_
    rotate_left 1
    ·intro w' hw'
     have hb1 := hw'.2.1; have hb2 := hw'.2.2
     go_simp
     all_goals with_reducible rfl
    try simp only [Act.put, List.setIfInBounds_toArray, List.set_cons_zero, List.set_cons_succ]
    refine heldBut_take (i := 7) (oi := ⟨some 48, _, _, _, _, _⟩) (v := ?_) rfl (by kernel_rfl) (by kernel_rfl) (by kernel_rfl) (by kernel_rfl) (fun _ _ _ h => h) (Or.inl ⟨by rfl, ?_⟩) hS ?_
    rotate_left 1
    ·intro w' hw'
     have hb1 := hw'.2.1; have hb2 := hw'.2.2
     go_simp
     all_goals with_reducible rfl
    try simp only [Act.put, List.setIfInBounds_toArray, List.set_cons_zero, List.set_cons_succ]
    refine heldBut_take (i := 8) (oi := ⟨some 49, _, _, _, _, _⟩) (v := ?_) rfl (by kernel_rfl) (by kernel_rfl) (by kernel_rfl) (by kernel_rfl) (fun _ _ _ h => h) (Or.inl ⟨by rfl, ?_⟩) hS ?_
    rotate_left 1
    ·intro w' hw'
     have hb1 := hw'.2.1; have hb2 := hw'.2.2
     go_simp
     all_goals with_reducible rfl
    try simp only [Act.put, List.setIfInBounds_toArray, List.set_cons_zero, List.set_cons_succ]
    refine heldBut_one (i := 9) (o := ⟨none, _, _, _, _, _⟩) (by kernel_rfl) rfl (fun K hK => ?_)
    refine step_storeBig rfl 41 _ _ rfl w.heap.size 16 zP big_plan rfl one_zP rfl rfl (holds_box hS.1 rfl) ?_
    rw [setRow_self _ _ _ _ _ hS.1]
    refine hK.out _ _ (Or.inr hS) (fun hS => ?_)
    clear hK K
    replace hS := hS.resolve_left (by decide)
    try simp only [Act.put]
    refine heldBut_one (i := 10) (o := ⟨some 5, _, _, _, _, _⟩) (by kernel_rfl) rfl (fun K hK => ?_)
    go_simp
    refine hK.out _ _ (Or.inr hS) (fun hS => ?_)
    clear hK K
    replace hS := hS.resolve_left (by decide)
    try simp only [Act.put, List.setIfInBounds_toArray, List.set_cons_zero, List.set_cons_succ]
    refine heldBut_one (i := 11) (o := ⟨some 6, _, _, _, _, _⟩) (by kernel_rfl) rfl (fun K hK => ?_)
    go_simp
    refine hK.out _ _ (Or.inl rfl) (fun _ => ?_)
    clear hK K
    try simp only [Act.put, List.setIfInBounds_toArray, List.set_cons_zero, List.set_cons_succ]
    refine heldBut_done (by kernel_rfl) ?_ _
    go_wp2_with fail
    refine bodyPost_ret (v := .tuple #[.agg zP.toArray, .int .i64 (posOf X.1 X.2.1 k : Nat), .int .i64 z]) (results_big3 (vs := zP) rfl rfl rfl rfl big_plan rfl hS.1) rfl ?_
    exact ⟨HB2.out.trans (Below.refl _ _).drew, Or.inr ⟨z, k, HTb.out, rfl⟩⟩
  ·have hTb : T.b = none := Classical.byContradiction fun k => hb (hwf k)
   rw [if_neg hb] at HEnd
   have hpos : (0 : Int) < (K.length : Nat) := by have := List.length_pos_iff.2 hb; omega
   have hfb : (failS 51 T).b = some (51, T.L.length) := by unfold failS; rw [hTb]
   have HFb := hide (HEnd.out ▸ hfb : TE.b = some (51, T.L.length))
   have hfb := hide hfb
   generalize failS 51 T = T2 at *
   clear hK hbx c1 c2 c3 c4 ht3 HEnd hP3 HV
   generalize K.length = kn at *
   go_wp2_with (first | (refine wpList_storeBig rfl 41 _ _ rfl w2.heap.size 16 vs big_plan hlen hone rfl rfl (box_new _ _ _ rfl) ?_; rw [World.setRow_alloc_new, ← HW3.out]))
   refine HF.out.mono ?_
   rintro e w4 ⟨rfl, h5, ht5⟩
   have HB3 := hide (HB2.out.trans (ht5.below hsz1 (by omega)))
   have hX4 : HoldB w.heap.size 41 zP w4 := (ht5.block _ (by omega) (by simp; omega)).trans HX3.out
   obtain ⟨A3, cap3, K3, -, -, -, -, -, hbx⟩ := h5.ex
   obtain ⟨d0, d1, d2, d3, d4, df, dq2⟩ := blk_cell hbx
   rw [hfb.out] at d3 d4
   simp only [errOf, atOf] at d3 d4
   have hz : ((51 : Int) != 0) = true := by decide
   have HS := hide (show S9 w.heap.size w1.heap.size (posOf X.1 X.2.1 T.L.length : Nat) 51 w4.drew from ⟨hX4, d3, d4⟩)
   clear hbx ht5 h5 HF c0 d0 d1 d2 hb hTb hX4
   go_wp2_with fail
   refine wp_region_heldBut (S := S9 w.heap.size w1.heap.size (posOf X.1 X.2.1 T.L.length : Nat) 51) (L := 11) (by kernel_rfl) HS.out (fun hS => ?_)
   refine heldBut_take (i := 0) (oi := ⟨some 41, _, _, _, _, _⟩) (v := ?_) rfl (by kernel_rfl) (by kernel_rfl) (by kernel_rfl) (by kernel_rfl) (fun _ _ _ h => h) (Or.inl ⟨by rfl, ?_⟩) hS ?_
   rotate_left 1
   ·intro w' hw'
    refine run_load_op 41 (.tmp 4) ?_ w.heap.size 16 zP big_plan rfl ?_ hw'.1 <;> rfl
   try simp only [Act.put, List.setIfInBounds_toArray, List.set_cons_zero, List.set_cons_succ]
   refine heldBut_take (i := 1) (oi := ⟨some 42, _, _, _, _, _⟩) (v := ?_) rfl (by kernel_rfl) (by kernel_rfl) (by kernel_rfl) (by kernel_rfl) (fun _ _ _ h => h) (Or.inl ⟨by rfl, ?_⟩) hS ?_
   rotate_left 1
   ·intro w' hw'
    have hb1 := hw'.2.1; have hb2 := hw'.2.2
    go_simp
    all_goals with_reducible rfl
   try simp only [Act.put, List.setIfInBounds_toArray, List.set_cons_zero, List.set_cons_succ]
   refine heldBut_take (i := 2) (oi := ⟨some 43, _, _, _, _, _⟩) (v := ?_) rfl (by kernel_rfl) (by kernel_rfl) (by kernel_rfl) (by kernel_rfl) (fun _ _ _ h => h) (Or.inl ⟨by rfl, ?_⟩) hS ?_
   rotate_left 1
   ·intro w' hw'
    have hb1 := hw'.2.1; have hb2 := hw'.2.2
    go_simp
    all_goals with_reducible rfl
   try simp only [Act.put, List.setIfInBounds_toArray, List.set_cons_zero, List.set_cons_succ]
   refine heldBut_take (i := 3) (oi := ⟨some 44, _, _, _, _, _⟩) (v := ?_) rfl (by kernel_rfl) (by kernel_rfl) (by kernel_rfl) (by kernel_rfl) (fun _ _ _ h => h) (Or.inl ⟨by rfl, ?_⟩) hS ?_
   rotate_left 1
   ·intro w' hw'
    have hb1 := hw'.2.1; have hb2 := hw'.2.2
    go_simp
    all_goals with_reducible rfl
   try simp only [Act.put, List.setIfInBounds_toArray, List.set_cons_zero, List.set_cons_succ]
   refine heldBut_take (i := 4) (oi := ⟨some 45, _, _, _, _, _⟩) (v := ?_) rfl (by kernel_rfl) (by kernel_rfl) (by kernel_rfl) (by kernel_rfl) (fun _ _ _ h => h) (Or.inl ⟨by rfl, ?_⟩) hS ?_
   rotate_left 1
   ·intro w' hw'
    have hb1 := hw'.2.1; have hb2 := hw'.2.2
    go_simp
    all_goals with_reducible rfl
   try simp only [Act.put, List.setIfInBounds_toArray, List.set_cons_zero, List.set_cons_succ]
   refine heldBut_take (i := 5) (oi := ⟨some 46, _, _, _, _, _⟩) (v := ?_) rfl (by kernel_rfl) (by kernel_rfl) (by kernel_rfl) (by kernel_rfl) (fun _ _ _ h => h) (Or.inl ⟨by rfl, ?_⟩) hS ?_
   rotate_left 1
   ·intro w' hw'
    have hb1 := hw'.2.1; have hb2 := hw'.2.2
    go_simp
    all_goals with_reducible rfl
   try simp only [Act.put, List.setIfInBounds_toArray, List.set_cons_zero, List.set_cons_succ]
   refine heldBut_take (i := 6) (oi := ⟨some 47, _, _, _, _, _⟩) (v := ?_) rfl (by kernel_rfl) (by kernel_rfl) (by kernel_rfl) (by kernel_rfl) (fun _ _ _ h => h) (Or.inl ⟨by rfl, ?_⟩) hS ?_
   rotate_left 1
   ·intro w' hw'
    have hb1 := hw'.2.1; have hb2 := hw'.2.2
    go_simp
    all_goals with_reducible rfl
   try simp only [Act.put, List.setIfInBounds_toArray, List.set_cons_zero, List.set_cons_succ]
   refine heldBut_take (i := 7) (oi := ⟨some 48, _, _, _, _, _⟩) (v := ?_) rfl (by kernel_rfl) (by kernel_rfl) (by kernel_rfl) (by kernel_rfl) (fun _ _ _ h => h) (Or.inl ⟨by rfl, ?_⟩) hS ?_
   rotate_left 1
   ·intro w' hw'
    have hb1 := hw'.2.1; have hb2 := hw'.2.2
    go_simp
    all_goals with_reducible rfl
   try simp only [Act.put, List.setIfInBounds_toArray, List.set_cons_zero, List.set_cons_succ]
   refine heldBut_take (i := 8) (oi := ⟨some 49, _, _, _, _, _⟩) (v := ?_) rfl (by kernel_rfl) (by kernel_rfl) (by kernel_rfl) (by kernel_rfl) (fun _ _ _ h => h) (Or.inl ⟨by rfl, ?_⟩) hS ?_
   rotate_left 1
   ·intro w' hw'
    have hb1 := hw'.2.1; have hb2 := hw'.2.2
    go_simp
    all_goals with_reducible rfl
   try simp only [Act.put, List.setIfInBounds_toArray, List.set_cons_zero, List.set_cons_succ]
   refine heldBut_one (i := 9) (o := ⟨none, _, _, _, _, _⟩) (by kernel_rfl) rfl (fun K hK => ?_)
   refine step_storeBig rfl 41 _ _ rfl w.heap.size 16 zP big_plan rfl one_zP rfl rfl (holds_box hS.1 rfl) ?_
   rw [setRow_self _ _ _ _ _ hS.1]
   refine hK.out _ _ (Or.inr hS) (fun hS => ?_)
   clear hK K
   replace hS := hS.resolve_left (by decide)
   try simp only [Act.put]
   refine heldBut_one (i := 10) (o := ⟨some 5, _, _, _, _, _⟩) (by kernel_rfl) rfl (fun K hK => ?_)
   go_simp
   refine hK.out _ _ (Or.inr hS) (fun hS => ?_)
   clear hK K
   replace hS := hS.resolve_left (by decide)
   try simp only [Act.put, List.setIfInBounds_toArray, List.set_cons_zero, List.set_cons_succ]
   refine heldBut_one (i := 11) (o := ⟨some 6, _, _, _, _, _⟩) (by kernel_rfl) rfl (fun K hK => ?_)
   go_simp
   refine hK.out _ _ (Or.inl rfl) (fun _ => ?_)
   clear hK K
   try simp only [Act.put, List.setIfInBounds_toArray, List.set_cons_zero, List.set_cons_succ]
   refine heldBut_done (by kernel_rfl) ?_ _
   go_wp2_with fail
   refine bodyPost_ret (v := .tuple #[.agg zP.toArray, .int .i64 (posOf X.1 X.2.1 T.L.length : Nat), .int .i64 51]) (results_big3 (vs := zP) rfl rfl rfl rfl big_plan rfl hS.1) rfl ?_
   exact ⟨HB3.out.trans (Below.refl _ _).drew, Or.inr ⟨51, _, HFb.out, rfl⟩⟩
 ·have hne : (X.2.2 != 0) = true := by simpa using he
  have hBx := holds_box HX1.out rfl
  clear hb hA HMh HLx HP h1 h2 HEnd
  go_wp2_with (first | (refine wpList_loadBig rfl 41 _ rfl w.heap.size 16 zP big_plan rfl rfl HX1.out ?_) | (refine wpList_storeBig rfl 41 _ _ rfl w.heap.size 16 zP big_plan rfl one_zP rfl rfl hBx ?_; rw [setRow_self _ _ _ _ _ HX1.out]))
  refine bodyPost_ret (v := .tuple #[.agg zP.toArray, .int .i64 (X.2.1 : Nat), .int .i64 X.2.2]) (results_big3 (vs := zP) rfl rfl rfl rfl big_plan rfl HX1.out) rfl ?_
  exact ⟨HB1.out, Or.inl ⟨he, rfl⟩⟩
end Go.Proofs.YtljoajjlkjjgeaaGreatDoor
namespace Go.Proofs.YtljoajjlkjjgeaaGreatDoor
open Go.RowKit Go.Sort LM Go

theorem lex_few (s : ByteArray) : (lexA s.data.toList).1.length ≤ 16384 := by
 by_cases h : 16384 < s.data.toList.length
 ·have : lexA s.data.toList = ([], 0, 31) := by unfold lexA; rw [if_pos h]
  rw [this]; simp
 ·have := (lexA_val s.data.toList).2.2
  omega
theorem ok_beg {F : Nat} {X : Res} (h : X.1.length ≤ F) (hF : F ≤ 19000) : Ok F (F + 1) (beg X) := by
 have e : (beg X).L.length = X.1.length := by simp [beg]
 have d : (beg X).d = 1 := rfl
 exact ⟨by omega, by omega, by omega, by omega⟩
/-- What Parse reads, and what is left. -/
def parR (F : Nat) (X : Res) : List Df × PSt := textS F (beg X)
def qryR (F : Nat) (X : Res) : Pl × PSt := queryS F (beg X)
set_option maxHeartbeats 2000000 in
theorem parseP_any {F : Nat} (hF : F ≤ 19000) (h16 : 16384 ≤ F) (s : ByteArray) (w : World) (hL : Lw w) (hs : s.size ≤ 140737488355328) :
  Calls Tryz.prog 24 #[.string s] w (WholeO (lexA s.data.toList) (parR F (lexA s.data.toList)).2 (.slice none 0 0) (fun w1 v => Rep (New w.heap.size) w1 (.row 25 ((parR F (lexA s.data.toList)).1.map Df.enc)) v) w) := by
 have hlen := Nat.le_trans (lex_few s) h16
 have HW := hide (wholeDefs (T := (parR F (lexA s.data.toList)).2) (d := .row 25 ((parR F (lexA s.data.toList)).1.map Df.enc)) s w hL hs _ rfl (fun q w1 h => textP_any hF (tok_ok _) _ w1 (ok_beg hlen hF) h))
 generalize (parR F (lexA s.data.toList)) = PR at *
 generalize lexA s.data.toList = X at *
 unfold WholeO at HW ⊢
 clear hL hs hlen
 go_enter Tryz.func24, Tryz.ntmps24
 go_wp2_with fail
 refine HW.out.mono ?_
 rintro e w1 ⟨hb, ⟨h, rfl⟩ | ⟨h, h2, v, rfl, hv⟩ | ⟨h, c, k, h2, rfl⟩⟩
 ·have HB := hide hb
  have HH := hide h
  clear hb h HW
  go_wp2_with fail
  go_ret3
  exact ⟨HB.out, Or.inl ⟨HH.out, rfl⟩⟩
 ·have HB := hide hb
  have HH := hide h
  have H2 := hide h2
  have HV := hide hv
  clear hb h h2 hv HW
  go_wp2_with fail
  go_ret3
  exact ⟨HB.out, Or.inr (Or.inl ⟨HH.out, H2.out, v, rfl, HV.out⟩)⟩
 ·have HB := hide hb
  have HH := hide h
  have H2 := hide h2
  clear hb h h2 HW
  go_wp2_with fail
  go_ret3
  exact ⟨HB.out, Or.inr (Or.inr ⟨HH.out, c, k, H2.out, rfl⟩)⟩
set_option maxHeartbeats 2000000 in
theorem queryP_any {F : Nat} (hF : F ≤ 19000) (h16 : 16384 ≤ F) (s : ByteArray) (w : World) (hL : Lw w) (hs : s.size ≤ 140737488355328) :
  Calls Tryz.prog 22 #[.string s] w (WholeO (lexA s.data.toList) (qryR F (lexA s.data.toList)).2 (.agg zP.toArray) (fun w1 v => ∃ vs : List Value, v = .agg vs.toArray ∧ RepC (New w.heap.size) w1 (qryR F (lexA s.data.toList)).1.enc vs) w) := by
 have hlen := Nat.le_trans (lex_few s) h16
 have HW := hide (wholePlan (T := (qryR F (lexA s.data.toList)).2) (d := (qryR F (lexA s.data.toList)).1.enc) (enc_len _) s (w.alloc (.cells #[.int .i64 0, .string ⟨#[]⟩, .slice none 0 0, .int .i64 0, .string ⟨#[]⟩, .int .i64 0, .int .i64 0, .string ⟨#[]⟩, .string ⟨#[]⟩, .slice none 0 0, .slice none 0 0, .slice none 0 0, .slice none 0 0, .slice none 0 0, .slice none 0 0, .int .i64 0] 41)) (hL.on (Joins.below_alloc1 w _)) hs _ rfl (fun q w1 h => query_ok hF (tok_ok _) (F + 1) _ w1 (ok_beg hlen hF) h))
 have hel : (qryR F (lexA s.data.toList)).1.enc.length = 16 := enc_len _
 generalize (qryR F (lexA s.data.toList)) = PR at *
 generalize lexA s.data.toList = X at *
 unfold WholeO at HW ⊢
 clear hL hs hlen
 go_enter Tryz.func22, Tryz.ntmps22
 go_wp2_with fail
 refine HW.out.mono ?_
 rintro e w1 ⟨hb, hc⟩
 have hsz : w.heap.size < w1.heap.size := by have := hb.size; simp at this; omega
 have hX1 : HoldB w.heap.size 41 zP w1 := (hb.block _ (by simp)).trans (heap_alloc_new w _)
 have HX1 := hide hX1
 have hBx := holds_box hX1 rfl
 have HB := hide ((Joins.below_alloc1 w (.cells #[.int .i64 0, .string ⟨#[]⟩, .slice none 0 0, .int .i64 0, .string ⟨#[]⟩, .int .i64 0, .int .i64 0, .string ⟨#[]⟩, .string ⟨#[]⟩, .slice none 0 0, .slice none 0 0, .slice none 0 0, .slice none 0 0, .slice none 0 0, .slice none 0 0, .int .i64 0] 41)).trans (hb.mono (by simp)))
 have HK := hide (fun c : Array Value => show Below w.heap.size w1 (w1.setRow w.heap.size c) from ⟨rfl, rfl, rfl, by rw [set_row_size]; exact Nat.le_refl _, fun k hk => set_row_other _ _ (by omega)⟩)
 clear hb HW hX1
 rcases hc with ⟨h, rfl⟩ | ⟨h, h2, v, rfl, vs, rfl, hv⟩ | ⟨h, c, k, h2, rfl⟩
 ·have HH := hide h
  clear h
  go_wp2_with (refine wpList_storeBig rfl 41 _ _ rfl w.heap.size 16 zP big_plan rfl one_zP rfl rfl hBx ?_; rw [setRow_self _ _ _ _ _ HX1.out])
  refine bodyPost_ret (v := .tuple #[.agg zP.toArray, .int .i64 (X.2.1 : Nat), .int .i64 X.2.2]) (results_big3 (vs := zP) rfl rfl rfl rfl big_plan rfl HX1.out) rfl ?_
  exact ⟨HB.out, Or.inl ⟨HH.out, rfl⟩⟩
 ·have HH := hide h
  have H2 := hide h2
  have HV := hide hv
  have hone := hv.one_cell
  have hvl : vs.length = 16 := hv.1.trans hel
  clear h h2 hv
  go_wp2_with (refine wpList_storeBig rfl 41 _ _ rfl w.heap.size 16 vs big_plan hvl hone rfl rfl hBx ?_)
  refine bodyPost_ret (v := .tuple #[.agg vs.toArray, .int .i64 (X.2.1 : Nat), .int .i64 0]) (results_big3 (vs := vs) rfl rfl rfl rfl big_plan hvl (set_row _ HX1.out)) rfl ?_
  exact ⟨HB.out.trans (HK.out _), Or.inr (Or.inl ⟨HH.out, H2.out, _, rfl, vs, rfl, HV.out.stay ⟨fun b _ k => by have : (w.alloc (.cells #[.int .i64 0, .string ⟨#[]⟩, .slice none 0 0, .int .i64 0, .string ⟨#[]⟩, .int .i64 0, .int .i64 0, .string ⟨#[]⟩, .string ⟨#[]⟩, .slice none 0 0, .slice none 0 0, .slice none 0 0, .slice none 0 0, .slice none 0 0, .slice none 0 0, .int .i64 0] 41)).heap.size ≤ b := k; simp at this; show w.heap.size ≤ b; omega, by rw [set_row_size]; exact Nat.le_refl _, fun b k _ => set_row_other _ _ (by have : (w.alloc (.cells #[.int .i64 0, .string ⟨#[]⟩, .slice none 0 0, .int .i64 0, .string ⟨#[]⟩, .int .i64 0, .int .i64 0, .string ⟨#[]⟩, .string ⟨#[]⟩, .slice none 0 0, .slice none 0 0, .slice none 0 0, .slice none 0 0, .slice none 0 0, .slice none 0 0, .int .i64 0] 41)).heap.size ≤ b := k; simp at this; omega)⟩⟩)⟩
 ·have HH := hide h
  have H2 := hide h2
  clear h h2
  go_wp2_with (refine wpList_storeBig rfl 41 _ _ rfl w.heap.size 16 zP big_plan rfl one_zP rfl rfl hBx ?_; rw [setRow_self _ _ _ _ _ HX1.out])
  refine bodyPost_ret (v := .tuple #[.agg zP.toArray, .int .i64 (posOf X.1 X.2.1 k : Nat), .int .i64 c]) (results_big3 (vs := zP) rfl rfl rfl rfl big_plan rfl HX1.out) rfl ?_
  exact ⟨HB.out, Or.inr (Or.inr ⟨HH.out, c, k, H2.out, rfl⟩)⟩
end Go.Proofs.YtljoajjlkjjgeaaGreatDoor
