/-
  chain: operators of one rank, the first one first.
  Words for the rules of expressions.
  compare: two sums, or one.
  not and minus: one step each.
-/
import Derived.Test.YtljoajjlkjjgeaaGreatDoorMX2
import Derived.Test.YtljoajjlkjjgeaaGreatDoorMX1
import Derived.Test.YtljoajjlkjjgeaaGreatDoorML5
import Derived.Test.YtljoajjlkjjgeaaGreatDoorME1
namespace Go.Proofs.YtljoajjlkjjgeaaGreatDoor
open Go.RowKit Go.Sort LM Go

def boolM : Value → Nat
 | .bool true => 1
 | _ => 0
/-- Blocks above r, and not the box. -/
abbrev PX (r B : Nat) (w : World) : Nat → Prop := fun b => r < b ∧ b < w.heap.size ∧ b ≠ B
theorem PX.turn {q r B : Nat} {w w' : World} (h : Turn q w w') (hq : q < r) : Stay (PX r B w) (PX r B w') w w' :=
 ⟨fun _ _ k => ⟨k.1, Nat.lt_of_lt_of_le k.2.1 h.size, k.2.2⟩, h.size, fun _ k hlt => h.blk (Nat.lt_trans hq k.1) hlt⟩
/-- What stands while an operand is read: the box, the operator's text. -/
def SC (q B : Nat) (vs : List Value) (lo bo oo io : Nat) (x : ByteArray) (w' : World) : Prop := HoldB B 36 vs w' ∧ (w'.cell? ⟨bo, oo + io, none⟩ = some (.string x) ∧ bo < w'.heap.size) ∧ (q < B ∧ bo ≠ q ∧ lo ≤ w'.heap.size)
theorem SC.turn {q B : Nat} {vs : List Value} {lo bo oo io : Nat} {x : ByteArray} {w w' : World} (h : SC q B vs lo bo oo io x w) (k : Turn q w w') : SC q B vs lo bo oo io x w' :=
 ⟨holds_turn h.1 k h.2.2.1, ⟨(World.cell?_of_block (a := ⟨bo, _, none⟩) (k.block bo h.2.1.2 (by simpa using h.2.2.2.1))).trans h.2.1.1, Nat.lt_of_lt_of_le h.2.1.2 k.size⟩, h.2.2.1, h.2.2.2.1, Nat.le_trans h.2.2.2.2 k.size⟩
theorem meas_step {s : PSt} {ops : List (List UInt8)} (h : Wf s) : 2 * (whichS ops s).2.L.length + boolM (.bool (whichS ops s).1.isSome) ≤ 2 * s.L.length := by
 cases hw : whichS ops s with
 | mk o s1 =>
  cases o with
  | none => rw [which_none hw]; exact Nat.le_refl _
  | some i => have := (which_lt h hw).1; show 2 * s1.L.length + 1 ≤ _; omega
set_option maxHeartbeats 16000000 in
set_option maxRecDepth 100000 in
theorem chain_any {q : Nat} {TL : List Tk} {E : Nat} (g : FuncId) (eg : ∀ args w, (callFunc g args).run Tryz.prog w = .ok (.enter g args) w) {M : Rule XT} {G : PSt → Prop} {F : Nat} (hG : Good F G) (hN : Nice M) (ops : List (List UInt8)) (A : Option Addr) (cap : Nat) (hl : ops.length ≤ 1000)
  (HM : ∀ s1 w1, G s1 → ParAt q TL E w1 s1 → Calls Tryz.prog g #[pP q] w1 (AggTo q TL E w1 (dE (M s1).1) (M s1).2)) (s : PSt) (w : World) (hs : G s) (H : ParAt q TL E w s) (hA : StrW q w A ops) :
  Calls Tryz.prog 107 #[pP q, .func (.func g) #[pP q] #[], .slice A ops.length cap] w (AggTo q TL E w (dE (chainS F M ops s).1) (chainS F M ops s).2) := by
 have HG := hide hG
 have HN := hide hN
 have HMh := hide HM
 have HR := hide (show chainS F M ops s = chainG M ops F (M s).1 (M s).2 from rfl)
 generalize chainS F M ops s = RES at *
 have hT1 := hN.tr s H.wf
 have HG1 := hide (hG.tr _ _ hs hT1)
 have hl1 := hG.len _ HG1.out
 have HC := hide (fun s1 w1 (h : ParAt q TL E w1 s1) (h2 : StrW q w1 A ops) => which_any A cap ops w1 h h2 hl)
 have HBin := hide (fun o (a b : XT) (va vb : List Value) {Pa Pb : Nat → Prop} w1 h1 h2 => binD_any (Pa := Pa) (Pb := Pb) o a b va vb w1 h1 h2)
 have HA0 := hide hA
 have HWf := hide H.wf
 clear hA
 have cq := H.lt
 have hqq : q < w.heap.size + 1 := by omega
 obtain ⟨W0, hW0⟩ : ∃ W0, W0 = w.alloc (.cells #[.int .i64 0, .string ⟨#[]⟩, .int .i64 0, .int .i64 0, .string ⟨#[]⟩, .string ⟨#[]⟩, .slice none 0 0] 36) := ⟨_, rfl⟩
 have H0 := hide (show ParAt q TL E W0 s by rw [hW0]; exact H.alloc _)
 have HT0 := hide (show Turn q w W0 by rw [hW0]; exact (Turn.refl _ _).alloc _)
 have HB0 := hide (show BoxAt w.heap.size 36 7 W0 by rw [hW0]; exact box_new _ _ _ rfl)
 have hz0 : w.heap.size + 1 ≤ W0.heap.size := by rw [hW0]; simp
 have HW0 := hide hW0
 clear hW0
 have HM1 := hide (HM s W0 hs H0.out)
 clear HM hG hN hT1 H hs
 unfold AggTo
 unfold AggTo at HM1 HMh
 skip
 go_enter Tryz.func107, Tryz.ntmps107
 go_wp2_with fail
 rw [← HW0.out]
 clear HW0
 go_at_fn g
 refine (HM1.out).mono ?_
 rintro e w1 ⟨vs1, rfl, hv, h, ht⟩
 have H1 := hide h
 have HT1 := hide (HT0.out.trans ht)
 have HB1 := hide (HB0.out.turn ht cq)
 have hz1 : w.heap.size + 1 ≤ w1.heap.size := Nat.le_trans hz0 ht.size
 have HV1 := hide (hv.stay (Stay.at (fun _ hb => Nat.le_trans hz0 hb) _))
 clear hv
 clear h ht H0 HT0 HB0 HM1
 have hlen1 : vs1.length = 7 := HV1.out.1.trans (dE_len _)
 have hone1 := HV1.out.one_cell
 have HV1k := HV1
 obtain ⟨w2, hw2⟩ : ∃ W, W = w1.alloc (.cells vs1.toArray 36) := ⟨_, rfl⟩
 have HW2 := hide (show w2 = (w1.alloc (.cells #[.int .i64 0, .string ⟨#[]⟩, .int .i64 0, .int .i64 0, .string ⟨#[]⟩, .string ⟨#[]⟩, .slice none 0 0] 36)).setRow w1.heap.size vs1.toArray by rw [hw2, World.setRow_alloc_new])
 have H2 := hide (show ParAt q TL E w2 _ by rw [hw2]; exact H1.out.alloc _)
 have HT2 := hide (show Turn q w w2 by rw [hw2]; exact HT1.out.alloc _)
 have HX2 := hide (show HoldB w1.heap.size 36 vs1 w2 by rw [hw2]; exact heap_alloc_new _ _)
 have hz2 : w.heap.size + 1 ≤ w2.heap.size := by rw [hw2]; simp; omega
 have HY2 := hide (show Below w1.heap.size w1 w2 by rw [hw2]; exact Joins.below_alloc1 _ _)
 have hq2 : q < w1.heap.size := by omega
 have HB2 := hide (show BoxAt w.heap.size 36 7 w2 by rw [hw2]; exact HB1.out.turn ((Turn.refl q _).alloc _) cq)
 have HV1' := hide (show RepC _ w2 _ _ by rw [hw2]; exact HV1.out.stay (Stay.below (Joins.below_alloc1 _ _)))
 clear HV1 hw2 H1 HT1 HB1
 have HV1 := HV1'
 clear HV1'
 obtain ⟨B, hB⟩ : ∃ B, B = w1.heap.size := ⟨_, rfl⟩
 have HBE := hide hB
 have hB1 : w.heap.size < B := by omega
 have hB2 : B < w2.heap.size := by rw [hB]; exact holds_size HX2.out
 have HVx2 := hide (show RepC (PX w.heap.size B w2) w2 (dE (M s).1) vs1 from HV1k.out.stay ⟨fun b hb k => ⟨k, Nat.lt_of_lt_of_le hb HY2.out.size, by omega⟩, HY2.out.size, fun b _ hb => HY2.out.block b hb⟩)
 have HX := hide (show HoldB B 36 vs1 w2 by rw [hB]; exact HX2.out)
 go_wp2_with (first | (refine wpList_storeBig rfl 36 _ _ rfl w1.heap.size 7 vs1 big_expr hlen1 hone1 rfl rfl (box_new _ _ _ rfl) ?_; rw [← HW2.out]))
 refine (HC.out _ w2 H2.out (HA0.out.turn HT2.out)).mono ?_
 rintro e w3 ⟨rfl, h3, ht3⟩
 have H3 := hide h3
 have HT3 := hide (HT2.out.trans ht3)
 have HB3 := hide (HB2.out.turn ht3 cq)
 have HX3 := hide (holds_turn HX.out ht3 (by omega))
 have HVx3 := hide (HVx2.out.stay (PX.turn ht3 cq))
 clear h3 ht3 HX HVx2 HB2 HT2 H2 HX2 HV1 HV1k HY2 HW2 hB
 rw [← HBE.out]
 go_wp2_with fail
 go_loopw [8, 9] (fun i ok wr => ∃ (n : Nat) (x : XT) (s1 : PSt) (vs : List Value), i = .int .i64 (idxI (whichS ops s1).1) ∧ ok = .bool (whichS ops s1).1.isSome ∧ Hid (RES = chainG M ops n x s1) ∧ s1.L.length ≤ n ∧ Hid (Wf s1) ∧ Hid (ParAt q TL E wr (whichS ops s1).2) ∧ Hid (G s1) ∧ vs.length = 7 ∧ Hid (HoldB B 36 vs wr) ∧ Hid (RepC (PX w.heap.size B wr) wr (dE x) vs) ∧ Hid (Turn q w wr) ∧ Hid (BoxAt w.heap.size 36 7 wr)) (fun _ ok wr => 2 * measL wr q + boolM ok)
 case atStart => exact ⟨F, (M s).1, (M s).2, vs1, rfl, rfl, HR, hl1, hide (HN.out.tr s HWf.out).wf, H3, HG1, hlen1, HX3, HVx3, HT3, HB3⟩
 case round =>
  obtain ⟨n, x, s1, vs, rfl, rfl, HRn, hln, HWs, HP, HGs, hlen, HXx, HVx, HTr, HBx⟩ := hrel
  clear HR HG1 HX3 HVx3 HT3 HB3 H3
  have hmeas := hide (meas_eq HP.out)
  have hone := hide HVx.out.one_cell
  cases hw : whichS ops s1 with
  | mk o s2 =>
   rw [hw] at HP hmeas
   cases o with
   | none =>
    have hss := which_none hw
    have HE := hide (show RES = (x, s1) from HRn.out.trans (by cases n with | zero => rfl | succ n => rw [chainG, hw]))
    simp only at HP
    rw [hss] at HP
    clear HRn HC HMh hmeas hss
    rw [show idxI ((none : Option Nat), s2).1 = -1 from rfl, show ((none : Option Nat), s2).1.isSome = false from rfl]
    have hw' := hide hw
    clear hw
    go_wp2_with (first | (refine wpList_loadBig rfl 36 _ rfl B 7 vs big_expr hlen rfl HXx.out ?_) | (refine wpList_storeBig rfl 36 _ _ rfl w.heap.size 7 vs big_expr hlen hone.out rfl rfl HBx.out ?_))
    refine bodyPost_ret (v := .agg vs.toArray) (results_big rfl rfl big_expr hlen (set_row _ HBx.out.choose_spec.1)) rfl ?_
    rw [HE.out]
    exact ⟨vs, rfl, HVx.out.stay ⟨fun b _ k => Nat.le_of_lt k.1, by rw [set_row_size]; exact Nat.le_refl _, fun b k _ => set_row_other _ _ (by omega)⟩, HP.out.row cq _, HTr.out.row (Nat.le_refl _) _⟩
   | some io =>
    obtain ⟨n, rfl⟩ : ∃ m, n = m + 1 := ⟨n - 1, by have := (which_lt HWs.out hw).1; omega⟩
    have HE := hide (show RES = chainG M ops n (binE (ba (ops.getD io [])) x (M s2).1) (M s2).2 from HRn.out.trans (by rw [chainG, hw]))
    have hlt := (which_lt HWs.out hw).1
    have hTs := (which_lt HWs.out hw).2
    have HG2 := hide (HG.out.tr _ _ HGs.out hTs)
    have hio : io < ops.length := by
     unfold whichS at hw
     cases hf : findW ops (aheadS 0 s1) with
     | none => rw [hf] at hw; cases hw
     | some j => rw [hf] at hw; injection hw with h1 h2; injection h1 with h1; subst h1; exact findW_lt hf
    have hTm := HN.out.tr s2 hTs.wf
    have HG3 := hide (HG.out.tr _ _ HG2.out hTm)
    have HWf3 := hide hTm.wf
    have hlm := hTm.len
    simp only at HP hmeas
    have HStr := hide (HA0.out.turn HTr.out)
    obtain ⟨bo, oo, eA, hbq, hbl, hbc⟩ := HStr.out io hio
    rw [show ops[io] = ops.getD io [] by rw [List.getD_eq_getElem?_getD, List.getElem?_eq_getElem hio]; rfl] at hbc
    subst eA
    have HS0 := hide (show SC q B vs wr.heap.size bo oo io (ba (ops.getD io [])) wr.drew from ⟨HXx.out, ⟨hbc, hbl⟩, by omega, hbq, Nat.le_refl _⟩)
    have HMr := hide (HMh.out s2 wr.drew HG2.out (HP.out.on ((Below.refl _ _).drew)))
    generalize ops.getD io [] = op at *
    have hiol : (io : Int) < (ops.length : Int) := by omega
    have hio0 : (ops.length : Int) ≤ 1000 := by omega
    clear HRn hTs hTm HStr hbc hbl
    rw [show idxI (some io, s2).1 = (io : Int) from rfl, show (some io, s2).1.isSome = true from rfl]
    have hwh := hide hw
    clear hw
    go_wp2_with fail
    refine wp_region_heldBut (S := SC q B vs wr.heap.size bo oo io (ba op)) (L := 8) (by kernel_rfl) (HS0.out) (fun hS => ?_)
    refine heldBut_take (i := 0) (oi := ⟨some 25, _, _, _, _, _⟩) (v := ?_) rfl (by kernel_rfl) (by kernel_rfl) (by kernel_rfl) (by kernel_rfl) (fun _ _ _ h => h) (Or.inl ⟨by rfl, ?_⟩) hS ?_
    rotate_left 1
    ·intro w' hw'
     have hb1 := hw'.2.1; have hb2 := hw'.2.2
     go_simp
     all_goals with_reducible rfl
    try simp only [Act.put, List.setIfInBounds_toArray, List.set_cons_zero, List.set_cons_succ]
    refine heldBut_take (i := 1) (oi := ⟨some 26, _, _, _, _, _⟩) (v := ?_) rfl (by kernel_rfl) (by kernel_rfl) (by kernel_rfl) (by kernel_rfl) (fun _ _ _ h => h) (Or.inl ⟨by rfl, ?_⟩) hS ?_
    rotate_left 1
    ·intro w' hw'
     have hb1 := hw'.2.1; have hb2 := hw'.2.2
     go_simp
     all_goals with_reducible rfl
    try simp only [Act.put, List.setIfInBounds_toArray, List.set_cons_zero, List.set_cons_succ]
    refine heldBut_take (i := 2) (oi := ⟨some 27, _, _, _, _, _⟩) (v := ?_) rfl (by kernel_rfl) (by kernel_rfl) (by kernel_rfl) (by kernel_rfl) (fun _ _ _ h => h) (Or.inl ⟨by rfl, ?_⟩) hS ?_
    rotate_left 1
    ·intro w' hw'
     have hb1 := hw'.2.1; have hb2 := hw'.2.2
     go_simp
     all_goals with_reducible rfl
    try simp only [Act.put, List.setIfInBounds_toArray, List.set_cons_zero, List.set_cons_succ]
    refine heldBut_take (i := 3) (oi := ⟨some 28, _, _, _, _, _⟩) (v := ?_) rfl (by kernel_rfl) (by kernel_rfl) (by kernel_rfl) (by kernel_rfl) (fun _ _ _ h => h) (Or.inl ⟨by rfl, ?_⟩) hS ?_
    rotate_left 1
    ·intro w' hw'
     have hb1 := hw'.2.1; have hb2 := hw'.2.2
     go_simp
     all_goals with_reducible rfl
    try simp only [Act.put, List.setIfInBounds_toArray, List.set_cons_zero, List.set_cons_succ]
    refine heldBut_take (i := 4) (oi := ⟨some 29, _, _, _, _, _⟩) (v := ?_) rfl (by kernel_rfl) (by kernel_rfl) (by kernel_rfl) (by kernel_rfl) (fun _ _ _ h => h) (Or.inl ⟨by rfl, ?_⟩) hS ?_
    rotate_left 1
    ·intro w' hw'
     refine run_load_op 36 (.tmp 7) ?_ B 7 vs big_expr hlen ?_ hw'.1 <;> rfl
    try simp only [Act.put, List.setIfInBounds_toArray, List.set_cons_zero, List.set_cons_succ]
    refine heldBut_take (i := 5) (oi := ⟨some 30, _, _, _, _, _⟩) (v := ?_) rfl (by kernel_rfl) (by kernel_rfl) (by kernel_rfl) (by kernel_rfl) (fun _ _ _ h => h) (Or.inl ⟨by rfl, ?_⟩) hS ?_
    rotate_left 1
    ·intro w' hw'
     have hb1 := hw'.2.1; have hb2 := hw'.2.2
     go_simp
     all_goals with_reducible rfl
    try simp only [Act.put, List.setIfInBounds_toArray, List.set_cons_zero, List.set_cons_succ]
    refine heldBut_one (i := 6) (o := ⟨some 31, _, _, _, _, _⟩) (by kernel_rfl) rfl (fun K hK => ?_)
    go_simp
    go_at_fn g
    refine (HMr.out).mono ?_
    rintro e w5 ⟨vy, rfl, hv, h5, ht5⟩
    have HT5 := hide (Turn.trans ((Turn.refl q wr).drew) ht5)
    have HS5 := hide (show SC q B vs wr.heap.size bo oo io (ba op) w5 from hS.turn ht5)
    have H5 := hide h5
    have HVy := hide hv
    have HVx5 := hide (show RepC _ w5 _ _ from HVx.out.stay (Stay.trans (Stay.below (w' := wr.drew) ((Below.refl _ _).drew)) (PX.turn ht5 cq)))
    clear hv h5 ht5
    refine hK.out _ _ (Or.inr HS5.out) (fun hS => ?_)
    clear hK K
    replace hS := hS.resolve_left (by decide)
    try simp only [Act.put, List.setIfInBounds_toArray, List.set_cons_zero, List.set_cons_succ]
    refine heldBut_one (i := 7) (o := ⟨some 32, _, _, _, _, _⟩) (by kernel_rfl) rfl (fun K hK => ?_)
    go_simp
    go_at_call 128
    refine (binD_any (ba op) x (M s2).1 vs vy w5 HVx5.out HVy.out).mono ?_
    rintro e w6 ⟨⟨us, rfl, hr⟩, hb6⟩
    have HS6 := hide (show SC q B vs wr.heap.size bo oo io (ba op) w6 from hS.turn (Turn.of hb6))
    have HT6 := hide (HT5.out.on hb6)
    have H6 := hide (H5.out.on hb6)
    have HR6 := hide hr
    have hs56 := hb6.size
    have hus : us.length = 7 := hr.1.trans (dE_len _)
    have hone := hr.one_cell
    have hs5 := HT5.out.size
    clear hr hb6 HVx5 HVy H5 HS5
    refine hK.out _ _ (Or.inr HS6.out) (fun hS => ?_)
    clear hK K
    replace hS := hS.resolve_left (by decide)
    try simp only [Act.put, List.setIfInBounds_toArray, List.set_cons_zero, List.set_cons_succ]
    refine heldBut_one (i := 8) (o := ⟨none, _, _, _, _, _⟩) (by kernel_rfl) rfl (fun K hK => ?_)
    refine step_storeBig rfl 36 _ _ rfl B 7 us big_expr hus hone rfl rfl (holds_box HS6.out.1 hlen) ?_
    refine hK.out _ _ (Or.inl rfl) (fun hS => ?_)
    clear hK K
    try simp only [Act.put]
    refine heldBut_done (by kernel_rfl) ?_ _
    have hs6 := HT6.out.size
    obtain ⟨w7, hw7⟩ : ∃ w7, w7 = w6.setRow B us.toArray := ⟨_, rfl⟩
    have HW7 := hide hw7
    have H7 := hide (show ParAt q TL E w7 (M s2).2 by rw [hw7]; exact H6.out.row (by omega) _)
    have hBr : B < wr.heap.size := holds_size HXx.out
    have HT7 := hide (show Turn q w w7 by rw [hw7]; exact (HTr.out.trans HT6.out).row (Nat.le_of_lt hB1) _)
    have HX7 := hide (show HoldB B 36 us w7 by rw [hw7]; exact set_row _ HS6.out.1)
    have HB7 := hide (show BoxAt w.heap.size 36 7 w7 by
     rw [hw7]
     obtain ⟨o, h, hn⟩ := HBx.out.turn HT6.out cq
     exact ⟨o, (set_row_other _ _ (by omega)).trans h, hn⟩)
    have HV7 := hide (show RepC (PX w.heap.size B w7) w7 _ us by
     rw [hw7]
     exact HR6.out.stay ⟨fun b hb k => ⟨by rcases k with k | k | k; exact k.1; have : wr.heap.size ≤ b := k; omega; omega, by rw [set_row_size]; exact hb, by rcases k with k | k | k; exact k.2.2; have : wr.heap.size ≤ b := k; omega; omega⟩,
      by rw [set_row_size]; exact Nat.le_refl _, fun b k _ => set_row_other _ _ (by rcases k with k | k | k; exact k.2.2; have : wr.heap.size ≤ b := k; omega; omega)⟩)
    clear hw7 HS6 HT6 H6 HR6 hS HBx HVx HXx HS0 HMr
    rw [← HW7.out]
    clear HW7
    go_wp2_with fail
    refine (HC.out _ w7 H7.out (HA0.out.turn HT7.out)).mono ?_
    rintro e w8 ⟨rfl, h8, ht8⟩
    have H8 := hide h8
    have HT8 := hide (HT7.out.trans ht8)
    have HB8 := hide (HB7.out.turn ht8 cq)
    have HX8 := hide (holds_turn HX7.out ht8 (by omega))
    have HV8 := hide (HV7.out.stay (PX.turn ht8 cq))
    have hm8 := hide (meas_eq h8)
    clear h8 ht8 HT7 HB7 HX7 HV7 H7
    go_wp2_with fail
    go_roundw
    case rel => exact ⟨n, _, _, us, rfl, rfl, HE, by omega, HWf3, H8, HG3, hus, HX8, HV8, HT8, HB8⟩
    case measure =>
     rw [hm8.out, hmeas.out]
     have := meas_step (s := (M s2).2) (ops := ops) HWf3.out
     show _ < 2 * s2.L.length + 1
     omega
end Go.Proofs.YtljoajjlkjjgeaaGreatDoor
namespace Go.Proofs.YtljoajjlkjjgeaaGreatDoor
open Go.RowKit Go.Sort LM Go

theorem ofV_any (n : Int) (w : World) : Calls Tryz.prog 20 #[.int .i64 n] w fun e w' => e = .returned (vVal 1 n ⟨#[]⟩) ∧ Below w.heap.size w w' := by
 go_enter Tryz.func20, Tryz.ntmps20
 go_wp2
 go_returns
 exact ⟨rfl, by go_grown⟩
theorem textV_any (s : ByteArray) (w : World) : Calls Tryz.prog 14 #[.string s] w fun e w' => e = .returned (vVal 2 0 s) ∧ Below w.heap.size w w' := by
 go_enter Tryz.func14, Tryz.ntmps14
 go_wp2
 go_returns
 exact ⟨rfl, by go_grown⟩
/-- What a rule of expressions may be asked. -/
structure Ok (F n : Nat) (s : PSt) : Prop where
 len : s.L.length ≤ F
 lt : s.L.length < n
 d0 : 0 ≤ s.d
 d1 : s.d + 3 * (s.L.length : Int) ≤ 100000
structure Okp (F n : Nat) (s : PSt) : Prop where
 len : s.L.length ≤ F
 lt : s.L.length < n
 d0 : 0 ≤ s.d
 d1 : s.d + 3 * (s.L.length : Int) + 1 ≤ 100000
theorem good_ok (F n : Nat) : Good F (Ok F n) := ⟨fun s t h k => ⟨Nat.le_trans k.len h.len, Nat.lt_of_le_of_lt k.len h.lt, by rw [k.d]; exact h.d0, by rw [k.d]; have := h.d1; have := k.len; omega⟩, fun _ h => h.len⟩
theorem good_okp (F n : Nat) : Good F (Okp F n) := ⟨fun s t h k => ⟨Nat.le_trans k.len h.len, Nat.lt_of_le_of_lt k.len h.lt, by rw [k.d]; exact h.d0, by rw [k.d]; have := h.d1; have := k.len; omega⟩, fun _ h => h.len⟩
theorem Okp.deep {F n : Nat} {s : PSt} (h : Okp F n s) : Ok F n ⟨s.L, s.d + 1, s.b⟩ := ⟨h.len, h.lt, by have := h.d0; show 0 ≤ s.d + 1; omega, by have := h.d1; show s.d + 1 + 3 * (s.L.length : Int) ≤ 100000; omega⟩
/-- Behind a token the rule may lie deeper. -/
theorem Ok.next {F n : Nat} {s t : PSt} (h : Ok F (n + 1) s) (hd : t.d = s.d) (hl : t.L.length < s.L.length) : Okp F n t := ⟨by have := h.len; omega, by have := h.lt; omega, by rw [hd]; exact h.d0, by rw [hd]; have := h.d1; omega⟩
theorem Ok.deeper {F n : Nat} {s t : PSt} (h : Ok F n s) (hd : t.d = s.d + 1) (hl : t.L.length < s.L.length) : Ok F n t := ⟨by have := h.len; omega, by have := h.lt; omega, by rw [hd]; have := h.d0; omega, by rw [hd]; have := h.d1; omega⟩
theorem Ok.big {F n : Nat} {s : PSt} (h : Ok F n s) : s.d ≤ 1099511627776 := by have := h.d1; omega
theorem Okp.big {F n : Nat} {s : PSt} (h : Okp F n s) : s.d ≤ 1099511627776 := by have := h.d1; omega
theorem expect_lt {s : PSt} {x : List UInt8} (h : Wf s) (hx : isT (aheadS 0 s) x = true) : (expectS x s).L.length < s.L.length := by
 unfold expectS
 rw [if_pos hx]
 exact take_lt h hx
/-- Texts just written down. -/
theorem strW_new (w : World) (q : Nat) (xs : List (List UInt8)) (t : TypeId) (hq : q < w.heap.size) : StrW q (w.alloc (.cells (xs.map fun x => Value.string (ba x)).toArray t)) (some ⟨w.heap.size, 0, none⟩) xs := fun j hj => by
 refine ⟨w.heap.size, 0, rfl, by omega, by simp, ?_⟩
 rw [Nat.zero_add, Lib.cell_of_heap (heap_alloc_new w _)]
 simp [List.getElem?_map, List.getElem?_eq_getElem hj]
theorem ef_not : ∀ args w, (callFunc 129 args).run Tryz.prog w = .ok (.enter 129 args) w := enters_of Tryz.func129 (by kernel_rfl) rfl
theorem ef_minus : ∀ args w, (callFunc 154 args).run Tryz.prog w = .ok (.enter 154 args) w := enters_of Tryz.func154 (by kernel_rfl) rfl
theorem ef_enclosedExpr : ∀ args w, (callFunc 156 args).run Tryz.prog w = .ok (.enter 156 args) w := enters_of Tryz.func156 (by kernel_rfl) rfl
theorem ef_expr : ∀ args w, (callFunc 73 args).run Tryz.prog w = .ok (.enter 73 args) w := enters_of Tryz.func73 (by kernel_rfl) rfl
theorem ef_and : ∀ args w, (callFunc 108 args).run Tryz.prog w = .ok (.enter 108 args) w := enters_of Tryz.func108 (by kernel_rfl) rfl
theorem ef_product : ∀ args w, (callFunc 151 args).run Tryz.prog w = .ok (.enter 151 args) w := enters_of Tryz.func151 (by kernel_rfl) rfl
set_option maxHeartbeats 8000000 in
set_option maxRecDepth 100000 in
theorem argumentW {q : Nat} {TL : List Tk} {E : Nat} (R : XT × PSt) (s : PSt) (w : World) (H : ParAt q TL E w s)
  (HM : ∀ w1, ParAt q TL E w1 s → Calls Tryz.prog 139 #[pP q, .func (.func 73) #[pP q] #[]] w1 (AggTo q TL E w1 (dE R.1) R.2)) :
  Calls Tryz.prog 162 #[pP q] w (AggTo q TL E w (dE R.1) R.2) := by
 have HMh := hide HM
 generalize R = RES at *
 have cq := H.lt
 have hqq : q < w.heap.size + 1 := by omega
 obtain ⟨W0, hW0⟩ : ∃ W0, W0 = w.alloc (.cells #[.int .i64 0, .string ⟨#[]⟩, .int .i64 0, .int .i64 0, .string ⟨#[]⟩, .string ⟨#[]⟩, .slice none 0 0] 36) := ⟨_, rfl⟩
 have H0 := hide (show ParAt q TL E W0 s by rw [hW0]; exact H.alloc _)
 have HT0 := hide (show Turn q w W0 by rw [hW0]; exact (Turn.refl _ _).alloc _)
 have HB0 := hide (show BoxAt w.heap.size 36 7 W0 by rw [hW0]; exact box_new _ _ _ rfl)
 have hz0 : w.heap.size + 1 ≤ W0.heap.size := by rw [hW0]; simp
 have HW0 := hide hW0
 clear hW0
 unfold AggTo at HMh ⊢
 clear HM
 clear H
 go_enter Tryz.func162, Tryz.ntmps162
 go_wp2_with fail
 rw [← HW0.out]
 refine (HMh.out W0 H0.out).mono ?_
 rintro e w1 ⟨vs1, rfl, hv, h, ht⟩
 have H1 := hide h
 have HT1 := hide (HT0.out.trans ht)
 have HB1 := hide (HB0.out.turn ht cq)
 have hz1 : w.heap.size + 1 ≤ w1.heap.size := Nat.le_trans hz0 ht.size
 have HV1 := hide (hv.stay (Stay.at (fun _ hb => Nat.le_trans hz0 hb) _))
 clear hv
 clear h ht H0 HT0 HB0
 have hlen : vs1.length = 7 := HV1.out.1.trans (dE_len _)
 have hone := HV1.out.one_cell
 go_wp2_with (refine wpList_storeBig rfl 36 _ _ rfl w.heap.size 7 vs1 big_expr hlen hone rfl rfl HB1.out ?_)
 refine bodyPost_ret (v := .agg vs1.toArray) (results_big rfl rfl big_expr hlen (set_row _ HB1.out.choose_spec.1)) rfl ?_
 exact ⟨vs1, rfl, HV1.out.ret (Nat.lt_succ_self _) (Nat.le_succ _) _, H1.out.row cq _, HT1.out.row (Nat.le_refl _) _⟩
set_option maxHeartbeats 8000000 in
set_option maxRecDepth 100000 in
theorem enclosedExprW {q : Nat} {TL : List Tk} {E : Nat} (R : XT × PSt) (s : PSt) (w : World) (H : ParAt q TL E w s)
  (HM : ∀ w1, ParAt q TL E w1 s → Calls Tryz.prog 160 #[pP q, .func (.func 73) #[pP q] #[]] w1 (AggTo q TL E w1 (dE R.1) R.2)) :
  Calls Tryz.prog 156 #[pP q] w (AggTo q TL E w (dE R.1) R.2) := by
 have HMh := hide HM
 generalize R = RES at *
 have cq := H.lt
 have hqq : q < w.heap.size + 1 := by omega
 obtain ⟨W0, hW0⟩ : ∃ W0, W0 = w.alloc (.cells #[.int .i64 0, .string ⟨#[]⟩, .int .i64 0, .int .i64 0, .string ⟨#[]⟩, .string ⟨#[]⟩, .slice none 0 0] 36) := ⟨_, rfl⟩
 have H0 := hide (show ParAt q TL E W0 s by rw [hW0]; exact H.alloc _)
 have HT0 := hide (show Turn q w W0 by rw [hW0]; exact (Turn.refl _ _).alloc _)
 have HB0 := hide (show BoxAt w.heap.size 36 7 W0 by rw [hW0]; exact box_new _ _ _ rfl)
 have hz0 : w.heap.size + 1 ≤ W0.heap.size := by rw [hW0]; simp
 have HW0 := hide hW0
 clear hW0
 unfold AggTo at HMh ⊢
 clear HM
 clear H
 go_enter Tryz.func156, Tryz.ntmps156
 go_wp2_with fail
 rw [← HW0.out]
 refine (HMh.out W0 H0.out).mono ?_
 rintro e w1 ⟨vs1, rfl, hv, h, ht⟩
 have H1 := hide h
 have HT1 := hide (HT0.out.trans ht)
 have HB1 := hide (HB0.out.turn ht cq)
 have hz1 : w.heap.size + 1 ≤ w1.heap.size := Nat.le_trans hz0 ht.size
 have HV1 := hide (hv.stay (Stay.at (fun _ hb => Nat.le_trans hz0 hb) _))
 clear hv
 clear h ht H0 HT0 HB0
 have hlen : vs1.length = 7 := HV1.out.1.trans (dE_len _)
 have hone := HV1.out.one_cell
 go_wp2_with (refine wpList_storeBig rfl 36 _ _ rfl w.heap.size 7 vs1 big_expr hlen hone rfl rfl HB1.out ?_)
 refine bodyPost_ret (v := .agg vs1.toArray) (results_big rfl rfl big_expr hlen (set_row _ HB1.out.choose_spec.1)) rfl ?_
 exact ⟨vs1, rfl, HV1.out.ret (Nat.lt_succ_self _) (Nat.le_succ _) _, H1.out.row cq _, HT1.out.row (Nat.le_refl _) _⟩
set_option maxHeartbeats 8000000 in
set_option maxRecDepth 100000 in
theorem productW {q : Nat} {TL : List Tk} {E : Nat} (R : XT × PSt) (s : PSt) (w : World) (H : ParAt q TL E w s)
  (HM : ∀ (A : Option Addr) (cap : Nat) w1, ParAt q TL E w1 s → StrW q w1 A [[42], [47], [37]] → Calls Tryz.prog 107 #[pP q, .func (.func 154) #[pP q] #[], .slice A 3 cap] w1 (AggTo q TL E w1 (dE R.1) R.2)) :
  Calls Tryz.prog 151 #[pP q] w (AggTo q TL E w (dE R.1) R.2) := by
 have HMh := hide HM
 generalize R = RES at *
 have cq := H.lt
 have hqq : q < w.heap.size + 1 := by omega
 obtain ⟨W0, hW0⟩ : ∃ W0, W0 = w.alloc (.cells #[.int .i64 0, .string ⟨#[]⟩, .int .i64 0, .int .i64 0, .string ⟨#[]⟩, .string ⟨#[]⟩, .slice none 0 0] 36) := ⟨_, rfl⟩
 have H0 := hide (show ParAt q TL E W0 s by rw [hW0]; exact H.alloc _)
 have HT0 := hide (show Turn q w W0 by rw [hW0]; exact (Turn.refl _ _).alloc _)
 have HB0 := hide (show BoxAt w.heap.size 36 7 W0 by rw [hW0]; exact box_new _ _ _ rfl)
 have hz0 : w.heap.size + 1 ≤ W0.heap.size := by rw [hW0]; simp
 have HW0 := hide hW0
 clear hW0
 unfold AggTo at HMh ⊢
 clear HM
 clear H
 go_enter Tryz.func151, Tryz.ntmps151
 go_wp2_with fail
 rw [← HW0.out]
 obtain ⟨w1, hw1⟩ : ∃ w1, w1 = W0.alloc (.cells #[.string ⟨#[42]⟩, .string ⟨#[47]⟩, .string ⟨#[37]⟩] 9) := ⟨_, rfl⟩
 have HW1 := hide hw1
 have H1 := hide (show ParAt q TL E w1 s by rw [hw1]; exact H0.out.alloc _)
 have HT1 := hide (show Turn q w w1 by rw [hw1]; exact HT0.out.alloc _)
 have HB1 := hide (show BoxAt w.heap.size 36 7 w1 by rw [hw1]; exact HB0.out.turn ((Turn.refl q _).alloc _) cq)
 have hz1 : w.heap.size + 1 ≤ w1.heap.size := by rw [hw1]; simp; omega
 have hz0e : w.heap.size + 1 = W0.heap.size := by rw [HW0.out]; simp
 have HS1 := hide (show StrW q w1 (some ⟨w.heap.size + 1, 0, none⟩) [[42], [47], [37]] by rw [hw1, hz0e]; exact strW_new W0 q [[42], [47], [37]] _ (by omega))
 clear hw1 hz0e H0 HT0 HB0
 rw [← HW1.out]
 refine (HMh.out _ _ w1 H1.out HS1.out).mono ?_
 rintro e w2 ⟨vs2, rfl, hv, h, ht⟩
 have H2 := hide h
 have HT2 := hide (HT1.out.trans ht)
 have HB2 := hide (HB1.out.turn ht cq)
 have hz2 : w.heap.size + 1 ≤ w2.heap.size := Nat.le_trans hz1 ht.size
 have HV2 := hide (hv.stay (Stay.at (fun _ hb => Nat.le_trans hz1 hb) _))
 clear hv
 clear h ht H1 HT1 HB1
 have hlen : vs2.length = 7 := HV2.out.1.trans (dE_len _)
 have hone := HV2.out.one_cell
 go_wp2_with (refine wpList_storeBig rfl 36 _ _ rfl w.heap.size 7 vs2 big_expr hlen hone rfl rfl HB2.out ?_)
 refine bodyPost_ret (v := .agg vs2.toArray) (results_big rfl rfl big_expr hlen (set_row _ HB2.out.choose_spec.1)) rfl ?_
 exact ⟨vs2, rfl, HV2.out.ret (Nat.lt_succ_self _) (Nat.le_succ _) _, H2.out.row cq _, HT2.out.row (Nat.le_refl _) _⟩
set_option maxHeartbeats 8000000 in
set_option maxRecDepth 100000 in
theorem sumW {q : Nat} {TL : List Tk} {E : Nat} (R : XT × PSt) (s : PSt) (w : World) (H : ParAt q TL E w s)
  (HM : ∀ (A : Option Addr) (cap : Nat) w1, ParAt q TL E w1 s → StrW q w1 A [[43], [45]] → Calls Tryz.prog 107 #[pP q, .func (.func 151) #[pP q] #[], .slice A 2 cap] w1 (AggTo q TL E w1 (dE R.1) R.2)) :
  Calls Tryz.prog 148 #[pP q] w (AggTo q TL E w (dE R.1) R.2) := by
 have HMh := hide HM
 generalize R = RES at *
 have cq := H.lt
 have hqq : q < w.heap.size + 1 := by omega
 obtain ⟨W0, hW0⟩ : ∃ W0, W0 = w.alloc (.cells #[.int .i64 0, .string ⟨#[]⟩, .int .i64 0, .int .i64 0, .string ⟨#[]⟩, .string ⟨#[]⟩, .slice none 0 0] 36) := ⟨_, rfl⟩
 have H0 := hide (show ParAt q TL E W0 s by rw [hW0]; exact H.alloc _)
 have HT0 := hide (show Turn q w W0 by rw [hW0]; exact (Turn.refl _ _).alloc _)
 have HB0 := hide (show BoxAt w.heap.size 36 7 W0 by rw [hW0]; exact box_new _ _ _ rfl)
 have hz0 : w.heap.size + 1 ≤ W0.heap.size := by rw [hW0]; simp
 have HW0 := hide hW0
 clear hW0
 unfold AggTo at HMh ⊢
 clear HM
 clear H
 go_enter Tryz.func148, Tryz.ntmps148
 go_wp2_with fail
 rw [← HW0.out]
 obtain ⟨w1, hw1⟩ : ∃ w1, w1 = W0.alloc (.cells #[.string ⟨#[43]⟩, .string ⟨#[45]⟩] 9) := ⟨_, rfl⟩
 have HW1 := hide hw1
 have H1 := hide (show ParAt q TL E w1 s by rw [hw1]; exact H0.out.alloc _)
 have HT1 := hide (show Turn q w w1 by rw [hw1]; exact HT0.out.alloc _)
 have HB1 := hide (show BoxAt w.heap.size 36 7 w1 by rw [hw1]; exact HB0.out.turn ((Turn.refl q _).alloc _) cq)
 have hz1 : w.heap.size + 1 ≤ w1.heap.size := by rw [hw1]; simp; omega
 have hz0e : w.heap.size + 1 = W0.heap.size := by rw [HW0.out]; simp
 have HS1 := hide (show StrW q w1 (some ⟨w.heap.size + 1, 0, none⟩) [[43], [45]] by rw [hw1, hz0e]; exact strW_new W0 q [[43], [45]] _ (by omega))
 clear hw1 hz0e H0 HT0 HB0
 rw [← HW1.out]
 refine (HMh.out _ _ w1 H1.out HS1.out).mono ?_
 rintro e w2 ⟨vs2, rfl, hv, h, ht⟩
 have H2 := hide h
 have HT2 := hide (HT1.out.trans ht)
 have HB2 := hide (HB1.out.turn ht cq)
 have hz2 : w.heap.size + 1 ≤ w2.heap.size := Nat.le_trans hz1 ht.size
 have HV2 := hide (hv.stay (Stay.at (fun _ hb => Nat.le_trans hz1 hb) _))
 clear hv
 clear h ht H1 HT1 HB1
 have hlen : vs2.length = 7 := HV2.out.1.trans (dE_len _)
 have hone := HV2.out.one_cell
 go_wp2_with (refine wpList_storeBig rfl 36 _ _ rfl w.heap.size 7 vs2 big_expr hlen hone rfl rfl HB2.out ?_)
 refine bodyPost_ret (v := .agg vs2.toArray) (results_big rfl rfl big_expr hlen (set_row _ HB2.out.choose_spec.1)) rfl ?_
 exact ⟨vs2, rfl, HV2.out.ret (Nat.lt_succ_self _) (Nat.le_succ _) _, H2.out.row cq _, HT2.out.row (Nat.le_refl _) _⟩
set_option maxHeartbeats 8000000 in
set_option maxRecDepth 100000 in
theorem andW {q : Nat} {TL : List Tk} {E : Nat} (R : XT × PSt) (s : PSt) (w : World) (H : ParAt q TL E w s)
  (HM : ∀ (A : Option Addr) (cap : Nat) w1, ParAt q TL E w1 s → StrW q w1 A [[97, 110, 100]] → Calls Tryz.prog 107 #[pP q, .func (.func 129) #[pP q] #[], .slice A 1 cap] w1 (AggTo q TL E w1 (dE R.1) R.2)) :
  Calls Tryz.prog 108 #[pP q] w (AggTo q TL E w (dE R.1) R.2) := by
 have HMh := hide HM
 generalize R = RES at *
 have cq := H.lt
 have hqq : q < w.heap.size + 1 := by omega
 obtain ⟨W0, hW0⟩ : ∃ W0, W0 = w.alloc (.cells #[.int .i64 0, .string ⟨#[]⟩, .int .i64 0, .int .i64 0, .string ⟨#[]⟩, .string ⟨#[]⟩, .slice none 0 0] 36) := ⟨_, rfl⟩
 have H0 := hide (show ParAt q TL E W0 s by rw [hW0]; exact H.alloc _)
 have HT0 := hide (show Turn q w W0 by rw [hW0]; exact (Turn.refl _ _).alloc _)
 have HB0 := hide (show BoxAt w.heap.size 36 7 W0 by rw [hW0]; exact box_new _ _ _ rfl)
 have hz0 : w.heap.size + 1 ≤ W0.heap.size := by rw [hW0]; simp
 have HW0 := hide hW0
 clear hW0
 unfold AggTo at HMh ⊢
 clear HM
 clear H
 go_enter Tryz.func108, Tryz.ntmps108
 go_wp2_with fail
 rw [← HW0.out]
 obtain ⟨w1, hw1⟩ : ∃ w1, w1 = W0.alloc (.cells #[.string ⟨#[97, 110, 100]⟩] 9) := ⟨_, rfl⟩
 have HW1 := hide hw1
 have H1 := hide (show ParAt q TL E w1 s by rw [hw1]; exact H0.out.alloc _)
 have HT1 := hide (show Turn q w w1 by rw [hw1]; exact HT0.out.alloc _)
 have HB1 := hide (show BoxAt w.heap.size 36 7 w1 by rw [hw1]; exact HB0.out.turn ((Turn.refl q _).alloc _) cq)
 have hz1 : w.heap.size + 1 ≤ w1.heap.size := by rw [hw1]; simp; omega
 have hz0e : w.heap.size + 1 = W0.heap.size := by rw [HW0.out]; simp
 have HS1 := hide (show StrW q w1 (some ⟨w.heap.size + 1, 0, none⟩) [[97, 110, 100]] by rw [hw1, hz0e]; exact strW_new W0 q [[97, 110, 100]] _ (by omega))
 clear hw1 hz0e H0 HT0 HB0
 rw [← HW1.out]
 refine (HMh.out _ _ w1 H1.out HS1.out).mono ?_
 rintro e w2 ⟨vs2, rfl, hv, h, ht⟩
 have H2 := hide h
 have HT2 := hide (HT1.out.trans ht)
 have HB2 := hide (HB1.out.turn ht cq)
 have hz2 : w.heap.size + 1 ≤ w2.heap.size := Nat.le_trans hz1 ht.size
 have HV2 := hide (hv.stay (Stay.at (fun _ hb => Nat.le_trans hz1 hb) _))
 clear hv
 clear h ht H1 HT1 HB1
 have hlen : vs2.length = 7 := HV2.out.1.trans (dE_len _)
 have hone := HV2.out.one_cell
 go_wp2_with (refine wpList_storeBig rfl 36 _ _ rfl w.heap.size 7 vs2 big_expr hlen hone rfl rfl HB2.out ?_)
 refine bodyPost_ret (v := .agg vs2.toArray) (results_big rfl rfl big_expr hlen (set_row _ HB2.out.choose_spec.1)) rfl ?_
 exact ⟨vs2, rfl, HV2.out.ret (Nat.lt_succ_self _) (Nat.le_succ _) _, H2.out.row cq _, HT2.out.row (Nat.le_refl _) _⟩
set_option maxHeartbeats 8000000 in
set_option maxRecDepth 100000 in
theorem exprW {q : Nat} {TL : List Tk} {E : Nat} (R : XT × PSt) (s : PSt) (w : World) (H : ParAt q TL E w s)
  (HM : ∀ (A : Option Addr) (cap : Nat) w1, ParAt q TL E w1 s → StrW q w1 A [[111, 114]] → Calls Tryz.prog 107 #[pP q, .func (.func 108) #[pP q] #[], .slice A 1 cap] w1 (AggTo q TL E w1 (dE R.1) R.2)) :
  Calls Tryz.prog 73 #[pP q] w (AggTo q TL E w (dE R.1) R.2) := by
 have HMh := hide HM
 generalize R = RES at *
 have cq := H.lt
 have hqq : q < w.heap.size + 1 := by omega
 obtain ⟨W0, hW0⟩ : ∃ W0, W0 = w.alloc (.cells #[.int .i64 0, .string ⟨#[]⟩, .int .i64 0, .int .i64 0, .string ⟨#[]⟩, .string ⟨#[]⟩, .slice none 0 0] 36) := ⟨_, rfl⟩
 have H0 := hide (show ParAt q TL E W0 s by rw [hW0]; exact H.alloc _)
 have HT0 := hide (show Turn q w W0 by rw [hW0]; exact (Turn.refl _ _).alloc _)
 have HB0 := hide (show BoxAt w.heap.size 36 7 W0 by rw [hW0]; exact box_new _ _ _ rfl)
 have hz0 : w.heap.size + 1 ≤ W0.heap.size := by rw [hW0]; simp
 have HW0 := hide hW0
 clear hW0
 unfold AggTo at HMh ⊢
 clear HM
 clear H
 go_enter Tryz.func73, Tryz.ntmps73
 go_wp2_with fail
 rw [← HW0.out]
 obtain ⟨w1, hw1⟩ : ∃ w1, w1 = W0.alloc (.cells #[.string ⟨#[111, 114]⟩] 9) := ⟨_, rfl⟩
 have HW1 := hide hw1
 have H1 := hide (show ParAt q TL E w1 s by rw [hw1]; exact H0.out.alloc _)
 have HT1 := hide (show Turn q w w1 by rw [hw1]; exact HT0.out.alloc _)
 have HB1 := hide (show BoxAt w.heap.size 36 7 w1 by rw [hw1]; exact HB0.out.turn ((Turn.refl q _).alloc _) cq)
 have hz1 : w.heap.size + 1 ≤ w1.heap.size := by rw [hw1]; simp; omega
 have hz0e : w.heap.size + 1 = W0.heap.size := by rw [HW0.out]; simp
 have HS1 := hide (show StrW q w1 (some ⟨w.heap.size + 1, 0, none⟩) [[111, 114]] by rw [hw1, hz0e]; exact strW_new W0 q [[111, 114]] _ (by omega))
 clear hw1 hz0e H0 HT0 HB0
 rw [← HW1.out]
 refine (HMh.out _ _ w1 H1.out HS1.out).mono ?_
 rintro e w2 ⟨vs2, rfl, hv, h, ht⟩
 have H2 := hide h
 have HT2 := hide (HT1.out.trans ht)
 have HB2 := hide (HB1.out.turn ht cq)
 have hz2 : w.heap.size + 1 ≤ w2.heap.size := Nat.le_trans hz1 ht.size
 have HV2 := hide (hv.stay (Stay.at (fun _ hb => Nat.le_trans hz1 hb) _))
 clear hv
 clear h ht H1 HT1 HB1
 have hlen : vs2.length = 7 := HV2.out.1.trans (dE_len _)
 have hone := HV2.out.one_cell
 go_wp2_with (refine wpList_storeBig rfl 36 _ _ rfl w.heap.size 7 vs2 big_expr hlen hone rfl rfl HB2.out ?_)
 refine bodyPost_ret (v := .agg vs2.toArray) (results_big rfl rfl big_expr hlen (set_row _ HB2.out.choose_spec.1)) rfl ?_
 exact ⟨vs2, rfl, HV2.out.ret (Nat.lt_succ_self _) (Nat.le_succ _) _, H2.out.row cq _, HT2.out.row (Nat.le_refl _) _⟩
set_option maxHeartbeats 8000000 in
set_option maxRecDepth 100000 in
theorem argumentsW {q : Nat} {TL : List Tk} {E : Nat} (d : Dt) (s2 : PSt) (s : PSt) (w : World) (H : ParAt q TL E w s)
  (HM : ∀ w1, ParAt q TL E w1 s → Calls Tryz.prog 161 #[pP q, .func (.func 162) #[pP q] #[]] w1 (OneTo q TL E w1 d s2)) :
  Calls Tryz.prog 159 #[pP q] w (OneTo q TL E w d s2) := by
 have HMh := hide HM
 have cq := H.lt
 have hqq : q < w.heap.size := cq
 have H0 := hide H
 have HT0 := hide (Turn.refl q w)
 have hz0 : w.heap.size ≤ w.heap.size := Nat.le_refl _
 unfold OneTo at HMh ⊢
 clear HM
 clear H
 go_enter Tryz.func159, Tryz.ntmps159
 go_wp2_with fail
 refine (HMh.out w H0.out).mono ?_
 rintro e w1 ⟨v1, rfl, hv, h, ht⟩
 have H1 := hide h
 have HT1 := hide (HT0.out.trans ht)
 have hz1 : w.heap.size ≤ w1.heap.size := Nat.le_trans hz0 ht.size
 have HV1 := hide (hv.stay (Stay.at (fun _ hb => Nat.le_trans hz0 hb) _))
 clear hv
 clear h ht H0 HT0
 go_wp2_with fail
 go_ret
 exact ⟨v1, rfl, HV1.out, H1.out, HT1.out⟩
set_option maxHeartbeats 8000000 in
set_option maxRecDepth 100000 in
theorem columnsW {q : Nat} {TL : List Tk} {E : Nat} (d : Dt) (s2 : PSt) (s : PSt) (w : World) (H : ParAt q TL E w s)
  (HM : ∀ w1, ParAt q TL E w1 s → Calls Tryz.prog 113 #[pP q, .func (.func 114) #[pP q] #[]] w1 (OneTo q TL E w1 d s2)) :
  Calls Tryz.prog 85 #[pP q] w (OneTo q TL E w d s2) := by
 have HMh := hide HM
 have cq := H.lt
 have hqq : q < w.heap.size := cq
 have H0 := hide H
 have HT0 := hide (Turn.refl q w)
 have hz0 : w.heap.size ≤ w.heap.size := Nat.le_refl _
 unfold OneTo at HMh ⊢
 clear HM
 clear H
 go_enter Tryz.func85, Tryz.ntmps85
 go_wp2_with fail
 refine (HMh.out w H0.out).mono ?_
 rintro e w1 ⟨v1, rfl, hv, h, ht⟩
 have H1 := hide h
 have HT1 := hide (HT0.out.trans ht)
 have hz1 : w.heap.size ≤ w1.heap.size := Nat.le_trans hz0 ht.size
 have HV1 := hide (hv.stay (Stay.at (fun _ hb => Nat.le_trans hz0 hb) _))
 clear hv
 clear h ht H0 HT0
 go_wp2_with fail
 go_ret
 exact ⟨v1, rfl, HV1.out, H1.out, HT1.out⟩
end Go.Proofs.YtljoajjlkjjgeaaGreatDoor
namespace Go.Proofs.YtljoajjlkjjgeaaGreatDoor
open Go.RowKit Go.Sort LM Go

set_option maxHeartbeats 8000000 in
set_option maxRecDepth 100000 in
theorem compare_any {q : Nat} {TL : List Tk} {E : Nat} {M : Rule XT} {G : PSt → Prop} {F : Nat} (hG : Good F G) (hN : Nice M)
  (HM : ∀ s1 w1, G s1 → ParAt q TL E w1 s1 → Calls Tryz.prog 148 #[pP q] w1 (AggTo q TL E w1 (dE (M s1).1) (M s1).2)) (s : PSt) (w : World) (hs : G s) (H : ParAt q TL E w s) :
  Calls Tryz.prog 140 #[pP q] w (AggTo q TL E w (dE (compareS M s).1) (compareS M s).2) := by
 have HMh := hide HM
 have HR := hide (show compareS M s = (match whichS cmpOps (M s).2 with | (some i, s1) => (binE (ba (cmpOps.getD i [])) (M s).1 (M s1).1, (M s1).2) | (none, _) => M s) from rfl)
 generalize compareS M s = RES at *
 have hT1 := hN.tr s H.wf
 have HG1 := hide (hG.tr _ _ hs hT1)
 have HWf1 := hide hT1.wf
 have HC := hide (fun s1 A w1 (h : ParAt q TL E w1 s1) (h2 : StrW q w1 A cmpOps) => which_any A 6 cmpOps w1 h h2 (by decide))
 have cq := H.lt
 have hqq : q < w.heap.size + 1 := by omega
 obtain ⟨W0, hW0⟩ : ∃ W0, W0 = w.alloc (.cells #[.int .i64 0, .string ⟨#[]⟩, .int .i64 0, .int .i64 0, .string ⟨#[]⟩, .string ⟨#[]⟩, .slice none 0 0] 36) := ⟨_, rfl⟩
 have H0 := hide (show ParAt q TL E W0 s by rw [hW0]; exact H.alloc _)
 have HT0 := hide (show Turn q w W0 by rw [hW0]; exact (Turn.refl _ _).alloc _)
 have HB0 := hide (show BoxAt w.heap.size 36 7 W0 by rw [hW0]; exact box_new _ _ _ rfl)
 have hz0 : w.heap.size + 1 ≤ W0.heap.size := by rw [hW0]; simp
 have HW0 := hide hW0
 clear hW0
 have HM1 := hide (HM s W0 hs H0.out)
 have HGood := hide hG
 clear HM hN hT1 H hs hG
 unfold AggTo
 unfold AggTo at HM1 HMh
 skip
 go_enter Tryz.func140, Tryz.ntmps140
 go_wp2_with fail
 rw [← HW0.out]
 refine (HM1.out).mono ?_
 rintro e w1 ⟨vs1, rfl, hv, h, ht⟩
 have H1 := hide h
 have HT1 := hide (HT0.out.trans ht)
 have HB1 := hide (HB0.out.turn ht cq)
 have hz1 : w.heap.size + 1 ≤ w1.heap.size := Nat.le_trans hz0 ht.size
 have HV1 := hide (hv.stay (Stay.at (fun _ hb => Nat.le_trans hz0 hb) _))
 clear hv
 clear h ht H0 HT0 HB0 HM1
 have hlen : vs1.length = 7 := HV1.out.1.trans (dE_len _)
 have hone := hide HV1.out.one_cell
 have HV1k := HV1
 obtain ⟨w2, hw2⟩ : ∃ W, W = w1.alloc (.cells vs1.toArray 36) := ⟨_, rfl⟩
 have HW2 := hide (show w2 = (w1.alloc (.cells #[.int .i64 0, .string ⟨#[]⟩, .int .i64 0, .int .i64 0, .string ⟨#[]⟩, .string ⟨#[]⟩, .slice none 0 0] 36)).setRow w1.heap.size vs1.toArray by rw [hw2, World.setRow_alloc_new])
 have H2 := hide (show ParAt q TL E w2 _ by rw [hw2]; exact H1.out.alloc _)
 have HT2 := hide (show Turn q w w2 by rw [hw2]; exact HT1.out.alloc _)
 have HX2 := hide (show HoldB w1.heap.size 36 vs1 w2 by rw [hw2]; exact heap_alloc_new _ _)
 have hz2 : w.heap.size + 1 ≤ w2.heap.size := by rw [hw2]; simp; omega
 have HY2 := hide (show Below w1.heap.size w1 w2 by rw [hw2]; exact Joins.below_alloc1 _ _)
 have hq2 : q < w1.heap.size := by omega
 have HB2 := hide (show BoxAt w.heap.size 36 7 w2 by rw [hw2]; exact HB1.out.turn ((Turn.refl q _).alloc _) cq)
 have HV1' := hide (show RepC _ w2 _ _ by rw [hw2]; exact HV1.out.stay (Stay.below (Joins.below_alloc1 _ _)))
 clear HV1 hw2 H1 HT1 HB1
 have HV1 := HV1'
 clear HV1'
 obtain ⟨B, hB⟩ : ∃ B, B = w1.heap.size := ⟨_, rfl⟩
 have HBE := hide hB
 have hB1 : w.heap.size < B := by omega
 have hB2 : B < w2.heap.size := by rw [hB]; exact holds_size HX2.out
 have HVx2 := hide (show RepC (PX w.heap.size B w2) w2 (dE (M s).1) vs1 from HV1k.out.stay ⟨fun b hb k => ⟨k, Nat.lt_of_lt_of_le hb HY2.out.size, by omega⟩, HY2.out.size, fun b _ hb => HY2.out.block b hb⟩)
 have HX := hide (show HoldB B 36 vs1 w2 by rw [hB]; exact HX2.out)
 obtain ⟨w3, hw3⟩ : ∃ w3, w3 = w2.alloc (.cells #[.string ⟨#[61]⟩, .string ⟨#[33, 61]⟩, .string ⟨#[60]⟩, .string ⟨#[60, 61]⟩, .string ⟨#[62]⟩, .string ⟨#[62, 61]⟩] 9) := ⟨_, rfl⟩
 have HW3 := hide hw3
 have hz3' : w2.heap.size < w3.heap.size := by rw [hw3]; simp
 have H3 := hide (show ParAt q TL E w3 (M s).2 by rw [hw3]; exact H2.out.alloc _)
 have HT3 := hide (show Turn q w w3 by rw [hw3]; exact HT2.out.alloc _)
 have HB3 := hide (show BoxAt w.heap.size 36 7 w3 by rw [hw3]; exact HB2.out.turn ((Turn.refl q _).alloc _) cq)
 have HX3 := hide (show HoldB B 36 vs1 w3 by rw [hw3]; exact holds_turn HX.out ((Turn.refl q _).alloc _) (by omega))
 have HVx3 := hide (show RepC (PX w.heap.size B w3) w3 (dE (M s).1) vs1 by rw [hw3]; exact HVx2.out.stay (PX.turn ((Turn.refl q _).alloc _) cq))
 have HStr := hide (show StrW q w3 (some ⟨w2.heap.size, 0, none⟩) cmpOps by rw [hw3]; exact strW_new w2 q cmpOps _ (by omega))
 clear hw3 HVx2 HX H2 HT2 HB2 HX2 HV1 HV1k HY2 hB
 go_wp2_with (first | rw [← HW3.out] | (refine wpList_storeBig rfl 36 _ _ rfl w1.heap.size 7 vs1 big_expr hlen hone.out rfl rfl (box_new _ _ _ rfl) ?_; rw [← HW2.out]))
 refine (HC.out _ _ w3 H3.out HStr.out).mono ?_
 rintro e wr ⟨rfl, hp, ht⟩
 have HP := hide hp
 have HTr := hide (HT3.out.trans ht)
 have HBx := hide (HB3.out.turn ht cq)
 have HXx := hide (holds_turn HX3.out ht (by omega))
 have HVx := hide (HVx3.out.stay (PX.turn ht cq))
 have HStr2 := hide (HStr.out.turn ht)
 have hzr : w3.heap.size ≤ wr.heap.size := ht.size
 clear hp ht HT3 HB3 HX3 HVx3 HStr H3 HC HW2 HW3
 rw [← HBE.out]
 cases hw : whichS cmpOps (M s).2 with
 | mk o s2 =>
  rw [hw] at HR HP
  cases o with
  | none =>
   have hss := which_none hw
   simp only at HR HP
   rw [hss] at HP
   rw [show idxI ((none : Option Nat), s2).1 = -1 from rfl, show ((none : Option Nat), s2).1.isSome = false from rfl]
   clear hw hss
   go_wp2_with (first | (refine wpList_loadBig rfl 36 _ rfl B 7 vs1 big_expr hlen rfl HXx.out ?_) | (refine wpList_storeBig rfl 36 _ _ rfl w.heap.size 7 vs1 big_expr hlen hone.out rfl rfl HBx.out ?_))
   refine bodyPost_ret (v := .agg vs1.toArray) (results_big rfl rfl big_expr hlen (set_row _ HBx.out.choose_spec.1)) rfl ?_
   rw [HR.out]
   exact ⟨vs1, rfl, HVx.out.stay ⟨fun b _ k => Nat.le_of_lt k.1, by rw [set_row_size]; exact Nat.le_refl _, fun b k _ => set_row_other _ _ (by omega)⟩, HP.out.row cq _, HTr.out.row (Nat.le_refl _) _⟩
  | some io =>
   simp only at HR HP
   have hTs := (which_lt HWf1.out hw).2
   have HG2 := hide (HGood.out.tr _ _ HG1.out hTs)
   have hio : io < cmpOps.length := by
    unfold whichS at hw
    cases hf : findW cmpOps (aheadS 0 (M s).2) with
    | none => rw [hf] at hw; cases hw
    | some j => rw [hf] at hw; injection hw with h1 h2; injection h1 with h1; subst h1; exact findW_lt hf
   obtain ⟨bo, oo, eA, hbq, hbl, hbc⟩ := HStr2.out io hio
   rw [show cmpOps[io] = cmpOps.getD io [] by rw [List.getD_eq_getElem?_getD, List.getElem?_eq_getElem hio]; rfl] at hbc
   injection eA with eA
   injection eA with eA1 eA2
   rw [← eA1] at hbc hbq hbl
   rw [← eA2] at hbc
   clear eA1 eA2
   have HS0 := hide (show SC q B vs1 wr.heap.size w2.heap.size 0 io (ba (cmpOps.getD io [])) wr.drew from ⟨HXx.out, ⟨hbc, hbl⟩, by omega, hbq, Nat.le_refl _⟩)
   have HMr := hide (HMh.out s2 wr.drew HG2.out (HP.out.on ((Below.refl _ _).drew)))
   generalize cmpOps.getD io [] = op at *
   have hiol : (io : Int) < 6 := by have : cmpOps.length = 6 := rfl; omega
   rw [show idxI (some io, s2).1 = (io : Int) from rfl, show (some io, s2).1.isSome = true from rfl]
   clear hTs hbc hbl hw
   go_wp2_with fail
   refine wp_region_heldBut (S := SC q B vs1 wr.heap.size w2.heap.size 0 io (ba op)) (L := 8) (by kernel_rfl) (HS0.out) (fun hS => ?_)
   refine heldBut_take (i := 0) (oi := ⟨some 17, _, _, _, _, _⟩) (v := ?_) rfl (by kernel_rfl) (by kernel_rfl) (by kernel_rfl) (by kernel_rfl) (fun _ _ _ h => h) (Or.inl ⟨by rfl, ?_⟩) hS ?_
   rotate_left 1
   ·intro w' hw'
    have hb1 := hw'.2.1; simp only [Nat.zero_add] at hb1; have hb2 := hw'.2.2
    go_simp
    all_goals with_reducible rfl
   try simp only [Act.put, List.setIfInBounds_toArray, List.set_cons_zero, List.set_cons_succ]
   refine heldBut_take (i := 1) (oi := ⟨some 18, _, _, _, _, _⟩) (v := ?_) rfl (by kernel_rfl) (by kernel_rfl) (by kernel_rfl) (by kernel_rfl) (fun _ _ _ h => h) (Or.inl ⟨by rfl, ?_⟩) hS ?_
   rotate_left 1
   ·intro w' hw'
    have hb1 := hw'.2.1; simp only [Nat.zero_add] at hb1; have hb2 := hw'.2.2
    go_simp
    all_goals with_reducible rfl
   try simp only [Act.put, List.setIfInBounds_toArray, List.set_cons_zero, List.set_cons_succ]
   refine heldBut_take (i := 2) (oi := ⟨some 19, _, _, _, _, _⟩) (v := ?_) rfl (by kernel_rfl) (by kernel_rfl) (by kernel_rfl) (by kernel_rfl) (fun _ _ _ h => h) (Or.inl ⟨by rfl, ?_⟩) hS ?_
   rotate_left 1
   ·intro w' hw'
    have hb1 := hw'.2.1; simp only [Nat.zero_add] at hb1; have hb2 := hw'.2.2
    go_simp
    all_goals with_reducible rfl
   try simp only [Act.put, List.setIfInBounds_toArray, List.set_cons_zero, List.set_cons_succ]
   refine heldBut_take (i := 3) (oi := ⟨some 20, _, _, _, _, _⟩) (v := ?_) rfl (by kernel_rfl) (by kernel_rfl) (by kernel_rfl) (by kernel_rfl) (fun _ _ _ h => h) (Or.inl ⟨by rfl, ?_⟩) hS ?_
   rotate_left 1
   ·intro w' hw'
    have hb1 := hw'.2.1; simp only [Nat.zero_add] at hb1; have hb2 := hw'.2.2
    go_simp
    all_goals with_reducible rfl
   try simp only [Act.put, List.setIfInBounds_toArray, List.set_cons_zero, List.set_cons_succ]
   refine heldBut_take (i := 4) (oi := ⟨some 21, _, _, _, _, _⟩) (v := ?_) rfl (by kernel_rfl) (by kernel_rfl) (by kernel_rfl) (by kernel_rfl) (fun _ _ _ h => h) (Or.inl ⟨by rfl, ?_⟩) hS ?_
   rotate_left 1
   ·intro w' hw'
    refine run_load_op 36 (.tmp 3) ?_ B 7 vs1 big_expr hlen ?_ hw'.1 <;> rfl
   try simp only [Act.put, List.setIfInBounds_toArray, List.set_cons_zero, List.set_cons_succ]
   refine heldBut_take (i := 5) (oi := ⟨some 22, _, _, _, _, _⟩) (v := ?_) rfl (by kernel_rfl) (by kernel_rfl) (by kernel_rfl) (by kernel_rfl) (fun _ _ _ h => h) (Or.inl ⟨by rfl, ?_⟩) hS ?_
   rotate_left 1
   ·intro w' hw'
    have hb1 := hw'.2.1; simp only [Nat.zero_add] at hb1; have hb2 := hw'.2.2
    go_simp
    all_goals with_reducible rfl
   try simp only [Act.put, List.setIfInBounds_toArray, List.set_cons_zero, List.set_cons_succ]
   refine heldBut_one (i := 6) (o := ⟨some 23, _, _, _, _, _⟩) (by kernel_rfl) rfl (fun K hK => ?_)
   go_simp
   go_at_call 148
   refine (HMr.out).mono ?_
   rintro e w5 ⟨vy, rfl, hv, h5, ht5⟩
   have HT5 := hide (Turn.trans ((Turn.refl q wr).drew) ht5)
   have HS5 := hide (show SC q B vs1 wr.heap.size w2.heap.size 0 io (ba op) w5 from hS.turn ht5)
   have H5 := hide h5
   have HVy := hide hv
   have HVx5 := hide (show RepC _ w5 _ _ from HVx.out.stay (Stay.trans (Stay.below (w' := wr.drew) ((Below.refl _ _).drew)) (PX.turn ht5 cq)))
   clear hv h5 ht5
   refine hK.out _ _ (Or.inr HS5.out) (fun hS => ?_)
   clear hK K
   replace hS := hS.resolve_left (by decide)
   try simp only [Act.put, List.setIfInBounds_toArray, List.set_cons_zero, List.set_cons_succ]
   refine heldBut_one (i := 7) (o := ⟨some 24, _, _, _, _, _⟩) (by kernel_rfl) rfl (fun K hK => ?_)
   go_simp
   go_at_call 128
   refine (binD_any (ba op) (M s).1 (M s2).1 vs1 vy w5 HVx5.out HVy.out).mono ?_
   rintro e w6 ⟨⟨us, rfl, hr⟩, hb6⟩
   have HS6 := hide (show SC q B vs1 wr.heap.size w2.heap.size 0 io (ba op) w6 from hS.turn (Turn.of hb6))
   have HT6 := hide (HT5.out.on hb6)
   have H6 := hide (H5.out.on hb6)
   have HR6 := hide hr
   have hs56 := hb6.size
   have hus : us.length = 7 := hr.1.trans (dE_len _)
   have hone := hr.one_cell
   have hs5 := HT5.out.size
   clear hr hb6 HVx5 HVy H5 HS5
   refine hK.out _ _ (Or.inr HS6.out) (fun hS => ?_)
   clear hK K
   replace hS := hS.resolve_left (by decide)
   try simp only [Act.put, List.setIfInBounds_toArray, List.set_cons_zero, List.set_cons_succ]
   refine heldBut_one (i := 8) (o := ⟨none, _, _, _, _, _⟩) (by kernel_rfl) rfl (fun K hK => ?_)
   refine step_storeBig rfl 36 _ _ rfl B 7 us big_expr hus hone rfl rfl (holds_box HS6.out.1 hlen) ?_
   refine hK.out _ _ (Or.inl rfl) (fun hS => ?_)
   clear hK K
   try simp only [Act.put]
   refine heldBut_done (by kernel_rfl) ?_ _
   have hBr : B < wr.heap.size := holds_size HXx.out
   obtain ⟨w7, hw7⟩ : ∃ w7, w7 = w6.setRow B us.toArray := ⟨_, rfl⟩
   have HW7 := hide hw7
   have H7 := hide (show ParAt q TL E w7 (M s2).2 by rw [hw7]; exact H6.out.row (by omega) _)
   have HT7 := hide (show Turn q w w7 by rw [hw7]; exact (HTr.out.trans HT6.out).row (Nat.le_of_lt hB1) _)
   have HX7 := hide (show HoldB B 36 us w7 by rw [hw7]; exact set_row _ HS6.out.1)
   have HB7 := hide (show BoxAt w.heap.size 36 7 w7 by
    rw [hw7]
    obtain ⟨o, h, hn⟩ := HBx.out.turn HT6.out cq
    exact ⟨o, (set_row_other _ _ (by omega)).trans h, hn⟩)
   have hs6 := HT6.out.size
   have HV7 := hide (show RepC (New (w.heap.size + 1)) w7 _ us by
    rw [hw7]
    exact HR6.out.stay ⟨fun b hb k => by rcases k with k | k | k; exact k.1; have : wr.heap.size ≤ b := k; show w.heap.size + 1 ≤ b; omega; show w.heap.size + 1 ≤ b; omega,
     by rw [set_row_size]; exact Nat.le_refl _, fun b k _ => set_row_other _ _ (by rcases k with k | k | k; exact k.2.2; have : wr.heap.size ≤ b := k; omega; omega)⟩)
   clear hw7 HS6 HT6 H6 HR6 hS HBx HVx HXx HS0 HMr
   rw [← HW7.out]
   clear HW7
   go_wp2_with (first | (refine wpList_loadBig rfl 36 _ rfl B 7 us big_expr hus rfl HX7.out ?_) | (refine wpList_storeBig rfl 36 _ _ rfl w.heap.size 7 us big_expr hus (by assumption) rfl rfl HB7.out ?_))
   refine bodyPost_ret (v := .agg us.toArray) (results_big rfl rfl big_expr hus (set_row _ HB7.out.choose_spec.1)) rfl ?_
   rw [HR.out]
   exact ⟨us, rfl, HV7.out.ret (Nat.lt_succ_self _) (Nat.le_succ _) _, H7.out.row cq _, HT7.out.row (Nat.le_refl _) _⟩
end Go.Proofs.YtljoajjlkjjgeaaGreatDoor
namespace Go.Proofs.YtljoajjlkjjgeaaGreatDoor
open Go.RowKit Go.Sort LM Go

set_option maxHeartbeats 8000000 in
set_option maxRecDepth 100000 in
theorem notYes {q : Nat} {TL : List Tk} {E : Nat} (X : XT × PSt) (s : PSt) (w : World) (H : ParAt q TL E w s) (hc : isT (aheadS 0 s) [110, 111, 116] = true) (hz : szX X.1 ≤ 1000000)
  (HM : ∀ w1, ParAt q TL E w1 (takeS s).2 → Calls Tryz.prog 139 #[pP q, .func (.func 129) #[pP q] #[]] w1 (AggTo q TL E w1 (dE X.1) X.2)) :
  Calls Tryz.prog 129 #[pP q] w (AggTo q TL E w (dE (unE (ba [110, 111, 116]) X.1)) X.2) := by
 have HMh := hide HM
 have HC := hide (fun w1 (h : ParAt q TL E w1 s) => accept_any [110, 111, 116] w1 h)
 have hac : (if isT (aheadS 0 s) [110, 111, 116] = true then (takeS s).2 else s) = (takeS s).2 := if_pos hc
 rw [hac, hc] at HC
 generalize (takeS s).2 = s1 at *
 have cq := H.lt
 have hqq : q < w.heap.size + 1 := by omega
 obtain ⟨W0, hW0⟩ : ∃ W0, W0 = w.alloc (.cells #[.int .i64 0, .string ⟨#[]⟩, .int .i64 0, .int .i64 0, .string ⟨#[]⟩, .string ⟨#[]⟩, .slice none 0 0] 36) := ⟨_, rfl⟩
 have H0 := hide (show ParAt q TL E W0 s by rw [hW0]; exact H.alloc _)
 have HT0 := hide (show Turn q w W0 by rw [hW0]; exact (Turn.refl _ _).alloc _)
 have HB0 := hide (show BoxAt w.heap.size 36 7 W0 by rw [hW0]; exact box_new _ _ _ rfl)
 have hz0 : w.heap.size + 1 ≤ W0.heap.size := by rw [hW0]; simp
 have HW0 := hide hW0
 clear hW0
 unfold AggTo at HMh ⊢
 unfold StepTo at HC
 clear HM hac hc
 clear H
 go_enter Tryz.func129, Tryz.ntmps129
 go_wp2_with fail
 rw [← HW0.out]
 refine (HC.out W0 H0.out).mono ?_
 rintro e w1 ⟨rfl, h, ht⟩
 have H1 := hide h
 have HT1 := hide (HT0.out.trans ht)
 have HB1 := hide (HB0.out.turn ht cq)
 have hz1 : w.heap.size + 1 ≤ w1.heap.size := Nat.le_trans hz0 ht.size
 clear h ht H0 HT0 HB0 HC
 go_wp2_with fail
 refine (HMh.out w1 H1.out).mono ?_
 rintro e w2 ⟨vs2, rfl, hv, h, ht⟩
 have H2 := hide h
 have HT2 := hide (HT1.out.trans ht)
 have HB2 := hide (HB1.out.turn ht cq)
 have hz2 : w.heap.size + 1 ≤ w2.heap.size := Nat.le_trans hz1 ht.size
 have HV2 := hide (hv.stay (Stay.at (fun _ hb => Nat.le_trans hz1 hb) _))
 clear hv
 clear h ht H1 HT1 HB1 HMh
 go_wp2_with fail
 refine (unD_any (ba [110, 111, 116]) X.1 vs2 w2 HV2.out hz).mono ?_
 rintro e w3 ⟨⟨vs3, rfl, hv⟩, hb⟩
 have ht : Turn q w2 w3 := Turn.of hb
 have H3 := hide (H2.out.on hb)
 have HT3 := hide (HT2.out.trans ht)
 have HB3 := hide (HB2.out.turn ht cq)
 have hz3 : w.heap.size + 1 ≤ w3.heap.size := Nat.le_trans hz2 ht.size
 replace HV2 := hide (HV2.out.stay (Stay.new ht hqq (Nat.le_refl _)))
 have HV3 := hide (hv.stay (Stay.at (fun _ hb => Nat.le_trans hz2 hb) _))
 clear hv
 clear hb ht H2 HT2 HB2
 have hlen : vs3.length = 7 := HV3.out.1.trans (dE_len _)
 have hone := HV3.out.one_cell
 go_wp2_with ((refine wpList_storeBig rfl 36 _ _ rfl w.heap.size 7 vs3 big_expr hlen hone rfl rfl HB3.out ?_))
 refine bodyPost_ret (v := .agg vs3.toArray) (results_big rfl rfl big_expr hlen (set_row _ HB3.out.choose_spec.1)) rfl ?_
 exact ⟨vs3, rfl, HV3.out.ret (Nat.lt_succ_self _) (Nat.le_succ _) _, H3.out.row cq _, HT3.out.row (Nat.le_refl _) _⟩
set_option maxHeartbeats 8000000 in
set_option maxRecDepth 100000 in
theorem notNo {q : Nat} {TL : List Tk} {E : Nat} (X : XT × PSt) (s : PSt) (w : World) (H : ParAt q TL E w s) (hc : isT (aheadS 0 s) [110, 111, 116] = false)
  (HM : ∀ w1, ParAt q TL E w1 s → Calls Tryz.prog 140 #[pP q] w1 (AggTo q TL E w1 (dE X.1) X.2)) :
  Calls Tryz.prog 129 #[pP q] w (AggTo q TL E w (dE X.1) X.2) := by
 have HMh := hide HM
 have HC := hide (fun w1 (h : ParAt q TL E w1 s) => accept_any [110, 111, 116] w1 h)
 have hac : (if isT (aheadS 0 s) [110, 111, 116] = true then (takeS s).2 else s) = s := if_neg (by rw [hc]; simp)
 rw [hac, hc] at HC
 have cq := H.lt
 have hqq : q < w.heap.size + 1 := by omega
 obtain ⟨W0, hW0⟩ : ∃ W0, W0 = w.alloc (.cells #[.int .i64 0, .string ⟨#[]⟩, .int .i64 0, .int .i64 0, .string ⟨#[]⟩, .string ⟨#[]⟩, .slice none 0 0] 36) := ⟨_, rfl⟩
 have H0 := hide (show ParAt q TL E W0 s by rw [hW0]; exact H.alloc _)
 have HT0 := hide (show Turn q w W0 by rw [hW0]; exact (Turn.refl _ _).alloc _)
 have HB0 := hide (show BoxAt w.heap.size 36 7 W0 by rw [hW0]; exact box_new _ _ _ rfl)
 have hz0 : w.heap.size + 1 ≤ W0.heap.size := by rw [hW0]; simp
 have HW0 := hide hW0
 clear hW0
 unfold AggTo at HMh ⊢
 unfold StepTo at HC
 clear HM hac hc
 clear H
 go_enter Tryz.func129, Tryz.ntmps129
 go_wp2_with fail
 rw [← HW0.out]
 refine (HC.out W0 H0.out).mono ?_
 rintro e w1 ⟨rfl, h, ht⟩
 have H1 := hide h
 have HT1 := hide (HT0.out.trans ht)
 have HB1 := hide (HB0.out.turn ht cq)
 have hz1 : w.heap.size + 1 ≤ w1.heap.size := Nat.le_trans hz0 ht.size
 clear h ht H0 HT0 HB0 HC
 go_wp2_with fail
 refine (HMh.out w1 H1.out).mono ?_
 rintro e w2 ⟨vs2, rfl, hv, h, ht⟩
 have H2 := hide h
 have HT2 := hide (HT1.out.trans ht)
 have HB2 := hide (HB1.out.turn ht cq)
 have hz2 : w.heap.size + 1 ≤ w2.heap.size := Nat.le_trans hz1 ht.size
 have HV2 := hide (hv.stay (Stay.at (fun _ hb => Nat.le_trans hz1 hb) _))
 clear hv
 clear h ht H1 HT1 HB1 HMh
 have hlen : vs2.length = 7 := HV2.out.1.trans (dE_len _)
 have hone := HV2.out.one_cell
 go_wp2_with ((refine wpList_storeBig rfl 36 _ _ rfl w.heap.size 7 vs2 big_expr hlen hone rfl rfl HB2.out ?_))
 refine bodyPost_ret (v := .agg vs2.toArray) (results_big rfl rfl big_expr hlen (set_row _ HB2.out.choose_spec.1)) rfl ?_
 exact ⟨vs2, rfl, HV2.out.ret (Nat.lt_succ_self _) (Nat.le_succ _) _, H2.out.row cq _, HT2.out.row (Nat.le_refl _) _⟩
end Go.Proofs.YtljoajjlkjjgeaaGreatDoor
