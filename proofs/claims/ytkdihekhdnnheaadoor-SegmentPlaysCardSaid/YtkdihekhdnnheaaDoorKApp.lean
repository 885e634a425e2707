/-
  Append, Cut, Limit; New; Read.
-/
import Derived.Test.YtkdihekhdnnheaaDoorMK
import Derived.RegionTactic
import Derived.Deep.RegionWith
namespace Go.Proofs.YtkdihekhdnnheaaDoor
open Go.RowKit

/-- More bytes at the end of a file. -/
def addP (p : PD) (i : Nat) (ys : List UInt8) : PD := { p with xs := upd p.xs i (p.xs i ++ ys), s := upd p.s i (p.s i) }
theorem upd_self {α : Type} (f : Nat → α) (i : Nat) : upd f i (f i) = f := by
  funext j
  by_cases h : j = i
  · rw [h, upd_same]
  · rw [upd_other _ _ h]
theorem add_used {p : PD} {i : Nat} {ys : List UInt8} (hi : i < 4) : (addP p i ys).used = p.used + ys.length := by
  unfold PD.used
  show (upd p.xs i (p.xs i ++ ys) 0).length + (upd p.xs i (p.xs i ++ ys) 1).length + (upd p.xs i (p.xs i ++ ys) 2).length + (upd p.xs i (p.xs i ++ ys) 3).length = _
  rcases (by omega : i = 0 ∨ i = 1 ∨ i = 2 ∨ i = 3) with rfl | rfl | rfl | rfl <;> simp [upd] <;> omega
theorem add_ok {p : PD} (h : p.Ok) {i : Nat} {ys : List UInt8} (hi : i < 4) (hu : p.used + ys.length ≤ 1073741824) : (addP p i ys).Ok := by
  refine ⟨h.cap0, h.cap1, by rw [add_used hi]; exact hu, fun j hj => ?_, fun j hj => ?_, h.done0, h.left0, h.left1⟩
  · show 0 ≤ upd p.s i (p.s i) j
    rw [upd_self]; exact h.s0 j hj
  · show upd p.s i (p.s i) j ≤ ((upd p.xs i (p.xs i ++ ys) j).length : Int)
    rw [upd_self]
    have := h.s1 j hj
    by_cases e : j = i
    · rw [e] at this ⊢
      rw [upd_same, List.length_append]; omega
    · rw [upd_other _ _ e]; exact this
def appE (p : PD) (n : Int) (k : Nat) : Int := if checkE p n = 0 then (if p.cap < (p.used + k : Nat) then 41 else cmdE p) else checkE p n
def appP (p : PD) (n : Int) (ys : List UInt8) : PD := if checkE p n = 0 then (if p.cap < (p.used + ys.length : Nat) then p else cmdP (addP p n.toNat ys)) else p
theorem app_ok {p : PD} (h : p.Ok) (n : Int) (ys : List UInt8) : (appP p n ys).Ok := by
  unfold appP
  split
  · rename_i hc
    obtain ⟨_, hf⟩ := checkE_zero hc
    have hn := fileB_four hf
    split
    · exact h
    · refine cmd_ok (add_ok h (by omega) ?_)
      have := h.cap1
      omega
  · exact h
theorem app_put {base g : Nat} {D : DS} {i o : Nat} {ys : List UInt8} {w2 w3 : World} {v' : Value} (hi : i < 4) (ho : o = 2 * i) (hD : DiskAt base g w2 D) (h1 : w3.ownsRow base 5 1 v' ((D.p.xs i).length + ys.length) (byC (D.p.xs i ++ ys))) (h2 : w2.grownBy w3 (D.v i).ownBlock) (h3 : v'.ownBlock = (D.v i).ownBlock ∨ v'.ownBlock = some w2.heap.size) :
    w3.cell? ⟨g, o, none⟩ = some (D.v i) ∧ w3.frozen? ⟨g, o, none⟩ = false ∧ w2.heap.size ≤ w3.heap.size ∧ DiskAt base g (w3.setCell ⟨g, o, none⟩ v') (putD D i (D.p.xs i ++ ys) (D.p.s i) v') ∧ Turned g D (putD D i (D.p.xs i ++ ys) (D.p.s i) v') w2 (w3.setCell ⟨g, o, none⟩ v') := by
  subst ho
  have hlt := hD.lt
  have hbx : w3.heap[g]? = some (.cells (dCells D) 58 (0, 0)) := (h2.block g hlt (fun e => hD.off i hi g e.symm rfl)).trans hD.box
  have hc : w3.cell? ⟨g, 2 * i, none⟩ = some (D.v i) := by
    rw [Lib.cell_of_heap hbx]
    rcases (by omega : i = 0 ∨ i = 1 ∨ i = 2 ∨ i = 3) with rfl | rfl | rfl | rfl <;> rfl
  have hvg : ∀ b, v'.ownBlock = some b → b ≠ g := fun b e => by
    rcases h3 with h | h
    · exact hD.off i hi b (h.symm.trans e)
    · rw [e] at h; injection h with h; omega
  have := hD.put (w' := w3.setCell ⟨g, 2 * i, none⟩ v') (i := i) (v := v') (ys := D.p.xs i ++ ys) (s := D.p.s i) hi h2.os h2.tape h2.output (by have := h2.size; simpa [World.setCell] using this)
    (by
      rw [Joins.block_setCell (i := 2 * i) hbx v']
      rcases (by omega : i = 0 ∨ i = 1 ∨ i = 2 ∨ i = 3) with rfl | rfl | rfl | rfl <;> simp [putD, upd])
    (by
      rw [List.length_append]
      exact row_same h1 fun b e => Below.heap_setCell _ _ _ _ (hvg b e))
    (fun b hb hg ho => by
      rw [Below.heap_setCell _ _ _ _ hg]
      exact h2.block b hb (fun e => ho e.symm))
    (fun b e => by
      rcases h3 with h | h
      · exact .inl (h.symm.trans e)
      · rw [e] at h; injection h with h; exact .inr (by omega))
  exact ⟨hc, Lib.frozen_of_heap hbx _, h2.size, this.1, this.2⟩
set_option maxHeartbeats 3200000 in
set_option maxRecDepth 100000 in
theorem append_any {base g : Nat} {D : DS} (n : Int) (A : Option Addr) (c : Nat) (ys : List UInt8) (w : World) (hD : DiskAt base g w D) (hO : D.p.Ok) (hd : D.p.done ≤ 1000000000000) (hY : BytesAt w.heap.size w A ys) (hnil : A = none → c = 0) (hl : ys.length ≤ 140737488355328) :
    Calls Tryd.prog 34 #[vD g, .int .i64 n, .slice A ys.length c] w fun e w' => e = .returned (.int .i64 (appE D.p n ys.length)) ∧ ∃ D' : DS, D'.p = appP D.p n ys ∧ DiskAt base g w' D' ∧ Turned g D D' w w' := by
  have HC := hide (check_any n w hD)
  have HE := hide (show appE D.p n ys.length = (if checkE D.p n = 0 then (if D.p.cap < (D.p.used + ys.length : Nat) then 41 else cmdE D.p) else checkE D.p n) from rfl)
  have HP := hide (show appP D.p n ys = (if checkE D.p n = 0 then (if D.p.cap < (D.p.used + ys.length : Nat) then D.p else cmdP (addP D.p n.toNat ys)) else D.p) from rfl)
  have HD := hide hD
  have HO := hide hO
  have HY := hide hY
  have HN := hide hnil
  have hus := hO.used
  have hwr : IntKind.i64.wrap ((D.p.used : Int) + (ys.length : Int)) = (D.p.used : Int) + (ys.length : Int) := by
    unfold IntKind.wrap
    simp [IntKind.signed, IntKind.bits]
    omega
  have hcap := hO.cap1
  generalize appE D.p n ys.length = qe at *
  generalize appP D.p n ys = qp at *
  by_cases h0 : checkE D.p n = 0
  · obtain ⟨_, hf⟩ := checkE_zero h0
    have hn := fileB_four hf
    have hn0 : (0 : Int) ≤ n := by omega
    have hn1 : n < 4 := by omega
    rw [if_pos h0] at HE HP
    rw [h0] at HC
    have HU := hide (fun w' (h : Below w.heap.size w w') => used_any w' (hD.below h) hO)
    clear h0 hf hY hnil
    by_cases hr : D.p.cap < (D.p.used + ys.length : Nat)
    · have hr' : D.p.cap < (D.p.used : Nat) + (ys.length : Nat) := by omega
      rw [if_pos hr] at HE HP
      clear hD hO hr
      go_enter Tryd.func34, Tryd.ntmps34
      go_wp2_with fail
      refine HC.out.mono ?_
      rintro e w1 ⟨rfl, hb1⟩
      have HB1 := hide hb1
      clear hb1
      have HU1 := hide (HU.out w1.drew HB1.out.drew)
      obtain ⟨c0, c1, c2, c3, c4, c5, c6, c7, c8, c9, c10, c11⟩ := (HD.out.below HB1.out).cells
      go_wp2_with fail
      go_region_with (first | (go_at_call 55; refine HU1.out.mono ?_; rintro e w2 ⟨rfl, hb2⟩; have HB2 := hide (then_below HB1.out.drew hb2); obtain ⟨k0, k1, k2, k3, k4, k5, k6, k7, k8, k9, k10, k11⟩ := (HD.out.below HB2.out).cells; clear hb2))
      all_goals
        go_wp2_with fail
        go_ret
        exact ⟨ret_int HE.out.symm, D, HP.out.symm, HD.out.below HB2.out, Turned.of_below HB2.out⟩
    · have hr' : ¬ D.p.cap < (D.p.used : Nat) + (ys.length : Nat) := by omega
      rw [if_neg hr] at HE HP
      have hi : n.toNat < 4 := by omega
      have hlen := hO.len hi
      have hys : ys.length ≤ 1073741824 := by omega
      have HCm := hide (fun (D' : DS) w' (h1 : D'.p = addP D.p n.toNat ys) (h2 : DiskAt base g w' D') => (command_any w' h2 (by rw [h1]; exact add_ok hO hi (by omega)) (by rw [h1]; exact hd)).mono fun e w1 hh => (by
        obtain ⟨e1, D2, e2, -, e3, e4⟩ := hh
        exact ⟨by rw [e1, h1]; rfl, D2, by rw [e2, h1], e3, e4⟩ : e = .returned (.int .i64 (cmdE D.p)) ∧ ∃ D2 : DS, D2.p = cmdP (addP D.p n.toNat ys) ∧ DiskAt base g w1 D2 ∧ Turned g D' D2 w' w1))
      clear hD hO hr hd
      rcases hn with rfl | rfl | rfl | rfl
      · have hlen' : (D.p.xs 0).length ≤ 1073741824 := hlen
        have HRow := hide (fun w' (h : Below w.heap.size w w') => (HD.out.below h).row 0 (by decide))
        have HP2 := hide (show qp = cmdP (addP D.p 0 ys) from HP.out)
        have HCm3 := hide (fun (D' : DS) w' (h1 : D'.p = addP D.p 0 ys) (h2 : DiskAt base g w' D') => HCm.out D' w' h1 h2)
        clear HP HCm
        go_enter Tryd.func34, Tryd.ntmps34
        go_wp2_with fail
        refine HC.out.mono ?_
        rintro e w1 ⟨rfl, hb1⟩
        have HB1 := hide hb1
        clear hb1
        have HU1 := hide (HU.out w1.drew HB1.out.drew)
        obtain ⟨c0, c1, c2, c3, c4, c5, c6, c7, c8, c9, c10, c11⟩ := (HD.out.below HB1.out).cells
        go_wp2_with fail
        go_region_with (first | (go_at_call 55; refine HU1.out.mono ?_; rintro e w2 ⟨rfl, hb2⟩; have HB2 := hide (then_below HB1.out.drew hb2); obtain ⟨k0, k1, k2, k3, k4, k5, k6, k7, k8, k9, k10, k11⟩ := (HD.out.below HB2.out).cells; clear hb2))
        all_goals
          have hbs := HD.out.hg
          have hlt := (HD.out.below HB2.out).lt
          clear c0 c1 c2 c3 c4 c5 c6 c7 c8 c9 c10 c11
          go_wp2_with (at_builtin; go_must (refine append_bytesK rfl _ _ rfl base (D.v 0) (D.p.xs 0) ys (D.p.xs 0).length rfl (HRow.out _ HB2.out) _ A c rfl (HY.out.on HB2.out) HN.out (by omega) (by omega) ?_))
          intro v' w3 hown3 hgrow3 hat3
          obtain ⟨A3, c3, rfl, -⟩ := row_slice hown3
          obtain ⟨q0, qf, hs3, hput, hTurn⟩ := app_put (i := 0) (o := 0) (by decide) rfl (HD.out.below HB2.out) hown3 hgrow3 hat3
          have HPt := hide hput
          have HTn := hide hTurn
          clear hown3 hgrow3 hat3 hput hTurn k0 k1 k2 k3 k4 k5 k6 k7 k8 k9 k10 k11
          have HCm2 := hide (HCm3.out _ _ rfl HPt.out)
          clear HCm3 HU HU1
          go_wp2_with fail
          refine HCm2.out.mono ?_
          rintro e w5 ⟨rfl, D2, e2, hD2, hT2⟩
          have HF := hide (show ∃ D' : DS, D'.p = qp ∧ DiskAt base g w5 D' ∧ Turned g D D' w w5 from ⟨D2, by rw [e2, HP2.out]; rfl, hD2, ((Turned.of_below HB2.out).trans HTn.out).trans hT2⟩)
          clear e2 hD2 hT2
          go_wp2_with fail
          go_ret
          exact ⟨ret_int HE.out.symm, HF.out⟩
      · have hlen' : (D.p.xs 1).length ≤ 1073741824 := hlen
        have HRow := hide (fun w' (h : Below w.heap.size w w') => (HD.out.below h).row 1 (by decide))
        have HP2 := hide (show qp = cmdP (addP D.p 1 ys) from HP.out)
        have HCm3 := hide (fun (D' : DS) w' (h1 : D'.p = addP D.p 1 ys) (h2 : DiskAt base g w' D') => HCm.out D' w' h1 h2)
        clear HP HCm
        go_enter Tryd.func34, Tryd.ntmps34
        go_wp2_with fail
        refine HC.out.mono ?_
        rintro e w1 ⟨rfl, hb1⟩
        have HB1 := hide hb1
        clear hb1
        have HU1 := hide (HU.out w1.drew HB1.out.drew)
        obtain ⟨c0, c1, c2, c3, c4, c5, c6, c7, c8, c9, c10, c11⟩ := (HD.out.below HB1.out).cells
        go_wp2_with fail
        go_region_with (first | (go_at_call 55; refine HU1.out.mono ?_; rintro e w2 ⟨rfl, hb2⟩; have HB2 := hide (then_below HB1.out.drew hb2); obtain ⟨k0, k1, k2, k3, k4, k5, k6, k7, k8, k9, k10, k11⟩ := (HD.out.below HB2.out).cells; clear hb2))
        all_goals
          have hbs := HD.out.hg
          have hlt := (HD.out.below HB2.out).lt
          clear c0 c1 c2 c3 c4 c5 c6 c7 c8 c9 c10 c11
          go_wp2_with (at_builtin; go_must (refine append_bytesK rfl _ _ rfl base (D.v 1) (D.p.xs 1) ys (D.p.xs 1).length rfl (HRow.out _ HB2.out) _ A c rfl (HY.out.on HB2.out) HN.out (by omega) (by omega) ?_))
          intro v' w3 hown3 hgrow3 hat3
          obtain ⟨A3, c3, rfl, -⟩ := row_slice hown3
          obtain ⟨q0, qf, hs3, hput, hTurn⟩ := app_put (i := 1) (o := 2) (by decide) rfl (HD.out.below HB2.out) hown3 hgrow3 hat3
          have HPt := hide hput
          have HTn := hide hTurn
          clear hown3 hgrow3 hat3 hput hTurn k0 k1 k2 k3 k4 k5 k6 k7 k8 k9 k10 k11
          have HCm2 := hide (HCm3.out _ _ rfl HPt.out)
          clear HCm3 HU HU1
          go_wp2_with fail
          refine HCm2.out.mono ?_
          rintro e w5 ⟨rfl, D2, e2, hD2, hT2⟩
          have HF := hide (show ∃ D' : DS, D'.p = qp ∧ DiskAt base g w5 D' ∧ Turned g D D' w w5 from ⟨D2, by rw [e2, HP2.out]; rfl, hD2, ((Turned.of_below HB2.out).trans HTn.out).trans hT2⟩)
          clear e2 hD2 hT2
          go_wp2_with fail
          go_ret
          exact ⟨ret_int HE.out.symm, HF.out⟩
      · have hlen' : (D.p.xs 2).length ≤ 1073741824 := hlen
        have HRow := hide (fun w' (h : Below w.heap.size w w') => (HD.out.below h).row 2 (by decide))
        have HP2 := hide (show qp = cmdP (addP D.p 2 ys) from HP.out)
        have HCm3 := hide (fun (D' : DS) w' (h1 : D'.p = addP D.p 2 ys) (h2 : DiskAt base g w' D') => HCm.out D' w' h1 h2)
        clear HP HCm
        go_enter Tryd.func34, Tryd.ntmps34
        go_wp2_with fail
        refine HC.out.mono ?_
        rintro e w1 ⟨rfl, hb1⟩
        have HB1 := hide hb1
        clear hb1
        have HU1 := hide (HU.out w1.drew HB1.out.drew)
        obtain ⟨c0, c1, c2, c3, c4, c5, c6, c7, c8, c9, c10, c11⟩ := (HD.out.below HB1.out).cells
        go_wp2_with fail
        go_region_with (first | (go_at_call 55; refine HU1.out.mono ?_; rintro e w2 ⟨rfl, hb2⟩; have HB2 := hide (then_below HB1.out.drew hb2); obtain ⟨k0, k1, k2, k3, k4, k5, k6, k7, k8, k9, k10, k11⟩ := (HD.out.below HB2.out).cells; clear hb2))
        all_goals
          have hbs := HD.out.hg
          have hlt := (HD.out.below HB2.out).lt
          clear c0 c1 c2 c3 c4 c5 c6 c7 c8 c9 c10 c11
          go_wp2_with (at_builtin; go_must (refine append_bytesK rfl _ _ rfl base (D.v 2) (D.p.xs 2) ys (D.p.xs 2).length rfl (HRow.out _ HB2.out) _ A c rfl (HY.out.on HB2.out) HN.out (by omega) (by omega) ?_))
          intro v' w3 hown3 hgrow3 hat3
          obtain ⟨A3, c3, rfl, -⟩ := row_slice hown3
          obtain ⟨q0, qf, hs3, hput, hTurn⟩ := app_put (i := 2) (o := 4) (by decide) rfl (HD.out.below HB2.out) hown3 hgrow3 hat3
          have HPt := hide hput
          have HTn := hide hTurn
          clear hown3 hgrow3 hat3 hput hTurn k0 k1 k2 k3 k4 k5 k6 k7 k8 k9 k10 k11
          have HCm2 := hide (HCm3.out _ _ rfl HPt.out)
          clear HCm3 HU HU1
          go_wp2_with fail
          refine HCm2.out.mono ?_
          rintro e w5 ⟨rfl, D2, e2, hD2, hT2⟩
          have HF := hide (show ∃ D' : DS, D'.p = qp ∧ DiskAt base g w5 D' ∧ Turned g D D' w w5 from ⟨D2, by rw [e2, HP2.out]; rfl, hD2, ((Turned.of_below HB2.out).trans HTn.out).trans hT2⟩)
          clear e2 hD2 hT2
          go_wp2_with fail
          go_ret
          exact ⟨ret_int HE.out.symm, HF.out⟩
      · have hlen' : (D.p.xs 3).length ≤ 1073741824 := hlen
        have HRow := hide (fun w' (h : Below w.heap.size w w') => (HD.out.below h).row 3 (by decide))
        have HP2 := hide (show qp = cmdP (addP D.p 3 ys) from HP.out)
        have HCm3 := hide (fun (D' : DS) w' (h1 : D'.p = addP D.p 3 ys) (h2 : DiskAt base g w' D') => HCm.out D' w' h1 h2)
        clear HP HCm
        go_enter Tryd.func34, Tryd.ntmps34
        go_wp2_with fail
        refine HC.out.mono ?_
        rintro e w1 ⟨rfl, hb1⟩
        have HB1 := hide hb1
        clear hb1
        have HU1 := hide (HU.out w1.drew HB1.out.drew)
        obtain ⟨c0, c1, c2, c3, c4, c5, c6, c7, c8, c9, c10, c11⟩ := (HD.out.below HB1.out).cells
        go_wp2_with fail
        go_region_with (first | (go_at_call 55; refine HU1.out.mono ?_; rintro e w2 ⟨rfl, hb2⟩; have HB2 := hide (then_below HB1.out.drew hb2); obtain ⟨k0, k1, k2, k3, k4, k5, k6, k7, k8, k9, k10, k11⟩ := (HD.out.below HB2.out).cells; clear hb2))
        all_goals
          have hbs := HD.out.hg
          have hlt := (HD.out.below HB2.out).lt
          clear c0 c1 c2 c3 c4 c5 c6 c7 c8 c9 c10 c11
          go_wp2_with (at_builtin; go_must (refine append_bytesK rfl _ _ rfl base (D.v 3) (D.p.xs 3) ys (D.p.xs 3).length rfl (HRow.out _ HB2.out) _ A c rfl (HY.out.on HB2.out) HN.out (by omega) (by omega) ?_))
          intro v' w3 hown3 hgrow3 hat3
          obtain ⟨A3, c3, rfl, -⟩ := row_slice hown3
          obtain ⟨q0, qf, hs3, hput, hTurn⟩ := app_put (i := 3) (o := 6) (by decide) rfl (HD.out.below HB2.out) hown3 hgrow3 hat3
          have HPt := hide hput
          have HTn := hide hTurn
          clear hown3 hgrow3 hat3 hput hTurn k0 k1 k2 k3 k4 k5 k6 k7 k8 k9 k10 k11
          have HCm2 := hide (HCm3.out _ _ rfl HPt.out)
          clear HCm3 HU HU1
          go_wp2_with fail
          refine HCm2.out.mono ?_
          rintro e w5 ⟨rfl, D2, e2, hD2, hT2⟩
          have HF := hide (show ∃ D' : DS, D'.p = qp ∧ DiskAt base g w5 D' ∧ Turned g D D' w w5 from ⟨D2, by rw [e2, HP2.out]; rfl, hD2, ((Turned.of_below HB2.out).trans HTn.out).trans hT2⟩)
          clear e2 hD2 hT2
          go_wp2_with fail
          go_ret
          exact ⟨ret_int HE.out.symm, HF.out⟩
  · have hb : (checkE D.p n != 0) = true := by rw [bne_iff_ne]; exact h0
    rw [if_neg h0] at HE HP
    generalize checkE D.p n = ce at *
    clear hD hO hd h0
    go_enter Tryd.func34, Tryd.ntmps34
    go_wp2_with fail
    refine HC.out.mono ?_
    rintro e w1 ⟨rfl, hb1⟩
    have HB1 := hide hb1
    clear hb1
    go_wp2_with fail
    go_ret
    exact ⟨ret_int HE.out.symm, D, HP.out.symm, HD.out.below HB1.out, Turned.of_below HB1.out⟩
end Go.Proofs.YtkdihekhdnnheaaDoor
