/-
  The two disks side by side, with the call's box at block H; the law's step.
-/
import Derived.Test.YtpjibiimakclfabPRel
namespace Go.Proofs.Ytpjibiimakclfab
open Go.RowKit

structure St (base g gx H : Nat) (o : OpR) (w : World) (D : DS) (R : RS) : Prop where
  d : DiskAt base g w D
  x : RefAt base gx w R
  ne : g ≠ gx
  apart : ∀ i j, i < 4 → j < 8 → ∀ b, (D.v i).ownBlock = some b → (R.v j).ownBlock ≠ some b
  dx : ∀ i, i < 4 → (D.v i).ownBlock ≠ some gx
  xd : ∀ j, j < 8 → (R.v j).ownBlock ≠ some g
  box : w.heap[H]? = some (.cells (oCells o) 37 (0, 0))
  hg : H ≠ g
  hx : H ≠ gx
  dH : ∀ i, i < 4 → (D.v i).ownBlock ≠ some H
  xH : ∀ j, j < 8 → (R.v j).ownBlock ≠ some H
theorem St.disk {base g gx H : Nat} {o : OpR} {w w' : World} {D D' : DS} {R : RS} (h : St base g gx H o w D R) (hD : DiskAt base g w' D') (hT : Turned g D D' w w') : St base g gx H o w' D' R := by
  have hgx := h.x.lt
  have hH : H < w.heap.size := (Array.getElem?_eq_some_iff.1 h.box).1
  refine ⟨hD, h.x.turn (fun b hb e => ?_), h.ne, fun i j hi hj b e1 e2 => ?_, fun i hi e => ?_, h.xd, ?_, h.hg, h.hx, fun i hi e => ?_, h.xH⟩
  · rcases e with e | ⟨j, hj, e⟩
    · subst e; exact hT.block b hb (fun e => h.ne e.symm) (fun i hi => h.dx i hi)
    · exact hT.block b hb (fun e2 => h.xd j hj (by rw [← e2]; exact e)) (fun i hi e2 => h.apart i j hi hj b e2 e)
  · rcases hT.own i hi b e1 with ⟨k, hk, e3⟩ | e3
    · exact h.apart k j hk hj b e3 e2
    · have := (h.x.row j hj).lt b e2; omega
  · rcases hT.own i hi gx e with ⟨k, hk, e3⟩ | e3
    · exact h.dx k hk e3
    · omega
  · rw [hT.block H hH h.hg h.dH]; exact h.box
  · rcases hT.own i hi H e with ⟨k, hk, e3⟩ | e3
    · exact h.dH k hk e3
    · omega
theorem St.ref {base g gx H : Nat} {o : OpR} {w w' : World} {D : DS} {R R' : RS} (h : St base g gx H o w D R) (hR : RefAt base gx w' R') (hT : RTurned gx R R' w w') : St base g gx H o w' D R' := by
  have hg := h.d.lt
  have hH : H < w.heap.size := (Array.getElem?_eq_some_iff.1 h.box).1
  refine ⟨h.d.keep (fun b hb e => ?_), hR, h.ne, fun i j hi hj b e1 e2 => ?_, h.dx, fun j hj e => ?_, ?_, h.hg, h.hx, h.dH, fun j hj e => ?_⟩
  · rcases e with e | ⟨i, hi, e⟩
    · subst e; exact hT.block b hb h.ne (fun j hj => h.xd j hj)
    · exact hT.block b hb (fun e2 => h.dx i hi (by rw [← e2]; exact e)) (fun j hj e2 => h.apart i j hi hj b e e2)
  · rcases hT.own j hj b e2 with ⟨k, hk, e3⟩ | e3
    · exact h.apart i k hi hk b e1 e3
    · have := (h.d.row i hi).lt b e1; omega
  · rcases hT.own j hj g e with ⟨k, hk, e3⟩ | e3
    · exact h.xd k hk e3
    · omega
  · rw [hT.block H hH h.hx h.xH]; exact h.box
  · rcases hT.own j hj H e with ⟨k, hk, e3⟩ | e3
    · exact h.xH k hk e3
    · omega
theorem St.below {base g gx H : Nat} {o : OpR} {w w' : World} {D : DS} {R : RS} (h : St base g gx H o w D R) (hb : Below w.heap.size w w') : St base g gx H o w' D R := h.disk (h.d.below hb) (Turned.of_below hb)
theorem St.cells {base g gx H : Nat} {o : OpR} {w : World} {D : DS} {R : RS} (h : St base g gx H o w D R) :
    w.cell? ⟨H, 0, none⟩ = some (.int .i64 o.k) ∧ w.cell? ⟨H, 1, none⟩ = some (.int .i64 o.f) ∧ w.cell? ⟨H, 2, none⟩ = some (.int .i64 o.n) ∧ w.cell? ⟨H, 3, none⟩ = some (.slice o.dA o.dl.length o.dc) ∧ w.cell? ⟨H, 4, none⟩ = some (.slice o.kA o.kl.length o.kc) :=
  ⟨Lib.cell_of_heap h.box 0, Lib.cell_of_heap h.box 1, Lib.cell_of_heap h.box 2, Lib.cell_of_heap h.box 3, Lib.cell_of_heap h.box 4⟩
/-- What a step leaves. -/
def StepOut (base g gx : Nat) (D : DS) (w : World) (w' : World) : Prop :=
  ∃ D' R', DiskAt base g w' D' ∧ RefAt base gx w' R' ∧ (∀ i j, i < 4 → j < 8 → ∀ b, (D'.v i).ownBlock = some b → (R'.v j).ownBlock ≠ some b) ∧ (∀ i, i < 4 → (D'.v i).ownBlock ≠ some gx) ∧ (∀ j, j < 8 → (R'.v j).ownBlock ≠ some g) ∧ D'.p.Ok ∧ Rel D'.p R'.p ∧ D'.p.done ≤ D.p.done + 1 ∧ Below base w w'
theorem St.out {base g gx H : Nat} {o : OpR} {w w' : World} {D0 D : DS} {R : RS} (h : St base g gx H o w' D R) (hO : D.p.Ok) (hr : Rel D.p R.p) (hd : D.p.done ≤ D0.p.done + 1) (hb : Below base w w') : StepOut base g gx D0 w w' :=
  ⟨D, R, h.d, h.x, h.apart, h.dx, h.xd, hO, hr, hd, hb⟩
theorem cmd_done (p : PD) : (cmdP p).done ≤ p.done + 1 := by
  unfold cmdP
  split
  · show p.done ≤ _; omega
  · exact Int.le_refl _
theorem sec_done (p : PD) (i n : Nat) : (secP p i n).done ≤ p.done + 1 := by
  unfold secP
  split
  · exact cmd_done p
  · exact cmd_done p
theorem syn_done (p : PD) (n : Int) : (synP p n).done ≤ p.done + 1 := by
  unfold synP
  split
  · exact sec_done p _ _
  · omega
theorem ct_done (p : PD) (n m : Int) : (ctP p n m).done ≤ p.done + 1 := by
  unfold ctP
  split
  · split
    · exact sec_done p _ _
    · omega
  · omega
theorem ct_ok {p : PD} (h : p.Ok) (n m : Int) : (ctP p n m).Ok := by
  unfold ctP
  split
  · rename_i hc
    have hf := fileB_four (checkE_zero hc).2
    split
    · unfold secP
      split
      · exact cut_ok (cmd_ok h) (by rw [cmd_xs' p]; omega)
      · exact cmd_ok h
    · exact h
  · exact h
theorem app_done (p : PD) (n : Int) (ys : List UInt8) : (appP p n ys).done ≤ p.done + 1 := by
  unfold appP
  split
  · split
    · omega
    · exact cmd_done (addP p n.toNat ys)
  · omega
set_option maxHeartbeats 6400000 in
set_option maxRecDepth 100000 in
theorem step_sync {base g gx : Nat} {D : DS} {R : RS} (o : OpR) (w : World) (hk : o.k = 2) (hS : ∀ H, w.heap.size = H → St base g gx H o (w.alloc (.cells (oCells o) 37)) D R) (hO : D.p.Ok) (hr : Rel D.p R.p) (hd : D.p.done ≤ 1000000000) (hbase : base ≤ w.heap.size) :
    Calls Try.prog 7 #[vD g, vD gx, .agg (oCells o)] w fun e w' => e = .returned (.bool true) ∧ StepOut base g gx D w w' := by
  have HS0 := hide (hS _ rfl)
  obtain ⟨k, f, n, dA, dc, dl, kA, kc, kl⟩ := o
  cases hk
  have hq := hr.sync hO f
  have HDc := hide (fun w' R' (h : St base g gx w.heap.size ⟨2, f, n, dA, dc, dl, kA, kc, kl⟩ w' D R') => (sync_any f w' h.d hO (by omega)).mono fun e w2 hh => by
    obtain ⟨e1, D', e2, h1, h2⟩ := hh
    exact (⟨e1, D', e2, h.disk h1 h2, h2.below h.d⟩ : e = .returned (.int .i64 (synE D.p f)) ∧ ∃ D', D'.p = synP D.p f ∧ St base g gx w.heap.size ⟨2, f, n, dA, dc, dl, kA, kc, kl⟩ w2 D' R' ∧ Below base w' w2))
  have HXc := hide (fun w' D' (h : St base g gx w.heap.size ⟨2, f, n, dA, dc, dl, kA, kc, kl⟩ w' D' R) => (rsync_any f w' h.x (hr.ok hO) (by rw [hr.done]; omega) hr.armed0 (fun i hi => by rw [(hr.ok hO).len i hi]; exact (hr.ok hO).fit.most i hi)).mono fun e w2 hh => by
    obtain ⟨e1, R', e2, h1, h2⟩ := hh
    exact (⟨by rw [e1, hq.1], R', e2, h.ref h1 h2, h2.below h.x⟩ : e = .returned (.int .i64 (synE D.p f)) ∧ ∃ R', R'.p = rsF R.p f ∧ St base g gx w.heap.size ⟨2, f, n, dA, dc, dl, kA, kc, kl⟩ w2 D' R' ∧ Below base w' w2))
  have HF := hide (show ∀ D' R' w', D'.p = synP D.p f → R'.p = rsF R.p f → St base g gx w.heap.size ⟨2, f, n, dA, dc, dl, kA, kc, kl⟩ w' D' R' → Below base w w' → StepOut base g gx D w w' from fun D' R' w' e1 e2 h hb => h.out (by rw [e1]; exact syn_ok hO f) (by rw [e1, e2]; exact hq.2) (by rw [e1]; exact syn_done D.p f) hb)
  have HB0 := hide (show Below base w (w.alloc (.cells (oCells ⟨2, f, n, dA, dc, dl, kA, kc, kl⟩) 37)).drew from ((Below.refl base w).alloc hbase _).drew)
  generalize synE D.p f = q at *
  clear hS hq hr
  go_enter Try.func7, Try.ntmps7
  go_wp2_with fail
  have HS := hide (HS0.out.below ((Below.refl _ _).drew))
  obtain ⟨b0, b1, b2, b3, b4⟩ := HS0.out.cells
  go_wp2_with fail
  go_region_law (first
    | (go_simp; go_at_call 18; refine (HDc.out _ _ HS.out).mono ?_; rintro e w5 ⟨rfl, D5, e5, hS5, hB5⟩; have HE5 := hide e5; have HSd := hide hS5; clear HS; have HS := hide hS5; have HBd := hide hB5; obtain ⟨a0, a1, a2, a3, a4⟩ := hS5.cells; clear hS5 e5 hB5)
    | (go_simp; go_at_call 22; refine (HXc.out _ _ HS.out).mono ?_; rintro e w6 ⟨rfl, R6, e6, hS6, hB6⟩; have HE6 := hide e6; clear HS; have HS := hide hS6; have HBx := hide hB6; obtain ⟨d0, d1, d2, d3, d4⟩ := hS6.cells; clear hS6 e6 hB6))
  all_goals
    go_wp2_with fail
    go_ret
    first
    | exact ⟨rfl, HF.out _ _ _ HE5.out HE6.out HS.out (HB0.out.trans (HBd.out.trans HBx.out))⟩
    | exact ⟨rfl, HF.out _ _ _ HE5.out HE6.out HS.out (HB0.out.trans (HBx.out.trans HBd.out))⟩
set_option maxHeartbeats 6400000 in
set_option maxRecDepth 100000 in
theorem step_cut {base g gx : Nat} {D : DS} {R : RS} (o : OpR) (w : World) (hk : o.k = 3) (hS : ∀ H, w.heap.size = H → St base g gx H o (w.alloc (.cells (oCells o) 37)) D R) (hO : D.p.Ok) (hr : Rel D.p R.p) (hd : D.p.done ≤ 1000000000) (hbase : base ≤ w.heap.size) :
    Calls Try.prog 7 #[vD g, vD gx, .agg (oCells o)] w fun e w' => e = .returned (.bool true) ∧ StepOut base g gx D w w' := by
  have HS0 := hide (hS _ rfl)
  obtain ⟨k, f, n, dA, dc, dl, kA, kc, kl⟩ := o
  cases hk
  have hq := hr.cut f n
  have HDc := hide (fun w' R' (h : St base g gx w.heap.size ⟨3, f, n, dA, dc, dl, kA, kc, kl⟩ w' D R') => (cut_any f n w' h.d hO (by omega)).mono fun e w2 hh => by
    obtain ⟨e1, D', e2, h1, h2⟩ := hh
    exact (⟨e1, D', e2, h.disk h1 h2, h2.below h.d⟩ : e = .returned (.int .i64 (ctE D.p f n)) ∧ ∃ D', D'.p = ctP D.p f n ∧ St base g gx w.heap.size ⟨3, f, n, dA, dc, dl, kA, kc, kl⟩ w2 D' R' ∧ Below base w' w2))
  have HXc := hide (fun w' D' (h : St base g gx w.heap.size ⟨3, f, n, dA, dc, dl, kA, kc, kl⟩ w' D' R) => (rcut_any f n w' h.x (hr.ok hO) (by rw [hr.done]; omega) hr.armed0).mono fun e w2 hh => by
    obtain ⟨e1, R', e2, h1, h2⟩ := hh
    exact (⟨by rw [e1, hq.1], R', e2, h.ref h1 h2, h2.below h.x⟩ : e = .returned (.int .i64 (ctE D.p f n)) ∧ ∃ R', R'.p = ruF R.p f n ∧ St base g gx w.heap.size ⟨3, f, n, dA, dc, dl, kA, kc, kl⟩ w2 D' R' ∧ Below base w' w2))
  have HF := hide (show ∀ D' R' w', D'.p = ctP D.p f n → R'.p = ruF R.p f n → St base g gx w.heap.size ⟨3, f, n, dA, dc, dl, kA, kc, kl⟩ w' D' R' → Below base w w' → StepOut base g gx D w w' from fun D' R' w' e1 e2 h hb => h.out (by rw [e1]; exact ct_ok hO f n) (by rw [e1, e2]; exact hq.2) (by rw [e1]; exact ct_done D.p f n) hb)
  have HB0 := hide (show Below base w (w.alloc (.cells (oCells ⟨3, f, n, dA, dc, dl, kA, kc, kl⟩) 37)).drew from ((Below.refl base w).alloc hbase _).drew)
  generalize ctE D.p f n = q at *
  clear hS hq hr
  go_enter Try.func7, Try.ntmps7
  go_wp2_with fail
  have HS := hide (HS0.out.below ((Below.refl _ _).drew))
  obtain ⟨b0, b1, b2, b3, b4⟩ := HS0.out.cells
  go_wp2_with fail
  go_region_law (first
    | (go_simp; go_at_call 23; refine (HDc.out _ _ HS.out).mono ?_; rintro e w5 ⟨rfl, D5, e5, hS5, hB5⟩; have HE5 := hide e5; have HSd := hide hS5; clear HS; have HS := hide hS5; have HBd := hide hB5; obtain ⟨a0, a1, a2, a3, a4⟩ := hS5.cells; clear hS5 e5 hB5)
    | (go_simp; go_at_call 24; refine (HXc.out _ _ HS.out).mono ?_; rintro e w6 ⟨rfl, R6, e6, hS6, hB6⟩; have HE6 := hide e6; clear HS; have HS := hide hS6; have HBx := hide hB6; obtain ⟨d0, d1, d2, d3, d4⟩ := hS6.cells; clear hS6 e6 hB6))
  all_goals
    go_wp2_with fail
    go_ret
    first
    | exact ⟨rfl, HF.out _ _ _ HE5.out HE6.out HS.out (HB0.out.trans (HBd.out.trans HBx.out))⟩
    | exact ⟨rfl, HF.out _ _ _ HE5.out HE6.out HS.out (HB0.out.trans (HBx.out.trans HBd.out))⟩
end Go.Proofs.Ytpjibiimakclfab
