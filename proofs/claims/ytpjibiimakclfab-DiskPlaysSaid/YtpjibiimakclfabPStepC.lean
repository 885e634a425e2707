/-
  The law's step at Append.
-/
import Derived.Test.YtpjibiimakclfabPStepB
namespace Go.Proofs.Ytpjibiimakclfab
open Go.RowKit

/-- Something of the call's own turned, far from both disks. -/
theorem St.away {base g gx H : Nat} {o : OpR} {w w' : World} {D : DS} {R : RS} (h : St base g gx H o w D R) (b : Nat) (hb : ∀ c, c ≠ b → w'.heap[c]? = w.heap[c]?) (h1 : b ≠ g) (h2 : b ≠ gx) (h3 : b ≠ H) (h4 : ∀ i, i < 4 → (D.v i).ownBlock ≠ some b) (h5 : ∀ j, j < 8 → (R.v j).ownBlock ≠ some b) : St base g gx H o w' D R := by
  refine ⟨h.d.keep (fun c _ e => hb c ?_), h.x.turn (fun c _ e => hb c ?_), h.ne, h.apart, h.dx, h.xd, ?_, h.hg, h.hx, h.dH, h.xH⟩
  · rcases e with e | ⟨i, hi, e⟩
    · omega
    · exact fun e2 => h4 i hi (by rw [← e2]; exact e)
  · rcases e with e | ⟨j, hj, e⟩
    · omega
    · exact fun e2 => h5 j hj (by rw [← e2]; exact e)
  · rw [hb H (fun e => h3 e.symm)]; exact h.box
/-- A row that lies apart from both disks. -/
def Apart (g gx H : Nat) (D : DS) (R : RS) (v : Value) : Prop := ∀ b, v.ownBlock = some b → b ≠ g ∧ b ≠ gx ∧ b ≠ H ∧ (∀ i, i < 4 → (D.v i).ownBlock ≠ some b) ∧ (∀ j, j < 8 → (R.v j).ownBlock ≠ some b)
theorem Apart.new {base g gx H N : Nat} {o : OpR} {w : World} {D : DS} {R : RS} {v : Value} (h : St base g gx H o w D R) (hN : w.heap.size ≤ N) (hv : ∀ b, v.ownBlock = some b → N ≤ b) : Apart g gx H D R v := fun b e => by
  have h0 := hv b e
  have h1 := h.d.lt
  have h2 := h.x.lt
  have h3 : H < w.heap.size := (Array.getElem?_eq_some_iff.1 h.box).1
  exact ⟨by omega, by omega, by omega, fun i hi e2 => by have := (h.d.row i hi).lt b e2; omega, fun j hj e2 => by have := (h.x.row j hj).lt b e2; omega⟩
theorem Apart.ref {g gx H : Nat} {w w' : World} {D : DS} {R R' : RS} {v : Value} (h : Apart g gx H D R v) (hT : RTurned gx R R' w w') (hv : ∀ b, v.ownBlock = some b → b < w.heap.size) : Apart g gx H D R' v := fun b e => by
  obtain ⟨h1, h2, h3, h4, h5⟩ := h b e
  exact ⟨h1, h2, h3, h4, fun j hj e2 => by
    rcases hT.own j hj b e2 with ⟨k, hk, e3⟩ | e3
    · exact h5 k hk e3
    · have := hv b e; omega⟩
theorem Apart.disk {g gx H : Nat} {w w' : World} {D D' : DS} {R : RS} {v : Value} (h : Apart g gx H D R v) (hT : Turned g D D' w w') (hv : ∀ b, v.ownBlock = some b → b < w.heap.size) : Apart g gx H D' R v := fun b e => by
  obtain ⟨h1, h2, h3, h4, h5⟩ := h b e
  exact ⟨h1, h2, h3, fun i hi e2 => by
    rcases hT.own i hi b e2 with ⟨k, hk, e3⟩ | e3
    · exact h4 k hk e3
    · have := hv b e; omega, h5⟩
theorem Apart.rowRef {g gx H N : Nat} {w w' : World} {D : DS} {R R' : RS} {v : Value} {n : Nat} {xs : List Value} (h : Apart g gx H D R v) (hT : RTurned gx R R' w w') (hr : w.ownsRow N 5 1 v n xs) : w'.ownsRow N 5 1 v n xs :=
  row_same hr fun b e => by
    obtain ⟨h1, h2, h3, h4, h5⟩ := h b e
    exact hT.block b (hr.lt b e).2 h2 h5
theorem Apart.rowDisk {g gx H N : Nat} {w w' : World} {D D' : DS} {R : RS} {v : Value} {n : Nat} {xs : List Value} (h : Apart g gx H D R v) (hT : Turned g D D' w w') (hr : w.ownsRow N 5 1 v n xs) : w'.ownsRow N 5 1 v n xs :=
  row_same hr fun b e => by
    obtain ⟨h1, h2, h3, h4, h5⟩ := h b e
    exact hT.block b (hr.lt b e).2 h1 h4
theorem St.made {base g gx H N : Nat} {o : OpR} {w1 w3 : World} {D : DS} {R : RS} {ob : Obj} {v : Value} (h : St base g gx H o w1 D R) (hN : w1.heap.size = N) (hv : v.ownBlock = some N) (hg : (w1.alloc ob).grownBy w3 v.ownBlock) : St base g gx H o w3 D R ∧ Below N w1 w3 := by
  have hb : Below N w1 w3 := ((Below.refl N w1).alloc (by omega) ob).grown hg (by simp; omega) (fun gq hgq => by rw [hv] at hgq; injection hgq with hgq; omega)
  exact ⟨h.below (by rw [hN]; exact hb), hb⟩
set_option maxHeartbeats 6400000 in
set_option maxRecDepth 100000 in
theorem step_append {base g gx : Nat} {D : DS} {R : RS} (o : OpR) (w : World) (hk : o.k = 1) (hS : ∀ H, w.heap.size = H → St base g gx H o (w.alloc (.cells (oCells o) 37)) D R) (hO : D.p.Ok) (hr : Rel D.p R.p) (hDA : BytesAt base w o.dA o.dl) (hW : WfO o) (h300 : o.dl.length ≤ 300) (hd : D.p.done ≤ 1000000000) (hbase : base ≤ w.heap.size) :
    Calls Try.prog 7 #[vD g, vD gx, .agg (oCells o)] w fun e w' => e = .returned (.bool true) ∧ StepOut base g gx D w w' := by
  have HS0 := hide (hS _ rfl)
  obtain ⟨k, f, n, dA, dc, dl, kA, kc, kl⟩ := o
  have hk1 : k = 1 := hk
  subst hk1
  have HB0 := hide (show Below base w (w.alloc (.cells (oCells ⟨1, f, n, dA, dc, dl, kA, kc, kl⟩) 37)) from (Below.refl base w).alloc hbase _)
  clear hS
  obtain ⟨b0, b1, b2, b3, b4⟩ := HS0.out.cells
  have hE := World.ownsRow_made (e := 5) (size := 1) (base := w.heap.size + 1) (w.alloc (.cells (oCells ⟨1, f, n, dA, dc, dl, kA, kc, kl⟩) 37)) #[] 0 (by simp) (by decide) rfl
  have hsz1 : (w.alloc (.cells (oCells ⟨1, f, n, dA, dc, dl, kA, kc, kl⟩) 37)).heap.size = w.heap.size + 1 := by simp
  rw [hsz1] at hE
  have HE := hide hE
  have h300 : dl.length ≤ 300 := h300
  have HY := hide ((hDA.below HB0.out).below ((Below.refl base _).alloc (by rw [hsz1]; omega) (.cells #[] 5)))
  have hdn : dA = none → dc = 0 := hW.dn
  have hc3 : ((w.alloc (.cells (oCells ⟨1, f, n, dA, dc, dl, kA, kc, kl⟩) 37)).alloc (.cells #[] 5)).cell? ⟨w.heap.size, 3, none⟩ = some (.slice dA dl.length dc) := by
    rw [World.cell?_of_block (Below.heap_alloc _ _ _ (by rw [hsz1]; exact Nat.lt_succ_self _))]
    exact b3
  clear hE hW hDA
  go_enter Try.func7, Try.ntmps7
  go_wp2_with (at_builtin; go_must (refine append_bytes (by rfl) _ _ (by rfl) (w.heap.size + 1) (.slice (some ⟨w.heap.size + 1, 0, none⟩) 0 0) [] dl 0 (by rfl) HE.out base dA dc (by rfl) HY.out hdn (by omega) (by simp) ?_; intro v3 w3 hown3 hgrow3 hat3; have HO3 := hide hown3; have HG3 := hide hgrow3; obtain ⟨hs3, hbl3⟩ := HS0.out.made hsz1 rfl hgrow3; have HS3 := hide hs3; have HL3 := hide hbl3; obtain ⟨a0, a1, a2, a3, a4⟩ := hs3.cells; clear hown3 hgrow3 hat3 hs3 hbl3))
  have hown3 := HO3.out
  simp only [List.nil_append, Nat.zero_add] at hown3
  obtain ⟨A', c', rfl, hB3, hge3, hnil3⟩ := bytes_of_row hown3
  have HAp3 := hide (Apart.new (N := w.heap.size + 1) HS0.out (by rw [hsz1]; exact Nat.le_refl _) (v := .slice A' dl.length c') (fun b e => (hown3.lt b e).1))
  have HB3 := hide (HB0.out.trans (HL3.out.mono (by omega)))
  have HR3 := hide hown3
  have hq := hr.app hO f dl
  have HQ2 := hide hq.2
  have HX := hide ((rappend_any f A' c' dl w3 HS3.out.x (hr.ok hO) (by rw [hr.done]; omega) hr.armed0 (by rw [hr.cap]; exact hO.cap1) (fun R' w' hT => by
    obtain ⟨A2, c2, e, hb, -⟩ := bytes_of_row (HAp3.out.rowRef hT HR3.out)
    injection e with e1 e2 e3
    subst e1
    exact hb) (by omega)).mono fun e w4 hh => by
      obtain ⟨e1, R4, e2, h1, h2⟩ := hh
      exact (⟨by rw [e1, hq.1], R4, e2, HS3.out.ref h1 h2, HAp3.out.ref h2 (fun b e => (HR3.out.lt b e).2), HAp3.out.rowRef h2 HR3.out, h2.below HS3.out.x⟩ : e = .returned (.int .i64 (appE D.p f dl.length)) ∧ ∃ R4, R4.p = raF R.p f dl ∧ St base g gx w.heap.size ⟨1, f, n, dA, dc, dl, kA, kc, kl⟩ w4 D R4 ∧ Apart g gx w.heap.size D R4 (.slice A' dl.length c') ∧ w4.ownsRow (w.heap.size + 1) 5 1 (.slice A' dl.length c') dl.length (byC dl) ∧ Below base w3 w4))
  have HDp := hide (fun w4 R4 (h : St base g gx w.heap.size ⟨1, f, n, dA, dc, dl, kA, kc, kl⟩ w4 D R4) (hA : Apart g gx w.heap.size D R4 (.slice A' dl.length c')) (hrow : w4.ownsRow (w.heap.size + 1) 5 1 (.slice A' dl.length c') dl.length (byC dl)) => (append_any f A' c' dl w4 h.d hO (by omega) (by
    obtain ⟨A2, c2, e, hb, -⟩ := bytes_of_row hrow
    injection e with e1 e2 e3
    subst e1
    exact hb) hnil3 (by omega)).mono fun e w5 hh => by
      obtain ⟨e1, D5, e2, h1, h2⟩ := hh
      exact (⟨e1, D5, e2, h.disk h1 h2, hA.disk h2 (fun b e => (hrow.lt b e).2), hA.rowDisk h2 hrow, h2.below h.d⟩ : e = .returned (.int .i64 (appE D.p f dl.length)) ∧ ∃ D5, D5.p = appP D.p f dl ∧ St base g gx w.heap.size ⟨1, f, n, dA, dc, dl, kA, kc, kl⟩ w5 D5 R4 ∧ Apart g gx w.heap.size D5 R4 (.slice A' dl.length c') ∧ w5.ownsRow (w.heap.size + 1) 5 1 (.slice A' dl.length c') dl.length (byC dl) ∧ Below base w4 w5))
  have HOk := hide (show (appP D.p f dl).Ok from app_ok hO f dl)
  generalize appE D.p f dl.length = q at *
  clear hq hr hB3 hge3 hown3 hc3 b0 b1 b2 b3 b4
  refine HX.out.mono ?_
  rintro e w4 ⟨rfl, R4, e4, hS4, hA4, hr4, hb4⟩
  have HS4 := hide hS4
  have HE4 := hide e4
  have HD4 := hide (HDp.out w4 R4 hS4 hA4 hr4)
  have HB4 := hide (HB3.out.trans hb4)
  obtain ⟨a0, a1, a2, a3, a4⟩ := hS4.cells
  clear e4 hS4 hA4 hr4 hb4 HX
  go_wp2_with fail
  refine HD4.out.mono ?_
  rintro e w5 ⟨rfl, D5, e5, hS5, hA5, hr5, hb5⟩
  have HE5 := hide e5
  have HB5 := hide (HB4.out.trans hb5)
  have HI := hide (show ∃ zs : List Int, zs.length = dl.length ∧ w5.ownsRow (w.heap.size + 1) 5 1 (.slice A' dl.length c') dl.length (zs.map (Value.int .u8)) ∧ St base g gx w.heap.size ⟨1, f, n, dA, dc, dl, kA, kc, kl⟩ w5 D5 R4 ∧ Below base w5 w5 from ⟨dl.map fun y => (y.toNat : Int), by simp, by rw [List.map_map]; exact hr5, hS5, Below.refl _ _⟩)
  have HA5 := hide hA5
  clear e5 hS5 hA5 hr5 hb5
  go_wp2_with fail
  go_loopw [35] (fun iv wr => ∃ k : Nat, k ≤ dl.length ∧ iv = .int .i64 k ∧ ∃ zs : List Int, zs.length = dl.length ∧ wr.ownsRow (w.heap.size + 1) 5 1 (.slice A' dl.length c') dl.length (zs.map (Value.int .u8)) ∧ St base g gx w.heap.size ⟨1, f, n, dA, dc, dl, kA, kc, kl⟩ wr D5 R4 ∧ Below base w5 wr) (fun iv _ => dl.length - (intOf iv).toNat)
  case atStart => exact ⟨0, Nat.zero_le _, rfl, HI.out⟩
  case round =>
    obtain ⟨k, hk, rfl, zs, hz, hrow, hst, hbel⟩ := hrel
    have HZ := hide hz
    have HRow := hide hrow
    have HSt := hide hst
    have HBel := hide hbel
    by_cases hlt : k < dl.length
    · have HK := hide hlt
      obtain ⟨b, rfl⟩ : ∃ b, A' = some ⟨b, 0, none⟩ := by
        rcases hrow.2 with ⟨e, h0⟩ | ⟨g', cap, cur, e, _⟩
        · omega
        · injection e with e; exact ⟨g', e⟩
      have hc : wr.cell? ⟨b, k, none⟩ = some (.int .u8 (zs.getD k 0)) := by
        rw [hrow.cellAt k (by omega), List.getElem?_map, List.getElem?_eq_getElem (by omega), List.getD_eq_getElem?_getD, List.getElem?_eq_getElem (by omega)]
        rfl
      have hf := hrow.frozenAt k
      have hblt := (hrow.lt b rfl).2
      obtain ⟨p1, p2, p3, p4, p5⟩ := HA5.out b rfl
      have HStep := hide (fun u : Int => (⟨by rw [List.length_set]; exact hz, by rw [List.map_set]; exact (hrow.stored k (.int .u8 u)).1, hst.away b (fun c hc => Below.heap_setCell _ _ _ _ hc) p1 p2 p3 p4 p5, hbel.setCell (by have := (hrow.lt b rfl).1; simp only; omega) _⟩ : (zs.set k u).length = dl.length ∧ (wr.setCell ⟨b, k, none⟩ (.int .u8 u)).ownsRow (w.heap.size + 1) 5 1 (.slice (some ⟨b, 0, none⟩) dl.length c') dl.length ((zs.set k u).map (Value.int .u8)) ∧ St base g gx w.heap.size ⟨1, f, n, dA, dc, dl, kA, kc, kl⟩ (wr.setCell ⟨b, k, none⟩ (.int .u8 u)) D5 R4 ∧ Below base w5 (wr.setCell ⟨b, k, none⟩ (.int .u8 u))))
      generalize zs.getD k 0 = z at *
      clear hz hrow hst hbel p1 p2 p3 p4 p5 HI
      go_wp2_with fail
      go_roundw
      case rel => exact ⟨k + 1, HK.out, by go_num, _, (HStep.out _).1, (HStep.out _).2.1, (HStep.out _).2.2.1, (HStep.out _).2.2.2⟩
      case measure => have := HK.out; simp only [intOf]; omega
    · clear hz hrow hst hbel HI
      go_wp2_with fail
      go_ret
      exact ⟨rfl, HSt.out.out (by rw [HE5.out]; exact HOk.out) (by rw [HE5.out, HE4.out]; exact HQ2.out) (by rw [HE5.out]; exact app_done D.p f dl) (HB5.out.trans HBel.out)⟩
end Go.Proofs.Ytpjibiimakclfab
