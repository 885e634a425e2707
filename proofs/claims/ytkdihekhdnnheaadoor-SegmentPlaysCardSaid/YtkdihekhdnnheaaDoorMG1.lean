/-
  A log in memory: its box beside a disk; what its calls leave; the small ones.
  The log's calls that set the files up: trim, rewrite, begin, prepare.
  The log's calls that set the files up: trim, begin, prepare.
-/
import Derived.Test.YtkdihekhdnnheaaDoorGFrm
import Derived.Test.YtkdihekhdnnheaaDoorKApp
import Derived.Deep.AppendLies
import Derived.Deep.DeepCutAuto
import Derived.Tactics2
import Derived.Deep.RegionHeld3
namespace Go.Proofs.YtkdihekhdnnheaaDoor
open Go.RowKit

structure LV where
  f : Nat
  gen : Int
  size : Nat
  loose : Bool
  down : Bool
abbrev lCells (g : Nat) (L : LV) : Array Value := #[.pointer (some ⟨g, 0, none⟩), .int .i64 (L.f : Nat), .int .i64 L.gen, .int .i64 (L.size : Nat), .bool L.loose, .bool L.down]
/-- The log lies in block h, its disk in block g. -/
structure LogAt (base h g : Nat) (w : World) (L : LV) (D : DS) : Prop where
  hh : base ≤ h
  box : w.heap[h]? = some (.cells (lCells g L) 66 (0, 0))
  disk : DiskAt base g w D
  ne : h ≠ g
  off : ∀ i, i < 4 → (D.v i).ownBlock ≠ some h
theorem LogAt.lt {base h g : Nat} {w : World} {L : LV} {D : DS} (H : LogAt base h g w L D) : h < w.heap.size := (Array.getElem?_eq_some_iff.1 H.box).1
theorem LogAt.cells {base h g : Nat} {w : World} {L : LV} {D : DS} (H : LogAt base h g w L D) :
    w.cell? ⟨h, 0, none⟩ = some (vD g) ∧ w.cell? ⟨h, 1, none⟩ = some (.int .i64 (L.f : Nat)) ∧ w.cell? ⟨h, 2, none⟩ = some (.int .i64 L.gen) ∧ w.cell? ⟨h, 3, none⟩ = some (.int .i64 (L.size : Nat)) ∧ w.cell? ⟨h, 4, none⟩ = some (.bool L.loose) ∧ w.cell? ⟨h, 5, none⟩ = some (.bool L.down) :=
  ⟨Lib.cell_of_heap H.box 0, Lib.cell_of_heap H.box 1, Lib.cell_of_heap H.box 2, Lib.cell_of_heap H.box 3, Lib.cell_of_heap H.box 4, Lib.cell_of_heap H.box 5⟩
theorem LogAt.frozen {base h g : Nat} {w : World} {L : LV} {D : DS} (H : LogAt base h g w L D) (i : Nat) : w.frozen? ⟨h, i, none⟩ = false := Lib.frozen_of_heap H.box i
/-- Of what was there only the log's block and the disk's may have turned. -/
structure LTurn (h g : Nat) (D D' : DS) (w w' : World) : Prop where
  os : w'.os = w.os
  tape : w'.tape = w.tape
  output : w'.output = w.output
  size : w.heap.size ≤ w'.heap.size
  block : ∀ b, b < w.heap.size → b ≠ h → b ≠ g → (∀ i, i < 4 → (D.v i).ownBlock ≠ some b) → w'.heap[b]? = w.heap[b]?
  own : ∀ i, i < 4 → ∀ b, (D'.v i).ownBlock = some b → (∃ j, j < 4 ∧ (D.v j).ownBlock = some b) ∨ w.heap.size ≤ b
theorem LTurn.of_turned {h g : Nat} {D D' : DS} {w w' : World} (t : Turned g D D' w w') : LTurn h g D D' w w' := ⟨t.os, t.tape, t.output, t.size, fun b hb _ hg ho => t.block b hb hg ho, t.own⟩
theorem LTurn.of_below {h g : Nat} {D : DS} {w w' : World} (hb : Below w.heap.size w w') : LTurn h g D D w w' := LTurn.of_turned (Turned.of_below hb)
theorem LTurn.trans {h g : Nat} {D D' D'' : DS} {a b c : World} (t : LTurn h g D D' a b) (k : LTurn h g D' D'' b c) : LTurn h g D D'' a c := by
  refine ⟨k.os.trans t.os, k.tape.trans t.tape, k.output.trans t.output, Nat.le_trans t.size k.size, fun i hi hh hg ho => ?_, fun i hi x e => ?_⟩
  · rw [k.block i (Nat.lt_of_lt_of_le hi t.size) hh hg fun j hj e => ?_]
    · exact t.block i hi hh hg ho
    · rcases t.own j hj i e with ⟨m, hm, e2⟩ | e2
      · exact ho m hm e2
      · omega
  · rcases k.own i hi x e with ⟨m, hm, e2⟩ | e2
    · exact t.own m hm x e2
    · exact .inr (Nat.le_trans t.size e2)
theorem LTurn.below {base h g : Nat} {D D' : DS} {L : LV} {w w' : World} (t : LTurn h g D D' w w') (H : LogAt base h g w L D) : Below base w w' := by
  refine ⟨t.os, t.tape, t.output, t.size, fun b hb => ?_⟩
  have h1 := H.hh
  have h2 := H.disk.hg
  have h3 := H.disk.lt
  exact t.block b (by omega) (by omega) (by omega) fun i hi e => by have := (H.disk.row i hi).lt b e; omega
theorem LogAt.turn {base h g : Nat} {w w' : World} {L : LV} {D D' : DS} (H : LogAt base h g w L D) (hD : DiskAt base g w' D') (t : Turned g D D' w w') : LogAt base h g w' L D' := by
  have hlt := H.lt
  refine ⟨H.hh, (t.block h hlt H.ne fun i hi => H.off i hi).trans H.box, hD, H.ne, fun i hi e => ?_⟩
  rcases t.own i hi h e with ⟨j, hj, e2⟩ | e2
  · exact H.off j hj e2
  · omega
theorem LogAt.below {base h g : Nat} {w w' : World} {L : LV} {D : DS} (H : LogAt base h g w L D) (hb : Below w.heap.size w w') : LogAt base h g w' L D := H.turn (H.disk.below hb) (Turned.of_below hb)
/-- A store into the log's box. -/
theorem LogAt.set {base h g : Nat} {w : World} {L : LV} {D : DS} (H : LogAt base h g w L D) (i : Nat) (u : Value) (L' : LV) (hc : (lCells g L).setIfInBounds i u = lCells g L') :
    LogAt base h g (w.setCell ⟨h, i, none⟩ u) L' D ∧ LTurn h g D D w (w.setCell ⟨h, i, none⟩ u) := by
  have hk : ∀ b, b ≠ h → (w.setCell ⟨h, i, none⟩ u).heap[b]? = w.heap[b]? := fun b hb => Below.heap_setCell _ _ _ _ hb
  refine ⟨⟨H.hh, ?_, H.disk.keep fun b _ hb => hk b ?_, H.ne, H.off⟩, ⟨rfl, rfl, rfl, by simp [World.setCell], fun b _ hb _ _ => hk b hb, fun j hj b e => .inl ⟨j, hj, e⟩⟩⟩
  · rw [Joins.block_setCell (i := i) H.box u, ← hc]
  · rcases hb with hb | ⟨j, hj, e⟩
    · exact fun e => H.ne (e.symm.trans hb)
    · exact fun x => H.off j hj (by rw [e, x])
/-- A block that is neither the log's nor the disk's. -/
def Off (h g : Nat) (D : DS) (b : Nat) : Prop := b ≠ h ∧ b ≠ g ∧ ∀ i, i < 4 → (D.v i).ownBlock ≠ some b
theorem LTurn.off {h g : Nat} {D D' : DS} {w w' : World} (t : LTurn h g D D' w w') (b : Nat) (ho : Off h g D b) (hb : b < w.heap.size) : Off h g D' b ∧ w'.heap[b]? = w.heap[b]? := by
  refine ⟨⟨ho.1, ho.2.1, fun i hi e => ?_⟩, t.block b hb ho.1 ho.2.1 ho.2.2⟩
  rcases t.own i hi b e with ⟨j, hj, e2⟩ | e2
  · exact ho.2.2 j hj e2
  · omega
theorem LogAt.off_new {base h g : Nat} {w : World} {L : LV} {D : DS} (H : LogAt base h g w L D) {b : Nat} (hb : w.heap.size ≤ b) : Off h g D b :=
  ⟨by have := H.lt; omega, by have := H.disk.lt; omega, fun i hi e => by have := ((H.disk.row i hi).lt b e).2; omega⟩
theorem LogAt.off_old {base h g : Nat} {w : World} {L : LV} {D : DS} (H : LogAt base h g w L D) {b : Nat} (hb : b < base) : Off h g D b :=
  ⟨by have := H.hh; omega, by have := H.disk.hg; omega, fun i hi e => by have := ((H.disk.row i hi).lt b e).1; omega⟩
theorem BytesIn.turn {h g : Nat} {D D' : DS} {w w' : World} {A : Option Addr} {l : List UInt8} (k : BytesIn (Off h g D) w A l) (t : LTurn h g D D' w w') : BytesIn (Off h g D') w' A l := k.keep t.size fun b ho hb => t.off b ho hb
theorem RecsIn.turn {h g : Nat} {D D' : DS} {w w' : World} {A : Option Addr} {l : List BH} (k : RecsIn (Off h g D) w A l) (t : LTurn h g D D' w w') : RecsIn (Off h g D') w' A l := k.keep t.size fun b ho hb => t.off b ho hb
theorem GrpsIn.turn {h g : Nat} {D D' : DS} {w w' : World} {A : Option Addr} {l : List GH} (k : GrpsIn (Off h g D) w A l) (t : LTurn h g D D' w w') : GrpsIn (Off h g D') w' A l := k.keep t.size fun b ho hb => t.off b ho hb
theorem Tab.turn {h g : Nat} {D D' : DS} {w w' : World} (k : Tab w) (t : LTurn h g D D' w w') (ho : Off h g D 0) : Tab w' := fun i hi => (cell_same i (t.off _ ho k.lt).2).trans (k i hi)
/-- What a call of the log tells and leaves. -/
def LRes (base h g : Nat) (D : DS) (w : World) (r : Int × PD × LV) (e : Ending) (w' : World) : Prop :=
  e = .returned (.int .i64 r.1) ∧ ∃ D' : DS, D'.p = r.2.1 ∧ LogAt base h g w' r.2.2 D' ∧ LTurn h g D D' w w'
/-- What is done of commands. -/
theorem cmd_done (p : PD) : p.done ≤ (cmdP p).done ∧ (cmdP p).done ≤ p.done + 1 := by
  unfold cmdP
  split
  · exact ⟨Int.le_refl _, by show p.done ≤ p.done + 1; omega⟩
  · exact ⟨by show p.done ≤ p.done + 1; omega, Int.le_refl _⟩
theorem sec_done (p : PD) (i n : Nat) : p.done ≤ (secP p i n).done ∧ (secP p i n).done ≤ p.done + 1 := by
  have := cmd_done p
  unfold secP
  split
  · exact this
  · exact this
theorem ct_done (p : PD) (n m : Int) : p.done ≤ (ctP p n m).done ∧ (ctP p n m).done ≤ p.done + 1 := by
  unfold ctP
  split
  · split
    · exact sec_done p _ _
    · omega
  · omega
theorem syn_done (p : PD) (n : Int) : p.done ≤ (synP p n).done ∧ (synP p n).done ≤ p.done + 1 := by
  unfold synP
  split
  · exact sec_done p _ _
  · omega
theorem app_done (p : PD) (n : Int) (ys : List UInt8) : p.done ≤ (appP p n ys).done ∧ (appP p n ys).done ≤ p.done + 1 := by
  unfold appP
  split
  · split
    · omega
    · exact cmd_done (addP p n.toNat ys)
  · omega
theorem ct_ok {p : PD} (h : p.Ok) (n m : Int) : (ctP p n m).Ok := by
  unfold ctP
  split
  · split
    · exact sec_ok h (by omega)
    · exact h
  · exact h
theorem syn_okG {p : PD} (h : p.Ok) (n : Int) : (synP p n).Ok := by
  unfold synP
  split
  · exact sec_ok h (by omega)
  · exact h
set_option maxHeartbeats 1600000 in
set_option maxRecDepth 100000 in
theorem other_any (f : Nat) (w : World) (hf : f < 2) : Calls Tryd.prog 39 #[.int .i64 f] w fun e w' => e = .returned (.int .i64 (1 - f : Nat)) ∧ w = w' := by
  rcases (by omega : f = 0 ∨ f = 1) with rfl | rfl
  all_goals
    go_enter Tryd.func39, Tryd.ntmps39
    go_wp2_with fail
    go_ret
    exact ⟨rfl, rfl⟩
set_option maxHeartbeats 1600000 in
set_option maxRecDepth 100000 in
theorem logGen_any {base h g : Nat} {L : LV} {D : DS} (w : World) (H : LogAt base h g w L D) : Calls Tryd.prog 18 #[vD h] w fun e w' => e = .returned (.int .i64 L.gen) ∧ w = w' := by
  obtain ⟨c0, c1, c2, c3, c4, c5⟩ := H.cells
  clear H
  go_enter Tryd.func18, Tryd.ntmps18
  go_wp2_with fail
  go_ret
  exact ⟨rfl, rfl⟩
set_option maxHeartbeats 1600000 in
set_option maxRecDepth 100000 in
theorem logSize_any {base h g : Nat} {L : LV} {D : DS} (w : World) (H : LogAt base h g w L D) : Calls Tryd.prog 19 #[vD h] w fun e w' => e = .returned (.int .i64 (L.size : Nat)) ∧ w = w' := by
  obtain ⟨c0, c1, c2, c3, c4, c5⟩ := H.cells
  clear H
  go_enter Tryd.func19, Tryd.ntmps19
  go_wp2_with fail
  go_ret
  exact ⟨rfl, rfl⟩
set_option maxHeartbeats 1600000 in
set_option maxRecDepth 100000 in
theorem logLoose_any {base h g : Nat} {L : LV} {D : DS} (w : World) (H : LogAt base h g w L D) : Calls Tryd.prog 20 #[vD h] w fun e w' => e = .returned (.bool L.loose) ∧ w = w' := by
  obtain ⟨c0, c1, c2, c3, c4, c5⟩ := H.cells
  clear H
  go_enter Tryd.func20, Tryd.ntmps20
  go_wp2_with fail
  go_ret
  exact ⟨rfl, rfl⟩
/-- A file is emptied. -/
def emptyR (p : PD) (L : LV) (f : Nat) : Int × PD × LV := if (p.xs f).length = 0 then (0, p, L) else (ctE p f 0, ctP p f 0, L)
theorem file_lt {f : Nat} (hf : f < 4) : fileB (f : Int) = true := by unfold fileB; simp; omega
theorem sizeD_nat (p : PD) {f : Nat} (hf : f < 4) : sizeD p (f : Int) = ((p.xs f).length : Nat) := by unfold sizeD; rw [file_lt hf]; rfl
theorem safeD_nat (p : PD) {f : Nat} (hf : f < 4) : safeD p (f : Int) = p.s f := by unfold safeD; rw [file_lt hf]; rfl
set_option maxHeartbeats 1600000 in
set_option maxRecDepth 100000 in
theorem empty_any {base h g : Nat} {L : LV} {D : DS} (f : Nat) (w : World) (H : LogAt base h g w L D) (hO : D.p.Ok) (hd : D.p.done ≤ 1000000000000) (hf : f < 4) :
    Calls Tryd.prog 49 #[vD h, .int .i64 f] w (LRes base h g D w (emptyR D.p L f)) := by
  obtain ⟨c0, c1, c2, c3, c4, c5⟩ := H.cells
  have hlen := hO.len hf
  have HH := hide H
  have HS := hide (size_any f w H.disk)
  rw [sizeD_nat D.p hf] at HS
  have HR := hide (show emptyR D.p L f = if (D.p.xs f).length = 0 then (0, D.p, L) else (ctE D.p f 0, ctP D.p f 0, L) from rfl)
  have HCt := hide (fun w1 (hb : Below w.heap.size w w1) => cut_any f 0 w1 (H.disk.below hb) hO hd)
  unfold LRes
  generalize emptyR D.p L f = r at *
  generalize ctE D.p f 0 = ce at *
  generalize ctP D.p f 0 = cp at *
  by_cases h0 : (D.p.xs f).length = 0
  · have HQ := hide (show r = (0, D.p, L) by rw [HR.out, if_pos h0])
    rw [h0] at HS
    clear H hO hd hlen HR HCt h0
    go_enter Tryd.func49, Tryd.ntmps49
    go_wp2_with fail
    refine HS.out.mono ?_
    rintro e w1 ⟨rfl, hb1⟩
    have HB := hide hb1
    clear hb1
    go_wp2_with fail
    go_ret
    exact ⟨by rw [HQ.out]; rfl, D, by rw [HQ.out], by rw [HQ.out]; exact HH.out.below HB.out, LTurn.of_below HB.out⟩
  · have HQ := hide (show r = (ce, cp, L) by rw [HR.out, if_neg h0])
    have h1 : 0 < (D.p.xs f).length := by omega
    clear H hO hd HR h0
    go_enter Tryd.func49, Tryd.ntmps49
    go_wp2_with fail
    refine HS.out.mono ?_
    rintro e w1 ⟨rfl, hb1⟩
    have HB := hide hb1
    have k0 := (hb1.cell (p := ⟨h, 0, none⟩) HH.out.lt).trans c0
    have HC1 := hide (HCt.out w1 hb1)
    clear hb1 HCt
    go_wp2_with fail
    refine HC1.out.mono ?_
    rintro e w2 ⟨rfl, D2, e2, hD2, hT2⟩
    have HA := hide (show D2.p = cp ∧ LogAt base h g w2 L D2 ∧ LTurn h g D D2 w w2 from ⟨e2, (HH.out.below HB.out).turn hD2 hT2, (LTurn.of_below HB.out).trans (LTurn.of_turned hT2)⟩)
    clear e2 hD2 hT2 k0
    go_wp2_with fail
    go_ret
    exact ⟨by rw [HQ.out]; rfl, D2, by rw [HQ.out]; exact HA.out.1, by rw [HQ.out]; exact HA.out.2.1, HA.out.2.2⟩
end Go.Proofs.YtkdihekhdnnheaaDoor
namespace Go.Proofs.YtkdihekhdnnheaaDoor
open Go.RowKit

theorem emptyR_L (p : PD) (L : LV) (f : Nat) : (emptyR p L f).2.2 = L := by unfold emptyR; split <;> rfl
theorem emptyR_ok {p : PD} (h : p.Ok) (L : LV) (f : Nat) : (emptyR p L f).2.1.Ok ∧ p.done ≤ (emptyR p L f).2.1.done ∧ (emptyR p L f).2.1.done ≤ p.done + 1 := by
  unfold emptyR
  split
  · exact ⟨h, Int.le_refl _, by show p.done ≤ p.done + 1; omega⟩
  · exact ⟨ct_ok h _ _, ct_done p _ _⟩
/-- A head is synced and becomes the log's; a head is appended; a file is rewritten. -/
def rewS (p : PD) (L : LV) (f : Nat) (gen : Int) (cp : List UInt8) : Int × PD × LV := if synE p f = 0 then (0, synP p f, ⟨f, gen, (headB gen cp).length, false, L.down⟩) else (synE p f, synP p f, L)
def rewA (p : PD) (L : LV) (f : Nat) (gen : Int) (cp : List UInt8) : Int × PD × LV := if appE p f (headB gen cp).length = 0 then rewS (appP p f (headB gen cp)) L f gen cp else (appE p f (headB gen cp).length, appP p f (headB gen cp), L)
def rewR (p : PD) (L : LV) (f : Nat) (gen : Int) (cp : List UInt8) : Int × PD × LV := if (emptyR p L f).1 = 0 then rewA (emptyR p L f).2.1 L f gen cp else emptyR p L f
theorem ne_b {e : Int} (h : ¬ e = 0) : (e != 0) = true := by rw [bne_iff_ne]; exact h
theorem res_mk {base h g : Nat} {D D' : DS} {w w' : World} {r : Int × PD × LV} {e : Int} {p : PD} {L : LV} (hr : r = (e, p, L)) (h1 : D'.p = p) (h2 : LogAt base h g w' L D') (h3 : LTurn h g D D' w w') : LRes base h g D w r (.returned (.int .i64 e)) w' := by
  subst hr
  exact ⟨rfl, D', h1, h2, h3⟩
set_option maxHeartbeats 3200000 in
set_option maxRecDepth 100000 in
theorem rewrite_any {base h g : Nat} {L : LV} {D : DS} (f : Nat) (gen : Int) (A : Option Addr) (c : Nat) (cp : List UInt8) (w : World) (H : LogAt base h g w L D) (hO : D.p.Ok) (hd : D.p.done ≤ 999999999000) (hf : f < 4) (hg : Int64 gen)
    (hB : BytesIn (Off h g D) w A cp) (hT : Tab w) (hTo : Off h g D 0) (hl : cp.length ≤ 1073741824) :
    Calls Tryd.prog 38 #[vD h, .int .i64 f, .int .i64 gen, .slice A cp.length c] w (LRes base h g D w (rewR D.p L f gen cp)) := by
  have HE := hide (empty_any f w H hO (by omega) hf)
  have HEL := emptyR_L D.p L f
  obtain ⟨ho1, -, hd1⟩ := emptyR_ok hO L f
  have HO1 := hide ho1
  have HD1 := hide (show (emptyR D.p L f).2.1.done ≤ 999999999001 by omega)
  have HR := hide (show rewR D.p L f gen cp = if (emptyR D.p L f).1 = 0 then rewA (emptyR D.p L f).2.1 L f gen cp else emptyR D.p L f from rfl)
  have HTf := hide (And.intro hT hTo)
  have HBi := hide hB
  have hhb := (headB_bd gen cp).2
  have hhm : (headB gen cp).length ≤ 1073742000 := by omega
  have HG := hide hg
  have HF := hide hf
  have HL := hide hl
  unfold LRes at HE
  generalize rewR D.p L f gen cp = r at *
  generalize emptyR D.p L f = er at *
  obtain ⟨e1, p1, L1⟩ := er
  simp only at HE HEL HR HO1 HD1
  subst HEL
  clear H hO hd hB hT hTo ho1 hd1 hhb hg hf hl
  by_cases h1 : e1 = 0
  · have HQ := hide (show r = rewA p1 L1 f gen cp by rw [HR.out, if_pos h1])
    subst h1
    clear HR
    go_enter Tryd.func38, Tryd.ntmps38
    go_wp2_with fail
    refine HE.out.mono ?_
    rintro e w1 ⟨rfl, D1, rfl, hL1, ht1⟩
    have HL1 := hide hL1
    have HT1 := hide ht1
    have HF1 := hide (headFrame_any gen A c cp w1 HG.out (HBi.out.turn ht1).bytes (HTf.out.1.turn ht1 HTf.out.2) HL.out)
    unfold OwnRes at HF1
    obtain ⟨c0, c1, c2, c3, c4, c5⟩ := hL1.cells
    have HRA := hide (show rewA D1.p L1 f gen cp = if appE D1.p f (headB gen cp).length = 0 then rewS (appP D1.p f (headB gen cp)) L1 f gen cp else (appE D1.p f (headB gen cp).length, appP D1.p f (headB gen cp), L1) from rfl)
    have HRS := hide (show rewS (appP D1.p f (headB gen cp)) L1 f gen cp = if synE (appP D1.p f (headB gen cp)) f = 0 then (0, synP (appP D1.p f (headB gen cp)) f, (⟨f, gen, (headB gen cp).length, false, L1.down⟩ : LV)) else (synE (appP D1.p f (headB gen cp)) f, synP (appP D1.p f (headB gen cp)) f, L1) from rfl)
    have HAp := hide (fun (B : Option Addr) (d : Nat) (w2 : World) (hb : Below w1.heap.size w1 w2) (h1 : BytesAt w2.heap.size w2 B (headB gen cp)) (h2 : B = none → d = 0) => append_any f B d (headB gen cp) w2 (hL1.disk.below hb) HO1.out (by have := HD1.out; omega) h1 h2 (by omega))
    clear HE HTf HBi hL1 ht1
    generalize headB gen cp = fb at *
    go_wp2_with fail
    refine HF1.out.mono ?_
    rintro e w2 ⟨v2, rfl, hr2, hb2⟩
    obtain ⟨A2, k2, rfl, hy2, -, hn2, -⟩ := bytes_of_row hr2
    have HA2 := hide (HAp.out A2 k2 w2 hb2 hy2 hn2)
    have HB2 := hide hb2
    have k0 := (hb2.cell (p := ⟨h, 0, none⟩) HL1.out.lt).trans c0
    clear hr2 hb2 hy2 hn2 HAp c0 c1 c2 c3 c4 c5
    have hap := hide (app_ok HO1.out f fb)
    have had := hide (app_done D1.p f fb)
    generalize appE D1.p f fb.length = e3 at *
    generalize appP D1.p f fb = p3 at *
    by_cases h3 : e3 = 0
    · have HQ3 := hide (show r = rewS p3 L1 f gen cp by rw [HQ.out, HRA.out, if_pos h3])
      subst h3
      clear HRA HQ
      go_wp2_with fail
      refine HA2.out.mono ?_
      rintro e w3 ⟨rfl, D3, rfl, hD3, ht3⟩
      have HL3 := hide ((HL1.out.below HB2.out).turn hD3 ht3)
      have HT3 := hide ((HT1.out.trans (LTurn.of_below HB2.out)).trans (LTurn.of_turned ht3))
      obtain ⟨c0, c1, c2, c3, c4, c5⟩ := HL3.out.cells
      have HS3 := hide (sync_any f w3 hD3 hap.out (by have := HD1.out; have := had.out; omega))
      clear hD3 ht3 k0
      generalize synE D3.p f = e4 at *
      generalize synP D3.p f = p4 at *
      by_cases h4 : e4 = 0
      · have HQ4 := hide (show r = (0, p4, (⟨f, gen, fb.length, false, L1.down⟩ : LV)) by rw [HQ3.out, HRS.out, if_pos h4])
        subst h4
        clear HRS HQ3
        go_wp2_with fail
        refine HS3.out.mono ?_
        rintro e w4 ⟨rfl, D4, rfl, hD4, ht4⟩
        have HL4 := hide (HL3.out.turn hD4 ht4)
        have HT4 := hide (HT3.out.trans (LTurn.of_turned ht4))
        obtain ⟨m0, m1, m2, m3, m4, m5⟩ := HL4.out.cells
        have hlt := HL4.out.lt
        have f1 := HL4.out.frozen 1
        have f2 := HL4.out.frozen 2
        have f3 := HL4.out.frozen 3
        have f4 := HL4.out.frozen 4
        have HZ1 := hide (HL4.out.set 1 (.int .i64 (f : Nat)) ⟨f, L1.gen, L1.size, L1.loose, L1.down⟩ rfl)
        have HZ2 := hide (HZ1.out.1.set 2 (.int .i64 gen) ⟨f, gen, L1.size, L1.loose, L1.down⟩ rfl)
        have HZ3 := hide (HZ2.out.1.set 3 (.int .i64 (fb.length : Nat)) ⟨f, gen, fb.length, L1.loose, L1.down⟩ rfl)
        have HZ4 := hide (HZ3.out.1.set 4 (.bool false) ⟨f, gen, fb.length, false, L1.down⟩ rfl)
        clear hD4 ht4 c0 c1 c2 c3 c4 c5
        go_wp2_with fail
        go_ret
        exact res_mk HQ4.out rfl HZ4.out.1 ((((HT4.out.trans HZ1.out.2).trans HZ2.out.2).trans HZ3.out.2).trans HZ4.out.2)
      · have HQ4 := hide (show r = (e4, p4, L1) by rw [HQ3.out, HRS.out, if_neg h4])
        have hb := ne_b h4
        clear HRS HQ3 h4
        go_wp2_with fail
        refine HS3.out.mono ?_
        rintro e w4 ⟨rfl, D4, rfl, hD4, ht4⟩
        have HA := hide (And.intro (HL3.out.turn hD4 ht4) (HT3.out.trans (LTurn.of_turned ht4)))
        clear hD4 ht4
        go_wp2_with fail
        go_ret
        exact res_mk HQ4.out rfl HA.out.1 HA.out.2
    · have HQ3 := hide (show r = (e3, p3, L1) by rw [HQ.out, HRA.out, if_neg h3])
      have hb := ne_b h3
      clear HRA HRS HQ h3
      go_wp2_with fail
      refine HA2.out.mono ?_
      rintro e w3 ⟨rfl, D3, rfl, hD3, ht3⟩
      have HA := hide (And.intro ((HL1.out.below HB2.out).turn hD3 ht3) ((HT1.out.trans (LTurn.of_below HB2.out)).trans (LTurn.of_turned ht3)))
      clear hD3 ht3 k0
      go_wp2_with fail
      go_ret
      exact res_mk HQ3.out rfl HA.out.1 HA.out.2
  · have HQ := hide (show r = (e1, p1, L1) by rw [HR.out, if_neg h1])
    have hb := ne_b h1
    clear HR h1
    go_enter Tryd.func38, Tryd.ntmps38
    go_wp2_with fail
    refine HE.out.mono ?_
    rintro e w1 ⟨rfl, D1, rfl, hL1, ht1⟩
    have HA := hide (And.intro hL1 ht1)
    clear hL1 ht1
    go_wp2_with fail
    go_ret
    exact res_mk HQ.out rfl HA.out.1 HA.out.2
end Go.Proofs.YtkdihekhdnnheaaDoor
namespace Go.Proofs.YtkdihekhdnnheaaDoor
open Go.RowKit

/-- The segment alone is left, and safe. -/
def trimR (p : PD) (L : LV) : Int × PD × LV :=
  if L.size < (p.xs L.f).length then (ctE p L.f L.size, ctP p L.f L.size, L)
  else if p.s L.f < (p.xs L.f).length then (synE p L.f, synP p L.f, L) else (0, p, L)
theorem trimR_L (p : PD) (L : LV) : (trimR p L).2.2 = L := by unfold trimR; split; rfl; split <;> rfl
theorem trimR_ok {p : PD} (h : p.Ok) (L : LV) : (trimR p L).2.1.Ok ∧ p.done ≤ (trimR p L).2.1.done ∧ (trimR p L).2.1.done ≤ p.done + 1 := by
  unfold trimR
  split
  · exact ⟨ct_ok h _ _, ct_done p _ _⟩
  · split
    · exact ⟨syn_okG h _, syn_done p _⟩
    · exact ⟨h, Int.le_refl _, by show p.done ≤ p.done + 1; omega⟩
set_option maxHeartbeats 6400000 in
set_option maxRecDepth 100000 in
theorem trim_any {base h g : Nat} {L : LV} {D : DS} (w : World) (H : LogAt base h g w L D) (hO : D.p.Ok) (hd : D.p.done ≤ 1000000000000) (hf : L.f < 4) :
    Calls Tryd.prog 48 #[vD h] w (LRes base h g D w (trimR D.p L)) := by
  have HH := hide H
  have hs0 := hO.s0 L.f hf
  have hs1 := hO.s1 L.f hf
  have hln := hO.len hf
  have HSz := hide (fun w' (hb : Below w.heap.size w w') => size_any L.f w' (H.disk.below hb))
  rw [sizeD_nat D.p hf] at HSz
  have HSf := hide (fun w' (hb : Below w.heap.size w w') => safe_any L.f w' (H.disk.below hb))
  rw [safeD_nat D.p hf] at HSf
  have HCt := hide (fun w' (hb : Below w.heap.size w w') => cut_any L.f L.size w' (H.disk.below hb) hO hd)
  have HSy := hide (fun w' (hb : Below w.heap.size w w') => sync_any L.f w' (H.disk.below hb) hO hd)
  have HR := hide (show trimR D.p L = if L.size < (D.p.xs L.f).length then (ctE D.p L.f L.size, ctP D.p L.f L.size, L) else if D.p.s L.f < (D.p.xs L.f).length then (synE D.p L.f, synP D.p L.f, L) else (0, D.p, L) from rfl)
  have HB0 := hide ((Below.refl w.heap.size w).drew)
  generalize trimR D.p L = r at *
  generalize hce : ctE D.p L.f L.size = ce at *
  generalize hcp : ctP D.p L.f L.size = cp at *
  generalize hse : synE D.p L.f = se at *
  generalize hsp : synP D.p L.f = sp at *
  clear H hO hd hce hcp hse hsp
  by_cases h1 : L.size < (D.p.xs L.f).length
  · have HQ := hide (show r = (ce, cp, L) by rw [HR.out, if_pos h1])
    clear HR HSf HSy
    go_enter Tryd.func48, Tryd.ntmps48
    go_upto_region 1 with fail
    refine wp_region_held_drew (S := fun w' => w'.heap[h]? = some (.cells (lCells g L) 66 (0, 0))) (by kernel_rfl) ((HH.out.below HB0.out).box) (fun hS => ?_)
    refine wpAnyH_take (i := 0) (oi := ⟨some 4, _, _, _, _, _⟩) (v := ?_) rfl (by kernel_rfl) (by kernel_rfl) (by kernel_rfl) (fun _ _ _ h => h) (Or.inl ⟨by rfl, ?_⟩) hS ?_
    rotate_left 1
    · intro w' hw'
      have k0 := Lib.cell_of_heap hw' 0; have k1 := Lib.cell_of_heap hw' 1; have k2 := Lib.cell_of_heap hw' 2; have k3 := Lib.cell_of_heap hw' 3; have k4 := Lib.cell_of_heap hw' 4; have k5 := Lib.cell_of_heap hw' 5
      go_simp
      all_goals with_reducible rfl
    try simp only [Act.put, List.setIfInBounds_toArray, List.set_cons_zero, List.set_cons_succ]
    refine wpAnyH_take (i := 1) (oi := ⟨some 5, _, _, _, _, _⟩) (v := ?_) rfl (by kernel_rfl) (by kernel_rfl) (by kernel_rfl) (fun _ _ _ h => h) (Or.inl ⟨by rfl, ?_⟩) hS ?_
    rotate_left 1
    · intro w' hw'
      have k0 := Lib.cell_of_heap hw' 0; have k1 := Lib.cell_of_heap hw' 1; have k2 := Lib.cell_of_heap hw' 2; have k3 := Lib.cell_of_heap hw' 3; have k4 := Lib.cell_of_heap hw' 4; have k5 := Lib.cell_of_heap hw' 5
      go_simp
      all_goals with_reducible rfl
    try simp only [Act.put, List.setIfInBounds_toArray, List.set_cons_zero, List.set_cons_succ]
    refine wpAnyH_take (i := 2) (oi := ⟨some 6, _, _, _, _, _⟩) (v := ?_) rfl (by kernel_rfl) (by kernel_rfl) (by kernel_rfl) (fun _ _ _ h => h) (Or.inl ⟨by rfl, ?_⟩) hS ?_
    rotate_left 1
    · intro w' hw'
      have k0 := Lib.cell_of_heap hw' 0; have k1 := Lib.cell_of_heap hw' 1; have k2 := Lib.cell_of_heap hw' 2; have k3 := Lib.cell_of_heap hw' 3; have k4 := Lib.cell_of_heap hw' 4; have k5 := Lib.cell_of_heap hw' 5
      go_simp
      all_goals with_reducible rfl
    try simp only [Act.put, List.setIfInBounds_toArray, List.set_cons_zero, List.set_cons_succ]
    refine wpAnyH_take (i := 3) (oi := ⟨some 7, _, _, _, _, _⟩) (v := ?_) rfl (by kernel_rfl) (by kernel_rfl) (by kernel_rfl) (fun _ _ _ h => h) (Or.inl ⟨by rfl, ?_⟩) hS ?_
    rotate_left 1
    · intro w' hw'
      have k0 := Lib.cell_of_heap hw' 0; have k1 := Lib.cell_of_heap hw' 1; have k2 := Lib.cell_of_heap hw' 2; have k3 := Lib.cell_of_heap hw' 3; have k4 := Lib.cell_of_heap hw' 4; have k5 := Lib.cell_of_heap hw' 5
      go_simp
      all_goals with_reducible rfl
    try simp only [Act.put, List.setIfInBounds_toArray, List.set_cons_zero, List.set_cons_succ]
    refine wpAnyH_take (i := 4) (oi := ⟨some 8, _, _, _, _, _⟩) (v := ?_) rfl (by kernel_rfl) (by kernel_rfl) (by kernel_rfl) (fun _ _ _ h => h) (Or.inl ⟨by rfl, ?_⟩) hS ?_
    rotate_left 1
    · intro w' hw'
      have k0 := Lib.cell_of_heap hw' 0; have k1 := Lib.cell_of_heap hw' 1; have k2 := Lib.cell_of_heap hw' 2; have k3 := Lib.cell_of_heap hw' 3; have k4 := Lib.cell_of_heap hw' 4; have k5 := Lib.cell_of_heap hw' 5
      go_simp
      all_goals with_reducible rfl
    try simp only [Act.put, List.setIfInBounds_toArray, List.set_cons_zero, List.set_cons_succ]
    refine wpAnyH_take (i := 5) (oi := ⟨some 9, _, _, _, _, _⟩) (v := ?_) rfl (by kernel_rfl) (by kernel_rfl) (by kernel_rfl) (fun _ _ _ h => h) (Or.inl ⟨by rfl, ?_⟩) hS ?_
    rotate_left 1
    · intro w' hw'
      have k0 := Lib.cell_of_heap hw' 0; have k1 := Lib.cell_of_heap hw' 1; have k2 := Lib.cell_of_heap hw' 2; have k3 := Lib.cell_of_heap hw' 3; have k4 := Lib.cell_of_heap hw' 4; have k5 := Lib.cell_of_heap hw' 5
      go_simp
      all_goals with_reducible rfl
    try simp only [Act.put, List.setIfInBounds_toArray, List.set_cons_zero, List.set_cons_succ]
    refine wpAnyH_take (i := 6) (oi := ⟨some 10, _, _, _, _, _⟩) (v := ?_) rfl (by kernel_rfl) (by kernel_rfl) (by kernel_rfl) (fun _ _ _ h => h) (Or.inl ⟨by rfl, ?_⟩) hS ?_
    rotate_left 1
    · intro w' hw'
      have k0 := Lib.cell_of_heap hw' 0; have k1 := Lib.cell_of_heap hw' 1; have k2 := Lib.cell_of_heap hw' 2; have k3 := Lib.cell_of_heap hw' 3; have k4 := Lib.cell_of_heap hw' 4; have k5 := Lib.cell_of_heap hw' 5
      go_simp
      all_goals with_reducible rfl
    try simp only [Act.put, List.setIfInBounds_toArray, List.set_cons_zero, List.set_cons_succ]
    refine wpAnyH_take (i := 7) (oi := ⟨some 11, _, _, _, _, _⟩) (v := ?_) rfl (by kernel_rfl) (by kernel_rfl) (by kernel_rfl) (fun _ _ _ h => h) (Or.inl ⟨by rfl, ?_⟩) hS ?_
    rotate_left 1
    · intro w' hw'
      have k0 := Lib.cell_of_heap hw' 0; have k1 := Lib.cell_of_heap hw' 1; have k2 := Lib.cell_of_heap hw' 2; have k3 := Lib.cell_of_heap hw' 3; have k4 := Lib.cell_of_heap hw' 4; have k5 := Lib.cell_of_heap hw' 5
      go_simp
      all_goals with_reducible rfl
    try simp only [Act.put, List.setIfInBounds_toArray, List.set_cons_zero, List.set_cons_succ]
    refine wpAnyH_ready (rs := [8]) (by kernel_rfl) (by simp) ?_
    refine AllReadyH.cons (o := ⟨some 12, _, _, _, _, _⟩) rfl (fun K hK => ?_) AllReadyH.nil
    go_simp
    go_at_call 21
    refine (HSz.out _ HB0.out).mono ?_
    rintro e w1 ⟨rfl, hb1⟩
    have HB1 := hide (then_below HB0.out hb1)
    clear hb1
    refine hK.out _ _ ((HH.out.below HB1.out).box) (fun hS => ?_)
    clear hK K
    try simp only [Act.put, List.setIfInBounds_toArray, List.set_cons_zero, List.set_cons_succ]
    refine wpAnyH_ready (rs := [9]) (by kernel_rfl) (by simp) ?_
    refine AllReadyH.cons (o := ⟨some 3, _, _, _, _, _⟩) rfl (fun K hK => ?_) AllReadyH.nil
    go_simp
    refine hK.out _ _ hS (fun hS => ?_)
    clear hK K
    try simp only [Act.put, List.setIfInBounds_toArray, List.set_cons_zero, List.set_cons_succ]
    refine wpAnyH_done (by kernel_rfl) ?_ _
    have HB2 := hide (HB1.out.drew)
    obtain ⟨q0, q1, q2, q3, q4, q5⟩ := (HH.out.below HB1.out).cells
    go_upto_region 3 with fail
    refine wp_region_held_drew (S := fun w' => w'.heap[h]? = some (.cells (lCells g L) 66 (0, 0))) (by kernel_rfl) ((HH.out.below HB2.out).box) (fun hS => ?_)
    refine wpAnyH_take (i := 0) (oi := ⟨some 19, _, _, _, _, _⟩) (v := ?_) rfl (by kernel_rfl) (by kernel_rfl) (by kernel_rfl) (fun _ _ _ h => h) (Or.inl ⟨by rfl, ?_⟩) hS ?_
    rotate_left 1
    · intro w' hw'
      have k0 := Lib.cell_of_heap hw' 0; have k1 := Lib.cell_of_heap hw' 1; have k2 := Lib.cell_of_heap hw' 2; have k3 := Lib.cell_of_heap hw' 3; have k4 := Lib.cell_of_heap hw' 4; have k5 := Lib.cell_of_heap hw' 5
      go_simp
      all_goals with_reducible rfl
    try simp only [Act.put, List.setIfInBounds_toArray, List.set_cons_zero, List.set_cons_succ]
    refine wpAnyH_take (i := 1) (oi := ⟨some 20, _, _, _, _, _⟩) (v := ?_) rfl (by kernel_rfl) (by kernel_rfl) (by kernel_rfl) (fun _ _ _ h => h) (Or.inl ⟨by rfl, ?_⟩) hS ?_
    rotate_left 1
    · intro w' hw'
      have k0 := Lib.cell_of_heap hw' 0; have k1 := Lib.cell_of_heap hw' 1; have k2 := Lib.cell_of_heap hw' 2; have k3 := Lib.cell_of_heap hw' 3; have k4 := Lib.cell_of_heap hw' 4; have k5 := Lib.cell_of_heap hw' 5
      go_simp
      all_goals with_reducible rfl
    try simp only [Act.put, List.setIfInBounds_toArray, List.set_cons_zero, List.set_cons_succ]
    refine wpAnyH_take (i := 2) (oi := ⟨some 21, _, _, _, _, _⟩) (v := ?_) rfl (by kernel_rfl) (by kernel_rfl) (by kernel_rfl) (fun _ _ _ h => h) (Or.inl ⟨by rfl, ?_⟩) hS ?_
    rotate_left 1
    · intro w' hw'
      have k0 := Lib.cell_of_heap hw' 0; have k1 := Lib.cell_of_heap hw' 1; have k2 := Lib.cell_of_heap hw' 2; have k3 := Lib.cell_of_heap hw' 3; have k4 := Lib.cell_of_heap hw' 4; have k5 := Lib.cell_of_heap hw' 5
      go_simp
      all_goals with_reducible rfl
    try simp only [Act.put, List.setIfInBounds_toArray, List.set_cons_zero, List.set_cons_succ]
    refine wpAnyH_take (i := 3) (oi := ⟨some 22, _, _, _, _, _⟩) (v := ?_) rfl (by kernel_rfl) (by kernel_rfl) (by kernel_rfl) (fun _ _ _ h => h) (Or.inl ⟨by rfl, ?_⟩) hS ?_
    rotate_left 1
    · intro w' hw'
      have k0 := Lib.cell_of_heap hw' 0; have k1 := Lib.cell_of_heap hw' 1; have k2 := Lib.cell_of_heap hw' 2; have k3 := Lib.cell_of_heap hw' 3; have k4 := Lib.cell_of_heap hw' 4; have k5 := Lib.cell_of_heap hw' 5
      go_simp
      all_goals with_reducible rfl
    try simp only [Act.put, List.setIfInBounds_toArray, List.set_cons_zero, List.set_cons_succ]
    refine wpAnyH_take (i := 4) (oi := ⟨some 23, _, _, _, _, _⟩) (v := ?_) rfl (by kernel_rfl) (by kernel_rfl) (by kernel_rfl) (fun _ _ _ h => h) (Or.inl ⟨by rfl, ?_⟩) hS ?_
    rotate_left 1
    · intro w' hw'
      have k0 := Lib.cell_of_heap hw' 0; have k1 := Lib.cell_of_heap hw' 1; have k2 := Lib.cell_of_heap hw' 2; have k3 := Lib.cell_of_heap hw' 3; have k4 := Lib.cell_of_heap hw' 4; have k5 := Lib.cell_of_heap hw' 5
      go_simp
      all_goals with_reducible rfl
    try simp only [Act.put, List.setIfInBounds_toArray, List.set_cons_zero, List.set_cons_succ]
    refine wpAnyH_take (i := 5) (oi := ⟨some 24, _, _, _, _, _⟩) (v := ?_) rfl (by kernel_rfl) (by kernel_rfl) (by kernel_rfl) (fun _ _ _ h => h) (Or.inl ⟨by rfl, ?_⟩) hS ?_
    rotate_left 1
    · intro w' hw'
      have k0 := Lib.cell_of_heap hw' 0; have k1 := Lib.cell_of_heap hw' 1; have k2 := Lib.cell_of_heap hw' 2; have k3 := Lib.cell_of_heap hw' 3; have k4 := Lib.cell_of_heap hw' 4; have k5 := Lib.cell_of_heap hw' 5
      go_simp
      all_goals with_reducible rfl
    try simp only [Act.put, List.setIfInBounds_toArray, List.set_cons_zero, List.set_cons_succ]
    refine wpAnyH_take (i := 6) (oi := ⟨some 25, _, _, _, _, _⟩) (v := ?_) rfl (by kernel_rfl) (by kernel_rfl) (by kernel_rfl) (fun _ _ _ h => h) (Or.inl ⟨by rfl, ?_⟩) hS ?_
    rotate_left 1
    · intro w' hw'
      have k0 := Lib.cell_of_heap hw' 0; have k1 := Lib.cell_of_heap hw' 1; have k2 := Lib.cell_of_heap hw' 2; have k3 := Lib.cell_of_heap hw' 3; have k4 := Lib.cell_of_heap hw' 4; have k5 := Lib.cell_of_heap hw' 5
      go_simp
      all_goals with_reducible rfl
    try simp only [Act.put, List.setIfInBounds_toArray, List.set_cons_zero, List.set_cons_succ]
    refine wpAnyH_take (i := 7) (oi := ⟨some 26, _, _, _, _, _⟩) (v := ?_) rfl (by kernel_rfl) (by kernel_rfl) (by kernel_rfl) (fun _ _ _ h => h) (Or.inl ⟨by rfl, ?_⟩) hS ?_
    rotate_left 1
    · intro w' hw'
      have k0 := Lib.cell_of_heap hw' 0; have k1 := Lib.cell_of_heap hw' 1; have k2 := Lib.cell_of_heap hw' 2; have k3 := Lib.cell_of_heap hw' 3; have k4 := Lib.cell_of_heap hw' 4; have k5 := Lib.cell_of_heap hw' 5
      go_simp
      all_goals with_reducible rfl
    try simp only [Act.put, List.setIfInBounds_toArray, List.set_cons_zero, List.set_cons_succ]
    refine wpAnyH_take (i := 8) (oi := ⟨some 27, _, _, _, _, _⟩) (v := ?_) rfl (by kernel_rfl) (by kernel_rfl) (by kernel_rfl) (fun _ _ _ h => h) (Or.inl ⟨by rfl, ?_⟩) hS ?_
    rotate_left 1
    · intro w' hw'
      have k0 := Lib.cell_of_heap hw' 0; have k1 := Lib.cell_of_heap hw' 1; have k2 := Lib.cell_of_heap hw' 2; have k3 := Lib.cell_of_heap hw' 3; have k4 := Lib.cell_of_heap hw' 4; have k5 := Lib.cell_of_heap hw' 5
      go_simp
      all_goals with_reducible rfl
    try simp only [Act.put, List.setIfInBounds_toArray, List.set_cons_zero, List.set_cons_succ]
    refine wpAnyH_take (i := 9) (oi := ⟨some 28, _, _, _, _, _⟩) (v := ?_) rfl (by kernel_rfl) (by kernel_rfl) (by kernel_rfl) (fun _ _ _ h => h) (Or.inl ⟨by rfl, ?_⟩) hS ?_
    rotate_left 1
    · intro w' hw'
      have k0 := Lib.cell_of_heap hw' 0; have k1 := Lib.cell_of_heap hw' 1; have k2 := Lib.cell_of_heap hw' 2; have k3 := Lib.cell_of_heap hw' 3; have k4 := Lib.cell_of_heap hw' 4; have k5 := Lib.cell_of_heap hw' 5
      go_simp
      all_goals with_reducible rfl
    try simp only [Act.put, List.setIfInBounds_toArray, List.set_cons_zero, List.set_cons_succ]
    refine wpAnyH_take (i := 10) (oi := ⟨some 29, _, _, _, _, _⟩) (v := ?_) rfl (by kernel_rfl) (by kernel_rfl) (by kernel_rfl) (fun _ _ _ h => h) (Or.inl ⟨by rfl, ?_⟩) hS ?_
    rotate_left 1
    · intro w' hw'
      have k0 := Lib.cell_of_heap hw' 0; have k1 := Lib.cell_of_heap hw' 1; have k2 := Lib.cell_of_heap hw' 2; have k3 := Lib.cell_of_heap hw' 3; have k4 := Lib.cell_of_heap hw' 4; have k5 := Lib.cell_of_heap hw' 5
      go_simp
      all_goals with_reducible rfl
    try simp only [Act.put, List.setIfInBounds_toArray, List.set_cons_zero, List.set_cons_succ]
    refine wpAnyH_take (i := 11) (oi := ⟨some 30, _, _, _, _, _⟩) (v := ?_) rfl (by kernel_rfl) (by kernel_rfl) (by kernel_rfl) (fun _ _ _ h => h) (Or.inl ⟨by rfl, ?_⟩) hS ?_
    rotate_left 1
    · intro w' hw'
      have k0 := Lib.cell_of_heap hw' 0; have k1 := Lib.cell_of_heap hw' 1; have k2 := Lib.cell_of_heap hw' 2; have k3 := Lib.cell_of_heap hw' 3; have k4 := Lib.cell_of_heap hw' 4; have k5 := Lib.cell_of_heap hw' 5
      go_simp
      all_goals with_reducible rfl
    try simp only [Act.put, List.setIfInBounds_toArray, List.set_cons_zero, List.set_cons_succ]
    refine wpAnyH_ready (rs := [12]) (by kernel_rfl) (by simp) ?_
    refine AllReadyH.cons (o := ⟨some 31, _, _, _, _, _⟩) rfl (fun K hK => ?_) AllReadyH.nil
    go_simp
    go_at_call 40
    refine (HCt.out _ HB2.out).mono ?_
    rintro e w2 ⟨rfl, D2, rfl, hD2, hT2⟩
    have HL2 := hide ((HH.out.below HB2.out).turn hD2 hT2)
    have HT2 := hide ((LTurn.of_below (h := h) HB2.out).trans (LTurn.of_turned hT2))
    clear hD2 hT2
    refine hK.out _ _ (HL2.out.box) (fun hS => ?_)
    clear hK K
    try simp only [Act.put, List.setIfInBounds_toArray, List.set_cons_zero, List.set_cons_succ]
    refine wpAnyH_ready (rs := [13]) (by kernel_rfl) (by simp) ?_
    refine AllReadyH.cons (o := ⟨some 2, _, _, _, _, _⟩) rfl (fun K hK => ?_) AllReadyH.nil
    go_simp
    refine hK.out _ _ hS (fun hS => ?_)
    clear hK K
    try simp only [Act.put, List.setIfInBounds_toArray, List.set_cons_zero, List.set_cons_succ]
    refine wpAnyH_done (by kernel_rfl) ?_ _
    go_wp2_with fail
    go_ret
    exact res_mk HQ.out rfl HL2.out HT2.out
  · by_cases h2 : D.p.s L.f < (D.p.xs L.f).length
    · have HQ := hide (show r = (se, sp, L) by rw [HR.out, if_neg h1, if_pos h2])
      clear HR HCt
      go_enter Tryd.func48, Tryd.ntmps48
      go_upto_region 1 with fail
      refine wp_region_held_drew (S := fun w' => w'.heap[h]? = some (.cells (lCells g L) 66 (0, 0))) (by kernel_rfl) ((HH.out.below HB0.out).box) (fun hS => ?_)
      refine wpAnyH_take (i := 0) (oi := ⟨some 4, _, _, _, _, _⟩) (v := ?_) rfl (by kernel_rfl) (by kernel_rfl) (by kernel_rfl) (fun _ _ _ h => h) (Or.inl ⟨by rfl, ?_⟩) hS ?_
      rotate_left 1
      · intro w' hw'
        have k0 := Lib.cell_of_heap hw' 0; have k1 := Lib.cell_of_heap hw' 1; have k2 := Lib.cell_of_heap hw' 2; have k3 := Lib.cell_of_heap hw' 3; have k4 := Lib.cell_of_heap hw' 4; have k5 := Lib.cell_of_heap hw' 5
        go_simp
        all_goals with_reducible rfl
      try simp only [Act.put, List.setIfInBounds_toArray, List.set_cons_zero, List.set_cons_succ]
      refine wpAnyH_take (i := 1) (oi := ⟨some 5, _, _, _, _, _⟩) (v := ?_) rfl (by kernel_rfl) (by kernel_rfl) (by kernel_rfl) (fun _ _ _ h => h) (Or.inl ⟨by rfl, ?_⟩) hS ?_
      rotate_left 1
      · intro w' hw'
        have k0 := Lib.cell_of_heap hw' 0; have k1 := Lib.cell_of_heap hw' 1; have k2 := Lib.cell_of_heap hw' 2; have k3 := Lib.cell_of_heap hw' 3; have k4 := Lib.cell_of_heap hw' 4; have k5 := Lib.cell_of_heap hw' 5
        go_simp
        all_goals with_reducible rfl
      try simp only [Act.put, List.setIfInBounds_toArray, List.set_cons_zero, List.set_cons_succ]
      refine wpAnyH_take (i := 2) (oi := ⟨some 6, _, _, _, _, _⟩) (v := ?_) rfl (by kernel_rfl) (by kernel_rfl) (by kernel_rfl) (fun _ _ _ h => h) (Or.inl ⟨by rfl, ?_⟩) hS ?_
      rotate_left 1
      · intro w' hw'
        have k0 := Lib.cell_of_heap hw' 0; have k1 := Lib.cell_of_heap hw' 1; have k2 := Lib.cell_of_heap hw' 2; have k3 := Lib.cell_of_heap hw' 3; have k4 := Lib.cell_of_heap hw' 4; have k5 := Lib.cell_of_heap hw' 5
        go_simp
        all_goals with_reducible rfl
      try simp only [Act.put, List.setIfInBounds_toArray, List.set_cons_zero, List.set_cons_succ]
      refine wpAnyH_take (i := 3) (oi := ⟨some 7, _, _, _, _, _⟩) (v := ?_) rfl (by kernel_rfl) (by kernel_rfl) (by kernel_rfl) (fun _ _ _ h => h) (Or.inl ⟨by rfl, ?_⟩) hS ?_
      rotate_left 1
      · intro w' hw'
        have k0 := Lib.cell_of_heap hw' 0; have k1 := Lib.cell_of_heap hw' 1; have k2 := Lib.cell_of_heap hw' 2; have k3 := Lib.cell_of_heap hw' 3; have k4 := Lib.cell_of_heap hw' 4; have k5 := Lib.cell_of_heap hw' 5
        go_simp
        all_goals with_reducible rfl
      try simp only [Act.put, List.setIfInBounds_toArray, List.set_cons_zero, List.set_cons_succ]
      refine wpAnyH_take (i := 4) (oi := ⟨some 8, _, _, _, _, _⟩) (v := ?_) rfl (by kernel_rfl) (by kernel_rfl) (by kernel_rfl) (fun _ _ _ h => h) (Or.inl ⟨by rfl, ?_⟩) hS ?_
      rotate_left 1
      · intro w' hw'
        have k0 := Lib.cell_of_heap hw' 0; have k1 := Lib.cell_of_heap hw' 1; have k2 := Lib.cell_of_heap hw' 2; have k3 := Lib.cell_of_heap hw' 3; have k4 := Lib.cell_of_heap hw' 4; have k5 := Lib.cell_of_heap hw' 5
        go_simp
        all_goals with_reducible rfl
      try simp only [Act.put, List.setIfInBounds_toArray, List.set_cons_zero, List.set_cons_succ]
      refine wpAnyH_take (i := 5) (oi := ⟨some 9, _, _, _, _, _⟩) (v := ?_) rfl (by kernel_rfl) (by kernel_rfl) (by kernel_rfl) (fun _ _ _ h => h) (Or.inl ⟨by rfl, ?_⟩) hS ?_
      rotate_left 1
      · intro w' hw'
        have k0 := Lib.cell_of_heap hw' 0; have k1 := Lib.cell_of_heap hw' 1; have k2 := Lib.cell_of_heap hw' 2; have k3 := Lib.cell_of_heap hw' 3; have k4 := Lib.cell_of_heap hw' 4; have k5 := Lib.cell_of_heap hw' 5
        go_simp
        all_goals with_reducible rfl
      try simp only [Act.put, List.setIfInBounds_toArray, List.set_cons_zero, List.set_cons_succ]
      refine wpAnyH_take (i := 6) (oi := ⟨some 10, _, _, _, _, _⟩) (v := ?_) rfl (by kernel_rfl) (by kernel_rfl) (by kernel_rfl) (fun _ _ _ h => h) (Or.inl ⟨by rfl, ?_⟩) hS ?_
      rotate_left 1
      · intro w' hw'
        have k0 := Lib.cell_of_heap hw' 0; have k1 := Lib.cell_of_heap hw' 1; have k2 := Lib.cell_of_heap hw' 2; have k3 := Lib.cell_of_heap hw' 3; have k4 := Lib.cell_of_heap hw' 4; have k5 := Lib.cell_of_heap hw' 5
        go_simp
        all_goals with_reducible rfl
      try simp only [Act.put, List.setIfInBounds_toArray, List.set_cons_zero, List.set_cons_succ]
      refine wpAnyH_take (i := 7) (oi := ⟨some 11, _, _, _, _, _⟩) (v := ?_) rfl (by kernel_rfl) (by kernel_rfl) (by kernel_rfl) (fun _ _ _ h => h) (Or.inl ⟨by rfl, ?_⟩) hS ?_
      rotate_left 1
      · intro w' hw'
        have k0 := Lib.cell_of_heap hw' 0; have k1 := Lib.cell_of_heap hw' 1; have k2 := Lib.cell_of_heap hw' 2; have k3 := Lib.cell_of_heap hw' 3; have k4 := Lib.cell_of_heap hw' 4; have k5 := Lib.cell_of_heap hw' 5
        go_simp
        all_goals with_reducible rfl
      try simp only [Act.put, List.setIfInBounds_toArray, List.set_cons_zero, List.set_cons_succ]
      refine wpAnyH_ready (rs := [8]) (by kernel_rfl) (by simp) ?_
      refine AllReadyH.cons (o := ⟨some 12, _, _, _, _, _⟩) rfl (fun K hK => ?_) AllReadyH.nil
      go_simp
      go_at_call 21
      refine (HSz.out _ HB0.out).mono ?_
      rintro e w1 ⟨rfl, hb1⟩
      have HB1 := hide (then_below HB0.out hb1)
      clear hb1
      refine hK.out _ _ ((HH.out.below HB1.out).box) (fun hS => ?_)
      clear hK K
      try simp only [Act.put, List.setIfInBounds_toArray, List.set_cons_zero, List.set_cons_succ]
      refine wpAnyH_ready (rs := [9]) (by kernel_rfl) (by simp) ?_
      refine AllReadyH.cons (o := ⟨some 3, _, _, _, _, _⟩) rfl (fun K hK => ?_) AllReadyH.nil
      go_simp
      refine hK.out _ _ hS (fun hS => ?_)
      clear hK K
      try simp only [Act.put, List.setIfInBounds_toArray, List.set_cons_zero, List.set_cons_succ]
      refine wpAnyH_done (by kernel_rfl) ?_ _
      have HB2 := hide (HB1.out.drew)
      obtain ⟨q0, q1, q2, q3, q4, q5⟩ := (HH.out.below HB1.out).cells
      go_upto_region 4 with fail
      refine wp_region_held_drew (S := fun w' => w'.heap[h]? = some (.cells (lCells g L) 66 (0, 0))) (by kernel_rfl) ((HH.out.below HB2.out).box) (fun hS => ?_)
      refine wpAnyH_take (i := 0) (oi := ⟨some 32, _, _, _, _, _⟩) (v := ?_) rfl (by kernel_rfl) (by kernel_rfl) (by kernel_rfl) (fun _ _ _ h => h) (Or.inl ⟨by rfl, ?_⟩) hS ?_
      rotate_left 1
      · intro w' hw'
        have k0 := Lib.cell_of_heap hw' 0; have k1 := Lib.cell_of_heap hw' 1; have k2 := Lib.cell_of_heap hw' 2; have k3 := Lib.cell_of_heap hw' 3; have k4 := Lib.cell_of_heap hw' 4; have k5 := Lib.cell_of_heap hw' 5
        go_simp
        all_goals with_reducible rfl
      try simp only [Act.put, List.setIfInBounds_toArray, List.set_cons_zero, List.set_cons_succ]
      refine wpAnyH_take (i := 1) (oi := ⟨some 33, _, _, _, _, _⟩) (v := ?_) rfl (by kernel_rfl) (by kernel_rfl) (by kernel_rfl) (fun _ _ _ h => h) (Or.inl ⟨by rfl, ?_⟩) hS ?_
      rotate_left 1
      · intro w' hw'
        have k0 := Lib.cell_of_heap hw' 0; have k1 := Lib.cell_of_heap hw' 1; have k2 := Lib.cell_of_heap hw' 2; have k3 := Lib.cell_of_heap hw' 3; have k4 := Lib.cell_of_heap hw' 4; have k5 := Lib.cell_of_heap hw' 5
        go_simp
        all_goals with_reducible rfl
      try simp only [Act.put, List.setIfInBounds_toArray, List.set_cons_zero, List.set_cons_succ]
      refine wpAnyH_take (i := 2) (oi := ⟨some 34, _, _, _, _, _⟩) (v := ?_) rfl (by kernel_rfl) (by kernel_rfl) (by kernel_rfl) (fun _ _ _ h => h) (Or.inl ⟨by rfl, ?_⟩) hS ?_
      rotate_left 1
      · intro w' hw'
        have k0 := Lib.cell_of_heap hw' 0; have k1 := Lib.cell_of_heap hw' 1; have k2 := Lib.cell_of_heap hw' 2; have k3 := Lib.cell_of_heap hw' 3; have k4 := Lib.cell_of_heap hw' 4; have k5 := Lib.cell_of_heap hw' 5
        go_simp
        all_goals with_reducible rfl
      try simp only [Act.put, List.setIfInBounds_toArray, List.set_cons_zero, List.set_cons_succ]
      refine wpAnyH_take (i := 3) (oi := ⟨some 35, _, _, _, _, _⟩) (v := ?_) rfl (by kernel_rfl) (by kernel_rfl) (by kernel_rfl) (fun _ _ _ h => h) (Or.inl ⟨by rfl, ?_⟩) hS ?_
      rotate_left 1
      · intro w' hw'
        have k0 := Lib.cell_of_heap hw' 0; have k1 := Lib.cell_of_heap hw' 1; have k2 := Lib.cell_of_heap hw' 2; have k3 := Lib.cell_of_heap hw' 3; have k4 := Lib.cell_of_heap hw' 4; have k5 := Lib.cell_of_heap hw' 5
        go_simp
        all_goals with_reducible rfl
      try simp only [Act.put, List.setIfInBounds_toArray, List.set_cons_zero, List.set_cons_succ]
      refine wpAnyH_take (i := 4) (oi := ⟨some 36, _, _, _, _, _⟩) (v := ?_) rfl (by kernel_rfl) (by kernel_rfl) (by kernel_rfl) (fun _ _ _ h => h) (Or.inl ⟨by rfl, ?_⟩) hS ?_
      rotate_left 1
      · intro w' hw'
        have k0 := Lib.cell_of_heap hw' 0; have k1 := Lib.cell_of_heap hw' 1; have k2 := Lib.cell_of_heap hw' 2; have k3 := Lib.cell_of_heap hw' 3; have k4 := Lib.cell_of_heap hw' 4; have k5 := Lib.cell_of_heap hw' 5
        go_simp
        all_goals with_reducible rfl
      try simp only [Act.put, List.setIfInBounds_toArray, List.set_cons_zero, List.set_cons_succ]
      refine wpAnyH_take (i := 5) (oi := ⟨some 37, _, _, _, _, _⟩) (v := ?_) rfl (by kernel_rfl) (by kernel_rfl) (by kernel_rfl) (fun _ _ _ h => h) (Or.inl ⟨by rfl, ?_⟩) hS ?_
      rotate_left 1
      · intro w' hw'
        have k0 := Lib.cell_of_heap hw' 0; have k1 := Lib.cell_of_heap hw' 1; have k2 := Lib.cell_of_heap hw' 2; have k3 := Lib.cell_of_heap hw' 3; have k4 := Lib.cell_of_heap hw' 4; have k5 := Lib.cell_of_heap hw' 5
        go_simp
        all_goals with_reducible rfl
      try simp only [Act.put, List.setIfInBounds_toArray, List.set_cons_zero, List.set_cons_succ]
      refine wpAnyH_take (i := 6) (oi := ⟨some 38, _, _, _, _, _⟩) (v := ?_) rfl (by kernel_rfl) (by kernel_rfl) (by kernel_rfl) (fun _ _ _ h => h) (Or.inl ⟨by rfl, ?_⟩) hS ?_
      rotate_left 1
      · intro w' hw'
        have k0 := Lib.cell_of_heap hw' 0; have k1 := Lib.cell_of_heap hw' 1; have k2 := Lib.cell_of_heap hw' 2; have k3 := Lib.cell_of_heap hw' 3; have k4 := Lib.cell_of_heap hw' 4; have k5 := Lib.cell_of_heap hw' 5
        go_simp
        all_goals with_reducible rfl
      try simp only [Act.put, List.setIfInBounds_toArray, List.set_cons_zero, List.set_cons_succ]
      refine wpAnyH_take (i := 7) (oi := ⟨some 39, _, _, _, _, _⟩) (v := ?_) rfl (by kernel_rfl) (by kernel_rfl) (by kernel_rfl) (fun _ _ _ h => h) (Or.inl ⟨by rfl, ?_⟩) hS ?_
      rotate_left 1
      · intro w' hw'
        have k0 := Lib.cell_of_heap hw' 0; have k1 := Lib.cell_of_heap hw' 1; have k2 := Lib.cell_of_heap hw' 2; have k3 := Lib.cell_of_heap hw' 3; have k4 := Lib.cell_of_heap hw' 4; have k5 := Lib.cell_of_heap hw' 5
        go_simp
        all_goals with_reducible rfl
      try simp only [Act.put, List.setIfInBounds_toArray, List.set_cons_zero, List.set_cons_succ]
      refine wpAnyH_take (i := 9) (oi := ⟨some 41, _, _, _, _, _⟩) (v := ?_) rfl (by kernel_rfl) (by kernel_rfl) (by kernel_rfl) (fun _ _ _ h => h) (Or.inl ⟨by rfl, ?_⟩) hS ?_
      rotate_left 1
      · intro w' hw'
        have k0 := Lib.cell_of_heap hw' 0; have k1 := Lib.cell_of_heap hw' 1; have k2 := Lib.cell_of_heap hw' 2; have k3 := Lib.cell_of_heap hw' 3; have k4 := Lib.cell_of_heap hw' 4; have k5 := Lib.cell_of_heap hw' 5
        go_simp
        all_goals with_reducible rfl
      try simp only [Act.put, List.setIfInBounds_toArray, List.set_cons_zero, List.set_cons_succ]
      refine wpAnyH_ready (rs := [8]) (by kernel_rfl) (by simp) ?_
      refine AllReadyH.cons (o := ⟨some 40, _, _, _, _, _⟩) rfl (fun K hK => ?_) AllReadyH.nil
      go_simp
      go_at_call 63
      refine (HSf.out _ HB2.out).mono ?_
      rintro e w3 ⟨rfl, hb3⟩
      have HB3 := hide (then_below HB2.out hb3)
      clear hb3
      refine hK.out _ _ ((HH.out.below HB3.out).box) (fun hS => ?_)
      clear hK K
      try simp only [Act.put, List.setIfInBounds_toArray, List.set_cons_zero, List.set_cons_succ]
      refine wpAnyH_ready (rs := [10]) (by kernel_rfl) (by simp) ?_
      refine AllReadyH.cons (o := ⟨some 42, _, _, _, _, _⟩) rfl (fun K hK => ?_) AllReadyH.nil
      go_simp
      refine hK.out _ _ hS (fun hS => ?_)
      clear hK K
      try simp only [Act.put, List.setIfInBounds_toArray, List.set_cons_zero, List.set_cons_succ]
      refine wpAnyH_done (by kernel_rfl) ?_ _
      have HB4 := hide (HB3.out.drew)
      go_upto_region 5 with fail
      refine wp_region_held_drew (S := fun w' => w'.heap[h]? = some (.cells (lCells g L) 66 (0, 0))) (by kernel_rfl) ((HH.out.below HB4.out).box) (fun hS => ?_)
      refine wpAnyH_take (i := 0) (oi := ⟨some 43, _, _, _, _, _⟩) (v := ?_) rfl (by kernel_rfl) (by kernel_rfl) (by kernel_rfl) (fun _ _ _ h => h) (Or.inl ⟨by rfl, ?_⟩) hS ?_
      rotate_left 1
      · intro w' hw'
        have k0 := Lib.cell_of_heap hw' 0; have k1 := Lib.cell_of_heap hw' 1; have k2 := Lib.cell_of_heap hw' 2; have k3 := Lib.cell_of_heap hw' 3; have k4 := Lib.cell_of_heap hw' 4; have k5 := Lib.cell_of_heap hw' 5
        go_simp
        all_goals with_reducible rfl
      try simp only [Act.put, List.setIfInBounds_toArray, List.set_cons_zero, List.set_cons_succ]
      refine wpAnyH_take (i := 1) (oi := ⟨some 44, _, _, _, _, _⟩) (v := ?_) rfl (by kernel_rfl) (by kernel_rfl) (by kernel_rfl) (fun _ _ _ h => h) (Or.inl ⟨by rfl, ?_⟩) hS ?_
      rotate_left 1
      · intro w' hw'
        have k0 := Lib.cell_of_heap hw' 0; have k1 := Lib.cell_of_heap hw' 1; have k2 := Lib.cell_of_heap hw' 2; have k3 := Lib.cell_of_heap hw' 3; have k4 := Lib.cell_of_heap hw' 4; have k5 := Lib.cell_of_heap hw' 5
        go_simp
        all_goals with_reducible rfl
      try simp only [Act.put, List.setIfInBounds_toArray, List.set_cons_zero, List.set_cons_succ]
      refine wpAnyH_take (i := 2) (oi := ⟨some 45, _, _, _, _, _⟩) (v := ?_) rfl (by kernel_rfl) (by kernel_rfl) (by kernel_rfl) (fun _ _ _ h => h) (Or.inl ⟨by rfl, ?_⟩) hS ?_
      rotate_left 1
      · intro w' hw'
        have k0 := Lib.cell_of_heap hw' 0; have k1 := Lib.cell_of_heap hw' 1; have k2 := Lib.cell_of_heap hw' 2; have k3 := Lib.cell_of_heap hw' 3; have k4 := Lib.cell_of_heap hw' 4; have k5 := Lib.cell_of_heap hw' 5
        go_simp
        all_goals with_reducible rfl
      try simp only [Act.put, List.setIfInBounds_toArray, List.set_cons_zero, List.set_cons_succ]
      refine wpAnyH_take (i := 3) (oi := ⟨some 46, _, _, _, _, _⟩) (v := ?_) rfl (by kernel_rfl) (by kernel_rfl) (by kernel_rfl) (fun _ _ _ h => h) (Or.inl ⟨by rfl, ?_⟩) hS ?_
      rotate_left 1
      · intro w' hw'
        have k0 := Lib.cell_of_heap hw' 0; have k1 := Lib.cell_of_heap hw' 1; have k2 := Lib.cell_of_heap hw' 2; have k3 := Lib.cell_of_heap hw' 3; have k4 := Lib.cell_of_heap hw' 4; have k5 := Lib.cell_of_heap hw' 5
        go_simp
        all_goals with_reducible rfl
      try simp only [Act.put, List.setIfInBounds_toArray, List.set_cons_zero, List.set_cons_succ]
      refine wpAnyH_take (i := 4) (oi := ⟨some 47, _, _, _, _, _⟩) (v := ?_) rfl (by kernel_rfl) (by kernel_rfl) (by kernel_rfl) (fun _ _ _ h => h) (Or.inl ⟨by rfl, ?_⟩) hS ?_
      rotate_left 1
      · intro w' hw'
        have k0 := Lib.cell_of_heap hw' 0; have k1 := Lib.cell_of_heap hw' 1; have k2 := Lib.cell_of_heap hw' 2; have k3 := Lib.cell_of_heap hw' 3; have k4 := Lib.cell_of_heap hw' 4; have k5 := Lib.cell_of_heap hw' 5
        go_simp
        all_goals with_reducible rfl
      try simp only [Act.put, List.setIfInBounds_toArray, List.set_cons_zero, List.set_cons_succ]
      refine wpAnyH_take (i := 5) (oi := ⟨some 48, _, _, _, _, _⟩) (v := ?_) rfl (by kernel_rfl) (by kernel_rfl) (by kernel_rfl) (fun _ _ _ h => h) (Or.inl ⟨by rfl, ?_⟩) hS ?_
      rotate_left 1
      · intro w' hw'
        have k0 := Lib.cell_of_heap hw' 0; have k1 := Lib.cell_of_heap hw' 1; have k2 := Lib.cell_of_heap hw' 2; have k3 := Lib.cell_of_heap hw' 3; have k4 := Lib.cell_of_heap hw' 4; have k5 := Lib.cell_of_heap hw' 5
        go_simp
        all_goals with_reducible rfl
      try simp only [Act.put, List.setIfInBounds_toArray, List.set_cons_zero, List.set_cons_succ]
      refine wpAnyH_take (i := 6) (oi := ⟨some 49, _, _, _, _, _⟩) (v := ?_) rfl (by kernel_rfl) (by kernel_rfl) (by kernel_rfl) (fun _ _ _ h => h) (Or.inl ⟨by rfl, ?_⟩) hS ?_
      rotate_left 1
      · intro w' hw'
        have k0 := Lib.cell_of_heap hw' 0; have k1 := Lib.cell_of_heap hw' 1; have k2 := Lib.cell_of_heap hw' 2; have k3 := Lib.cell_of_heap hw' 3; have k4 := Lib.cell_of_heap hw' 4; have k5 := Lib.cell_of_heap hw' 5
        go_simp
        all_goals with_reducible rfl
      try simp only [Act.put, List.setIfInBounds_toArray, List.set_cons_zero, List.set_cons_succ]
      refine wpAnyH_take (i := 7) (oi := ⟨some 50, _, _, _, _, _⟩) (v := ?_) rfl (by kernel_rfl) (by kernel_rfl) (by kernel_rfl) (fun _ _ _ h => h) (Or.inl ⟨by rfl, ?_⟩) hS ?_
      rotate_left 1
      · intro w' hw'
        have k0 := Lib.cell_of_heap hw' 0; have k1 := Lib.cell_of_heap hw' 1; have k2 := Lib.cell_of_heap hw' 2; have k3 := Lib.cell_of_heap hw' 3; have k4 := Lib.cell_of_heap hw' 4; have k5 := Lib.cell_of_heap hw' 5
        go_simp
        all_goals with_reducible rfl
      try simp only [Act.put, List.setIfInBounds_toArray, List.set_cons_zero, List.set_cons_succ]
      refine wpAnyH_ready (rs := [8]) (by kernel_rfl) (by simp) ?_
      refine AllReadyH.cons (o := ⟨some 51, _, _, _, _, _⟩) rfl (fun K hK => ?_) AllReadyH.nil
      go_simp
      go_at_call 36
      refine (HSy.out _ HB4.out).mono ?_
      rintro e w5 ⟨rfl, D5, rfl, hD5, hT5⟩
      have HL5 := hide ((HH.out.below HB4.out).turn hD5 hT5)
      have HT5 := hide ((LTurn.of_below (h := h) HB4.out).trans (LTurn.of_turned hT5))
      clear hD5 hT5
      refine hK.out _ _ (HL5.out.box) (fun hS => ?_)
      clear hK K
      try simp only [Act.put, List.setIfInBounds_toArray, List.set_cons_zero, List.set_cons_succ]
      refine wpAnyH_ready (rs := [9]) (by kernel_rfl) (by simp) ?_
      refine AllReadyH.cons (o := ⟨some 2, _, _, _, _, _⟩) rfl (fun K hK => ?_) AllReadyH.nil
      go_simp
      refine hK.out _ _ hS (fun hS => ?_)
      clear hK K
      try simp only [Act.put, List.setIfInBounds_toArray, List.set_cons_zero, List.set_cons_succ]
      refine wpAnyH_done (by kernel_rfl) ?_ _
      go_wp2_with fail
      go_ret
      exact res_mk HQ.out rfl HL5.out HT5.out
    · have HQ := hide (show r = (0, D.p, L) by rw [HR.out, if_neg h1, if_neg h2])
      clear HR HCt HSy
      go_enter Tryd.func48, Tryd.ntmps48
      go_upto_region 1 with fail
      refine wp_region_held_drew (S := fun w' => w'.heap[h]? = some (.cells (lCells g L) 66 (0, 0))) (by kernel_rfl) ((HH.out.below HB0.out).box) (fun hS => ?_)
      refine wpAnyH_take (i := 0) (oi := ⟨some 4, _, _, _, _, _⟩) (v := ?_) rfl (by kernel_rfl) (by kernel_rfl) (by kernel_rfl) (fun _ _ _ h => h) (Or.inl ⟨by rfl, ?_⟩) hS ?_
      rotate_left 1
      · intro w' hw'
        have k0 := Lib.cell_of_heap hw' 0; have k1 := Lib.cell_of_heap hw' 1; have k2 := Lib.cell_of_heap hw' 2; have k3 := Lib.cell_of_heap hw' 3; have k4 := Lib.cell_of_heap hw' 4; have k5 := Lib.cell_of_heap hw' 5
        go_simp
        all_goals with_reducible rfl
      try simp only [Act.put, List.setIfInBounds_toArray, List.set_cons_zero, List.set_cons_succ]
      refine wpAnyH_take (i := 1) (oi := ⟨some 5, _, _, _, _, _⟩) (v := ?_) rfl (by kernel_rfl) (by kernel_rfl) (by kernel_rfl) (fun _ _ _ h => h) (Or.inl ⟨by rfl, ?_⟩) hS ?_
      rotate_left 1
      · intro w' hw'
        have k0 := Lib.cell_of_heap hw' 0; have k1 := Lib.cell_of_heap hw' 1; have k2 := Lib.cell_of_heap hw' 2; have k3 := Lib.cell_of_heap hw' 3; have k4 := Lib.cell_of_heap hw' 4; have k5 := Lib.cell_of_heap hw' 5
        go_simp
        all_goals with_reducible rfl
      try simp only [Act.put, List.setIfInBounds_toArray, List.set_cons_zero, List.set_cons_succ]
      refine wpAnyH_take (i := 2) (oi := ⟨some 6, _, _, _, _, _⟩) (v := ?_) rfl (by kernel_rfl) (by kernel_rfl) (by kernel_rfl) (fun _ _ _ h => h) (Or.inl ⟨by rfl, ?_⟩) hS ?_
      rotate_left 1
      · intro w' hw'
        have k0 := Lib.cell_of_heap hw' 0; have k1 := Lib.cell_of_heap hw' 1; have k2 := Lib.cell_of_heap hw' 2; have k3 := Lib.cell_of_heap hw' 3; have k4 := Lib.cell_of_heap hw' 4; have k5 := Lib.cell_of_heap hw' 5
        go_simp
        all_goals with_reducible rfl
      try simp only [Act.put, List.setIfInBounds_toArray, List.set_cons_zero, List.set_cons_succ]
      refine wpAnyH_take (i := 3) (oi := ⟨some 7, _, _, _, _, _⟩) (v := ?_) rfl (by kernel_rfl) (by kernel_rfl) (by kernel_rfl) (fun _ _ _ h => h) (Or.inl ⟨by rfl, ?_⟩) hS ?_
      rotate_left 1
      · intro w' hw'
        have k0 := Lib.cell_of_heap hw' 0; have k1 := Lib.cell_of_heap hw' 1; have k2 := Lib.cell_of_heap hw' 2; have k3 := Lib.cell_of_heap hw' 3; have k4 := Lib.cell_of_heap hw' 4; have k5 := Lib.cell_of_heap hw' 5
        go_simp
        all_goals with_reducible rfl
      try simp only [Act.put, List.setIfInBounds_toArray, List.set_cons_zero, List.set_cons_succ]
      refine wpAnyH_take (i := 4) (oi := ⟨some 8, _, _, _, _, _⟩) (v := ?_) rfl (by kernel_rfl) (by kernel_rfl) (by kernel_rfl) (fun _ _ _ h => h) (Or.inl ⟨by rfl, ?_⟩) hS ?_
      rotate_left 1
      · intro w' hw'
        have k0 := Lib.cell_of_heap hw' 0; have k1 := Lib.cell_of_heap hw' 1; have k2 := Lib.cell_of_heap hw' 2; have k3 := Lib.cell_of_heap hw' 3; have k4 := Lib.cell_of_heap hw' 4; have k5 := Lib.cell_of_heap hw' 5
        go_simp
        all_goals with_reducible rfl
      try simp only [Act.put, List.setIfInBounds_toArray, List.set_cons_zero, List.set_cons_succ]
      refine wpAnyH_take (i := 5) (oi := ⟨some 9, _, _, _, _, _⟩) (v := ?_) rfl (by kernel_rfl) (by kernel_rfl) (by kernel_rfl) (fun _ _ _ h => h) (Or.inl ⟨by rfl, ?_⟩) hS ?_
      rotate_left 1
      · intro w' hw'
        have k0 := Lib.cell_of_heap hw' 0; have k1 := Lib.cell_of_heap hw' 1; have k2 := Lib.cell_of_heap hw' 2; have k3 := Lib.cell_of_heap hw' 3; have k4 := Lib.cell_of_heap hw' 4; have k5 := Lib.cell_of_heap hw' 5
        go_simp
        all_goals with_reducible rfl
      try simp only [Act.put, List.setIfInBounds_toArray, List.set_cons_zero, List.set_cons_succ]
      refine wpAnyH_take (i := 6) (oi := ⟨some 10, _, _, _, _, _⟩) (v := ?_) rfl (by kernel_rfl) (by kernel_rfl) (by kernel_rfl) (fun _ _ _ h => h) (Or.inl ⟨by rfl, ?_⟩) hS ?_
      rotate_left 1
      · intro w' hw'
        have k0 := Lib.cell_of_heap hw' 0; have k1 := Lib.cell_of_heap hw' 1; have k2 := Lib.cell_of_heap hw' 2; have k3 := Lib.cell_of_heap hw' 3; have k4 := Lib.cell_of_heap hw' 4; have k5 := Lib.cell_of_heap hw' 5
        go_simp
        all_goals with_reducible rfl
      try simp only [Act.put, List.setIfInBounds_toArray, List.set_cons_zero, List.set_cons_succ]
      refine wpAnyH_take (i := 7) (oi := ⟨some 11, _, _, _, _, _⟩) (v := ?_) rfl (by kernel_rfl) (by kernel_rfl) (by kernel_rfl) (fun _ _ _ h => h) (Or.inl ⟨by rfl, ?_⟩) hS ?_
      rotate_left 1
      · intro w' hw'
        have k0 := Lib.cell_of_heap hw' 0; have k1 := Lib.cell_of_heap hw' 1; have k2 := Lib.cell_of_heap hw' 2; have k3 := Lib.cell_of_heap hw' 3; have k4 := Lib.cell_of_heap hw' 4; have k5 := Lib.cell_of_heap hw' 5
        go_simp
        all_goals with_reducible rfl
      try simp only [Act.put, List.setIfInBounds_toArray, List.set_cons_zero, List.set_cons_succ]
      refine wpAnyH_ready (rs := [8]) (by kernel_rfl) (by simp) ?_
      refine AllReadyH.cons (o := ⟨some 12, _, _, _, _, _⟩) rfl (fun K hK => ?_) AllReadyH.nil
      go_simp
      go_at_call 21
      refine (HSz.out _ HB0.out).mono ?_
      rintro e w1 ⟨rfl, hb1⟩
      have HB1 := hide (then_below HB0.out hb1)
      clear hb1
      refine hK.out _ _ ((HH.out.below HB1.out).box) (fun hS => ?_)
      clear hK K
      try simp only [Act.put, List.setIfInBounds_toArray, List.set_cons_zero, List.set_cons_succ]
      refine wpAnyH_ready (rs := [9]) (by kernel_rfl) (by simp) ?_
      refine AllReadyH.cons (o := ⟨some 3, _, _, _, _, _⟩) rfl (fun K hK => ?_) AllReadyH.nil
      go_simp
      refine hK.out _ _ hS (fun hS => ?_)
      clear hK K
      try simp only [Act.put, List.setIfInBounds_toArray, List.set_cons_zero, List.set_cons_succ]
      refine wpAnyH_done (by kernel_rfl) ?_ _
      have HB2 := hide (HB1.out.drew)
      obtain ⟨q0, q1, q2, q3, q4, q5⟩ := (HH.out.below HB1.out).cells
      go_upto_region 4 with fail
      refine wp_region_held_drew (S := fun w' => w'.heap[h]? = some (.cells (lCells g L) 66 (0, 0))) (by kernel_rfl) ((HH.out.below HB2.out).box) (fun hS => ?_)
      refine wpAnyH_take (i := 0) (oi := ⟨some 32, _, _, _, _, _⟩) (v := ?_) rfl (by kernel_rfl) (by kernel_rfl) (by kernel_rfl) (fun _ _ _ h => h) (Or.inl ⟨by rfl, ?_⟩) hS ?_
      rotate_left 1
      · intro w' hw'
        have k0 := Lib.cell_of_heap hw' 0; have k1 := Lib.cell_of_heap hw' 1; have k2 := Lib.cell_of_heap hw' 2; have k3 := Lib.cell_of_heap hw' 3; have k4 := Lib.cell_of_heap hw' 4; have k5 := Lib.cell_of_heap hw' 5
        go_simp
        all_goals with_reducible rfl
      try simp only [Act.put, List.setIfInBounds_toArray, List.set_cons_zero, List.set_cons_succ]
      refine wpAnyH_take (i := 1) (oi := ⟨some 33, _, _, _, _, _⟩) (v := ?_) rfl (by kernel_rfl) (by kernel_rfl) (by kernel_rfl) (fun _ _ _ h => h) (Or.inl ⟨by rfl, ?_⟩) hS ?_
      rotate_left 1
      · intro w' hw'
        have k0 := Lib.cell_of_heap hw' 0; have k1 := Lib.cell_of_heap hw' 1; have k2 := Lib.cell_of_heap hw' 2; have k3 := Lib.cell_of_heap hw' 3; have k4 := Lib.cell_of_heap hw' 4; have k5 := Lib.cell_of_heap hw' 5
        go_simp
        all_goals with_reducible rfl
      try simp only [Act.put, List.setIfInBounds_toArray, List.set_cons_zero, List.set_cons_succ]
      refine wpAnyH_take (i := 2) (oi := ⟨some 34, _, _, _, _, _⟩) (v := ?_) rfl (by kernel_rfl) (by kernel_rfl) (by kernel_rfl) (fun _ _ _ h => h) (Or.inl ⟨by rfl, ?_⟩) hS ?_
      rotate_left 1
      · intro w' hw'
        have k0 := Lib.cell_of_heap hw' 0; have k1 := Lib.cell_of_heap hw' 1; have k2 := Lib.cell_of_heap hw' 2; have k3 := Lib.cell_of_heap hw' 3; have k4 := Lib.cell_of_heap hw' 4; have k5 := Lib.cell_of_heap hw' 5
        go_simp
        all_goals with_reducible rfl
      try simp only [Act.put, List.setIfInBounds_toArray, List.set_cons_zero, List.set_cons_succ]
      refine wpAnyH_take (i := 3) (oi := ⟨some 35, _, _, _, _, _⟩) (v := ?_) rfl (by kernel_rfl) (by kernel_rfl) (by kernel_rfl) (fun _ _ _ h => h) (Or.inl ⟨by rfl, ?_⟩) hS ?_
      rotate_left 1
      · intro w' hw'
        have k0 := Lib.cell_of_heap hw' 0; have k1 := Lib.cell_of_heap hw' 1; have k2 := Lib.cell_of_heap hw' 2; have k3 := Lib.cell_of_heap hw' 3; have k4 := Lib.cell_of_heap hw' 4; have k5 := Lib.cell_of_heap hw' 5
        go_simp
        all_goals with_reducible rfl
      try simp only [Act.put, List.setIfInBounds_toArray, List.set_cons_zero, List.set_cons_succ]
      refine wpAnyH_take (i := 4) (oi := ⟨some 36, _, _, _, _, _⟩) (v := ?_) rfl (by kernel_rfl) (by kernel_rfl) (by kernel_rfl) (fun _ _ _ h => h) (Or.inl ⟨by rfl, ?_⟩) hS ?_
      rotate_left 1
      · intro w' hw'
        have k0 := Lib.cell_of_heap hw' 0; have k1 := Lib.cell_of_heap hw' 1; have k2 := Lib.cell_of_heap hw' 2; have k3 := Lib.cell_of_heap hw' 3; have k4 := Lib.cell_of_heap hw' 4; have k5 := Lib.cell_of_heap hw' 5
        go_simp
        all_goals with_reducible rfl
      try simp only [Act.put, List.setIfInBounds_toArray, List.set_cons_zero, List.set_cons_succ]
      refine wpAnyH_take (i := 5) (oi := ⟨some 37, _, _, _, _, _⟩) (v := ?_) rfl (by kernel_rfl) (by kernel_rfl) (by kernel_rfl) (fun _ _ _ h => h) (Or.inl ⟨by rfl, ?_⟩) hS ?_
      rotate_left 1
      · intro w' hw'
        have k0 := Lib.cell_of_heap hw' 0; have k1 := Lib.cell_of_heap hw' 1; have k2 := Lib.cell_of_heap hw' 2; have k3 := Lib.cell_of_heap hw' 3; have k4 := Lib.cell_of_heap hw' 4; have k5 := Lib.cell_of_heap hw' 5
        go_simp
        all_goals with_reducible rfl
      try simp only [Act.put, List.setIfInBounds_toArray, List.set_cons_zero, List.set_cons_succ]
      refine wpAnyH_take (i := 6) (oi := ⟨some 38, _, _, _, _, _⟩) (v := ?_) rfl (by kernel_rfl) (by kernel_rfl) (by kernel_rfl) (fun _ _ _ h => h) (Or.inl ⟨by rfl, ?_⟩) hS ?_
      rotate_left 1
      · intro w' hw'
        have k0 := Lib.cell_of_heap hw' 0; have k1 := Lib.cell_of_heap hw' 1; have k2 := Lib.cell_of_heap hw' 2; have k3 := Lib.cell_of_heap hw' 3; have k4 := Lib.cell_of_heap hw' 4; have k5 := Lib.cell_of_heap hw' 5
        go_simp
        all_goals with_reducible rfl
      try simp only [Act.put, List.setIfInBounds_toArray, List.set_cons_zero, List.set_cons_succ]
      refine wpAnyH_take (i := 7) (oi := ⟨some 39, _, _, _, _, _⟩) (v := ?_) rfl (by kernel_rfl) (by kernel_rfl) (by kernel_rfl) (fun _ _ _ h => h) (Or.inl ⟨by rfl, ?_⟩) hS ?_
      rotate_left 1
      · intro w' hw'
        have k0 := Lib.cell_of_heap hw' 0; have k1 := Lib.cell_of_heap hw' 1; have k2 := Lib.cell_of_heap hw' 2; have k3 := Lib.cell_of_heap hw' 3; have k4 := Lib.cell_of_heap hw' 4; have k5 := Lib.cell_of_heap hw' 5
        go_simp
        all_goals with_reducible rfl
      try simp only [Act.put, List.setIfInBounds_toArray, List.set_cons_zero, List.set_cons_succ]
      refine wpAnyH_take (i := 9) (oi := ⟨some 41, _, _, _, _, _⟩) (v := ?_) rfl (by kernel_rfl) (by kernel_rfl) (by kernel_rfl) (fun _ _ _ h => h) (Or.inl ⟨by rfl, ?_⟩) hS ?_
      rotate_left 1
      · intro w' hw'
        have k0 := Lib.cell_of_heap hw' 0; have k1 := Lib.cell_of_heap hw' 1; have k2 := Lib.cell_of_heap hw' 2; have k3 := Lib.cell_of_heap hw' 3; have k4 := Lib.cell_of_heap hw' 4; have k5 := Lib.cell_of_heap hw' 5
        go_simp
        all_goals with_reducible rfl
      try simp only [Act.put, List.setIfInBounds_toArray, List.set_cons_zero, List.set_cons_succ]
      refine wpAnyH_ready (rs := [8]) (by kernel_rfl) (by simp) ?_
      refine AllReadyH.cons (o := ⟨some 40, _, _, _, _, _⟩) rfl (fun K hK => ?_) AllReadyH.nil
      go_simp
      go_at_call 63
      refine (HSf.out _ HB2.out).mono ?_
      rintro e w3 ⟨rfl, hb3⟩
      have HB3 := hide (then_below HB2.out hb3)
      clear hb3
      refine hK.out _ _ ((HH.out.below HB3.out).box) (fun hS => ?_)
      clear hK K
      try simp only [Act.put, List.setIfInBounds_toArray, List.set_cons_zero, List.set_cons_succ]
      refine wpAnyH_ready (rs := [10]) (by kernel_rfl) (by simp) ?_
      refine AllReadyH.cons (o := ⟨some 42, _, _, _, _, _⟩) rfl (fun K hK => ?_) AllReadyH.nil
      go_simp
      refine hK.out _ _ hS (fun hS => ?_)
      clear hK K
      try simp only [Act.put, List.setIfInBounds_toArray, List.set_cons_zero, List.set_cons_succ]
      refine wpAnyH_done (by kernel_rfl) ?_ _
      go_wp2_with fail
      go_ret
      exact res_mk HQ.out rfl (HH.out.below HB3.out) (LTurn.of_below HB3.out)
/-- A new log begins. -/
def beginR (p : PD) (L : LV) : Int × PD × LV := if (emptyR p L 1).1 = 0 then rewR (emptyR p L 1).2.1 L 0 1 [] else emptyR p L 1
set_option maxHeartbeats 3200000 in
set_option maxRecDepth 100000 in
theorem begin_any {base h g : Nat} {L : LV} {D : DS} (w : World) (H : LogAt base h g w L D) (hO : D.p.Ok) (hd : D.p.done ≤ 999999998000) (hT : Tab w) (hTo : Off h g D 0) :
    Calls Tryd.prog 47 #[vD h] w (LRes base h g D w (beginR D.p L)) := by
  have HE := hide (empty_any 1 w H hO (by omega) (by omega))
  have HEL := emptyR_L D.p L 1
  obtain ⟨ho1, -, hd1⟩ := emptyR_ok hO L 1
  have HO1 := hide ho1
  have HD1 := hide (show (emptyR D.p L 1).2.1.done ≤ 999999998001 by omega)
  have HR := hide (show beginR D.p L = if (emptyR D.p L 1).1 = 0 then rewR (emptyR D.p L 1).2.1 L 0 1 [] else emptyR D.p L 1 from rfl)
  have HTf := hide (And.intro hT hTo)
  unfold LRes at HE
  rw [show ((1 : Nat) : Int) = 1 from rfl] at HE
  generalize beginR D.p L = r at *
  generalize emptyR D.p L 1 = er at *
  obtain ⟨e1, p1, L1⟩ := er
  simp only at HE HEL HR HO1 HD1
  subst HEL
  clear H hO hd hT hTo ho1 hd1
  by_cases h1 : e1 = 0
  · have HQ := hide (show r = rewR p1 L1 0 1 [] by rw [HR.out, if_pos h1])
    subst h1
    clear HR
    go_enter Tryd.func47, Tryd.ntmps47
    go_wp2_with fail
    refine HE.out.mono ?_
    rintro e w1 ⟨rfl, D1, rfl, hL1, ht1⟩
    have HT1 := hide ht1
    have HRw := hide (rewrite_any 0 1 none 0 [] w1 hL1 HO1.out (by have := HD1.out; omega) (by omega) ⟨by omega, by omega⟩ (BytesIn.nil _ _ _) (HTf.out.1.turn ht1 HTf.out.2) (ht1.off _ HTf.out.2 HTf.out.1.lt).1 (by simp))
    unfold LRes at HRw
    rw [show ((0 : Nat) : Int) = 0 from rfl, show ([] : List UInt8).length = 0 from rfl] at HRw
    generalize rewR D1.p L1 0 1 [] = r2 at *
    obtain ⟨e2, p2, L2⟩ := r2
    clear hL1 ht1 HE
    go_wp2_with fail
    refine HRw.out.mono ?_
    rintro e w2 ⟨rfl, D2, rfl, hL2, ht2⟩
    have HA := hide (And.intro hL2 (HT1.out.trans ht2))
    clear hL2 ht2
    go_wp2_with fail
    go_ret
    exact res_mk HQ.out rfl HA.out.1 HA.out.2
  · have HQ := hide (show r = (e1, p1, L1) by rw [HR.out, if_neg h1])
    have hb := ne_b h1
    clear HR h1
    go_enter Tryd.func47, Tryd.ntmps47
    go_wp2_with fail
    refine HE.out.mono ?_
    rintro e w1 ⟨rfl, D1, rfl, hL1, ht1⟩
    have HA := hide (And.intro hL1 ht1)
    clear hL1 ht1
    go_wp2_with fail
    go_ret
    exact res_mk HQ.out rfl HA.out.1 HA.out.2
/-- The files are set up. -/
def prepR (p : PD) (L : LV) : Int × PD × LV := if L.gen = 0 then beginR p L else if (trimR p L).1 = 0 then emptyR (trimR p L).2.1 L (1 - L.f) else trimR p L
set_option maxHeartbeats 3200000 in
set_option maxRecDepth 100000 in
theorem prepare_any {base h g : Nat} {L : LV} {D : DS} (w : World) (H : LogAt base h g w L D) (hO : D.p.Ok) (hd : D.p.done ≤ 999999998000) (hf : L.f < 2) (hT : Tab w) (hTo : Off h g D 0) :
    Calls Tryd.prog 27 #[vD h] w (LRes base h g D w (prepR D.p L)) := by
  obtain ⟨c0, c1, c2, c3, c4, c5⟩ := H.cells
  have HR := hide (show prepR D.p L = if L.gen = 0 then beginR D.p L else if (trimR D.p L).1 = 0 then emptyR (trimR D.p L).2.1 L (1 - L.f) else trimR D.p L from rfl)
  generalize prepR D.p L = r at *
  by_cases h0 : L.gen = 0
  · have HBg := hide (begin_any w H hO hd hT hTo)
    unfold LRes at HBg
    have HQ := hide (show r = beginR D.p L by rw [HR.out, if_pos h0])
    rw [h0] at c2
    clear H hO hd hf hT hTo HR h0
    generalize beginR D.p L = r2 at *
    obtain ⟨e2, p2, L2⟩ := r2
    go_enter Tryd.func27, Tryd.ntmps27
    go_wp2_with fail
    refine HBg.out.mono ?_
    rintro e w2 ⟨rfl, D2, rfl, hL2, ht2⟩
    have HA := hide (And.intro hL2 ht2)
    clear hL2 ht2
    go_wp2_with fail
    go_ret
    exact res_mk HQ.out rfl HA.out.1 HA.out.2
  · have HTr := hide (trim_any w H hO (by omega) (by omega))
    have HTL := trimR_L D.p L
    obtain ⟨ho1, -, hd1⟩ := trimR_ok hO L
    have HO1 := hide ho1
    have HD1 := hide (show (trimR D.p L).2.1.done ≤ 999999998001 by omega)
    rw [if_neg h0] at HR
    have hb0 : (L.gen == 0) = false := by rw [beq_eq_false_iff_ne]; exact h0
    have HOt := hide (fun w' => other_any L.f w' hf)
    unfold LRes at HTr
    generalize trimR D.p L = er at *
    obtain ⟨e1, p1, L1⟩ := er
    simp only at HTr HTL HR HO1 HD1
    subst HTL
    clear hO hd hT hTo ho1 hd1 h0 H
    have HF := hide hf
    clear hf
    by_cases h1 : e1 = 0
    · have HQ := hide (show r = emptyR p1 L1 (1 - L1.f) by rw [HR.out, if_pos h1])
      subst h1
      clear HR
      go_enter Tryd.func27, Tryd.ntmps27
      go_wp2_with fail
      refine HTr.out.mono ?_
      rintro e w1 ⟨rfl, D1, rfl, hL1, ht1⟩
      have HT1 := hide ht1
      have HE1 := hide (empty_any (1 - L1.f) w1 hL1 HO1.out (by have := HD1.out; omega) (by omega))
      unfold LRes at HE1
      obtain ⟨m0, m1, m2, m3, m4, m5⟩ := hL1.cells
      generalize emptyR D1.p L1 (1 - L1.f) = r2 at *
      obtain ⟨e2, p2, L2⟩ := r2
      clear hL1 ht1 HTr c0 c1 c2 c3 c4 c5
      go_wp2_with fail
      refine (HOt.out w1).mono ?_
      rintro e w2 ⟨rfl, rfl⟩
      go_wp2_with fail
      refine HE1.out.mono ?_
      rintro e w3 ⟨rfl, D2, rfl, hL2, ht2⟩
      have HA := hide (And.intro hL2 (HT1.out.trans ht2))
      clear hL2 ht2
      go_wp2_with fail
      go_ret
      exact res_mk HQ.out rfl HA.out.1 HA.out.2
    · have HQ := hide (show r = (e1, p1, L1) by rw [HR.out, if_neg h1])
      have hb := ne_b h1
      clear HR h1
      go_enter Tryd.func27, Tryd.ntmps27
      go_wp2_with fail
      refine HTr.out.mono ?_
      rintro e w1 ⟨rfl, D1, rfl, hL1, ht1⟩
      have HA := hide (And.intro hL1 ht1)
      clear hL1 ht1
      go_wp2_with fail
      go_ret
      exact res_mk HQ.out rfl HA.out.1 HA.out.2
end Go.Proofs.YtkdihekhdnnheaaDoor
