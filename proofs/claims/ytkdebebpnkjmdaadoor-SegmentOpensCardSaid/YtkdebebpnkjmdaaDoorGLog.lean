/-
  A log in memory: its box beside a disk; what its calls leave; the small ones.
-/
import Derived.Test.YtkdebebpnkjmdaaDoorGFrm
import Derived.Test.YtkdebebpnkjmdaaDoorKApp
import Derived.Deep.AppendLies
namespace Go.Proofs.YtkdebebpnkjmdaaDoor
open Go.RowKit

structure LV where
  f : Nat
  gen : Int
  size : Nat
  loose : Bool
  down : Bool
abbrev lCells (g : Nat) (L : LV) : Array Value := #[.pointer (some ⟨g, 0, none⟩), .int .i64 (L.f : Nat), .int .i64 L.gen, .int .i64 (L.size : Nat), .bool L.loose, .bool L.down]
/-- The log lies in block h, its disk in block g. -/
structure LogAt (base h g : Nat) (w : World) (L : LV) (D : DS) : Prop where
  hh : base ≤ h
  box : w.heap[h]? = some (.cells (lCells g L) 86 (0, 0))
  disk : DiskAt base g w D
  ne : h ≠ g
  off : ∀ i, i < 4 → (D.v i).ownBlock ≠ some h
theorem LogAt.lt {base h g : Nat} {w : World} {L : LV} {D : DS} (H : LogAt base h g w L D) : h < w.heap.size := (Array.getElem?_eq_some_iff.1 H.box).1
theorem LogAt.cells {base h g : Nat} {w : World} {L : LV} {D : DS} (H : LogAt base h g w L D) :
    w.cell? ⟨h, 0, none⟩ = some (vD g) ∧ w.cell? ⟨h, 1, none⟩ = some (.int .i64 (L.f : Nat)) ∧ w.cell? ⟨h, 2, none⟩ = some (.int .i64 L.gen) ∧ w.cell? ⟨h, 3, none⟩ = some (.int .i64 (L.size : Nat)) ∧ w.cell? ⟨h, 4, none⟩ = some (.bool L.loose) ∧ w.cell? ⟨h, 5, none⟩ = some (.bool L.down) :=
  ⟨Lib.cell_of_heap H.box 0, Lib.cell_of_heap H.box 1, Lib.cell_of_heap H.box 2, Lib.cell_of_heap H.box 3, Lib.cell_of_heap H.box 4, Lib.cell_of_heap H.box 5⟩
theorem LogAt.frozen {base h g : Nat} {w : World} {L : LV} {D : DS} (H : LogAt base h g w L D) (i : Nat) : w.frozen? ⟨h, i, none⟩ = false := Lib.frozen_of_heap H.box i
/-- Of what was there only the log's block and the disk's may have turned. -/
structure LTurn (h g : Nat) (D D' : DS) (w w' : World) : Prop where
  os : w'.os = w.os
  tape : w'.tape = w.tape
  output : w'.output = w.output
  size : w.heap.size ≤ w'.heap.size
  block : ∀ b, b < w.heap.size → b ≠ h → b ≠ g → (∀ i, i < 4 → (D.v i).ownBlock ≠ some b) → w'.heap[b]? = w.heap[b]?
  own : ∀ i, i < 4 → ∀ b, (D'.v i).ownBlock = some b → (∃ j, j < 4 ∧ (D.v j).ownBlock = some b) ∨ w.heap.size ≤ b
theorem LTurn.of_turned {h g : Nat} {D D' : DS} {w w' : World} (t : Turned g D D' w w') : LTurn h g D D' w w' := ⟨t.os, t.tape, t.output, t.size, fun b hb _ hg ho => t.block b hb hg ho, t.own⟩
theorem LTurn.of_below {h g : Nat} {D : DS} {w w' : World} (hb : Below w.heap.size w w') : LTurn h g D D w w' := LTurn.of_turned (Turned.of_below hb)
theorem LTurn.trans {h g : Nat} {D D' D'' : DS} {a b c : World} (t : LTurn h g D D' a b) (k : LTurn h g D' D'' b c) : LTurn h g D D'' a c := by
  refine ⟨k.os.trans t.os, k.tape.trans t.tape, k.output.trans t.output, Nat.le_trans t.size k.size, fun i hi hh hg ho => ?_, fun i hi x e => ?_⟩
  · rw [k.block i (Nat.lt_of_lt_of_le hi t.size) hh hg fun j hj e => ?_]
    · exact t.block i hi hh hg ho
    · rcases t.own j hj i e with ⟨m, hm, e2⟩ | e2
      · exact ho m hm e2
      · omega
  · rcases k.own i hi x e with ⟨m, hm, e2⟩ | e2
    · exact t.own m hm x e2
    · exact .inr (Nat.le_trans t.size e2)
theorem LTurn.below {base h g : Nat} {D D' : DS} {L : LV} {w w' : World} (t : LTurn h g D D' w w') (H : LogAt base h g w L D) : Below base w w' := by
  refine ⟨t.os, t.tape, t.output, t.size, fun b hb => ?_⟩
  have h1 := H.hh
  have h2 := H.disk.hg
  have h3 := H.disk.lt
  exact t.block b (by omega) (by omega) (by omega) fun i hi e => by have := (H.disk.row i hi).lt b e; omega
theorem LogAt.turn {base h g : Nat} {w w' : World} {L : LV} {D D' : DS} (H : LogAt base h g w L D) (hD : DiskAt base g w' D') (t : Turned g D D' w w') : LogAt base h g w' L D' := by
  have hlt := H.lt
  refine ⟨H.hh, (t.block h hlt H.ne fun i hi => H.off i hi).trans H.box, hD, H.ne, fun i hi e => ?_⟩
  rcases t.own i hi h e with ⟨j, hj, e2⟩ | e2
  · exact H.off j hj e2
  · omega
theorem LogAt.below {base h g : Nat} {w w' : World} {L : LV} {D : DS} (H : LogAt base h g w L D) (hb : Below w.heap.size w w') : LogAt base h g w' L D := H.turn (H.disk.below hb) (Turned.of_below hb)
/-- A store into the log's box. -/
theorem LogAt.set {base h g : Nat} {w : World} {L : LV} {D : DS} (H : LogAt base h g w L D) (i : Nat) (u : Value) (L' : LV) (hc : (lCells g L).setIfInBounds i u = lCells g L') :
    LogAt base h g (w.setCell ⟨h, i, none⟩ u) L' D ∧ LTurn h g D D w (w.setCell ⟨h, i, none⟩ u) := by
  have hk : ∀ b, b ≠ h → (w.setCell ⟨h, i, none⟩ u).heap[b]? = w.heap[b]? := fun b hb => Below.heap_setCell _ _ _ _ hb
  refine ⟨⟨H.hh, ?_, H.disk.keep fun b _ hb => hk b ?_, H.ne, H.off⟩, ⟨rfl, rfl, rfl, by simp [World.setCell], fun b _ hb _ _ => hk b hb, fun j hj b e => .inl ⟨j, hj, e⟩⟩⟩
  · rw [Joins.block_setCell (i := i) H.box u, ← hc]
  · rcases hb with hb | ⟨j, hj, e⟩
    · exact fun e => H.ne (e.symm.trans hb)
    · exact fun x => H.off j hj (by rw [e, x])
/-- A block that is neither the log's nor the disk's. -/
def Off (h g : Nat) (D : DS) (b : Nat) : Prop := b ≠ h ∧ b ≠ g ∧ ∀ i, i < 4 → (D.v i).ownBlock ≠ some b
theorem LTurn.off {h g : Nat} {D D' : DS} {w w' : World} (t : LTurn h g D D' w w') (b : Nat) (ho : Off h g D b) (hb : b < w.heap.size) : Off h g D' b ∧ w'.heap[b]? = w.heap[b]? := by
  refine ⟨⟨ho.1, ho.2.1, fun i hi e => ?_⟩, t.block b hb ho.1 ho.2.1 ho.2.2⟩
  rcases t.own i hi b e with ⟨j, hj, e2⟩ | e2
  · exact ho.2.2 j hj e2
  · omega
theorem LogAt.off_new {base h g : Nat} {w : World} {L : LV} {D : DS} (H : LogAt base h g w L D) {b : Nat} (hb : w.heap.size ≤ b) : Off h g D b :=
  ⟨by have := H.lt; omega, by have := H.disk.lt; omega, fun i hi e => by have := ((H.disk.row i hi).lt b e).2; omega⟩
theorem LogAt.off_old {base h g : Nat} {w : World} {L : LV} {D : DS} (H : LogAt base h g w L D) {b : Nat} (hb : b < base) : Off h g D b :=
  ⟨by have := H.hh; omega, by have := H.disk.hg; omega, fun i hi e => by have := ((H.disk.row i hi).lt b e).1; omega⟩
theorem BytesIn.turn {h g : Nat} {D D' : DS} {w w' : World} {A : Option Addr} {l : List UInt8} (k : BytesIn (Off h g D) w A l) (t : LTurn h g D D' w w') : BytesIn (Off h g D') w' A l := k.keep t.size fun b ho hb => t.off b ho hb
theorem RecsIn.turn {h g : Nat} {D D' : DS} {w w' : World} {A : Option Addr} {l : List BH} (k : RecsIn (Off h g D) w A l) (t : LTurn h g D D' w w') : RecsIn (Off h g D') w' A l := k.keep t.size fun b ho hb => t.off b ho hb
theorem GrpsIn.turn {h g : Nat} {D D' : DS} {w w' : World} {A : Option Addr} {l : List GH} (k : GrpsIn (Off h g D) w A l) (t : LTurn h g D D' w w') : GrpsIn (Off h g D') w' A l := k.keep t.size fun b ho hb => t.off b ho hb
theorem Tab.turn {h g : Nat} {D D' : DS} {w w' : World} (k : Tab w) (t : LTurn h g D D' w w') (ho : Off h g D 0) : Tab w' := fun i hi => (cell_same i (t.off _ ho k.lt).2).trans (k i hi)
/-- What a call of the log tells and leaves. -/
def LRes (base h g : Nat) (D : DS) (w : World) (r : Int × PD × LV) (e : Ending) (w' : World) : Prop :=
  e = .returned (.int .i64 r.1) ∧ ∃ D' : DS, D'.p = r.2.1 ∧ LogAt base h g w' r.2.2 D' ∧ LTurn h g D D' w w'
/-- What is done of commands. -/
theorem cmd_done (p : PD) : p.done ≤ (cmdP p).done ∧ (cmdP p).done ≤ p.done + 1 := by
  unfold cmdP
  split
  · exact ⟨Int.le_refl _, by show p.done ≤ p.done + 1; omega⟩
  · exact ⟨by show p.done ≤ p.done + 1; omega, Int.le_refl _⟩
theorem sec_done (p : PD) (i n : Nat) : p.done ≤ (secP p i n).done ∧ (secP p i n).done ≤ p.done + 1 := by
  have := cmd_done p
  unfold secP
  split
  · exact this
  · exact this
theorem ct_done (p : PD) (n m : Int) : p.done ≤ (ctP p n m).done ∧ (ctP p n m).done ≤ p.done + 1 := by
  unfold ctP
  split
  · split
    · exact sec_done p _ _
    · omega
  · omega
theorem syn_done (p : PD) (n : Int) : p.done ≤ (synP p n).done ∧ (synP p n).done ≤ p.done + 1 := by
  unfold synP
  split
  · exact sec_done p _ _
  · omega
theorem app_done (p : PD) (n : Int) (ys : List UInt8) : p.done ≤ (appP p n ys).done ∧ (appP p n ys).done ≤ p.done + 1 := by
  unfold appP
  split
  · split
    · omega
    · exact cmd_done (addP p n.toNat ys)
  · omega
theorem ct_ok {p : PD} (h : p.Ok) (n m : Int) : (ctP p n m).Ok := by
  unfold ctP
  split
  · split
    · exact sec_ok h (by omega)
    · exact h
  · exact h
theorem syn_okG {p : PD} (h : p.Ok) (n : Int) : (synP p n).Ok := by
  unfold synP
  split
  · exact sec_ok h (by omega)
  · exact h
set_option maxHeartbeats 1600000 in
set_option maxRecDepth 100000 in
theorem other_any (f : Nat) (w : World) (hf : f < 2) : Calls Tryd.prog 55 #[.int .i64 f] w fun e w' => e = .returned (.int .i64 (1 - f : Nat)) ∧ w = w' := by
  rcases (by omega : f = 0 ∨ f = 1) with rfl | rfl
  all_goals
    go_enter Tryd.func55, Tryd.ntmps55
    go_wp2_with fail
    go_ret
    exact ⟨rfl, rfl⟩
set_option maxHeartbeats 1600000 in
set_option maxRecDepth 100000 in
theorem logGen_any {base h g : Nat} {L : LV} {D : DS} (w : World) (H : LogAt base h g w L D) : Calls Tryd.prog 14 #[vD h] w fun e w' => e = .returned (.int .i64 L.gen) ∧ w = w' := by
  obtain ⟨c0, c1, c2, c3, c4, c5⟩ := H.cells
  clear H
  go_enter Tryd.func14, Tryd.ntmps14
  go_wp2_with fail
  go_ret
  exact ⟨rfl, rfl⟩
set_option maxHeartbeats 1600000 in
set_option maxRecDepth 100000 in
theorem logSize_any {base h g : Nat} {L : LV} {D : DS} (w : World) (H : LogAt base h g w L D) : Calls Tryd.prog 17 #[vD h] w fun e w' => e = .returned (.int .i64 (L.size : Nat)) ∧ w = w' := by
  obtain ⟨c0, c1, c2, c3, c4, c5⟩ := H.cells
  clear H
  go_enter Tryd.func17, Tryd.ntmps17
  go_wp2_with fail
  go_ret
  exact ⟨rfl, rfl⟩
set_option maxHeartbeats 1600000 in
set_option maxRecDepth 100000 in
theorem logLoose_any {base h g : Nat} {L : LV} {D : DS} (w : World) (H : LogAt base h g w L D) : Calls Tryd.prog 19 #[vD h] w fun e w' => e = .returned (.bool L.loose) ∧ w = w' := by
  obtain ⟨c0, c1, c2, c3, c4, c5⟩ := H.cells
  clear H
  go_enter Tryd.func19, Tryd.ntmps19
  go_wp2_with fail
  go_ret
  exact ⟨rfl, rfl⟩
/-- A file is emptied. -/
def emptyR (p : PD) (L : LV) (f : Nat) : Int × PD × LV := if (p.xs f).length = 0 then (0, p, L) else (ctE p f 0, ctP p f 0, L)
theorem file_lt {f : Nat} (hf : f < 4) : fileB (f : Int) = true := by unfold fileB; simp; omega
theorem sizeD_nat (p : PD) {f : Nat} (hf : f < 4) : sizeD p (f : Int) = ((p.xs f).length : Nat) := by unfold sizeD; rw [file_lt hf]; rfl
theorem safeD_nat (p : PD) {f : Nat} (hf : f < 4) : safeD p (f : Int) = p.s f := by unfold safeD; rw [file_lt hf]; rfl
set_option maxHeartbeats 1600000 in
set_option maxRecDepth 100000 in
theorem empty_any {base h g : Nat} {L : LV} {D : DS} (f : Nat) (w : World) (H : LogAt base h g w L D) (hO : D.p.Ok) (hd : D.p.done ≤ 1000000000000) (hf : f < 4) :
    Calls Tryd.prog 64 #[vD h, .int .i64 f] w (LRes base h g D w (emptyR D.p L f)) := by
  obtain ⟨c0, c1, c2, c3, c4, c5⟩ := H.cells
  have hlen := hO.len hf
  have HH := hide H
  have HS := hide (size_any f w H.disk)
  rw [sizeD_nat D.p hf] at HS
  have HR := hide (show emptyR D.p L f = if (D.p.xs f).length = 0 then (0, D.p, L) else (ctE D.p f 0, ctP D.p f 0, L) from rfl)
  have HCt := hide (fun w1 (hb : Below w.heap.size w w1) => cut_any f 0 w1 (H.disk.below hb) hO hd)
  unfold LRes
  generalize emptyR D.p L f = r at *
  generalize ctE D.p f 0 = ce at *
  generalize ctP D.p f 0 = cp at *
  by_cases h0 : (D.p.xs f).length = 0
  · have HQ := hide (show r = (0, D.p, L) by rw [HR.out, if_pos h0])
    rw [h0] at HS
    clear H hO hd hlen HR HCt h0
    go_enter Tryd.func64, Tryd.ntmps64
    go_wp2_with fail
    refine HS.out.mono ?_
    rintro e w1 ⟨rfl, hb1⟩
    have HB := hide hb1
    clear hb1
    go_wp2_with fail
    go_ret
    exact ⟨by rw [HQ.out]; rfl, D, by rw [HQ.out], by rw [HQ.out]; exact HH.out.below HB.out, LTurn.of_below HB.out⟩
  · have HQ := hide (show r = (ce, cp, L) by rw [HR.out, if_neg h0])
    have h1 : 0 < (D.p.xs f).length := by omega
    clear H hO hd HR h0
    go_enter Tryd.func64, Tryd.ntmps64
    go_wp2_with fail
    refine HS.out.mono ?_
    rintro e w1 ⟨rfl, hb1⟩
    have HB := hide hb1
    have k0 := (hb1.cell (p := ⟨h, 0, none⟩) HH.out.lt).trans c0
    have HC1 := hide (HCt.out w1 hb1)
    clear hb1 HCt
    go_wp2_with fail
    refine HC1.out.mono ?_
    rintro e w2 ⟨rfl, D2, e2, hD2, hT2⟩
    have HA := hide (show D2.p = cp ∧ LogAt base h g w2 L D2 ∧ LTurn h g D D2 w w2 from ⟨e2, (HH.out.below HB.out).turn hD2 hT2, (LTurn.of_below HB.out).trans (LTurn.of_turned hT2)⟩)
    clear e2 hD2 hT2 k0
    go_wp2_with fail
    go_ret
    exact ⟨by rw [HQ.out]; rfl, D2, by rw [HQ.out]; exact HA.out.1, by rw [HQ.out]; exact HA.out.2.1, HA.out.2.2⟩
end Go.Proofs.YtkdebebpnkjmdaaDoor
