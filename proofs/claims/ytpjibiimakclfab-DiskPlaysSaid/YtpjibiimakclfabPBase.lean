/-
  The reference's disk in memory: what lies where; wrong, command, Used.
-/
import Derived.Test.YtpjibiimakclfabKOps
namespace Go.Proofs.Ytpjibiimakclfab
open Go.RowKit

structure RP where
  bs : Nat → List UInt8
  sf : Nat → List Bool
  cap : Int
  left : Int
  done : Int
  armed : Bool
  down : Bool
structure RS where
  p : RP
  v : Nat → Value
def boC (l : List Bool) : List Value := l.map Value.bool
theorem boC_len (l : List Bool) : (boC l).length = l.length := by simp [boC]
theorem boC_at {l : List Bool} {j : Nat} (hj : j < l.length) : (boC l)[j]? = some (.bool (l.getD j false)) := by
  unfold boC
  rw [List.getElem?_map, List.getElem?_eq_getElem hj, List.getD_eq_getElem?_getD, List.getElem?_eq_getElem hj]
  rfl
def RP.used (p : RP) : Nat := (p.bs 0).length + (p.bs 1).length + (p.bs 2).length + (p.bs 3).length
abbrev rCells (R : RS) : Array Value := #[R.v 0, R.v 1, R.v 2, R.v 3, R.v 4, R.v 5, R.v 6, R.v 7, .int .i64 R.p.cap, .int .i64 R.p.left, .int .i64 R.p.done, .bool R.p.armed, .bool R.p.down]
/-- The rows: of file i the bytes are row 2 * i, what is safe is row 2 * i + 1. -/
def rowT (j : Nat) : TypeId := if j % 2 = 0 then 5 else 4
def rowC (p : RP) (j : Nat) : List Value := if j % 2 = 0 then byC (p.bs (j / 2)) else boC (p.sf (j / 2))
theorem rowT_even (i : Nat) : rowT (2 * i) = 5 := if_pos (by omega)
theorem rowT_odd (i : Nat) : rowT (2 * i + 1) = 4 := if_neg (by omega)
theorem rowC_even (p : RP) (i : Nat) : rowC p (2 * i) = byC (p.bs i) := by unfold rowC; rw [if_pos (by omega), show 2 * i / 2 = i by omega]
theorem rowC_odd (p : RP) (i : Nat) : rowC p (2 * i + 1) = boC (p.sf i) := by unfold rowC; rw [if_neg (by omega), show (2 * i + 1) / 2 = i by omega]
structure RefAt (base g : Nat) (w : World) (R : RS) : Prop where
  hg : base ≤ g
  box : w.heap[g]? = some (.cells (rCells R) 34 (0, 0))
  row : ∀ j, j < 8 → w.ownsRow base (rowT j) 1 (R.v j) (rowC R.p j).length (rowC R.p j)
  off : ∀ j, j < 8 → ∀ b, (R.v j).ownBlock = some b → b ≠ g
  apart : ∀ j k, j < 8 → k < 8 → j ≠ k → ∀ b, (R.v j).ownBlock = some b → (R.v k).ownBlock ≠ some b
theorem RefAt.lt {base g : Nat} {w : World} {R : RS} (h : RefAt base g w R) : g < w.heap.size := (Array.getElem?_eq_some_iff.1 h.box).1
structure RTurned (g : Nat) (R R' : RS) (w w' : World) : Prop where
  os : w'.os = w.os
  tape : w'.tape = w.tape
  output : w'.output = w.output
  size : w.heap.size ≤ w'.heap.size
  block : ∀ b, b < w.heap.size → b ≠ g → (∀ i, i < 8 → (R.v i).ownBlock ≠ some b) → w'.heap[b]? = w.heap[b]?
  own : ∀ i, i < 8 → ∀ b, (R'.v i).ownBlock = some b → (∃ j, j < 8 ∧ (R.v j).ownBlock = some b) ∨ w.heap.size ≤ b
theorem RTurned.of_below {g : Nat} {R : RS} {w w' : World} (h : Below w.heap.size w w') : RTurned g R R w w' := ⟨h.os, h.tape, h.output, h.size, fun b hb _ _ => h.block b hb, fun i hi _ e => .inl ⟨i, hi, e⟩⟩
theorem RTurned.trans {g : Nat} {R R' R'' : RS} {a b c : World} (h : RTurned g R R' a b) (k : RTurned g R' R'' b c) : RTurned g R R'' a c := by
  refine ⟨k.os.trans h.os, k.tape.trans h.tape, k.output.trans h.output, Nat.le_trans h.size k.size, fun i hi hg ho => ?_, fun i hi x e => ?_⟩
  · rw [k.block i (Nat.lt_of_lt_of_le hi h.size) hg fun j hj e => ?_]
    · exact h.block i hi hg ho
    · rcases h.own j hj i e with ⟨m, hm, e2⟩ | e2
      · exact ho m hm e2
      · omega
  · rcases k.own i hi x e with ⟨m, hm, e2⟩ | e2
    · exact h.own m hm x e2
    · exact .inr (Nat.le_trans h.size e2)
theorem RTurned.below {base g : Nat} {R R' : RS} {w w' : World} (h : RTurned g R R' w w') (hR : RefAt base g w R) : Below base w w' := by
  refine ⟨h.os, h.tape, h.output, h.size, fun b hb => ?_⟩
  have hg := hR.hg
  have hlt := hR.lt
  exact h.block b (by omega) (by omega) fun i hi e => by have := (hR.row i hi).lt b e; omega
theorem RefAt.puts {base g : Nat} {w w' : World} {R R' : RS} (h : RefAt base g w R) (ho : w'.os = w.os) (ht : w'.tape = w.tape) (hu : w'.output = w.output) (hs : w.heap.size ≤ w'.heap.size)
    (hbox : w'.heap[g]? = some (.cells (rCells R') 34 (0, 0))) (hrow : ∀ k, k < 8 → w'.ownsRow base (rowT k) 1 (R'.v k) (rowC R'.p k).length (rowC R'.p k))
    (hown : ∀ k, k < 8 → ∀ b, (R'.v k).ownBlock = some b → (R.v k).ownBlock = some b ∨ w.heap.size ≤ b)
    (hblk : ∀ b, b < w.heap.size → b ≠ g → (∀ k, k < 8 → (R.v k).ownBlock ≠ some b) → w'.heap[b]? = w.heap[b]?)
    (hnew : ∀ j k, j < 8 → k < 8 → j ≠ k → ∀ b, w.heap.size ≤ b → (R'.v j).ownBlock = some b → (R'.v k).ownBlock ≠ some b) : RefAt base g w' R' ∧ RTurned g R R' w w' := by
  have hlt := h.lt
  refine ⟨⟨h.hg, hbox, hrow, fun j hj b e => ?_, fun j k hj hk hne b e1 e2 => ?_⟩, ⟨ho, ht, hu, hs, hblk, fun j hj b e => ?_⟩⟩
  · rcases hown j hj b e with h1 | h1
    · exact h.off j hj b h1
    · omega
  · rcases hown j hj b e1 with h1 | h1
    · rcases hown k hk b e2 with h2 | h2
      · exact h.apart j k hj hk hne b h1 h2
      · have := (h.row j hj).lt b h1; omega
    · exact hnew j k hj hk hne b h1 e1 e2
  · rcases hown j hj b e with h1 | h1
    · exact .inl ⟨j, hj, h1⟩
    · exact .inr h1
theorem RefAt.turn {base g : Nat} {w w' : World} {R : RS} (h : RefAt base g w R) (hb : ∀ b, b < w.heap.size → b = g ∨ (∃ i, i < 8 ∧ (R.v i).ownBlock = some b) → w'.heap[b]? = w.heap[b]?) : RefAt base g w' R :=
  ⟨h.hg, (hb g h.lt (.inl rfl)).trans h.box, fun j hj => row_same (h.row j hj) fun b e => hb b ((h.row j hj).lt b e).2 (.inr ⟨j, hj, e⟩), h.off, h.apart⟩
theorem RefAt.below {base g : Nat} {w w' : World} {R : RS} (h : RefAt base g w R) (hb : Below w.heap.size w w') : RefAt base g w' R := h.turn fun b hlt _ => hb.block b hlt
theorem RefAt.at {base g : Nat} {w : World} {R : RS} (h : RefAt base g w R) {j : Nat} (hj : j < 8) : w.cell? ⟨g, j, none⟩ = some (R.v j) := by
  rw [Lib.cell_of_heap h.box]
  rcases (by omega : j = 0 ∨ j = 1 ∨ j = 2 ∨ j = 3 ∨ j = 4 ∨ j = 5 ∨ j = 6 ∨ j = 7) with rfl | rfl | rfl | rfl | rfl | rfl | rfl | rfl <;> rfl
theorem RefAt.nums {base g : Nat} {w : World} {R : RS} (h : RefAt base g w R) : w.cell? ⟨g, 8, none⟩ = some (.int .i64 R.p.cap) ∧ w.cell? ⟨g, 9, none⟩ = some (.int .i64 R.p.left) ∧ w.cell? ⟨g, 10, none⟩ = some (.int .i64 R.p.done) ∧ w.cell? ⟨g, 11, none⟩ = some (.bool R.p.armed) ∧ w.cell? ⟨g, 12, none⟩ = some (.bool R.p.down) :=
  ⟨Lib.cell_of_heap h.box 8, Lib.cell_of_heap h.box 9, Lib.cell_of_heap h.box 10, Lib.cell_of_heap h.box 11, Lib.cell_of_heap h.box 12⟩
theorem RefAt.frozen {base g : Nat} {w : World} {R : RS} (h : RefAt base g w R) (i : Nat) : w.frozen? ⟨g, i, none⟩ = false := Lib.frozen_of_heap h.box i
/-- A store of a number. -/
theorem RefAt.set {base g : Nat} {w : World} {R : RS} (h : RefAt base g w R) (i : Nat) (u : Value) (p' : RP) (hx : p'.bs = R.p.bs) (hy : p'.sf = R.p.sf) (hc : (rCells R).setIfInBounds i u = rCells ⟨p', R.v⟩) :
    RefAt base g (w.setCell ⟨g, i, none⟩ u) ⟨p', R.v⟩ ∧ RTurned g R ⟨p', R.v⟩ w (w.setCell ⟨g, i, none⟩ u) := by
  have hh : ∀ b, b ≠ g → (w.setCell ⟨g, i, none⟩ u).heap[b]? = w.heap[b]? := fun b hb => Below.heap_setCell _ _ _ _ hb
  have hrc : ∀ k, rowC p' k = rowC R.p k := fun k => by unfold rowC; rw [hx, hy]
  refine h.puts rfl rfl rfl (by simp [World.setCell]) ?_ (fun k hk => ?_) (fun k _ b e => .inl e) (fun b _ hg _ => hh b hg) (fun j k hj hk hne b hb e => ?_)
  · rw [Joins.block_setCell (i := i) h.box u, ← hc]
  · show (w.setCell ⟨g, i, none⟩ u).ownsRow base (rowT k) 1 (R.v k) (rowC p' k).length (rowC p' k)
    rw [hrc k]
    exact row_same (h.row k hk) fun b e => hh b (h.off k hk b e)
  · exact h.apart j k hj hk hne b e
structure RP.Ok (p : RP) : Prop where
  used : p.used ≤ 1073741824
  len : ∀ i, i < 4 → (p.sf i).length = (p.bs i).length
  done0 : 0 ≤ p.done
  left0 : -9223372036854775808 ≤ p.left
  left1 : p.left ≤ 9223372036854775807
def wrE (p : RP) (n : Int) : Int := if p.down = true then 40 else if n < 0 ∨ 3 < n then 30 else 0
set_option maxHeartbeats 3200000 in
set_option maxRecDepth 100000 in
theorem wrong_any {base g : Nat} {R : RS} (n : Int) (w : World) (hR : RefAt base g w R) : Calls Try.prog 34 #[vD g, .int .i64 n] w fun e w' => e = .returned (.int .i64 (wrE R.p n)) ∧ Below w.heap.size w w' := by
  obtain ⟨c8, c9, c10, c11, c12⟩ := hR.nums
  have HD := hide (show wrE R.p n = (if R.p.down = true then 40 else if n < 0 ∨ 3 < n then 30 else 0) from rfl)
  generalize wrE R.p n = q at *
  generalize R.p.down = dn at *
  clear hR
  cases dn
  · by_cases h0 : n < 0
    · have HE := hide (show q = 30 by rw [HD.out]; simp [h0])
      go_enter Try.func34, Try.ntmps34
      go_wp2_with fail
      go_ret
      exact ⟨ret_int HE.out.symm, Below.refl _ _⟩
    · by_cases h1 : 3 < n
      · have HE := hide (show q = 30 by rw [HD.out]; simp [h1])
        go_enter Try.func34, Try.ntmps34
        go_wp2_with fail
        go_ret
        exact ⟨ret_int HE.out.symm, Below.refl _ _⟩
      · have HE := hide (show q = 0 by rw [HD.out]; simp [h0, h1])
        go_enter Try.func34, Try.ntmps34
        go_wp2_with fail
        go_ret
        exact ⟨ret_int HE.out.symm, Below.refl _ _⟩
  · have HE := hide (show q = 40 by rw [HD.out]; simp)
    go_enter Try.func34, Try.ntmps34
    go_wp2_with fail
    go_ret
    exact ⟨ret_int HE.out.symm, Below.refl _ _⟩
def rcE (p : RP) : Int := if p.armed = true ∧ p.left = 0 then 40 else 0
def rcP (p : RP) : RP := if p.armed = true ∧ p.left = 0 then { p with down := true } else { p with left := if p.armed = true then p.left - 1 else p.left, done := p.done + 1 }
set_option maxHeartbeats 3200000 in
set_option maxRecDepth 100000 in
theorem rcommand_any {base g : Nat} {R : RS} (w : World) (hR : RefAt base g w R) (hd0 : 0 ≤ R.p.done) (hd : R.p.done ≤ 1000000000000) (hl0 : R.p.armed = true → 0 ≤ R.p.left) (hl1 : R.p.left ≤ 9223372036854775807) :
    Calls Try.prog 35 #[vD g] w fun e w' => e = .returned (.int .i64 (rcE R.p)) ∧ ∃ R' : RS, R'.p = rcP R.p ∧ R'.v = R.v ∧ RefAt base g w' R' ∧ RTurned g R R' w w' := by
  obtain ⟨c8, c9, c10, c11, c12⟩ := hR.nums
  have f9 := hR.frozen 9
  have f10 := hR.frozen 10
  have f12 := hR.frozen 12
  have hlt := hR.lt
  cases ha : R.p.armed
  · have HE := hide (show rcE R.p = 0 by unfold rcE; rw [ha]; simp)
    have HP := hide (show rcP R.p = { R.p with done := R.p.done + 1 } by unfold rcP; rw [if_neg (by rw [ha]; simp), if_neg (by rw [ha]; decide)])
    have HS := hide (hR.set 10 (.int .i64 (R.p.done + 1)) { R.p with done := R.p.done + 1 } rfl rfl (by simp))
    rw [ha] at c11
    clear hR ha hl0
    go_enter Try.func35, Try.ntmps35
    go_wp2_with fail
    go_ret
    exact ⟨ret_int HE.out.symm, ⟨_, R.v⟩, HP.out.symm, rfl, HS.out.1, HS.out.2⟩
  · by_cases h0 : R.p.left = 0
    · have HE := hide (show rcE R.p = 40 from if_pos ⟨ha, h0⟩)
      have HP := hide (show rcP R.p = { R.p with down := true } from if_pos ⟨ha, h0⟩)
      have HS := hide (hR.set 12 (.bool true) { R.p with down := true } rfl rfl (by simp))
      rw [ha] at c11
      rw [h0] at c9
      clear hR ha hl0
      go_enter Try.func35, Try.ntmps35
      go_wp2_with fail
      go_ret
      exact ⟨ret_int HE.out.symm, ⟨_, R.v⟩, HP.out.symm, rfl, HS.out.1, HS.out.2⟩
    · have hb : (R.p.left == 0) = false := by rw [beq_eq_false_iff_ne]; exact h0
      have hl2 := hl0 ha
      have HE := hide (show rcE R.p = 0 from if_neg (fun h => h0 h.2))
      have HP := hide (show rcP R.p = { R.p with left := R.p.left - 1, done := R.p.done + 1 } by unfold rcP; rw [if_neg (fun h => h0 h.2), if_pos ha])
      have h1 := hR.set 9 (.int .i64 (R.p.left - 1)) { R.p with left := R.p.left - 1 } rfl rfl (by simp)
      have h2 := h1.1.set 10 (.int .i64 (R.p.done + 1)) { R.p with left := R.p.left - 1, done := R.p.done + 1 } rfl rfl (by simp)
      have HS := hide (show RefAt base g _ _ ∧ RTurned g R _ w _ from ⟨h2.1, h1.2.trans h2.2⟩)
      rw [ha] at c11
      clear hR ha hl0 h1 h2
      go_enter Try.func35, Try.ntmps35
      go_wp2_with fail
      go_ret
      exact ⟨ret_int HE.out.symm, ⟨_, R.v⟩, HP.out.symm, rfl, HS.out.1, HS.out.2⟩
set_option maxHeartbeats 3200000 in
set_option maxRecDepth 100000 in
theorem rused_any {base g : Nat} {R : RS} (w : World) (hR : RefAt base g w R) (hu : R.p.used ≤ 1073741824) : Calls Try.prog 11 #[vD g] w fun e w' => e = .returned (.int .i64 (R.p.used : Nat)) ∧ Below w.heap.size w w' := by
  have HR := hide hR
  have HU := hide (show R.p.used = (R.p.bs 0).length + (R.p.bs 1).length + (R.p.bs 2).length + (R.p.bs 3).length from rfl)
  have hsl : ∀ i, i < 4 → ∃ A c, R.v (2 * i) = .slice A (R.p.bs i).length c := fun i hi => by
    have h := hR.row (2 * i) (by omega)
    rw [rowC_even, byC_len] at h
    obtain ⟨A, c, e, _⟩ := row_slice h
    exact ⟨A, c, e⟩
  obtain ⟨A0, k0, e0⟩ := hsl 0 (by decide)
  obtain ⟨A1, k1, e1⟩ := hsl 1 (by decide)
  obtain ⟨A2, k2, e2⟩ := hsl 2 (by decide)
  obtain ⟨A3, k3, e3⟩ := hsl 3 (by decide)
  have HA := hide (fun w' (h : Below w.heap.size w w') => (⟨((hR.below h).at (j := 0) (by decide)).trans (congrArg some e0), ((hR.below h).at (j := 2) (by decide)).trans (congrArg some e1), ((hR.below h).at (j := 4) (by decide)).trans (congrArg some e2), ((hR.below h).at (j := 6) (by decide)).trans (congrArg some e3)⟩ : w'.cell? ⟨g, 0, none⟩ = some (.slice A0 (R.p.bs 0).length k0) ∧ w'.cell? ⟨g, 2, none⟩ = some (.slice A1 (R.p.bs 1).length k1) ∧ w'.cell? ⟨g, 4, none⟩ = some (.slice A2 (R.p.bs 2).length k2) ∧ w'.cell? ⟨g, 6, none⟩ = some (.slice A3 (R.p.bs 3).length k3)))
  clear hR hsl e0 e1 e2 e3
  go_enter Try.func11, Try.ntmps11
  go_wp2_with fail
  go_loopw [3, 4] (fun n i wr => ∃ k : Nat, k ≤ 4 ∧ i = .int .i64 k ∧ n = .int .i64 ((if 0 < k then (R.p.bs 0).length else 0) + (if 1 < k then (R.p.bs 1).length else 0) + (if 2 < k then (R.p.bs 2).length else 0) + (if 3 < k then (R.p.bs 3).length else 0) : Nat) ∧ Below w.heap.size w wr) (fun _ i _ => 4 - (intOf i).toNat)
  case atStart => exact ⟨0, Nat.zero_le _, rfl, rfl, Below.refl _ _⟩
  case round =>
    obtain ⟨k, hk, rfl, rfl, hbw⟩ := hrel
    have HB := hide hbw
    obtain ⟨a0, a1, a2, a3⟩ := HA.out _ hbw
    rw [HU.out] at hu
    have HU2 := HU
    clear HU hbw
    rcases (by omega : k = 0 ∨ k = 1 ∨ k = 2 ∨ k = 3 ∨ k = 4) with rfl | rfl | rfl | rfl | rfl
    · go_wp2_with fail
      go_roundw
      case rel => exact ⟨1, by omega, by go_num, by simp, HB.out⟩
      case measure => simp [intOf]
    · go_wp2_with fail
      go_roundw
      case rel => exact ⟨2, by omega, by go_num, by simp, HB.out⟩
      case measure => simp [intOf]
    · go_wp2_with fail
      go_roundw
      case rel => exact ⟨3, by omega, by go_num, by simp, HB.out⟩
      case measure => simp [intOf]
    · go_wp2_with fail
      go_roundw
      case rel => exact ⟨4, by omega, by go_num, by simp, HB.out⟩
      case measure => simp [intOf]
    · go_wp2_with fail
      go_ret
      exact ⟨by rw [HU2.out]; rfl, HB.out⟩
end Go.Proofs.Ytpjibiimakclfab
