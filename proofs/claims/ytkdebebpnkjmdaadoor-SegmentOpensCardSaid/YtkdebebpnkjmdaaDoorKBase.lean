/-
  The disk in memory: what lies where; words that all walks of the disk seat share.
-/
import Derived.Test.YtkdebebpnkjmdaaDoorProg
import Derived.Test.YtkdebebpnkjmdaaDoorFBase
import Derived.WalkKit
import Derived.WalkSpells
import Derived.WalkLawsBesides
import Derived.Handy
import Derived.Deep.QuietTactic
import Derived.BigQuiet
import Derived.Lib.SmallJoins
import Derived.OwnWalk
import Derived.Maps.AppendAt
import Derived.Laws.AppendOwnNone
import Derived.Laws.Rows
namespace Go.Proofs.YtkdebebpnkjmdaaDoor
open Go.RowKit

/-- What a disk holds: each file's bytes, and how many of them are safe. -/
structure PD where
  xs : Nat → List UInt8
  s : Nat → Int
  cap : Int
  done : Int
  left : Int
  down : Bool
def PD.used (p : PD) : Nat := (p.xs 0).length + (p.xs 1).length + (p.xs 2).length + (p.xs 3).length
/-- The state of a disk, with its files' slices. -/
structure DS where
  p : PD
  v : Nat → Value
abbrev dCells (D : DS) : Array Value := #[D.v 0, .int .i64 (D.p.s 0), D.v 1, .int .i64 (D.p.s 1), D.v 2, .int .i64 (D.p.s 2), D.v 3, .int .i64 (D.p.s 3), .int .i64 D.p.cap, .int .i64 D.p.done, .int .i64 D.p.left, .bool D.p.down]
/-- The numbers are such as come about. -/
structure PD.Ok (p : PD) : Prop where
  cap0 : 0 ≤ p.cap
  cap1 : p.cap ≤ 1073741824
  used : p.used ≤ 1073741824
  s0 : ∀ i, i < 4 → 0 ≤ p.s i
  s1 : ∀ i, i < 4 → p.s i ≤ (p.xs i).length
  done0 : 0 ≤ p.done
  left0 : -9223372036854775808 ≤ p.left
  left1 : p.left ≤ 9223372036854775807
theorem PD.Ok.len {p : PD} (h : p.Ok) {i : Nat} (hi : i < 4) : (p.xs i).length ≤ 1073741824 := by
  have := h.used
  unfold PD.used at this
  rcases (by omega : i = 0 ∨ i = 1 ∨ i = 2 ∨ i = 3) with rfl | rfl | rfl | rfl <;> omega
/-- The disk lies in block g, its files' bytes in blocks of their own. -/
structure DiskAt (base g : Nat) (w : World) (D : DS) : Prop where
  hg : base ≤ g
  box : w.heap[g]? = some (.cells (dCells D) 69 (0, 0))
  row : ∀ i, i < 4 → w.ownsRow base 5 1 (D.v i) (D.p.xs i).length (byC (D.p.xs i))
  off : ∀ i, i < 4 → ∀ b, (D.v i).ownBlock = some b → b ≠ g
  apart : ∀ i j, i < 4 → j < 4 → i ≠ j → ∀ b, (D.v i).ownBlock = some b → (D.v j).ownBlock ≠ some b
theorem DiskAt.lt {base g : Nat} {w : World} {D : DS} (h : DiskAt base g w D) : g < w.heap.size := (Array.getElem?_eq_some_iff.1 h.box).1
theorem DiskAt.keep {base g : Nat} {w w' : World} {D : DS} (h : DiskAt base g w D) (hb : ∀ b, b < w.heap.size → b = g ∨ (∃ i, i < 4 ∧ (D.v i).ownBlock = some b) → w'.heap[b]? = w.heap[b]?) : DiskAt base g w' D := by
  refine ⟨h.hg, (hb g h.lt (.inl rfl)).trans h.box, fun i hi => ?_, h.off, h.apart⟩
  rcases ho : (D.v i).ownBlock with _ | b
  · rcases h.row i hi with ⟨e, ⟨e1, e2⟩ | ⟨g', cap, cur, e1, _⟩⟩
    · exact ⟨e, .inl ⟨e1, e2⟩⟩
    · rw [e1] at ho; cases ho
  · rcases h.row i hi with ⟨e, ⟨e1, e2⟩ | ⟨g', cap, cur, e1, e2, e3, r⟩⟩
    · exact ⟨e, .inl ⟨e1, e2⟩⟩
    · refine ⟨e, .inr ⟨g', cap, cur, e1, e2, ?_, r⟩⟩
      rw [hb g' (Array.getElem?_eq_some_iff.1 e3).1 (.inr ⟨i, hi, by rw [e1]; rfl⟩)]
      exact e3
theorem DiskAt.below {base g : Nat} {w w' : World} {D : DS} (h : DiskAt base g w D) (hb : Below w.heap.size w w') : DiskAt base g w' D := h.keep fun b hlt _ => hb.block b hlt
/-- Of what was there only the disk's own blocks may have turned. -/
structure Turned (g : Nat) (D D' : DS) (w w' : World) : Prop where
  os : w'.os = w.os
  tape : w'.tape = w.tape
  output : w'.output = w.output
  size : w.heap.size ≤ w'.heap.size
  block : ∀ b, b < w.heap.size → b ≠ g → (∀ i, i < 4 → (D.v i).ownBlock ≠ some b) → w'.heap[b]? = w.heap[b]?
  own : ∀ i, i < 4 → ∀ b, (D'.v i).ownBlock = some b → (∃ j, j < 4 ∧ (D.v j).ownBlock = some b) ∨ w.heap.size ≤ b
theorem Turned.of_below {g : Nat} {D : DS} {w w' : World} (h : Below w.heap.size w w') : Turned g D D w w' := ⟨h.os, h.tape, h.output, h.size, fun b hb _ _ => h.block b hb, fun i hi _ e => .inl ⟨i, hi, e⟩⟩
theorem Turned.trans {g : Nat} {D D' D'' : DS} {a b c : World} (h : Turned g D D' a b) (k : Turned g D' D'' b c) : Turned g D D'' a c := by
  refine ⟨k.os.trans h.os, k.tape.trans h.tape, k.output.trans h.output, Nat.le_trans h.size k.size, fun i hi hg ho => ?_, fun i hi x e => ?_⟩
  · rw [k.block i (Nat.lt_of_lt_of_le hi h.size) hg fun j hj e => ?_]
    · exact h.block i hi hg ho
    · rcases h.own j hj i e with ⟨m, hm, e2⟩ | e2
      · exact ho m hm e2
      · omega
  · rcases k.own i hi x e with ⟨m, hm, e2⟩ | e2
    · exact h.own m hm x e2
    · exact .inr (Nat.le_trans h.size e2)
theorem Turned.below {base g : Nat} {D D' : DS} {w w' : World} (h : Turned g D D' w w') (hD : DiskAt base g w D) : Below base w w' := by
  refine ⟨h.os, h.tape, h.output, h.size, fun b hb => ?_⟩
  have hg := hD.hg
  have hlt := hD.lt
  exact h.block b (by omega) (by omega) fun i hi e => by have := (hD.row i hi).lt b e; omega
theorem DiskAt.cells {base g : Nat} {w : World} {D : DS} (h : DiskAt base g w D) :
    w.cell? ⟨g, 0, none⟩ = some (D.v 0) ∧ w.cell? ⟨g, 1, none⟩ = some (.int .i64 (D.p.s 0)) ∧ w.cell? ⟨g, 2, none⟩ = some (D.v 1) ∧ w.cell? ⟨g, 3, none⟩ = some (.int .i64 (D.p.s 1)) ∧ w.cell? ⟨g, 4, none⟩ = some (D.v 2) ∧ w.cell? ⟨g, 5, none⟩ = some (.int .i64 (D.p.s 2)) ∧
    w.cell? ⟨g, 6, none⟩ = some (D.v 3) ∧ w.cell? ⟨g, 7, none⟩ = some (.int .i64 (D.p.s 3)) ∧ w.cell? ⟨g, 8, none⟩ = some (.int .i64 D.p.cap) ∧ w.cell? ⟨g, 9, none⟩ = some (.int .i64 D.p.done) ∧ w.cell? ⟨g, 10, none⟩ = some (.int .i64 D.p.left) ∧ w.cell? ⟨g, 11, none⟩ = some (.bool D.p.down) :=
  ⟨Lib.cell_of_heap h.box 0, Lib.cell_of_heap h.box 1, Lib.cell_of_heap h.box 2, Lib.cell_of_heap h.box 3, Lib.cell_of_heap h.box 4, Lib.cell_of_heap h.box 5, Lib.cell_of_heap h.box 6, Lib.cell_of_heap h.box 7, Lib.cell_of_heap h.box 8, Lib.cell_of_heap h.box 9, Lib.cell_of_heap h.box 10, Lib.cell_of_heap h.box 11⟩
theorem DiskAt.frozen {base g : Nat} {w : World} {D : DS} (h : DiskAt base g w D) (i : Nat) : w.frozen? ⟨g, i, none⟩ = false := Lib.frozen_of_heap h.box i
theorem bytes_of_rowK {w : World} {base : Nat} {e : TypeId} {v : Value} {l : List UInt8} (h : w.ownsRow base e 1 v l.length (byC l)) :
    ∃ A c, v = .slice A l.length c ∧ BytesAt w.heap.size w A l ∧ (∀ a, A = some a → base ≤ a.block) ∧ (A = none → c = 0) := by
  rcases h.2 with ⟨rfl, h0⟩ | ⟨g, cap, cur, rfl, hb, hg, hn, _, hsz, htk⟩
  · rw [h0]; exact ⟨none, 0, rfl, (fun j hj => by omega), (fun a e => by cases e), (fun _ => rfl)⟩
  · refine ⟨some ⟨g, 0, none⟩, cap, rfl, (fun j hj => ⟨g, 0, rfl, (Array.getElem?_eq_some_iff.1 hg).1, ?_⟩), (fun a e => by injection e with e; rw [← e]; exact hb), (fun e => by cases e)⟩
    rw [Nat.zero_add, Lib.cell_of_heap hg]
    have hc := byC_at hj
    rw [← htk, List.getElem?_take_of_lt (by omega)] at hc
    simpa using hc
set_option maxRecDepth 100000 in
/-- append of bytes to a row of the call's own. -/
theorem append_bytesK {w : World} {ops : Array Oper} {rest : List Oper} {o : Oper} {a : Act} {Q : Exit → Act → World → Prop} (hgd : o.guard = none) (s x : Operand)
    (ho : o.op = .call { callee := .builtin .append, args := #[s, x], argTypes := #[22, 22] })
    (base : Nat) (v : Value) (xs ys : List UInt8) (n : Nat) (hs : a.eval s = v) (hown : w.ownsRow base 5 1 v n (byC xs)) (B : Nat)
    (A : Option Addr) (c : Nat) (hx : a.eval x = .slice A ys.length c) (hC : BytesAt B w A ys) (hnil : A = none → c = 0) (hlen : n + ys.length ≤ 4294967296) (hbase : base ≤ w.heap.size)
    (h : ∀ v' w', w'.ownsRow base 5 1 v' (n + ys.length) (byC (xs ++ ys)) → w.grownBy w' v.ownBlock → (v'.ownBlock = v.ownBlock ∨ v'.ownBlock = some w.heap.size) → wpList Tryd.prog ops Q rest (a.put o.dst v') w') : wpList Tryd.prog ops Q (o :: rest) a w := by
  obtain ⟨i0, hi, hz0, hz1, hz2⟩ := info_parts u8_info
  have hcat : byC (xs ++ ys) = byC xs ++ byC ys := by simp [byC]
  cases A with
  | none =>
    have hy : ys = [] := by
      rcases ys with _ | ⟨y, r⟩
      · rfl
      · obtain ⟨_, _, e, _⟩ := hC 0 (by simp); cases e
    subst hy
    have hc0 := hnil rfl
    subst hc0
    exact wpList_append_own_none hgd s x _ ho base _ i0 1 Tryd.underlying22 hi v n _ hs hown hx (h v w (by simpa using hown) ⟨rfl, rfl, rfl, Nat.le_refl _, fun _ _ _ => rfl⟩ (.inl rfl))
  | some ad =>
    refine wpList_append_own_at w hgd s x _ ho base 5 i0 (.int .u8 0) 1 1 Tryd.underlying22 hi hz0 hz1 hz2 rfl (by decide) v n _ hs hown ad ys.length c (byC ys) hx (by rw [byC_len]; omega) ?_ ?_ (by unfold maxLen; omega) (by omega) hbase ?_
    · intro j u hu
      have hj : j < ys.length := by rw [← byC_len ys]; exact (List.getElem?_eq_some_iff.1 hu).1
      obtain ⟨b, off, e, _, c0⟩ := hC j hj
      injection e with e
      subst e
      rw [show (⟨b, off, none⟩ : Addr).add j = ⟨b, off + j, none⟩ by unfold Addr.add; split <;> simp_all]
      rw [byC_at hj] at hu
      injection hu with hu
      subst hu
      exact c0
    · intro u hu
      unfold byC at hu
      obtain ⟨c, _, rfl⟩ := List.mem_map.1 hu
      rfl
    · intro v' w' h1 h2 _ h4
      rw [← hcat] at h1
      exact h v' w' h1 h2 h4
end Go.Proofs.YtkdebebpnkjmdaaDoor
