/-
  Words that all walks of the frame seat share: bytes in memory, the encoder, the decoder, the listed table.
-/
import Derived.Test.YtkdihekhdnnheaaDoorProg
import Derived.Test.YtkdihekhdnnheaaDoorFNum
import Derived.Test.YtkdihekhdnnheaaDoorFCrc
import Derived.WalkKit
import Derived.WalkSpells
import Derived.WalkLawsBesides
import Derived.Handy
import Derived.Deep.QuietTactic
import Derived.BigQuiet
import Derived.Lib.SmallJoins
import Derived.OwnWalk
import Derived.Maps.AppendAt
import Derived.Laws.AppendOwnNone
import Derived.Laws.Rows
import Derived.Laws.BytesArg
import Derived.Laws.IdiomStrings
import Derived.KernelRfl
namespace Go.Proofs.YtkdihekhdnnheaaDoor
open Go.RowKit

theorem hide {p : Prop} (h : p) : Hid p := h
theorem ret_bool {a b : Bool} (h : a = b) : Ending.returned (.bool a) = .returned (.bool b) := by rw [h]
theorem ret_int {k : IntKind} {a b : Int} (h : a = b) : Ending.returned (.int k a) = .returned (.int k b) := by rw [h]
theorem ret_str {a b : ByteArray} (h : a = b) : Ending.returned (.string a) = .returned (.string b) := by rw [h]
theorem only_of_below {a w : World} (h : Below a.heap.size a w) (row : Option Nat) : a.grownBy w row := ⟨h.os, h.tape, h.output, h.size, fun i hi _ => h.block i hi⟩
theorem then_below {a b c : World} (h : Below a.heap.size a b) (k : Below b.heap.size b c) : Below a.heap.size a c := h.trans (k.mono h.size)
theorem bcell {W w1 : World} (hb : Below W.heap.size W w1) : (∀ b o, b < W.heap.size → w1.cell? ⟨b, o, none⟩ = W.cell? ⟨b, o, none⟩) ∧ (∀ b o, b < W.heap.size → w1.frozen? ⟨b, o, none⟩ = W.frozen? ⟨b, o, none⟩) :=
  ⟨fun b o h => hb.cell (p := ⟨b, o, none⟩) h, fun b o h => hb.frozen (p := ⟨b, o, none⟩) h⟩

/-- The variable halfSums holds the half bytes' sums. -/
def Tab (w : World) : Prop := ∀ i, i < 16 → w.cell? ⟨0, i, none⟩ = some (.int .u32 (halfT.getD i 0 : Nat))
theorem Tab.lt {w : World} (h : Tab w) : 0 < w.heap.size := by
  rcases Nat.lt_or_ge 0 w.heap.size with h' | h'
  · exact h'
  · exfalso
    have h0 := h 0 (by decide)
    have : w.heap[0]? = none := Array.getElem?_eq_none h'
    simp [World.cell?, this] at h0
theorem Tab.stays {B : Nat} {w w' : World} (h : Tab w) (hB : w.heap.size ≤ B) (hb : Below B w w') : Tab w' := fun i hi => (hb.cell (p := ⟨0, i, none⟩) (Nat.lt_of_lt_of_le h.lt hB)).trans (h i hi)
theorem Tab.on {w w' : World} (h : Tab w) (hb : Below w.heap.size w w') : Tab w' := h.stays (Nat.le_refl _) hb

def byC (l : List UInt8) : List Value := l.map fun b => .int .u8 b.toNat
theorem byC_len (l : List UInt8) : (byC l).length = l.length := by simp [byC]
theorem byC_at {l : List UInt8} {j : Nat} (hj : j < l.length) : (byC l)[j]? = some (.int .u8 (l.getD j 0).toNat) := by
  unfold byC
  rw [List.getElem?_map, List.getElem?_eq_getElem hj, List.getD_eq_getElem?_getD, List.getElem?_eq_getElem hj]
  rfl
/-- The slice at A reads as these bytes. -/
def BytesAt (B : Nat) (w : World) (A : Option Addr) (l : List UInt8) : Prop :=
  ∀ j, j < l.length → ∃ b off, A = some ⟨b, off, none⟩ ∧ b < B ∧ w.cell? ⟨b, off + j, none⟩ = some (.int .u8 (l.getD j 0).toNat)
theorem BytesAt.below {B : Nat} {w w' : World} {A : Option Addr} {l : List UInt8} (h : BytesAt B w A l) (hb : Below B w w') : BytesAt B w' A l := fun j hj => by
  obtain ⟨b, off, e, hlt, h0⟩ := h j hj
  exact ⟨b, off, e, hlt, (hb.cell (p := ⟨b, off + j, none⟩) hlt).trans h0⟩
theorem BytesAt.mono {B B' : Nat} {w : World} {A : Option Addr} {l : List UInt8} (h : BytesAt B w A l) (hB : B ≤ B') : BytesAt B' w A l := fun j hj => by
  obtain ⟨b, off, e, hlt, h0⟩ := h j hj
  exact ⟨b, off, e, Nat.lt_of_lt_of_le hlt hB, h0⟩
theorem BytesAt.on {w w' : World} {A : Option Addr} {l : List UInt8} (h : BytesAt w.heap.size w A l) (hb : Below w.heap.size w w') : BytesAt w'.heap.size w' A l := (h.below hb).mono hb.size
/-- A slice that reads as these bytes, part of it. -/
theorem BytesAt.some_at {B : Nat} {w : World} {A : Option Addr} {l : List UInt8} (h : BytesAt B w A l) (hl : l ≠ []) : ∃ b off, A = some ⟨b, off, none⟩ ∧ b < B ∧ ∀ j, j < l.length → w.cell? ⟨b, off + j, none⟩ = some (.int .u8 (l.getD j 0).toNat) := by
  obtain ⟨b, off, e, hlt, h0⟩ := h 0 (List.length_pos_iff.2 hl)
  refine ⟨b, off, e, hlt, fun j hj => ?_⟩
  obtain ⟨b', off', e', _, h1⟩ := h j hj
  rw [e] at e'; injection e' with e'; injection e' with e1 e2
  rw [e1, e2]; exact h1
/-- A file's slice, taken apart. -/
theorem row_slice {w : World} {base : Nat} {e : TypeId} {k n : Nat} {v : Value} {xs : List Value} (h : w.ownsRow base e k v n xs) : ∃ A c, v = .slice A n c ∧ n ≤ c ∧ c ≤ maxLen := by
  rcases h.2 with ⟨e1, e2⟩ | ⟨g, cap, cur, e1, _, _, hn, hc, _⟩
  · exact ⟨none, 0, by rw [e1, e2], by omega, by unfold maxLen; omega⟩
  · exact ⟨_, _, e1, hn, hc⟩
/-- A row of the call's own that holds these bytes reads as them. -/
theorem bytes_of_row {w : World} {base : Nat} {e : TypeId} {v : Value} {l : List UInt8} (h : w.ownsRow base e 1 v l.length (byC l)) :
    ∃ A c, v = .slice A l.length c ∧ BytesAt w.heap.size w A l ∧ (∀ a, A = some a → base ≤ a.block ∧ v.ownBlock = some a.block) ∧ (A = none → c = 0) ∧ l.length ≤ c := by
  rcases h.2 with ⟨rfl, h0⟩ | ⟨g, cap, cur, rfl, hb, hg, hn, _, hsz, htk⟩
  · rw [h0]; exact ⟨none, 0, rfl, (fun j hj => by omega), (fun a e => by cases e), (fun _ => rfl), by omega⟩
  · refine ⟨some ⟨g, 0, none⟩, cap, rfl, (fun j hj => ⟨g, 0, rfl, (Array.getElem?_eq_some_iff.1 hg).1, ?_⟩), (fun a e => by injection e with e; rw [← e]; exact ⟨hb, rfl⟩), (fun e => by cases e), hn⟩
    rw [Nat.zero_add, Lib.cell_of_heap hg]
    have hc := byC_at hj
    rw [← htk, List.getElem?_take_of_lt (by omega)] at hc
    simpa using hc
theorem u8_info : (Tryd.prog.info? 5).map (fun i => (i.zero, i.size, i.bytes)) = some (some (.int .u8 0), 1, 1) := by kernel_rfl
set_option maxRecDepth 100000 in
/-- append of bytes to a row of the call's own. -/
theorem append_bytes {w : World} {ops : Array Oper} {rest : List Oper} {o : Oper} {a : Act} {Q : Exit → Act → World → Prop} (hgd : o.guard = none) (s x : Operand)
    (ho : o.op = .call { callee := .builtin .append, args := #[s, x], argTypes := #[28, 28] })
    (base : Nat) (v : Value) (xs ys : List UInt8) (n : Nat) (hs : a.eval s = v) (hown : w.ownsRow base 5 1 v n (byC xs)) (B : Nat)
    (A : Option Addr) (m c : Nat) (hm : m = ys.length) (hx : a.eval x = .slice A m c) (hC : BytesAt B w A ys) (hnil : A = none → c = 0) (hlen : n + m ≤ 4294967296) (hbase : base ≤ w.heap.size)
    (h : ∀ v' w', w'.ownsRow base 5 1 v' (n + m) (byC (xs ++ ys)) → w.grownBy w' v.ownBlock → (v'.ownBlock = v.ownBlock ∨ v'.ownBlock = some w.heap.size) → wpList Tryd.prog ops Q rest (a.put o.dst v') w') : wpList Tryd.prog ops Q (o :: rest) a w := by
  subst hm
  obtain ⟨i0, hi, hz0, hz1, hz2⟩ := info_parts u8_info
  have hcat : byC (xs ++ ys) = byC xs ++ byC ys := by simp [byC]
  cases A with
  | none =>
    have hy : ys = [] := by
      rcases ys with _ | ⟨y, r⟩
      · rfl
      · obtain ⟨_, _, e, _⟩ := hC 0 (by simp); cases e
    subst hy
    have hc0 := hnil rfl
    subst hc0
    exact wpList_append_own_none hgd s x _ ho base _ i0 1 Tryd.underlying28 hi v n _ hs hown hx (h v w (by simpa using hown) ⟨rfl, rfl, rfl, Nat.le_refl _, fun _ _ _ => rfl⟩ (.inl rfl))
  | some ad =>
    refine wpList_append_own_at w hgd s x _ ho base 5 i0 (.int .u8 0) 1 1 Tryd.underlying28 hi hz0 hz1 hz2 rfl (by decide) v n _ hs hown ad ys.length c (byC ys) hx (by rw [byC_len]; omega) ?_ ?_ (by unfold maxLen; omega) (by omega) hbase ?_
    · intro j u hu
      have hj : j < ys.length := by rw [← byC_len ys]; exact (List.getElem?_eq_some_iff.1 hu).1
      obtain ⟨b, off, e, _, c0⟩ := hC j hj
      injection e with e
      subst e
      rw [show (⟨b, off, none⟩ : Addr).add j = ⟨b, off + j, none⟩ by unfold Addr.add; split <;> simp_all]
      rw [byC_at hj] at hu
      injection hu with hu
      subst hu
      exact c0
    · intro u hu
      unfold byC at hu
      obtain ⟨c, _, rfl⟩ := List.mem_map.1 hu
      rfl
    · intro v' w' h1 h2 _ h4
      rw [← hcat] at h1
      exact h v' w' h1 h2 h4
/-- string(b). -/
theorem conv_bytes (A : Option Addr) (cap : Nat) (l : List UInt8) (w : World) (h : BytesAt w.heap.size w A l) : (convert 28 9 (.slice A l.length cap)).run Tryd.prog w = .ok (.string ⟨l.toArray⟩) w := by
  cases A with
  | none =>
    have hv : l = [] := by
      rcases l with _ | ⟨y, r⟩
      · rfl
      · obtain ⟨_, _, e, _⟩ := h 0 (by simp); cases e
    subst hv
    exact run_convert_bytes_nil w _ 5 Tryd.underlying28 Tryd.underlying5 _ _ _ Tryd.underlying9
  | some a =>
    refine run_convert_bytes_back w _ _ 5 a cap l Tryd.underlying28 Tryd.underlying5 Tryd.underlying9 (fun j hj => ?_)
    obtain ⟨b, off, e, _, h0⟩ := h j hj
    injection e with e
    subst e
    rw [List.getD_eq_getElem?_getD, List.getElem?_eq_getElem hj] at h0
    rw [show (⟨b, off, none⟩ : Addr).add j = ⟨b, off + j, none⟩ by unfold Addr.add; split <;> simp_all]
    exact h0
theorem bytes_new (w : World) (l : List UInt8) (fr : Nat × Nat) : BytesAt (w.alloc (.cells (byC l).toArray 5 fr)).heap.size (w.alloc (.cells (byC l).toArray 5 fr)) (some ⟨w.heap.size, 0, none⟩) l := fun j hj => by
  refine ⟨w.heap.size, 0, rfl, by simp, ?_⟩
  rw [Nat.zero_add, Lib.cell_of_heap (heap_alloc_new w _) j]
  simpa using byC_at hj

/-- An encoder's bytes: its box, the slice in it, and what that holds. -/
structure OutAt (base g : Nat) (w : World) (v : Value) (l : List UInt8) : Prop where
  hg : base ≤ g
  box : w.heap[g]? = some (.cells #[v] 81 (0, 0))
  row : w.ownsRow base 5 1 v l.length (byC l)
  off : ∀ b, v.ownBlock = some b → b ≠ g
theorem OutAt.lt {base g : Nat} {w : World} {v : Value} {l : List UInt8} (h : OutAt base g w v l) : g < w.heap.size := (Array.getElem?_eq_some_iff.1 h.box).1
theorem row_keep {w w' : World} {base : Nat} {e : TypeId} {k n : Nat} {v : Value} {xs : List Value} (h : w.ownsRow base e k v n xs) (hb : ∀ b, v.ownBlock = some b → w'.heap[b]? = w.heap[b]?) : w'.ownsRow base e k v n xs := by
  refine ⟨h.1, ?_⟩
  rcases h.2 with ⟨e1, e2⟩ | ⟨g, cap, cur, e1, e2, e3, r⟩
  · exact .inl ⟨e1, e2⟩
  · refine .inr ⟨g, cap, cur, e1, e2, ?_, r⟩
    rw [hb g (by rw [e1]; rfl)]; exact e3
theorem OutAt.keep {base g : Nat} {w w' : World} {v : Value} {l : List UInt8} (h : OutAt base g w v l) (hb : ∀ b, b < w.heap.size → b = g ∨ v.ownBlock = some b → w'.heap[b]? = w.heap[b]?) : OutAt base g w' v l :=
  ⟨h.hg, (hb g h.lt (.inl rfl)).trans h.box, row_keep h.row fun b e => hb b (h.row.lt b e).2 (.inr e), h.off⟩
theorem OutAt.below {base g : Nat} {w w' : World} {v : Value} {l : List UInt8} (h : OutAt base g w v l) (hb : Below w.heap.size w w') : OutAt base g w' v l := h.keep fun b hlt _ => hb.block b hlt
/-- Of what was there only the box and the slice's block may have turned. -/
structure OutTurn (g : Nat) (v v' : Value) (w w' : World) : Prop where
  os : w'.os = w.os
  tape : w'.tape = w.tape
  output : w'.output = w.output
  size : w.heap.size ≤ w'.heap.size
  block : ∀ b, b < w.heap.size → b ≠ g → v.ownBlock ≠ some b → w'.heap[b]? = w.heap[b]?
  own : ∀ b, v'.ownBlock = some b → v.ownBlock = some b ∨ w.heap.size ≤ b
theorem OutTurn.refl (g : Nat) (v : Value) (w : World) : OutTurn g v v w w := ⟨rfl, rfl, rfl, Nat.le_refl _, fun _ _ _ _ => rfl, fun _ e => .inl e⟩
theorem OutTurn.of_below {g : Nat} {v : Value} {w w' : World} (h : Below w.heap.size w w') : OutTurn g v v w w' := ⟨h.os, h.tape, h.output, h.size, fun b hb _ _ => h.block b hb, fun _ e => .inl e⟩
theorem OutTurn.trans {g : Nat} {v v' v'' : Value} {a b c : World} (h : OutTurn g v v' a b) (k : OutTurn g v' v'' b c) : OutTurn g v v'' a c := by
  refine ⟨k.os.trans h.os, k.tape.trans h.tape, k.output.trans h.output, Nat.le_trans h.size k.size, fun i hi hg ho => ?_, fun x e => ?_⟩
  · rw [k.block i (Nat.lt_of_lt_of_le hi h.size) hg fun e => ?_]
    · exact h.block i hi hg ho
    · rcases h.own i e with e2 | e2
      · exact ho e2
      · omega
  · rcases k.own x e with e2 | e2
    · exact h.own x e2
    · exact .inr (Nat.le_trans h.size e2)
theorem OutTurn.below {base g : Nat} {v v' : Value} {w w' : World} {l : List UInt8} (h : OutTurn g v v' w w') (hD : OutAt base g w v l) : Below base w w' := by
  refine ⟨h.os, h.tape, h.output, h.size, fun b hb => ?_⟩
  have hg := hD.hg
  have hlt := hD.lt
  exact h.block b (by omega) (by omega) fun e => by have := (hD.row.lt b e); omega
/-- More bytes: the slice that append gives, stored into the box. -/
theorem OutAt.put {base g : Nat} {w w2 : World} {v v' : Value} {l ys : List UInt8} (h : OutAt base g w v l) (n : Nat) (hn : n = (l ++ ys).length) (h1 : w2.ownsRow base 5 1 v' n (byC (l ++ ys))) (h2 : w.grownBy w2 v.ownBlock) (h3 : v'.ownBlock = v.ownBlock ∨ v'.ownBlock = some w.heap.size) :
    w2.cell? ⟨g, 0, none⟩ = some v ∧ w2.frozen? ⟨g, 0, none⟩ = false ∧ w.heap.size ≤ w2.heap.size ∧ OutAt base g (w2.setCell ⟨g, 0, none⟩ v') v' (l ++ ys) ∧ OutTurn g v v' w (w2.setCell ⟨g, 0, none⟩ v') := by
  subst hn
  have hlt := h.lt
  have hbx : w2.heap[g]? = some (.cells #[v] 81 (0, 0)) := (h2.block g hlt (fun e => h.off g e.symm rfl)).trans h.box
  have hvg : ∀ b, v'.ownBlock = some b → b ≠ g := fun b e => by
    rcases h3 with h4 | h4
    · exact h.off b (h4.symm.trans e)
    · rw [e] at h4; injection h4 with h4; omega
  refine ⟨Lib.cell_of_heap hbx 0, Lib.frozen_of_heap hbx 0, h2.size, ⟨h.hg, ?_, row_keep h1 fun b e => Below.heap_setCell _ _ _ _ (hvg b e), hvg⟩, ?_⟩
  · rw [Joins.block_setCell (i := 0) hbx v']
    simp
  · refine ⟨h2.os, h2.tape, h2.output, by have := h2.size; simpa [World.setCell] using this, fun b hb hg ho => ?_, fun b e => ?_⟩
    · rw [Below.heap_setCell _ _ _ _ hg]
      exact h2.block b hb (fun e => ho e.symm)
    · rcases h3 with h4 | h4
      · exact .inl (h4.symm.trans e)
      · rw [e] at h4; injection h4 with h4; exact .inr (by omega)

/-- The slice at A reads as these bytes, not in block g. -/
def Reads (lo : Nat → Prop) (g : Nat) (w : World) (A : Option Addr) (l : List UInt8) : Prop :=
  ∀ j, j < l.length → ∃ b off, A = some ⟨b, off, none⟩ ∧ lo b ∧ b ≠ g ∧ b < w.heap.size ∧ w.cell? ⟨b, off + j, none⟩ = some (.int .u8 (l.getD j 0).toNat)
theorem Reads.bytes {lo : Nat → Prop} {g : Nat} {w : World} {A : Option Addr} {l : List UInt8} (h : Reads lo g w A l) : BytesAt w.heap.size w A l := fun j hj => by
  obtain ⟨b, off, e, _, _, e3, e4⟩ := h j hj
  exact ⟨b, off, e, e3, e4⟩
theorem Reads.keep {lo : Nat → Prop} {g : Nat} {w w' : World} {A : Option Addr} {l : List UInt8} (h : Reads lo g w A l) (hs : w.heap.size ≤ w'.heap.size) (hb : ∀ b, lo b → b ≠ g → b < w.heap.size → w'.heap[b]? = w.heap[b]?) : Reads lo g w' A l := fun j hj => by
  obtain ⟨b, off, e, e1, e2, e3, e4⟩ := h j hj
  refine ⟨b, off, e, e1, e2, Nat.lt_of_lt_of_le e3 hs, ?_⟩
  rw [← e4]
  simp only [World.cell?]
  rw [hb b e1 e2 e3]
theorem Reads.nil (lo : Nat → Prop) (g : Nat) (w : World) (A : Option Addr) : Reads lo g w A [] := fun j hj => by simp at hj
theorem Reads.take {lo : Nat → Prop} {g : Nat} {w : World} {A : Option Addr} {l : List UInt8} (h : Reads lo g w A l) (n : Nat) : Reads lo g w A (l.take n) := fun j hj => by
  rw [List.length_take] at hj
  obtain ⟨b, off, e, e1, e2, e3, e4⟩ := h j (by omega)
  refine ⟨b, off, e, e1, e2, e3, ?_⟩
  rw [e4, List.getD_eq_getElem?_getD, List.getD_eq_getElem?_getD, List.getElem?_take_of_lt (by omega)]
theorem Reads.drop {lo : Nat → Prop} {g : Nat} {w : World} {b off : Nat} {l : List UInt8} (h : Reads lo g w (some ⟨b, off, none⟩) l) (n : Nat) : Reads lo g w (some ⟨b, off + n, none⟩) (l.drop n) := fun j hj => by
  rw [List.length_drop] at hj
  obtain ⟨b', off', e, e1, e2, e3, e4⟩ := h (n + j) (by omega)
  injection e with e; injection e with ea eb
  subst ea; subst eb
  refine ⟨b, off + n, rfl, e1, e2, e3, ?_⟩
  rw [Nat.add_assoc, e4, List.getD_eq_getElem?_getD, List.getD_eq_getElem?_getD, List.getElem?_drop]
/-- A decoder: what is left, and whether it is bad. -/
def InAt (lo : Nat → Prop) (g : Nat) (w : World) (l : List UInt8) (bad : Bool) : Prop :=
  lo g ∧ (bad = true → l = []) ∧ ∃ A c, w.heap[g]? = some (.cells #[.slice A l.length c, .bool bad] 96 (0, 0)) ∧ l.length ≤ c ∧ (c ≤ 9223372036854775807 ∧ l.length ≤ 140737488355328) ∧ (A = none → c = 0) ∧ (∀ a, A = some a → a = ⟨a.block, a.off, none⟩) ∧ Reads lo g w A l
/-- Of what was there only the decoder's box may have turned. -/
structure OnlyG (g : Nat) (w w' : World) : Prop where
  os : w'.os = w.os
  tape : w'.tape = w.tape
  output : w'.output = w.output
  size : w.heap.size ≤ w'.heap.size
  block : ∀ b, b < w.heap.size → b ≠ g → w'.heap[b]? = w.heap[b]?
theorem OnlyG.of_below {g : Nat} {w w' : World} (h : Below w.heap.size w w') : OnlyG g w w' := ⟨h.os, h.tape, h.output, h.size, fun b hb _ => h.block b hb⟩
theorem OnlyG.trans {g : Nat} {a b c : World} (h : OnlyG g a b) (k : OnlyG g b c) : OnlyG g a c :=
  ⟨k.os.trans h.os, k.tape.trans h.tape, k.output.trans h.output, Nat.le_trans h.size k.size, fun i hi hg => (k.block i (Nat.lt_of_lt_of_le hi h.size) hg).trans (h.block i hi hg)⟩
theorem OnlyG.below {base g : Nat} {w w' : World} (h : OnlyG g w w') (hg : base ≤ g) (hlt : base ≤ w.heap.size) : Below base w w' :=
  ⟨h.os, h.tape, h.output, h.size, fun b hb => h.block b (by omega) (by omega)⟩
theorem Reads.turn {lo : Nat → Prop} {g : Nat} {w w' : World} {A : Option Addr} {l : List UInt8} (h : Reads lo g w A l) (k : OnlyG g w w') : Reads lo g w' A l := h.keep k.size fun b _ hg hlt => k.block b hlt hg
theorem InAt.lt {lo : Nat → Prop} {g : Nat} {w : World} {l : List UInt8} {bad : Bool} (h : InAt lo g w l bad) : g < w.heap.size := by
  obtain ⟨_, _, A, c, hb, _⟩ := h
  exact (Array.getElem?_eq_some_iff.1 hb).1
theorem InAt.keep {lo : Nat → Prop} {g : Nat} {w w' : World} {l : List UInt8} {bad : Bool} (h : InAt lo g w l bad) (hs : w.heap.size ≤ w'.heap.size) (hb : ∀ b, lo b → b < w.heap.size → w'.heap[b]? = w.heap[b]?) : InAt lo g w' l bad := by
  have hlt := h.lt
  obtain ⟨hg, h0, A, c, hbx, h1, h2, h3, h4, h5⟩ := h
  exact ⟨hg, h0, A, c, (hb g hg hlt).trans hbx, h1, h2, h3, h4, h5.keep hs fun b e _ hl => hb b e hl⟩
theorem InAt.below {lo : Nat → Prop} {g : Nat} {w w' : World} {l : List UInt8} {bad : Bool} (h : InAt lo g w l bad) (hb : Below w.heap.size w w') : InAt lo g w' l bad := h.keep hb.size fun b _ hlt => hb.block b hlt
theorem InAt.short {lo : Nat → Prop} {g : Nat} {w : World} {l : List UInt8} {bad : Bool} (h : InAt lo g w l bad) : l.length ≤ 140737488355328 := by
  obtain ⟨_, _, A, c, _, h1, h2, _⟩ := h; exact h2.2
end Go.Proofs.YtkdihekhdnnheaaDoor
