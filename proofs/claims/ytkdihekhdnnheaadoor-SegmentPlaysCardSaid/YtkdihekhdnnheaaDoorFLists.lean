/-
  Lists of integers and of texts in memory; two growing slices side by side.
-/
import Derived.Test.YtkdihekhdnnheaaDoorFRef
namespace Go.Proofs.YtkdihekhdnnheaaDoor
open Go.RowKit

def IntsAt (B : Nat) (w : World) (A : Option Addr) (l : List Int) : Prop :=
  ∀ j, j < l.length → ∃ b off, A = some ⟨b, off, none⟩ ∧ b < B ∧ w.cell? ⟨b, off + j, none⟩ = some (.int .i64 (l.getD j 0))
theorem IntsAt.below {B : Nat} {w w' : World} {A : Option Addr} {l : List Int} (h : IntsAt B w A l) (hb : Below B w w') : IntsAt B w' A l := fun j hj => by
  obtain ⟨b, off, e, hlt, h0⟩ := h j hj
  exact ⟨b, off, e, hlt, (hb.cell (p := ⟨b, off + j, none⟩) hlt).trans h0⟩
def WfN (l : List Int) : Prop := l.length ≤ maxLen ∧ ∀ j, j < l.length → -9223372036854775808 ≤ l.getD j 0 ∧ l.getD j 0 ≤ 9223372036854775807
def StrsAt (B : Nat) (w : World) (A : Option Addr) (l : List ByteArray) : Prop :=
  ∀ j, j < l.length → ∃ b off, A = some ⟨b, off, none⟩ ∧ b < B ∧ w.cell? ⟨b, off + j, none⟩ = some (.string (l.getD j ⟨#[]⟩))
theorem StrsAt.below {B : Nat} {w w' : World} {A : Option Addr} {l : List ByteArray} (h : StrsAt B w A l) (hb : Below B w w') : StrsAt B w' A l := fun j hj => by
  obtain ⟨b, off, e, hlt, h0⟩ := h j hj
  exact ⟨b, off, e, hlt, (hb.cell (p := ⟨b, off + j, none⟩) hlt).trans h0⟩
/-- An encoder and a slice of the call's own, apart. -/
structure OW (base g : Nat) (w : World) (vo v : Value) (lo lw : List UInt8) : Prop where
  o : OutAt base g w vo lo
  r : w.ownsRow base 5 1 v lw.length (byC lw)
  ng : ∀ b, v.ownBlock = some b → b ≠ g
  ap : ∀ b, v.ownBlock = some b → vo.ownBlock ≠ some b
theorem OW.out {base g : Nat} {w w' : World} {vo vo' v : Value} {lo lo' lw : List UInt8} (h : OW base g w vo v lo lw) (ho : OutAt base g w' vo' lo') (ht : OutTurn g vo vo' w w') : OW base g w' vo' v lo' lw :=
  ⟨ho, row_keep h.r fun b e => ht.block b (h.r.lt b e).2 (h.ng b e) (h.ap b e), h.ng, fun b e e2 => by
    rcases ht.own b e2 with e3 | e3
    · exact h.ap b e e3
    · have := (h.r.lt b e).2; omega⟩
theorem OW.below {base g : Nat} {w w' : World} {vo v : Value} {lo lw : List UInt8} (h : OW base g w vo v lo lw) (hb : Below w.heap.size w w') : OW base g w' vo v lo lw :=
  ⟨h.o.below hb, row_keep h.r fun b e => hb.block b (h.r.lt b e).2, h.ng, h.ap⟩
theorem OW.app {base g : Nat} {w w' : World} {vo v v' : Value} {lo lw ys : List UInt8} (h : OW base g w vo v lo lw) (n : Nat) (hn : n = (lw ++ ys).length) (h1 : w'.ownsRow base 5 1 v' n (byC (lw ++ ys))) (h2 : w.grownBy w' v.ownBlock) (h3 : v'.ownBlock = v.ownBlock ∨ v'.ownBlock = some w.heap.size) : OW base g w' vo v' lo (lw ++ ys) := by
  subst hn
  have hlt := h.o.lt
  refine ⟨h.o.keep fun b hb e => h2.block b hb ?_, h1, fun b e => ?_, fun b e e2 => ?_⟩
  · intro e2
    rcases e with e | e
    · exact h.ng b e2.symm e
    · exact h.ap b e2.symm e
  · rcases h3 with h4 | h4
    · exact h.ng b (h4.symm.trans e)
    · rw [e] at h4; injection h4 with h4; omega
  · rcases h3 with h4 | h4
    · exact h.ap b (h4.symm.trans e) e2
    · rw [e] at h4; injection h4 with h4
      have := (h.o.row.lt b e2).2; omega
theorem OW.size {base g : Nat} {w : World} {vo v : Value} {lo lw : List UInt8} (h : OW base g w vo v lo lw) : base ≤ w.heap.size := by have := h.o.hg; have := h.o.lt; omega
/-- All the bytes. -/
def encN (l : List Int) : List UInt8 := l.flatMap intB
def encT (l : List ByteArray) : List UInt8 := l.flatMap fun s => textB s.data.toList
theorem encN_take {l : List Int} {k : Nat} (hk : k < l.length) : encN (l.take (k + 1)) = encN (l.take k) ++ intB (l.getD k 0) := by
  unfold encN
  rw [List.take_succ_eq_append_getElem hk, List.flatMap_append, List.getD_eq_getElem?_getD, List.getElem?_eq_getElem hk]
  simp
theorem encT_take {l : List ByteArray} {k : Nat} (hk : k < l.length) : encT (l.take (k + 1)) = encT (l.take k) ++ textB (l.getD k ⟨#[]⟩).data.toList := by
  unfold encT
  rw [List.take_succ_eq_append_getElem hk, List.flatMap_append, List.getD_eq_getElem?_getD, List.getElem?_eq_getElem hk]
  simp
theorem encN_drop {l : List Int} {k : Nat} (hk : k < l.length) : encN (l.drop k) = intB (l.getD k 0) ++ encN (l.drop (k + 1)) := by
  unfold encN
  rw [List.drop_eq_getElem_cons hk, List.flatMap_cons, List.getD_eq_getElem?_getD, List.getElem?_eq_getElem hk]
  rfl
theorem encT_drop {l : List ByteArray} {k : Nat} (hk : k < l.length) : encT (l.drop k) = textB (l.getD k ⟨#[]⟩).data.toList ++ encT (l.drop (k + 1)) := by
  unfold encT
  rw [List.drop_eq_getElem_cons hk, List.flatMap_cons, List.getD_eq_getElem?_getD, List.getElem?_eq_getElem hk]
  rfl
theorem encN_len (l : List Int) : (encN l).length ≤ 9 * l.length := by
  unfold encN
  induction l with
  | nil => simp
  | cons n l ih => rw [List.flatMap_cons, List.length_append, List.length_cons]; have := (intB_len n).2; omega
theorem textB_len (s : ByteArray) : (textB s.data.toList).length ≤ 9 + s.size := by
  unfold textB
  rw [List.length_append]
  have := (intB_len (s.data.toList.length : Int)).2
  have hz : s.data.toList.length = s.size := by simp
  omega
theorem encT_len (l : List ByteArray) (h : ∀ j, j < l.length → (l.getD j ⟨#[]⟩).size ≤ 500) : (encT l).length ≤ 509 * l.length := by
  unfold encT
  induction l with
  | nil => simp
  | cons n l ih =>
    rw [List.flatMap_cons, List.length_append, List.length_cons]
    have h1 := textB_len n
    have h0 : n.size ≤ 500 := h 0 (by simp)
    have := ih fun j hj => h (j + 1) (by simp; omega)
    omega
end Go.Proofs.YtkdihekhdnnheaaDoor
