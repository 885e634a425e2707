/-
  Lists of byte slices of the call's own.
-/
import Derived.Test.YtkdihekhdnnheaaDoorFInFrm
namespace Go.Proofs.YtkdihekhdnnheaaDoor
open Go.RowKit

/-- A byte slice, with what it holds. -/
structure BH where
  A : Option Addr
  c : Nat
  l : List UInt8
def hdr (h : BH) : Value := .slice h.A h.l.length h.c
def lsOf (hs : List BH) : List (List UInt8) := hs.map (·.l)
theorem lsOf_snoc (hs : List BH) (h : BH) : lsOf (hs ++ [h]) = lsOf hs ++ [h.l] := by simp [lsOf]
theorem lsOf_len (hs : List BH) : (lsOf hs).length = hs.length := by simp [lsOf]
/-- A slice's bytes, in a block of the call's own that is not v's. -/
def HAt (base : Nat) (w : World) (v : Value) (h : BH) : Prop := ∀ j, j < h.l.length → ∃ b off, h.A = some ⟨b, off, none⟩ ∧ base ≤ b ∧ b < w.heap.size ∧ v.ownBlock ≠ some b ∧ w.cell? ⟨b, off + j, none⟩ = some (.int .u8 (h.l.getD j 0).toNat)
structure HeadsOwn (base : Nat) (w : World) (v : Value) (hs : List BH) : Prop where
  row : w.ownsRow base 28 1 v hs.length (hs.map hdr)
  lies : ∀ h, h ∈ hs → HAt base w v h
theorem HAt.keep {base : Nat} {w w' : World} {v : Value} {h : BH} (k : HAt base w v h) (hs : w.heap.size ≤ w'.heap.size) (hb : ∀ b, base ≤ b → b < w.heap.size → v.ownBlock ≠ some b → w'.heap[b]? = w.heap[b]?) : HAt base w' v h := fun j hj => by
  obtain ⟨b, off, e, e1, e2, e3, e4⟩ := k j hj
  refine ⟨b, off, e, e1, Nat.lt_of_lt_of_le e2 hs, e3, ?_⟩
  rw [← e4]
  simp only [World.cell?]
  rw [hb b e1 e2 e3]
theorem HeadsOwn.keep {base : Nat} {w w' : World} {v : Value} {hs : List BH} (k : HeadsOwn base w v hs) (hs' : w.heap.size ≤ w'.heap.size) (hb : ∀ b, base ≤ b → b < w.heap.size → w'.heap[b]? = w.heap[b]?) : HeadsOwn base w' v hs :=
  ⟨row_keep k.row fun b e => hb b (k.row.lt b e).1 (k.row.lt b e).2, fun h hm => (k.lies h hm).keep hs' fun b e1 e2 _ => hb b e1 e2⟩
theorem HeadsOwn.below {base : Nat} {w w' : World} {v : Value} {hs : List BH} (k : HeadsOwn base w v hs) (hb : Below w.heap.size w w') : HeadsOwn base w' v hs := k.keep hb.size fun b _ h => hb.block b h
theorem HeadsOwn.nil (base : Nat) (w : World) : HeadsOwn base w (.slice none 0 0) [] := ⟨World.ownsRow_nil _ _ _ _, fun h hm => by simp at hm⟩
theorem HAt.bytes {base : Nat} {w : World} {v : Value} {h : BH} (k : HAt base w v h) : BytesAt w.heap.size w h.A h.l := fun j hj => by
  obtain ⟨b, off, e, _, e2, _, e4⟩ := k j hj
  exact ⟨b, off, e, e2, e4⟩
theorem head_info : (Tryd.prog.info? 28).map (fun i => (i.zero, i.size, i.bytes)) = some (some (.slice none 0 0), 1, 24) := by kernel_rfl
set_option maxRecDepth 100000 in
/-- append of one byte slice. -/
theorem append_head {w : World} {ops : Array Oper} {rest : List Oper} {o : Oper} {a : Act} {Q : Exit → Act → World → Prop} (hgd : o.guard = none) (s x : Operand)
    (ho : o.op = .call { callee := .builtin .append, args := #[s, x], argTypes := #[36, 36] })
    (base : Nat) (v : Value) (hs : List BH) (n : Nat) (hn : n = hs.length) (he : a.eval s = v) (hown : HeadsOwn base w v hs) (h : BH) (bl : Nat) (hx : a.eval x = .slice (some ⟨bl, 0, none⟩) 1 1) (hc : w.cell? ⟨bl, 0, none⟩ = some (hdr h))
    (hh : HAt base w v h) (hlen : n ≤ 1073741824) (hbase : base ≤ w.heap.size)
    (hk : ∀ v' w', HeadsOwn base w' v' (hs ++ [h]) → w'.ownsRow base 28 1 v' (n + 1) ((hs ++ [h]).map hdr) → w.grownBy w' v.ownBlock → wpList Tryd.prog ops Q rest (a.put o.dst v') w') : wpList Tryd.prog ops Q (o :: rest) a w := by
  subst hn
  obtain ⟨i0, hi, hz0, hz1, hz2⟩ := info_parts head_info
  have hcat : (hs ++ [h]).map hdr = hs.map hdr ++ [hdr h] := by simp
  refine wpList_append_own_at w hgd s x _ ho base 28 i0 (.slice none 0 0) 1 24 Tryd.underlying36 hi hz0 hz1 hz2 rfl (by decide) v hs.length _ he hown.row ⟨bl, 0, none⟩ 1 1 [hdr h] hx rfl ?_ ?_ (by unfold maxLen; omega) (by omega) hbase ?_
  · intro j u hu
    match j, hu with
    | 0, hu =>
      simp at hu
      subst hu
      exact hc
  · intro u hu
    simp at hu
    subst hu
    rfl
  · intro v' w' h1 h2 _ h4
    rw [← hcat] at h1
    have hap : ∀ b, b < w.heap.size → v.ownBlock ≠ some b → v'.ownBlock ≠ some b := fun b hb hv e => by
      rcases h4 with h5 | h5
      · exact hv (h5.symm.trans e)
      · rw [e] at h5; injection h5 with h5; omega
    have hkeep : ∀ k, HAt base w v k → HAt base w' v' k := fun k hk' j hj => by
      obtain ⟨b, off, e, e1, e2, e3, e4⟩ := hk' j hj
      refine ⟨b, off, e, e1, Nat.lt_of_lt_of_le e2 h2.size, hap b e2 e3, ?_⟩
      rw [← e4]
      simp only [World.cell?]
      rw [h2.block b e2 (fun q => e3 q.symm)]
    refine hk v' w' ⟨by rw [List.length_append]; exact h1, fun k hm => ?_⟩ h1 h2
    rcases List.mem_append.1 hm with hm | hm
    · exact hkeep k (hown.lies k hm)
    · simp at hm; subst hm; exact hkeep k hh
end Go.Proofs.YtkdihekhdnnheaaDoor
