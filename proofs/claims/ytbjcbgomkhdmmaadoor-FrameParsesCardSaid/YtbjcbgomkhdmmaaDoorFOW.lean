/-
  An encoder and a slice of the call's own, apart.
-/
import Derived.Test.YtbjcbgomkhdmmaaDoorFRef
namespace Go.Proofs.YtbjcbgomkhdmmaaDoor
open Go.RowKit

/-- An encoder and a slice of the call's own, apart. -/
structure OW (base g : Nat) (w : World) (vo v : Value) (lo lw : List UInt8) : Prop where
  o : OutAt base g w vo lo
  r : w.ownsRow base 5 1 v lw.length (byC lw)
  ng : ∀ b, v.ownBlock = some b → b ≠ g
  ap : ∀ b, v.ownBlock = some b → vo.ownBlock ≠ some b
theorem OW.out {base g : Nat} {w w' : World} {vo vo' v : Value} {lo lo' lw : List UInt8} (h : OW base g w vo v lo lw) (ho : OutAt base g w' vo' lo') (ht : OutTurn g vo vo' w w') : OW base g w' vo' v lo' lw :=
  ⟨ho, row_keep h.r fun b e => ht.block b (h.r.lt b e).2 (h.ng b e) (h.ap b e), h.ng, fun b e e2 => by
    rcases ht.own b e2 with e3 | e3
    · exact h.ap b e e3
    · have := (h.r.lt b e).2; omega⟩
theorem OW.below {base g : Nat} {w w' : World} {vo v : Value} {lo lw : List UInt8} (h : OW base g w vo v lo lw) (hb : Below w.heap.size w w') : OW base g w' vo v lo lw :=
  ⟨h.o.below hb, row_keep h.r fun b e => hb.block b (h.r.lt b e).2, h.ng, h.ap⟩
theorem OW.app {base g : Nat} {w w' : World} {vo v v' : Value} {lo lw ys : List UInt8} (h : OW base g w vo v lo lw) (n : Nat) (hn : n = (lw ++ ys).length) (h1 : w'.ownsRow base 5 1 v' n (byC (lw ++ ys))) (h2 : w.grownBy w' v.ownBlock) (h3 : v'.ownBlock = v.ownBlock ∨ v'.ownBlock = some w.heap.size) : OW base g w' vo v' lo (lw ++ ys) := by
  subst hn
  have hlt := h.o.lt
  refine ⟨h.o.keep fun b hb e => h2.block b hb ?_, h1, fun b e => ?_, fun b e e2 => ?_⟩
  · intro e2
    rcases e with e | e
    · exact h.ng b e2.symm e
    · exact h.ap b e2.symm e
  · rcases h3 with h4 | h4
    · exact h.ng b (h4.symm.trans e)
    · rw [e] at h4; injection h4 with h4; omega
  · rcases h3 with h4 | h4
    · exact h.ap b (h4.symm.trans e) e2
    · rw [e] at h4; injection h4 with h4
      have := (h.o.row.lt b e2).2; omega
theorem OW.size {base g : Nat} {w : World} {vo v : Value} {lo lw : List UInt8} (h : OW base g w vo v lo lw) : base ≤ w.heap.size := by have := h.o.hg; have := h.o.lt; omega
end Go.Proofs.YtbjcbgomkhdmmaaDoor
