/-
  The law's step, whole.
-/
import Derived.Test.YtpjibiimakclfabPStepD
namespace Go.Proofs.Ytpjibiimakclfab
open Go.RowKit

structure Two (base g gx : Nat) (w : World) (D : DS) (R : RS) : Prop where
  d : DiskAt base g w D
  x : RefAt base gx w R
  ne : g ≠ gx
  apart : ∀ i j, i < 4 → j < 8 → ∀ b, (D.v i).ownBlock = some b → (R.v j).ownBlock ≠ some b
  dx : ∀ i, i < 4 → (D.v i).ownBlock ≠ some gx
  xd : ∀ j, j < 8 → (R.v j).ownBlock ≠ some g
theorem Two.below {base g gx : Nat} {w w' : World} {D : DS} {R : RS} (h : Two base g gx w D R) (hb : Below w.heap.size w w') : Two base g gx w' D R := ⟨h.d.below hb, h.x.below hb, h.ne, h.apart, h.dx, h.xd⟩
theorem Two.st {base g gx : Nat} {w : World} {D : DS} {R : RS} (h : Two base g gx w D R) (o : OpR) : St base g gx w.heap.size o (w.alloc (.cells (oCells o) 37)) D R := by
  have hb := Joins.below_alloc1 w (.cells (oCells o) 37)
  have h1 := h.d.lt
  have h2 := h.x.lt
  exact ⟨h.d.below hb, h.x.below hb, h.ne, h.apart, h.dx, h.xd, heap_alloc_new w _, by omega, by omega, fun i hi e => by have := (h.d.row i hi).lt _ e; omega, fun j hj e => by have := (h.x.row j hj).lt _ e; omega⟩
/-- Both disks stand, and say the same. -/
structure Both (base g gx : Nat) (n : Int) (w : World) (D : DS) (R : RS) : Prop where
  two : Two base g gx w D R
  ok : D.p.Ok
  rel : Rel D.p R.p
  done : D.p.done ≤ n
theorem Both.below {base g gx : Nat} {n : Int} {w w' : World} {D : DS} {R : RS} (h : Both base g gx n w D R) (hb : Below w.heap.size w w') : Both base g gx n w' D R := ⟨h.two.below hb, h.ok, h.rel, h.done⟩
theorem step_any {base g gx : Nat} {D : DS} {R : RS} {n : Int} (o : OpR) (w : World) (h : Both base g gx n w D R) (hn : n ≤ 1000000) (hDA : BytesAt base w o.dA o.dl) (hKA : IntsAt base w o.kA o.kl) (hW : WfO o) (h300 : o.dl.length ≤ 300) (h20 : o.kl.length ≤ 20) :
    Calls Try.prog 7 #[vD g, vD gx, .agg (oCells o)] w fun e w' => e = .returned (.bool true) ∧ ∃ D' R', Both base g gx (n + 1) w' D' R' ∧ Below base w w' := by
  have hbase : base ≤ w.heap.size := by have := h.two.d.hg; have := h.two.d.lt; omega
  have hd := h.done
  have hS : ∀ H, w.heap.size = H → St base g gx H o (w.alloc (.cells (oCells o) 37)) D R := fun H e => e ▸ h.two.st o
  have key : Calls Try.prog 7 #[vD g, vD gx, .agg (oCells o)] w fun e w' => e = .returned (.bool true) ∧ StepOut base g gx D w w' := by
    by_cases e1 : o.k = 1
    · exact step_append o w e1 hS h.ok h.rel hDA hW h300 (by omega) hbase
    by_cases e2 : o.k = 2
    · exact step_sync o w e2 hS h.ok h.rel (by omega) hbase
    by_cases e3 : o.k = 3
    · exact step_cut o w e3 hS h.ok h.rel (by omega) hbase
    by_cases e4 : o.k = 4
    · exact step_read o w e4 hS h.ok h.rel hbase
    by_cases e5 : o.k = 5
    · exact step_arm o w e5 hS h.ok h.rel hW hbase
    by_cases e6 : o.k = 6
    · exact step_crash o w e6 hS h.ok h.rel hKA hW h20 hbase
    by_cases e7 : o.k = 7
    · exact step_limit o w e7 hS h.ok h.rel hbase
    exact step_else o w (by omega) hS h.ok h.rel hbase
  refine key.mono fun e w' hh => ?_
  obtain ⟨h1, D', R', a1, a2, a3, a4, a5, a6, a7, a8, a9⟩ := hh
  exact ⟨h1, D', R', ⟨⟨a1, a2, h.two.ne, a3, a4, a5⟩, a6, a7, by omega⟩, a9⟩
end Go.Proofs.Ytpjibiimakclfab
