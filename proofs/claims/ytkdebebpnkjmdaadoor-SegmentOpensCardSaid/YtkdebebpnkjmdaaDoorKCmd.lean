/-
  The calls of a disk that change its numbers: command, secure, Sync, Cut, Arm, Limit.
-/
import Derived.Test.YtkdebebpnkjmdaaDoorKRead
namespace Go.Proofs.YtkdebebpnkjmdaaDoor
open Go.RowKit

def upd {α : Type} (f : Nat → α) (i : Nat) (x : α) : Nat → α := fun j => if j = i then x else f j
theorem upd_same {α : Type} (f : Nat → α) (i : Nat) (x : α) : upd f i x i = x := if_pos rfl
theorem upd_other {α : Type} (f : Nat → α) {i j : Nat} (x : α) (h : j ≠ i) : upd f i x j = f j := if_neg h
/-- A store of a number into the disk's own block. -/
theorem DiskAt.set {base g : Nat} {w : World} {D : DS} (h : DiskAt base g w D) (i : Nat) (u : Value) (p' : PD) (hx : p'.xs = D.p.xs) (hc : (dCells D).setIfInBounds i u = dCells ⟨p', D.v⟩) :
    DiskAt base g (w.setCell ⟨g, i, none⟩ u) ⟨p', D.v⟩ ∧ Turned g D ⟨p', D.v⟩ w (w.setCell ⟨g, i, none⟩ u) := by
  have hh : ∀ b, b ≠ g → (w.setCell ⟨g, i, none⟩ u).heap[b]? = w.heap[b]? := fun b hb => Below.heap_setCell _ _ _ _ hb
  refine ⟨⟨h.hg, ?_, fun j hj => ?_, h.off, h.apart⟩, ⟨rfl, rfl, rfl, by simp [World.setCell], fun b _ hb _ => hh b hb, fun j hj b e => .inl ⟨j, hj, e⟩⟩⟩
  · rw [Joins.block_setCell (i := i) h.box u, ← hc]
  · have := h.row j hj
    show (w.setCell ⟨g, i, none⟩ u).ownsRow base 5 1 (D.v j) (p'.xs j).length (byC (p'.xs j))
    rw [show p'.xs = D.p.xs from hx]
    rcases this with ⟨e, ⟨e1, e2⟩ | ⟨g', cap, cur, e1, e2, e3, r⟩⟩
    · exact ⟨e, .inl ⟨e1, e2⟩⟩
    · refine ⟨e, .inr ⟨g', cap, cur, e1, e2, ?_, r⟩⟩
      rw [hh g' (h.off j hj g' (by rw [e1]; rfl))]
      exact e3
/-- What a mutating call leaves: the disk with what p' says, and what may have turned. -/
def Leaves (base g : Nat) (D : DS) (w : World) (p' : PD) (w' : World) : Prop := ∃ D' : DS, D'.p = p' ∧ DiskAt base g w' D' ∧ Turned g D D' w w'
theorem Leaves.refl {base g : Nat} {D : DS} {w : World} (h : DiskAt base g w D) : Leaves base g D w D.p w := ⟨D, rfl, h, Turned.of_below (Below.refl _ _)⟩
theorem Leaves.of_below {base g : Nat} {D : DS} {w w' : World} (h : DiskAt base g w D) (hb : Below w.heap.size w w') : Leaves base g D w D.p w' := ⟨D, rfl, h.below hb, Turned.of_below hb⟩
theorem Leaves.after {base g : Nat} {D : DS} {w w1 w' : World} {p' : PD} (hb : Below w.heap.size w w1) (h : Leaves base g D w1 p' w') : Leaves base g D w p' w' := by
  obtain ⟨D', e, h1, h2⟩ := h
  exact ⟨D', e, h1, (Turned.of_below hb).trans h2⟩

def cmdP (p : PD) : PD := if p.left = 0 then { p with down := true } else { p with left := if 0 < p.left then p.left - 1 else p.left, done := p.done + 1 }
def cmdE (p : PD) : Int := if p.left = 0 then 40 else 0
theorem cmd_xs (p : PD) : (cmdP p).xs = p.xs ∧ (cmdP p).s = p.s ∧ (cmdP p).cap = p.cap := by unfold cmdP; split <;> exact ⟨rfl, rfl, rfl⟩
theorem cmd_ok {p : PD} (h : p.Ok) : (cmdP p).Ok := by
  obtain ⟨a1, a2, a3, a4, a5, a6, a7, a8⟩ := h
  unfold cmdP
  split
  · exact ⟨a1, a2, a3, a4, a5, a6, a7, a8⟩
  · refine ⟨a1, a2, a3, a4, a5, by show 0 ≤ p.done + 1; omega, ?_, ?_⟩
    · show _ ≤ if 0 < p.left then p.left - 1 else p.left
      split <;> omega
    · show (if 0 < p.left then p.left - 1 else p.left) ≤ _
      split <;> omega
set_option maxHeartbeats 1600000 in
set_option maxRecDepth 100000 in
theorem command_any {base g : Nat} {D : DS} (w : World) (hD : DiskAt base g w D) (hO : D.p.Ok) (hd : D.p.done ≤ 1000000000000) : Calls Tryd.prog 35 #[vD g] w fun e w' => e = .returned (.int .i64 (cmdE D.p)) ∧ ∃ D' : DS, D'.p = cmdP D.p ∧ D'.v = D.v ∧ DiskAt base g w' D' ∧ Turned g D D' w w' := by
  have d0 := hO.done0
  have l0 := hO.left0
  have l1 := hO.left1
  obtain ⟨c0, c1, c2, c3, c4, c5, c6, c7, c8, c9, c10, c11⟩ := hD.cells
  have f9 := hD.frozen 9
  have f10 := hD.frozen 10
  have f11 := hD.frozen 11
  have hlt := hD.lt
  have HD := hide hD
  by_cases h0 : D.p.left = 0
  · have HE := hide (show cmdE D.p = 40 from if_pos h0)
    have HS := hide (hD.set 11 (.bool true) { D.p with down := true } rfl (by simp))
    have HP := hide (show cmdP D.p = { D.p with down := true } from if_pos h0)
    rw [h0] at c10
    clear hD hO
    go_enter Tryd.func35, Tryd.ntmps35
    go_wp2_with fail
    go_ret
    exact ⟨ret_int HE.out.symm, ⟨_, D.v⟩, HP.out.symm, rfl, HS.out.1, HS.out.2⟩
  · have hb : (D.p.left == 0) = false := by rw [beq_eq_false_iff_ne]; exact h0
    have HE := hide (show cmdE D.p = 0 from if_neg h0)
    by_cases hp : 0 < D.p.left
    · have HP := hide (show cmdP D.p = { D.p with left := D.p.left - 1, done := D.p.done + 1 } by unfold cmdP; rw [if_neg h0, if_pos hp])
      have h1 := hD.set 10 (.int .i64 (D.p.left - 1)) { D.p with left := D.p.left - 1 } rfl (by simp)
      have h2 := h1.1.set 9 (.int .i64 (D.p.done + 1)) { D.p with left := D.p.left - 1, done := D.p.done + 1 } rfl (by simp)
      have HS := hide (show DiskAt base g _ _ ∧ Turned g D _ w _ from ⟨h2.1, h1.2.trans h2.2⟩)
      clear hD hO h1 h2
      go_enter Tryd.func35, Tryd.ntmps35
      go_wp2_with fail
      go_ret
      exact ⟨ret_int HE.out.symm, ⟨_, D.v⟩, HP.out.symm, rfl, HS.out.1, HS.out.2⟩
    · have HP := hide (show cmdP D.p = { D.p with done := D.p.done + 1 } by unfold cmdP; rw [if_neg h0, if_neg hp])
      have HS := hide (hD.set 9 (.int .i64 (D.p.done + 1)) { D.p with done := D.p.done + 1 } rfl (by simp))
      clear hD hO
      go_enter Tryd.func35, Tryd.ntmps35
      go_wp2_with fail
      go_ret
      exact ⟨ret_int HE.out.symm, ⟨_, D.v⟩, HP.out.symm, rfl, HS.out.1, HS.out.2⟩
set_option maxHeartbeats 1600000 in
set_option maxRecDepth 100000 in
theorem arm_any {base g : Nat} {D : DS} (n : Int) (w : World) (hD : DiskAt base g w D) : Calls Tryd.prog 29 #[vD g, .int .i64 n] w fun e w' => e = .returned (.tuple #[]) ∧ ∃ D' : DS, D'.p = { D.p with left := n } ∧ D'.v = D.v ∧ DiskAt base g w' D' ∧ Turned g D D' w w' := by
  obtain ⟨c0, c1, c2, c3, c4, c5, c6, c7, c8, c9, c10, c11⟩ := hD.cells
  have f10 := hD.frozen 10
  have hlt := hD.lt
  have HS := hide (hD.set 10 (.int .i64 n) { D.p with left := n } rfl (by simp))
  clear hD
  go_enter Tryd.func29, Tryd.ntmps29
  go_wp2_with fail
  refine bodyPost_end (results_none rfl _ _ _) rfl ?_
  exact ⟨rfl, ⟨_, D.v⟩, rfl, rfl, HS.out.1, HS.out.2⟩
end Go.Proofs.YtkdebebpnkjmdaaDoor
