/-
  The fields of the reference: 325 cells.
-/
import Derived.Test.YtggaflihblhapaaDoorHTime
import Derived.Deep.WholeRow
import Derived.Deep.MidRow
namespace Go.Proofs.YtggaflihblhapaaDoor
open Go.RowKit CM HM

def fV (c : Sp) (i : Nat) : Value := .bool (if i % 65 = 64 then c.A (i / 65) else (c.S (i / 65)).testBit (i % 65))
@[irreducible] def fCells (c : Sp) : Array Value := Array.ofFn (n := 325) fun i => fV c i.val
theorem fCells_size (c : Sp) : (fCells c).size = 325 := by unfold fCells; simp
theorem fCells_at (c : Sp) {i : Nat} (h : i < 325) : (fCells c)[i]? = some (fV c i) := by
  unfold fCells; rw [Array.getElem?_ofFn]; simp [h]
theorem fV_one (c : Sp) (i : Nat) : (fV c i).oneCell' = true := rfl
theorem fCells_one (c : Sp) : (fCells c).all (·.oneCell') = true := by
  refine Array.all_eq_true_iff_forall_mem.2 fun v hv => ?_
  unfold fCells at hv
  rw [Array.mem_ofFn] at hv
  obtain ⟨i, rfl⟩ := hv
  rfl
theorem fV_has (c : Sp) (f n : Nat) (hn : n < 64) : fV c (65 * f + n) = .bool ((c.S f).testBit n) := by
  unfold fV
  rw [if_neg (by omega), show (65 * f + n) / 65 = f by omega, show (65 * f + n) % 65 = n by omega]
theorem fV_any (c : Sp) (f : Nat) : fV c (65 * f + 64) = .bool (c.A f) := by
  unfold fV
  rw [if_pos (by omega), show (65 * f + 64) / 65 = f by omega]
@[irreducible] def zCells : Array Value := Array.replicate 325 (.bool false)
theorem zCells_size : zCells.size = 325 := by unfold zCells; simp
theorem zCells_one : zCells.all (·.oneCell') = true := by
  refine Array.all_eq_true_iff_forall_mem.2 fun v hv => ?_
  unfold zCells at hv
  rw [Array.mem_replicate] at hv
  rw [hv.2]; rfl
theorem row_info : (Tryd.prog.info? 35).map (fun i => (i.zero, i.size)) = some (some (.agg zCells), 325) := by
  unfold zCells
  kernel_rfl
theorem row_zero (w : World) : (zeroValue 35).run Tryd.prog w = .ok (.agg zCells) w := (zero_of_info row_info).1 w
theorem row_size : (Tryd.prog.info? 35).map (·.size) = some 325 := (zero_of_info row_info).2
theorem row_under : Tryd.prog.underlying 35 = some (.array 5 34) := by kernel_rfl
/-- Block b is a row of fields, of which those at P are done. -/
def Row (w : World) (b : Nat) (c : Sp) (P : Nat → Prop) : Prop :=
  ∃ arr : Array Value, arr.size = 325 ∧ w.heap[b]? = some (.cells arr 35 (0, 0)) ∧ ∀ i, i < 325 → P i → arr[i]? = some (fV c i)
theorem Row.start (w : World) (c : Sp) (b : Nat) (h : w.heap.size = b) : Row (w.alloc (.cells zCells 35)) b c (fun _ => False) := by
  subst h
  exact ⟨zCells, zCells_size, heap_alloc_last w _, fun _ _ h => h.elim⟩
theorem Row.below {w w' : World} {b B : Nat} {c : Sp} {P : Nat → Prop} (h : Row w b c P) (hb : Below B w w') (hB : b < B) : Row w' b c P := by
  obtain ⟨arr, a1, a2, a3⟩ := h
  exact ⟨arr, a1, (hb.block b hB).trans a2, a3⟩
theorem Row.cell {w : World} {b : Nat} {c : Sp} {P : Nat → Prop} (h : Row w b c P) {i : Nat} (hi : i < 325) : ∃ v, w.cell? ⟨b, i, none⟩ = some v ∧ w.frozen? ⟨b, i, none⟩ = false := by
  obtain ⟨arr, a1, a2, a3⟩ := h
  have hc := cell_of_row w b i arr _ (0, 0) a2
  rw [Array.getElem?_eq_getElem (by omega)] at hc
  exact ⟨_, hc, by simp [World.frozen?, a2]⟩
theorem Row.done {w : World} {b : Nat} {c : Sp} {P : Nat → Prop} (h : Row w b c P) {i : Nat} (hi : i < 325) (hP : P i) : w.cell? ⟨b, i, none⟩ = some (fV c i) := by
  obtain ⟨arr, a1, a2, a3⟩ := h
  rw [cell_of_row w b i arr _ (0, 0) a2, a3 i hi hP]
theorem Row.set {w : World} {b : Nat} {c : Sp} {P : Nat → Prop} (h : Row w b c P) {i : Nat} (hi : i < 325) {v : Value} (hv : v = fV c i) : Row (w.setCell ⟨b, i, none⟩ v) b c (fun j => P j ∨ j = i) := by
  obtain ⟨arr, a1, a2, a3⟩ := h
  subst hv
  refine ⟨arr.setIfInBounds i (fV c i), by simp [a1], ?_, ?_⟩
  · rw [setCell_eq_setRow w b i arr _ (0, 0) _ a2]
    exact setRow_heap w b arr _ _ (0, 0) a2
  · intro j hj hP
    rw [Array.getElem?_setIfInBounds]
    by_cases e : i = j
    · subst e; simp; omega
    · rw [if_neg e]
      rcases hP with hP | hP
      · exact a3 j hj hP
      · exact absurd hP.symm e
theorem Row.weak {w : World} {b : Nat} {c : Sp} {P Q : Nat → Prop} (h : Row w b c P) (hPQ : ∀ i, i < 325 → Q i → P i) : Row w b c Q := by
  obtain ⟨arr, a1, a2, a3⟩ := h
  exact ⟨arr, a1, a2, fun i hi hq => a3 i hi (hPQ i hi hq)⟩
theorem Row.all {w : World} {b : Nat} {c : Sp} (h : Row w b c (fun i => i < 325)) : w.heap[b]? = some (.cells (fCells c) 35 (0, 0)) := by
  obtain ⟨arr, a1, a2, a3⟩ := h
  rw [a2]
  congr 2
  refine Array.ext_getElem? fun i => ?_
  by_cases hi : i < 325
  · rw [a3 i hi hi, fCells_at c hi]
  · rw [Array.getElem?_eq_none (by omega), Array.getElem?_eq_none (by rw [fCells_size]; omega)]
end Go.Proofs.YtggaflihblhapaaDoor
