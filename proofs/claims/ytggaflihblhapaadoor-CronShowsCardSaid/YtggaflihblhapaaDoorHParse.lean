/-
  Parse.
-/
import Derived.Test.YtggaflihblhapaaDoorHSplit
import Derived.Test.YtggaflihblhapaaDoorHDays
namespace Go.Proofs.YtggaflihblhapaaDoor
open Go.RowKit HM

def zSp : Sp := { S := fun _ => 0, A := fun _ => false }
/-- The text of a field. -/
def txtF (l : List UInt8) (j : Nat) : List UInt8 := (partsL (pieces 32 l)).getD j []
def parseC (l : List UInt8) : Sp := { S := fun j => (fieldM j (txtF l j)).2, A := fun j => txtF l j == [42] }
/-- The first error of the fields from j on, n of them. -/
def errF (l : List UInt8) : Nat → Nat → Int
  | _, 0 => 0
  | j, n + 1 => if (fieldM j (txtF l j)).1 = 0 then errF l (j + 1) n else (fieldM j (txtF l j)).1
def parseE (l : List UInt8) : Int := if splitB l = false then 20 else errF l 0 5
def ParOut (l : List UInt8) (w : World) (e : Ending) (w' : World) : Prop := ((parseE l = 0 ∧ e = .returned (.tuple #[vC (parseC l), .int .i64 0])) ∨ (parseE l ≠ 0 ∧ e = .returned (.tuple #[vC zSp, .int .i64 (parseE l)]))) ∧ Below w.heap.size w w'
theorem err_skip (l : List UInt8) : ∀ (k n : Nat) (j : Nat), (∀ i, j ≤ i → i < j + k → (fieldM i (txtF l i)).1 = 0) → errF l j (k + n) = errF l (j + k) n
  | 0, n, j, _ => by simp
  | k + 1, n, j, h => by
    rw [show k + 1 + n = (k + n) + 1 by omega]
    show (if (fieldM j (txtF l j)).1 = 0 then errF l (j + 1) (k + n) else _) = _
    rw [if_pos (h j (by omega) (by omega)), err_skip l k n (j + 1) (fun i h1 h2 => h i (by omega) (by omega))]
    congr 1
    omega
theorem pieces_len (c : UInt8) : ∀ (l p : List UInt8), p ∈ pieces c l → p.length ≤ l.length
  | [], p, h => by simp [pieces] at h; subst h; simp
  | b :: l, p, h => by
    unfold pieces at h
    split at h
    · rcases List.mem_cons.1 h with rfl | h
      · simp
      · have := pieces_len c l p h; simp; omega
    · split at h
      · simp at h; subst h; simp
      · rename_i q r hq
        rcases List.mem_cons.1 h with rfl | h
        · have := pieces_len c l q (by rw [hq]; simp)
          simp; omega
        · have := pieces_len c l p (by rw [hq]; exact List.mem_cons_of_mem _ h)
          simp; omega
theorem txt_len (l : List UInt8) (j : Nat) : (txtF l j).length ≤ l.length := by
  unfold txtF
  rw [List.getD_eq_getElem?_getD]
  rcases h : (partsL (pieces 32 l))[j]? with _ | p
  · simp
  · have hm : p ∈ pieces 32 l := (List.mem_filter.1 (List.mem_of_getElem? h)).1
    exact pieces_len 32 l p hm
/-- A spec as far as its first k fields are read. -/
def cutC (c : Sp) (k : Nat) : Sp := { S := fun j => if j < k then c.S j else 0, A := fun j => if j < k then c.A j else false }
/-- A spec in a box that may be written. -/
def BoxC (W : World) (b : Nat) (c : Sp) : Prop := ∀ j, j < 5 → (W.cell? ⟨b, j, none⟩ = some (.int .u64 (c.S j : Nat)) ∧ W.frozen? ⟨b, j, none⟩ = false) ∧ (W.cell? ⟨b, 5 + j, none⟩ = some (.bool (c.A j)) ∧ W.frozen? ⟨b, 5 + j, none⟩ = false)
theorem BoxC.lt {W : World} {b : Nat} {c : Sp} (h : BoxC W b c) : b < W.heap.size := lt_of_cell (h 0 (by omega)).1.1
theorem BoxC.on {W W' : World} {b : Nat} {c : Sp} (h : BoxC W b c) (hb : Below W.heap.size W W') : BoxC W' b c := fun j hj => by
  obtain ⟨⟨a1, a2⟩, a3, a4⟩ := h j hj
  exact ⟨⟨(hb.cell (p := ⟨b, j, none⟩) h.lt).trans a1, (hb.frozen (p := ⟨b, j, none⟩) h.lt).trans a2⟩, (hb.cell (p := ⟨b, 5 + j, none⟩) h.lt).trans a3, (hb.frozen (p := ⟨b, 5 + j, none⟩) h.lt).trans a4⟩
theorem BoxC.new (W : World) (c : Sp) : BoxC (boxC W c) W.heap.size c := by
  intro j hj
  obtain rfl | rfl | rfl | rfl | rfl : j = 0 ∨ j = 1 ∨ j = 2 ∨ j = 3 ∨ j = 4 := by omega
  all_goals exact ⟨⟨by simp, by simp⟩, by simp, by simp⟩
theorem BoxC.other {W : World} {b b' o : Nat} {c : Sp} {u : Value} (h : BoxC W b c) (hne : b ≠ b') : BoxC (W.setCell ⟨b', o, none⟩ u) b c := fun j hj => by
  obtain ⟨⟨a1, a2⟩, a3, a4⟩ := h j hj
  have e : ∀ i, (W.setCell ⟨b', o, none⟩ u).cell? ⟨b, i, none⟩ = W.cell? ⟨b, i, none⟩ := fun i => World.cell?_setCell_other _ _ _ _ (by intro x; injection x with x; exact hne x.symm)
  exact ⟨⟨(e j).trans a1, by rw [World.frozen?_setCell]; exact a2⟩, (e _).trans a3, by rw [World.frozen?_setCell]; exact a4⟩
/-- One field more. -/
theorem BoxC.field {W W1 : World} {b k : Nat} {c : Sp} (hk : k < 5) (h : BoxC W b (cutC c k)) (hb : Below (W.setCell ⟨b, 5 + k, none⟩ (.bool (c.A k))).heap.size (W.setCell ⟨b, 5 + k, none⟩ (.bool (c.A k))) W1) :
    BoxC (W1.setCell ⟨b, k, none⟩ (.int .u64 (c.S k : Nat))) b (cutC c (k + 1)) := fun j hj => by
  obtain ⟨⟨a1, a2⟩, a3, a4⟩ := h j hj
  have hbz : b < (W.setCell ⟨b, 5 + k, none⟩ (.bool (c.A k))).heap.size := by have := h.lt; simpa using this
  have e1 : ∀ i, W1.cell? ⟨b, i, none⟩ = (W.setCell ⟨b, 5 + k, none⟩ (.bool (c.A k))).cell? ⟨b, i, none⟩ := fun i => hb.cell (p := ⟨b, i, none⟩) hbz
  have f1 : ∀ i, W1.frozen? ⟨b, i, none⟩ = W.frozen? ⟨b, i, none⟩ := fun i => by rw [hb.frozen (p := ⟨b, i, none⟩) hbz, World.frozen?_setCell]
  refine ⟨⟨?_, by rw [World.frozen?_setCell, f1]; exact a2⟩, ?_, by rw [World.frozen?_setCell, f1]; exact a4⟩
  · by_cases ej : j = k
    · subst ej
      rw [World.cell?_setCell_same' _ _ _ (by rw [e1, World.cell?_setCell_other _ _ _ _ (by intro x; injection x; omega), a1]; rfl)]
      simp [cutC]
    · rw [World.cell?_setCell_other _ _ _ _ (by intro x; injection x with _ x; exact ej x.symm), e1, World.cell?_setCell_other _ _ _ _ (by intro x; injection x; omega), a1]
      simp [cutC, show (j < k + 1) = (j < k) from propext ⟨fun h => by omega, fun h => by omega⟩]
  · rw [World.cell?_setCell_other _ _ _ _ (by intro x; injection x; omega), e1]
    by_cases ej : j = k
    · subst ej
      rw [World.cell?_setCell_same' _ _ _ (by rw [a3]; rfl)]
      simp [cutC]
    · rw [World.cell?_setCell_other _ _ _ _ (by intro x; injection x; omega), a3]
      simp [cutC, show (j < k + 1) = (j < k) from propext ⟨fun h => by omega, fun h => by omega⟩]
theorem cut_zero (c : Sp) : cutC c 0 = zSp := by unfold cutC zSp; simp
theorem BoxC.whole {W : World} {b : Nat} {c : Sp} (h : BoxC W b (cutC c 5)) : AtC W b c := by
  have g := fun j hj => (h j hj).1.1
  have k := fun j hj => (h j hj).2.1
  exact ⟨h.lt, g 0 (by omega), g 1 (by omega), g 2 (by omega), g 3 (by omega), g 4 (by omega), k 0 (by omega), k 1 (by omega), k 2 (by omega), k 3 (by omega), k 4 (by omega)⟩
theorem BoxC.atC {W : World} {b : Nat} {c : Sp} (h : BoxC W b c) : AtC W b c := by
  have g := fun j hj => (h j hj).1.1
  have k := fun j hj => (h j hj).2.1
  exact ⟨h.lt, g 0 (by omega), g 1 (by omega), g 2 (by omega), g 3 (by omega), g 4 (by omega), k 0 (by omega), k 1 (by omega), k 2 (by omega), k 3 (by omega), k 4 (by omega)⟩
theorem BoxC.froz {W : World} {b : Nat} {c : Sp} (h : BoxC W b c) : ∀ j, j < 10 → W.frozen? ⟨b, j, none⟩ = false := fun j hj => by
  by_cases h5 : j < 5
  · exact (h j h5).1.2
  · have := (h (j - 5) (by omega)).2.2
    rwa [show 5 + (j - 5) = j by omega] at this
theorem run_idxT (t : Nat → ByteArray) (k : Nat) (hk : k < 5) (w : World) : (Instr.index 67 (v5 t) (.int .i64 (k : Nat))).run Tryd.prog w = .ok (.string (t k)) w := by
  obtain rfl | rfl | rfl | rfl | rfl : k = 0 ∨ k = 1 ∨ k = 2 ∨ k = 3 ∨ k = 4 := by omega
  all_goals kernel_rfl
end Go.Proofs.YtggaflihblhapaaDoor
