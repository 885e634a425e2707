/-
  What the walks of the table laws share: the box of a table, the fixed answer in later worlds.
-/
import Derived.Test.YtfjhdfpdgjjcgaaGreatDoorTAwake
namespace Go.Proofs.YtfjhdfpdgjjcgaaGreatDoor
open Go.RowKit

/-- The world in which a table's two slices lie in a box. -/
def boxW (w : World) (a b : Value) : World := w.alloc (.cells #[a, b] 26)
theorem boxW_below (w : World) (a b : Value) : Below w.heap.size w (boxW w a b) := Joins.below_alloc1 w _
theorem boxW_at {w : World} {a b : Value} {w' : World} (h : Below (boxW w a b).heap.size (boxW w a b) w') :
    w'.cell? ⟨w.heap.size, 0, none⟩ = some a ∧ w'.cell? ⟨w.heap.size, 1, none⟩ = some b ∧ w.heap.size < w'.heap.size := by
  have hz : (boxW w a b).heap.size = w.heap.size + 1 := by simp [boxW]
  refine ⟨(h.cell (p := ⟨w.heap.size, 0, none⟩) (by simp only; omega)).trans (by simp [boxW]), (h.cell (p := ⟨w.heap.size, 1, none⟩) (by simp only; omega)).trans (by simp [boxW]), ?_⟩
  have := h.size
  omega
theorem aw_later {w : World} (hT : Tab w) : ∀ w', Below w.heap.size w w' → Calls Tryz.prog 7 #[] w' fun e w'' => e = .returned (.bool true) ∧ Below w'.heap.size w' w'' := fun w' h => awake_any w' (hT.stays h (Nat.le_refl _))
theorem fits_of {cs : List (ByteArray × Int)} {r : List (Int × Int × ByteArray)} (h : checkC cs = 0) : fitsB cs r = rowFits cs r := by unfold fitsB; rw [h]; simp
theorem rowFits_length {cs : List (ByteArray × Int)} {r : List (Int × Int × ByteArray)} (h : rowFits cs r = true) : r.length = cs.length := by
  unfold rowFits at h
  simp only [Bool.and_eq_true, decide_eq_true_eq] at h
  exact h.1
end Go.Proofs.YtfjhdfpdgjjcgaaGreatDoor
