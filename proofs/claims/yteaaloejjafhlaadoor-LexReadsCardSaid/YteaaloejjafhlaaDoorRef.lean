/-
  The document's answer on validity (ref, Right) and the laws' guard (right): the same function as the program's.
-/
import Derived.Test.YteaaloejjafhlaaDoorText
namespace Go.Proofs.YteaaloejjafhlaaDoor
open Go.RowKit

theorem size_zero {s : ByteArray} (h : s.size = 0) : s.data.toList = [] := by
  have : s.data.toList.length = s.size := by simp
  exact List.eq_nil_of_length_eq_zero (by omega)
theorem isEmpty_size (s : ByteArray) : s.toList.isEmpty = decide (s.size = 0) := by
  have : s.data.toList.length = s.size := by simp
  rw [Lib.toList_data, Bool.eq_iff_iff, List.isEmpty_iff, decide_eq_true_iff]
  constructor
  · intro h; rw [h] at this; simpa using this.symm
  · intro h; exact size_zero h
theorem rightV_all {k n : Int} {s : ByteArray} (h : (k = 0 ∧ n = 0 ∧ s.size = 0) ∨ (k = 1 ∧ s.size = 0) ∨ (k = 2 ∧ n = 0 ∧ s.size ≤ 64)) : rightV k n s = s.data.toList.all okByte := by
  rcases h with ⟨rfl, rfl, h⟩ | ⟨rfl, h⟩ | ⟨rfl, rfl, h⟩
  · unfold rightV; rw [isEmpty_size, size_zero h]; simp [h]
  · unfold rightV; rw [isEmpty_size, size_zero h]; simp [h]
  · unfold rightV rightT; simp [h]
theorem rightV_none {k n : Int} {s : ByteArray} (h : ¬ ((k = 0 ∧ n = 0 ∧ s.size = 0) ∨ (k = 1 ∧ s.size = 0) ∨ (k = 2 ∧ n = 0 ∧ s.size ≤ 64))) : rightV k n s = false := by
  unfold rightV rightT; rw [isEmpty_size]
  by_cases h0 : k = 0
  · subst h0; simp at h ⊢; intro h1; exact h h1
  by_cases h1 : k = 1
  · subst h1; simp at h ⊢; exact h
  by_cases h2 : k = 2
  · subst h2; simp at h ⊢; intro h3 h4; exact absurd h4 (by have := h h3; omega)
  · simp [h0, h1, h2]

def allOk (s : ByteArray) : Bool := s.data.toList.all okByte
theorem all_no {s : ByteArray} {k : Nat} (h : k < s.size) (hc : (s[k].toNat : Int) < 32 ∨ 126 < (s[k].toNat : Int)) : allOk s = false :=
  all_not h (by unfold okByte; simp; omega)

/-- What a valid value is. -/
theorem rightV_cases {k n : Int} {s : ByteArray} (h : rightV k n s = true) : (k = 0 ∧ n = 0 ∧ s = ⟨#[]⟩) ∨ (k = 1 ∧ s = ⟨#[]⟩) ∨ (k = 2 ∧ n = 0 ∧ s.size ≤ 64) := by
  have hz : ∀ t : ByteArray, t.size = 0 → t = ⟨#[]⟩ := fun t ht => by
    have h1 := size_zero ht
    cases t with
    | mk d => cases d with
      | mk l => simp at h1; subst h1; rfl
  by_cases hh : (k = 0 ∧ n = 0 ∧ s.size = 0) ∨ (k = 1 ∧ s.size = 0) ∨ (k = 2 ∧ n = 0 ∧ s.size ≤ 64)
  · rcases hh with ⟨h1, h2, h3⟩ | ⟨h1, h2⟩ | h1
    · exact Or.inl ⟨h1, h2, hz s h3⟩
    · exact Or.inr (Or.inl ⟨h1, hz s h2⟩)
    · exact Or.inr (Or.inr h1)
  · rw [rightV_none hh] at h; cases h
end Go.Proofs.YteaaloejjafhlaaDoor
