/-
  What a segment's frames say, bounds (no program).
-/
import Derived.Test.YtkdebebpnkjmdaaDoorGScan
namespace Go.Proofs.YtkdebebpnkjmdaaDoor

theorem endsL_le (fs : List (List UInt8)) (k : Nat) : endsL fs k ≤ (allB fs).length := by
  unfold endsL
  rw [allB_split fs k, List.length_append]
  omega
theorem segF_cons {c : List UInt8} {t : List (List UInt8)} {g : Int} {cp : List UInt8} (h : headM c = some (g, cp)) : segF (c :: t) = ⟨g, endsL (c :: t) (1 + (grpsM t).length), cp, grpsM t⟩ := by
  simp only [segF]; rw [h]
theorem segF_none {c : List UInt8} {t : List (List UInt8)} (h : headM c = none) : segF (c :: t) = seg0 := by
  simp only [segF]; rw [h]
theorem headM_bd {c : List UInt8} {g : Int} {cp : List UInt8} (h : headM c = some (g, cp)) : 1 ≤ g ∧ Int64 g ∧ cp.length ≤ c.length := by
  unfold headM at h
  split at h
  · rename_i hh
    injection h with h; injection h with h1 h2
    subst h1; subst h2
    refine ⟨hh.2.1, intN_i64 _, ?_⟩
    have h1 := int_shrinks c
    have h2 := int_shrinks (intL c)
    have h3 := int_shrinks (intL (intL c))
    unfold txtS
    split
    · rw [List.length_take]; omega
    · simp
  · cases h
theorem mem_allB {fs : List (List UInt8)} {x : List UInt8} (h : x ∈ fs) : x.length ≤ (allB fs).length := by
  induction fs with
  | nil => cases h
  | cons c t ih =>
    rw [allB_cons, List.length_append]
    rcases List.mem_cons.1 h with e | e
    · subst e
      have := (frameB_bd x).1
      omega
    · have := ih e; omega
theorem segF_bd (fs : List (List UInt8)) : 0 ≤ (segF fs).gen ∧ Int64 (segF fs).gen ∧ (segF fs).size ≤ (allB fs).length ∧ (segF fs).cp.length ≤ (allB fs).length := by
  cases fs with
  | nil => exact ⟨Int.le_refl _, by constructor <;> decide, Nat.zero_le _, Nat.zero_le _⟩
  | cons c t =>
    cases hm : headM c with
    | none => rw [segF_none hm]; exact ⟨Int.le_refl _, by constructor <;> decide, Nat.zero_le _, Nat.zero_le _⟩
    | some p =>
      obtain ⟨g, cp⟩ := p
      rw [segF_cons hm]
      obtain ⟨h1, h2, h3⟩ := headM_bd hm
      have h4 := mem_allB (fs := c :: t) (x := c) (by simp)
      exact ⟨by show 0 ≤ g; omega, h2, endsL_le _ _, Nat.le_trans h3 h4⟩
theorem segM_bd {b : List UInt8} {fs : List (List UInt8)} (h : Scanned b fs) (hl : b.length ≤ 4294960000) : 0 ≤ (segM b).gen ∧ Int64 (segM b).gen ∧ (segM b).size ≤ b.length ∧ (segM b).cp.length ≤ b.length := by
  rw [segM_of h hl]
  obtain ⟨r, hr, _⟩ := h
  have : (allB fs).length ≤ b.length := by rw [hr, List.length_append]; omega
  obtain ⟨h1, h2, h3, h4⟩ := segF_bd fs
  exact ⟨h1, h2, by omega, by omega⟩
end Go.Proofs.YtkdebebpnkjmdaaDoor
