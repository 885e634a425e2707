/-
  Schemes: begins of windows, which are right, what lies within: no program in it.
-/
import Derived.Test.YtomhiganfmoceaaDoorCMath
namespace Go.Proofs.YtomhiganfmoceaaDoor
namespace JM
open CM

/-- Where the window of a partition begins. -/
def bg (k i : Int) : Int := if k = 1 then 60 * i else if k = 2 then 1440 * i else if k = 3 then 2880 + 10080 * i else if k = 4 then mst i else 0
/-- The greatest partition of a kind. -/
def grt (k : Int) : Int := if k = 1 then 35791393 else if k = 2 then 1491307 else if k = 3 then 213042 else if k = 4 then 48995 else if k = 5 then 1048575 else -1
/-- A right scheme. -/
def okS (k a z : Int) : Bool := decide (0 ≤ a) && decide (a ≤ z) && decide (z - a ≤ 511) && decide (z ≤ grt k)
theorem okS_iff {k a z : Int} : okS k a z = true ↔ 0 ≤ a ∧ a ≤ z ∧ z - a ≤ 511 ∧ z ≤ grt k := by
  unfold okS; simp only [Bool.and_eq_true, decide_eq_true_eq]; omega
theorem grt_hi (k : Int) : grt k ≤ 35791393 := by
  unfold grt
  repeat' split
  all_goals omega
theorem grt_kind {k : Int} (h : 0 ≤ grt k) : k = 1 ∨ k = 2 ∨ k = 3 ∨ k = 4 ∨ k = 5 := by
  unfold grt at h; repeat' split at h
  all_goals omega
theorem ok_kind {k a z : Int} (h : okS k a z = true) : k = 1 ∨ k = 2 ∨ k = 3 ∨ k = 4 ∨ k = 5 := by
  have := okS_iff.1 h; exact grt_kind (by omega)
theorem ok_bd {k a z : Int} (h : okS k a z = true) : 0 ≤ a ∧ a ≤ z ∧ z - a ≤ 511 ∧ z ≤ 35791393 := by
  have := okS_iff.1 h; have := grt_hi k; omega
/-- The windows follow one another. -/
theorem bg_lt {k i : Int} (hk : k = 1 ∨ k = 2 ∨ k = 3 ∨ k = 4) (h0 : 0 ≤ i) : bg k i < bg k (i + 1) := by
  rcases hk with rfl | rfl | rfl | rfl
  · show 60 * i < 60 * (i + 1); omega
  · show 1440 * i < 1440 * (i + 1); omega
  · show 2880 + 10080 * i < 2880 + 10080 * (i + 1); omega
  · show mst i < mst (i + 1)
    have := mst_succ h0
    have := dm_bd (2000 + i / 12) (i % 12 + 1)
    omega
theorem bg_mono {k a b : Int} (h0 : 0 ≤ a) (h : a ≤ b) : bg k a ≤ bg k b := by
  unfold bg
  repeat' split
  · omega
  · omega
  · omega
  · exact mst_mono a b h0 h
  · omega
theorem bg_0 (k : Int) : 0 ≤ bg k 0 := by
  unfold bg
  repeat' split
  all_goals first
    | omega
    | exact (mst_parts (m := 0) (by omega)).1
theorem bg_nn {k i : Int} (h : 0 ≤ i) : 0 ≤ bg k i := Int.le_trans (bg_0 k) (bg_mono (Int.le_refl 0) h)
theorem bg_hi {k i : Int} (h0 : 0 ≤ i) (h : i ≤ grt k + 1) : bg k i ≤ 2147483647 := by
  unfold grt at h
  unfold bg
  repeat' split
  all_goals (repeat' split at h)
  all_goals first
    | omega
    | (have := mst_hi (m := i) h0 (by omega); omega)
/-- Which windows end in time. -/
theorem far_iff {k z : Int} (hk : k = 1 ∨ k = 2 ∨ k = 3 ∨ k = 4) (h0 : 0 ≤ z) : z ≤ grt k ↔ bg k (z + 1) < 2147483648 ∧ (k = 4 → z + 1 ≤ 50000) := by
  refine ⟨fun h => ⟨?_, ?_⟩, ?_⟩
  · have := bg_hi (k := k) (i := z + 1) (by omega) (by omega); omega
  · rintro rfl; show z + 1 ≤ 50000
    have e : grt 4 = 48995 := rfl
    omega
  · rintro ⟨h, -⟩
    rcases hk with rfl | rfl | rfl | rfl
    · have h' : 60 * (z + 1) < 2147483648 := h
      show z ≤ 35791393; omega
    · have h' : 1440 * (z + 1) < 2147483648 := h
      show z ≤ 1491307; omega
    · have h' : 2880 + 10080 * (z + 1) < 2147483648 := h
      show z ≤ 213042; omega
    · have h' : mst (z + 1) < 2147483648 := h
      show z ≤ 48995
      by_cases hz : z ≤ 48995
      · exact hz
      · have := mst_mono 48997 (z + 1) (by omega) (by omega)
        have := mst_last.2
        omega
/-- How many below n say no ahead of a yes. -/
def IsFst (p : Nat → Bool) (n r : Nat) : Prop := r ≤ n ∧ (∀ t, t < r → p t = false) ∧ ∀ t, r ≤ t → t < n → p t = true
end JM
end Go.Proofs.YtomhiganfmoceaaDoor
