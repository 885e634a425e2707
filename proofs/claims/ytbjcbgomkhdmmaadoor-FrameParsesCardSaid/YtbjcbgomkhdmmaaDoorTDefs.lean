/-
  What a table's rows are told: whether they fit, whether they stand in their order. No program in it.
-/
import Derived.Test.YtbjcbgomkhdmmaaDoorTOrd
import Derived.Test.YtbjcbgomkhdmmaaDoorSFits
namespace Go.Proofs.YtbjcbgomkhdmmaaDoor
open Go.RowKit

abbrev R3 := List (List (Int × Int × ByteArray))
def preA (rs : R3) (k : Nat) : Prop := ∀ j, j + 1 < k → cmpR (rs.getD j []) (rs.getD (j + 1) []) ≤ 0
def adjB (rs : R3) : Bool := decide (∀ j, j < rs.length - 1 → cmpR (rs.getD j []) (rs.getD (j + 1) []) ≤ 0)
theorem adjB_iff {rs : R3} : adjB rs = true ↔ preA rs rs.length := by
  unfold adjB preA
  rw [decide_eq_true_iff]
  exact ⟨fun h j hj => h j (by omega), fun h j hj => h j (by omega)⟩
theorem adjB_no {rs : R3} {j : Nat} (hj : j + 1 < rs.length) (h : ¬ cmpR (rs.getD j []) (rs.getD (j + 1) []) ≤ 0) : adjB rs = false := by
  rw [Bool.eq_false_iff, Ne, adjB_iff]; exact fun hp => h (hp j hj)
theorem sorted_of_adj : ∀ rs : R3, preA rs rs.length → SortedR rs
  | [], _ => by simp [SortedR]
  | [a], _ => by simp [SortedR]
  | a :: b :: l, h => by
    have ih := sorted_of_adj (b :: l) (fun j hj => h (j + 1) (by simpa using hj))
    have h0 : cmpR a b ≤ 0 := h 0 (by simp)
    unfold SortedR at *
    rw [List.pairwise_cons]
    refine ⟨fun x hx => ?_, ih⟩
    rw [List.pairwise_cons] at ih
    rcases List.mem_cons.1 hx with rfl | hx
    · exact h0
    · exact leR_trans h0 (ih.1 x hx)
theorem adj_of_sorted {rs : R3} (h : SortedR rs) : preA rs rs.length := fun j hj => by
  unfold SortedR at h
  rw [List.pairwise_iff_getElem] at h
  have := h j (j + 1) (by omega) hj (by omega)
  rwa [List.getD_eq_getElem?_getD, List.getElem?_eq_getElem (by omega), List.getD_eq_getElem?_getD, List.getElem?_eq_getElem hj]
theorem adjB_sorted {rs : R3} : adjB rs = true ↔ SortedR rs := by
  rw [adjB_iff]; exact ⟨sorted_of_adj rs, adj_of_sorted⟩

/-- The error that rows of these columns have, whatever their order. -/
def checkT (cs : List (ByteArray × Int)) (rs : R3) : Int := if checkC cs = 0 then if rs.length ≤ 4096 then if rs.all (rowFits cs) = true then 0 else 12 else 31 else checkC cs
/-- The error that a table has. -/
def fullT (cs : List (ByteArray × Int)) (rs : R3) : Int := if checkT cs rs = 0 then if adjB rs = true then 0 else 20 else checkT cs rs
theorem checkT_cols {cs : List (ByteArray × Int)} {rs : R3} (h : ¬ checkC cs = 0) : checkT cs rs = checkC cs := by unfold checkT; rw [if_neg h]
theorem checkT_many {cs : List (ByteArray × Int)} {rs : R3} (h : checkC cs = 0) (h2 : ¬ rs.length ≤ 4096) : checkT cs rs = 31 := by unfold checkT; rw [if_pos h, if_neg h2]
theorem checkT_type {cs : List (ByteArray × Int)} {rs : R3} (h : checkC cs = 0) (h2 : rs.length ≤ 4096) (h3 : rs.all (rowFits cs) = false) : checkT cs rs = 12 := by unfold checkT; rw [if_pos h, if_pos h2, h3, if_neg (by decide)]
theorem checkT_good {cs : List (ByteArray × Int)} {rs : R3} (h : checkC cs = 0) (h2 : rs.length ≤ 4096) (h3 : rs.all (rowFits cs) = true) : checkT cs rs = 0 := by unfold checkT; rw [if_pos h, if_pos h2, h3, if_pos rfl]
theorem checkT_zero {cs : List (ByteArray × Int)} {rs : R3} (h : checkT cs rs = 0) : checkC cs = 0 ∧ rs.length ≤ 4096 ∧ rs.all (rowFits cs) = true := by
  unfold checkT at h
  split at h
  · split at h
    · split at h
      · exact ⟨by assumption, by assumption, by assumption⟩
      · omega
    · omega
  · omega
theorem fullT_zero {cs : List (ByteArray × Int)} {rs : R3} (h : fullT cs rs = 0) : checkT cs rs = 0 ∧ adjB rs = true := by
  unfold fullT at h
  split at h
  · split at h
    · exact ⟨by assumption, by assumption⟩
    · omega
  · omega
theorem fullT_check {cs : List (ByteArray × Int)} {rs : R3} (h : ¬ checkT cs rs = 0) : fullT cs rs = checkT cs rs := by unfold fullT; rw [if_neg h]
theorem fullT_form {cs : List (ByteArray × Int)} {rs : R3} (h : checkT cs rs = 0) (h2 : adjB rs = false) : fullT cs rs = 20 := by unfold fullT; rw [if_pos h, h2, if_neg (by decide)]
theorem fullT_good {cs : List (ByteArray × Int)} {rs : R3} (h : checkT cs rs = 0) (h2 : adjB rs = true) : fullT cs rs = 0 := by unfold fullT; rw [if_pos h, h2, if_pos rfl]
theorem checkC_range (cs : List (ByteArray × Int)) : 0 ≤ checkC cs ∧ checkC cs ≤ 31 := by
  have hb : ∀ k, 0 ≤ badC cs k ∧ badC cs k ≤ 31 := fun k => by unfold badC; (repeat' split) <;> omega
  have hf : ∀ n, 0 ≤ firstBad cs n ∧ firstBad cs n ≤ 31 := fun n => by
    induction n with
    | zero => simp [firstBad]
    | succ n ih => unfold firstBad; split; exact hb n; exact ih
  unfold checkC; split
  · exact hf _
  · omega
theorem checkT_range (cs : List (ByteArray × Int)) (rs : R3) : 0 ≤ checkT cs rs ∧ checkT cs rs ≤ 31 := by
  have := checkC_range cs
  unfold checkT; (repeat' split) <;> omega
theorem fullT_range (cs : List (ByteArray × Int)) (rs : R3) : 0 ≤ fullT cs rs ∧ fullT cs rs ≤ 31 := by
  have := checkT_range cs rs
  unfold fullT; (repeat' split) <;> omega
theorem fits_perm {cs : List (ByteArray × Int)} {rs ss : R3} (h : rs.Perm ss) : rs.all (rowFits cs) = ss.all (rowFits cs) := by
  rw [Bool.eq_iff_iff, List.all_eq_true, List.all_eq_true]
  exact ⟨fun k x hx => k x (h.mem_iff.2 hx), fun k x hx => k x (h.mem_iff.1 hx)⟩
theorem checkT_perm {cs : List (ByteArray × Int)} {rs ss : R3} (h : rs.Perm ss) : checkT cs rs = checkT cs ss := by
  unfold checkT; rw [h.length_eq, fits_perm h]
/-- A made table is right. -/
theorem fullT_sortR {cs : List (ByteArray × Int)} {rs : R3} (h : checkT cs rs = 0) : fullT cs (sortR rs) = 0 :=
  fullT_good (by rw [checkT_perm (sortR_perm rs)]; exact h) (adjB_sorted.2 (sortR_sorted rs))
def preFit (cs : List (ByteArray × Int)) (rs : R3) (k : Nat) : Prop := ∀ j, j < k → rowFits cs (rs.getD j []) = true
theorem preFit_succ {cs : List (ByteArray × Int)} {rs : R3} {k : Nat} (h : preFit cs rs k) (hc : rowFits cs (rs.getD k []) = true) : preFit cs rs (k + 1) := fun j hj => by
  by_cases e : j = k
  · subst e; exact hc
  · exact h j (by omega)
theorem preFit_all {cs : List (ByteArray × Int)} {rs : R3} (h : preFit cs rs rs.length) : rs.all (rowFits cs) = true := by
  rw [List.all_eq_true]; intro r hr
  obtain ⟨j, hj, e⟩ := List.getElem_of_mem hr
  have := h j hj
  rw [List.getD_eq_getElem?_getD, List.getElem?_eq_getElem hj] at this
  rw [← e]; exact this
theorem fit_no {cs : List (ByteArray × Int)} {rs : R3} {k : Nat} (hk : k < rs.length) (h : rowFits cs (rs.getD k []) = false) : rs.all (rowFits cs) = false := by
  rw [Bool.eq_false_iff]; intro ha
  rw [List.all_eq_true] at ha
  have := ha (rs.getD k []) (by rw [List.getD_eq_getElem?_getD, List.getElem?_eq_getElem hk]; exact List.getElem_mem hk)
  rw [h] at this; cases this
theorem preA_succ {rs : R3} {k : Nat} (h : preA rs k) (hc : 1 ≤ k → cmpR (rs.getD (k - 1) []) (rs.getD k []) ≤ 0) : preA rs (k + 1) := fun j hj => by
  by_cases e : j + 1 = k
  · subst e; exact hc (by omega)
  · exact h j (by omega)
end Go.Proofs.YtbjcbgomkhdmmaaDoor
