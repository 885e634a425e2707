/-
  Parts put together with a separator, and taken apart again. No program in it.
-/
import Derived.Test.YtheeihdbeefkkaaDoorSParseW
import Derived.Test.YtheeihdbeefkkaaDoorSRefShow
namespace Go.Proofs.YtheeihdbeefkkaaDoor
open Go.RowKit

def joinL (sep : List UInt8) : List (List UInt8) → List UInt8
  | [] => []
  | [x] => x
  | x :: y :: r => x ++ (sep ++ joinL sep (y :: r))
theorem joinL_cons {sep x : List UInt8} {r : List (List UInt8)} (h : r ≠ []) : joinL sep (x :: r) = x ++ (sep ++ joinL sep r) := by
  cases r with
  | nil => exact absurd rfl h
  | cons y r => rfl
theorem joinL_snoc (sep x : List UInt8) : ∀ (l : List (List UInt8)), l ≠ [] → joinL sep (l ++ [x]) = joinL sep l ++ (sep ++ x)
  | [], h => absurd rfl h
  | [y], _ => rfl
  | y :: z :: r, _ => by
    have ih := joinL_snoc sep x (z :: r) (by simp)
    show y ++ (sep ++ joinL sep ((z :: r) ++ [x])) = _
    rw [ih]; simp [joinL]

theorem splitK_ne (sep : List UInt8) (save : Nat) : ∀ (k : Nat) (s : List UInt8), Lib.splitK sep save k s ≠ []
  | 0, s => by simp [Lib.splitK]
  | k + 1, s => by unfold Lib.splitK; split <;> simp
/-- Where a part begins: it is there. -/
theorem index_at {s sep : List UInt8} (h : ¬ (Lib.index s sep == -1) = true) : s = s.take (Lib.index s sep).toNat ++ (sep ++ s.drop ((Lib.index s sep).toNat + sep.length)) := by
  rcases Lib.index_spec s sep with ⟨h1, _⟩ | ⟨i, h1, h2, h3, _⟩
  · rw [h1] at h; exact absurd rfl h
  · rw [h1, Int.toNat_natCast]
    unfold Lib.occAt at h3
    rw [List.isPrefixOf_iff_prefix] at h3
    obtain ⟨r, hr⟩ := h3
    have : s.drop (i + sep.length) = r := by rw [← List.drop_drop, ← hr, List.drop_left]
    rw [this, hr, List.take_append_drop]
theorem join_split (sep : List UInt8) : ∀ (k : Nat) (s : List UInt8), joinL sep (Lib.splitK sep 0 k s) = s
  | 0, s => rfl
  | k + 1, s => by
    unfold Lib.splitK
    split
    · rfl
    · rename_i h
      rw [joinL_cons (splitK_ne _ _ _ _), join_split sep k, Nat.add_zero]
      exact (index_at h).symm

def oneC (c : ByteArray × Int) : List UInt8 := c.1.data.toList ++ tailC c.2
theorem showK_join (cs : List (ByteArray × Int)) : ∀ k, k ≤ cs.length → showK cs k = 40 :: joinL [44, 32] ((cs.take k).map oneC)
  | 0, _ => rfl
  | k + 1, hk => by
    have ih := showK_join cs k (by omega)
    unfold showK
    rw [ih, take_col (by omega), List.map_append, List.map_singleton]
    by_cases h0 : 0 < k
    · rw [if_pos h0, joinL_snoc _ _ _ (by simp; exact ⟨by omega, by rintro rfl; simp at hk⟩)]; simp [oneC]
    · obtain rfl : k = 0 := by omega
      rfl
theorem showC_join (cs : List (ByteArray × Int)) : showC cs = 40 :: (joinL [44, 32] (cs.map oneC) ++ [41]) := by
  unfold showC; rw [showK_join cs _ (Nat.le_refl _), List.take_length]; rfl

/-- A part that is read as a valid type is the text of what it is read as. -/
theorem one_readC {p : ByteArray} (h : (readC p).2 = 1 ∨ (readC p).2 = 2) : oneC (readC p) = p.data.toList := by
  unfold readC at h ⊢
  unfold Lib.cut at h ⊢
  by_cases hi : 0 ≤ Lib.index p.data.toList [32]
  · rw [if_pos hi] at h ⊢
    have hs := index_at (s := p.data.toList) (sep := [32]) (by rw [beq_iff_eq]; omega)
    simp only at h ⊢
    generalize List.take (Lib.index p.data.toList [32]).toNat p.data.toList = a at *
    generalize List.drop ((Lib.index p.data.toList [32]).toNat + [32].length) p.data.toList = b at *
    rw [hs]
    unfold oneC
    unfold typeN at h ⊢
    simp only at h ⊢
    by_cases h1 : b = [105, 110, 116]
    · subst h1; simp [tailC]
    · by_cases h2 : b = [116, 101, 120, 116]
      · subst h2; simp [tailC]
      · rw [if_neg h1, if_neg h2] at h; omega
  · rw [if_neg hi] at h
    simp only at h
    exfalso
    have : typeN ⟨([] : List UInt8).toArray⟩ = 0 := rfl
    rw [this] at h; omega
theorem bracketed_data {t : ByteArray} (h : bracketed t = true) : t.data.toList = 40 :: ((t.extract 1 (t.size - 1)).data.toList ++ [41]) := by
  unfold bracketed at h
  simp only [Bool.and_eq_true, decide_eq_true_eq, beq_iff_eq] at h
  obtain ⟨h2, h0, h1⟩ := h
  rw [Lib.extract_data]
  have hl : t.data.toList.length = t.size := by simp
  generalize t.data.toList = l at *
  generalize t.size = n at *
  subst hl
  match l, h2 with
  | a :: r, h2 =>
    simp at h0 h1 h2
    subst h0
    have hr : r ≠ [] := by rintro rfl; simp at h2
    have hd := List.dropLast_concat_getLast hr
    have hg : r.getLast hr = 41 := by
      rw [List.getLast_eq_getElem]
      rw [List.getElem_cons, dif_neg (by omega)] at h1
      exact h1
    rw [hg] at hd
    congr 1
    have : (40 :: r).length - 1 - 1 = r.length - 1 := by simp
    rw [this, List.drop_one, List.tail_cons, ← List.dropLast_eq_take, hd]
theorem parsedC_show {t : ByteArray} {cs : List (ByteArray × Int)} (h : parsedC t = some cs) : showC cs = t.data.toList ∧ checkC cs = 0 := by
  unfold parsedC at h
  split at h
  · rename_i hb
    injection h with h
    subst h
    refine ⟨?_, hb.2⟩
    have hparts : (partsOf t).map (·.data.toList) = Lib.splitK [44, 32] 0 (min 17 ((t.extract 1 (t.size - 1)).size + 1) - 1) (t.extract 1 (t.size - 1)).data.toList := Lib.splitB_data _ _ _ _
    have hj := join_split [44, 32] (min 17 ((t.extract 1 (t.size - 1)).size + 1) - 1) (t.extract 1 (t.size - 1)).data.toList
    rw [← hparts] at hj
    have he : (colsOf t).map oneC = (partsOf t).map (·.data.toList) := by
      unfold colsOf
      rw [List.map_map]
      refine List.map_congr_left fun p hp => ?_
      refine one_readC ?_
      obtain ⟨_, _, hcl⟩ := checkC_ok hb.2
      obtain ⟨j, hj, e⟩ := List.getElem_of_mem hp
      have := (badC_name (hcl j (by unfold colsOf; simpa using hj))).2.1
      unfold colsOf at this
      rw [List.getD_eq_getElem?_getD, List.getElem?_map, List.getElem?_eq_getElem hj, e] at this
      exact this
    rw [showC_join, bracketed_data hb.1, he, hj]
  · cases h
end Go.Proofs.YtheeihdbeefkkaaDoor
