/-
  What the reference's Parse reckons with: no program in it.
-/
import Derived.Test.YtggaflihblhapaaDoorHRItem
import Derived.Test.YtggaflihblhapaaDoorHRSplit
import Derived.Test.YtggaflihblhapaaDoorHParse
namespace Go.Proofs.YtggaflihblhapaaDoor
open Go.RowKit CM HM

/-- A row's bit. -/
def gOf (c : Sp) (i : Nat) : Bool := if i % 65 = 64 then c.A (i / 65) else (c.S (i / 65)).testBit (i % 65)
theorem fV_gOf (c : Sp) (i : Nat) : fV c i = .bool (gOf c i) := rfl
theorem gOf_zero (c : Sp) (i : Nat) : gOf (cutC c 0) i = false := by
  unfold gOf cutC
  split <;> simp
theorem edge_first {l : List UInt8} {r : List (List UInt8)} (h : pieces 32 l = [] :: r) : splitB l = false := by
  cases l with
  | nil => kernel_rfl
  | cons b l =>
    unfold pieces at h
    by_cases hb : b = 32
    · subst hb
      unfold splitB
      have : Lib.hasPrefix (32 :: l) [32] = true := by simp [Lib.hasPrefix]
      rw [this]; rfl
    · rw [if_neg hb] at h
      split at h <;> simp at h
theorem edge_last {l : List UInt8} {r : List (List UInt8)} (h : pieces 32 l = r ++ [[]]) : splitB l = false := by
  rcases List.eq_nil_or_concat l with rfl | ⟨l', b, rfl⟩
  · kernel_rfl
  · rw [List.concat_eq_append] at h ⊢
    obtain ⟨r', p, h1, h2⟩ := pieces_snoc 32 b l'
    rw [h2] at h
    by_cases hb : b = 32
    · subst hb
      unfold splitB
      have : Lib.hasSuffix (l' ++ [32]) [32] = true := by simp [Lib.hasSuffix]
      rw [this]; simp
    · rw [if_neg hb] at h
      obtain ⟨_, h3⟩ := List.append_inj' h rfl
      injection h3 with h3
      simp at h3
theorem edge_none {l : List UInt8} (h1 : ∀ r, pieces 32 l ≠ [] :: r) (h2 : ∀ r, pieces 32 l ≠ r ++ [[]]) : splitB l = decide ((partsL (pieces 32 l)).length = 5) := by
  have e1 : Lib.hasPrefix l [32] = false := by
    cases hq : Lib.hasPrefix l [32]
    · rfl
    · exfalso
      cases l with
      | nil => simp [Lib.hasPrefix] at hq
      | cons b l =>
        have hb : 32 = b := by simpa [Lib.hasPrefix] using hq
        subst hb
        exact h1 (pieces 32 l) (by conv => lhs; unfold pieces
                                   rw [if_pos rfl])
  have e2 : Lib.hasSuffix l [32] = false := by
    cases hq : Lib.hasSuffix l [32]
    · rfl
    · exfalso
      rcases List.eq_nil_or_concat l with rfl | ⟨l', b, rfl⟩
      · simp [Lib.hasSuffix] at hq
      · rw [List.concat_eq_append] at hq h2
        obtain ⟨t, ht⟩ := List.isSuffixOf_iff_suffix.1 hq
        have hb : ([32] : List UInt8) = [b] := (List.append_inj' ht rfl).2
        injection hb with hb
        subst hb
        obtain ⟨r', p, h3, h4⟩ := pieces_snoc 32 32 l'
        rw [if_pos rfl] at h4
        exact h2 _ h4
  unfold splitB
  rw [e1, e2]; rfl
theorem err_split {l : List UInt8} (h : splitB l = false) : parseE l = 20 := by unfold parseE; rw [if_pos h]
/-- An item adds its bits. -/
theorem fieldF_none {f : Nat} {p : List UInt8} {r : List (List UInt8)} {acc : Nat} (h : iE f p ≠ 0) : (fieldF f (p :: r) acc).1 = iE f p := by
  unfold fieldF
  cases hq : rI f p with
  | none => rw [rI_none hq, if_pos rfl, iE_none hq]
  | some v =>
    obtain ⟨a, z, s⟩ := v
    have h1 := rI_some hq
    cases hf : fitB f a z s
    · rw [iE_no hq hf, h1]; simp [hf]
    · exact absurd (iE_yes hq hf) h
theorem fieldF_more {f : Nat} {p : List UInt8} {r : List (List UInt8)} {acc : Nat} (h : iE f p = 0) : ∃ a z s, rI f p = some (a, z, s) ∧ z ≤ 59 ∧ fieldF f (p :: r) acc = fieldF f r (acc ||| spanN a z s) := by
  cases hq : rI f p with
  | none => rw [iE_none hq] at h; cases h
  | some v =>
    obtain ⟨a, z, s⟩ := v
    cases hf : fitB f a z s
    · rw [iE_no hq hf] at h; cases h
    · have h1 := rI_some hq
      have hz : z ≤ 59 := by
        have h2 := hf
        unfold fitB at h2
        simp at h2
        have := lohi f
        omega
      refine ⟨a, z, s, rfl, hz, ?_⟩
      conv => lhs; unfold fieldF
      rw [h1]
      simp [hf]
/-- The row while a field's items come in. -/
def hAcc (h : Nat → Bool) (f acc : Nat) (i : Nat) : Bool := h i || (decide (65 * f ≤ i) && (decide (i < 65 * f + 64) && acc.testBit (i - 65 * f)))
theorem acc_add {h : Nat → Bool} {f acc a z s : Nat} {p : List UInt8} (hp : rI f p = some (a, z, s)) (hz : z ≤ 59) (i : Nat) : addI f p (hAcc h f acc) i = hAcc h f (acc ||| spanN a z s) i := by
  unfold addI
  rw [hp]
  show (hAcc h f acc i || _) = _
  unfold hAcc
  rw [Nat.testBit_or, bit_span (by omega)]
  cases h i <;> cases decide (65 * f ≤ i) <;> cases decide (i < 65 * f + 64) <;> simp
theorem acc_zero (h : Nat → Bool) (f i : Nat) : h i = hAcc h f 0 i := by unfold hAcc; simp
/-- A field that is read through. -/
theorem cut_next {c : Sp} {k i : Nat} (hA : c.A k = false) : hAcc (gOf (cutC c k)) k (c.S k) i = gOf (cutC c (k + 1)) i := by
  unfold hAcc gOf cutC
  simp only
  by_cases e : i / 65 = k
  · by_cases e2 : i % 65 = 64
    · rw [if_pos e2, if_pos e2, if_neg (by omega), if_pos (by omega), decide_eq_false (show ¬ i < 65 * k + 64 by omega), e, hA]; simp
    · rw [if_neg e2, if_neg e2, if_neg (by omega), if_pos (by omega), decide_eq_true (show 65 * k ≤ i by omega), decide_eq_true (show i < 65 * k + 64 by omega), e, show i - 65 * k = i % 65 by omega]; simp
  · have e3 : (decide (65 * k ≤ i) && (decide (i < 65 * k + 64) && (c.S k).testBit (i - 65 * k))) = false := by
      by_cases h1 : 65 * k ≤ i
      · rw [decide_eq_false (show ¬ i < 65 * k + 64 by omega)]; simp
      · rw [decide_eq_false h1]; simp
    rw [e3, Bool.or_false]
    have e4 : (i / 65 < k) = (i / 65 < k + 1) := propext ⟨fun h => by omega, fun h => by omega⟩
    simp only [e4]
theorem cut_star {c : Sp} {k i n : Nat} (hA : c.A k = true) (hS : c.S k = maskN k) (hn : hiN k < n) :
    (gOf (cutC c k) i || (decide (i = 65 * k + 64) || (decide (65 * k ≤ i) && (decide (i < 65 * k + 64) && (inF k (i - 65 * k) && decide (i - 65 * k < n)))))) = gOf (cutC c (k + 1)) i := by
  unfold gOf cutC
  simp only
  by_cases e : i / 65 = k
  · by_cases e2 : i % 65 = 64
    · rw [if_pos e2, if_pos e2, if_neg (by omega), if_pos (by omega), decide_eq_true (show i = 65 * k + 64 by omega), e, hA]; simp
    · have e5 : (inF k (i - 65 * k) && decide (i - 65 * k < n)) = inF k (i - 65 * k) := by
        cases hq : inF k (i - 65 * k)
        · rfl
        · have : i - 65 * k ≤ hiN k := by unfold inF at hq; simp at hq; omega
          rw [decide_eq_true (show i - 65 * k < n by omega)]; rfl
      rw [if_neg e2, if_neg e2, if_neg (by omega), if_pos (by omega), e5, decide_eq_false (show ¬ i = 65 * k + 64 by omega), decide_eq_true (show 65 * k ≤ i by omega), decide_eq_true (show i < 65 * k + 64 by omega), e, hS, bit_mask, show i - 65 * k = i % 65 by omega]; simp
  · have e3 : (decide (i = 65 * k + 64) || (decide (65 * k ≤ i) && (decide (i < 65 * k + 64) && (inF k (i - 65 * k) && decide (i - 65 * k < n))))) = false := by
      rw [decide_eq_false (show ¬ i = 65 * k + 64 by omega)]
      by_cases h1 : 65 * k ≤ i
      · rw [decide_eq_false (show ¬ i < 65 * k + 64 by omega)]; simp
      · rw [decide_eq_false h1]; simp
    rw [e3, Bool.or_false]
    have e4 : (i / 65 < k) = (i / 65 < k + 1) := propext ⟨fun h => by omega, fun h => by omega⟩
    simp only [e4]
end Go.Proofs.YtggaflihblhapaaDoor
