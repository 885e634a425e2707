/-
  Mappings: which are right, which fit, who needs whom: no program in it.
-/
import Derived.Test.YtomhiganfmoceaaDoorJMath
namespace Go.Proofs.YtomhiganfmoceaaDoor
namespace WM
open CM JM

/-- A mapping with its two schemes. -/
structure Ca where
  k : Int
  n : Int
  lk : Int
  la : Int
  lz : Int
  uk : Int
  ua : Int
  uz : Int
def formB (k n : Int) : Bool := decide ((k = 1 ∨ k = 4 ∨ k = 5) ∧ n = 0 ∨ k = 2 ∧ 1 ≤ n ∧ n ≤ 512 ∨ k = 3 ∧ n ≠ 0 ∧ -512 ≤ n ∧ n ≤ 512)
theorem formB_iff {k n : Int} : formB k n = true ↔ ((k = 1 ∨ k = 4 ∨ k = 5) ∧ n = 0 ∨ k = 2 ∧ 1 ≤ n ∧ n ≤ 512 ∨ k = 3 ∧ n ≠ 0 ∧ -512 ≤ n ∧ n ≤ 512) := by unfold formB; exact decide_eq_true_iff
theorem form_kind {k n : Int} (h : formB k n = true) : (k = 1 ∨ k = 2 ∨ k = 3 ∨ k = 4 ∨ k = 5) ∧ -512 ≤ n ∧ n ≤ 512 := by
  have := formB_iff.1 h; omega
/-- Whether a mapping has a meaning for these kinds. -/
def relB (k l u : Int) : Bool := if k = 4 then decide (l ≠ 5) && decide (u ≠ 5) else if k = 5 then true else decide (l = u)
def fitB (c : Ca) : Bool := okS c.lk c.la c.lz && okS c.uk c.ua c.uz && relB c.k c.lk c.uk
/-- What Check tells. -/
def fitE (c : Ca) : Int := if formB c.k c.n = true then (if fitB c = true then 0 else 54) else 20
theorem fitE_0 {c : Ca} (h : fitE c = 0) : formB c.k c.n = true ∧ okS c.lk c.la c.lz = true ∧ okS c.uk c.ua c.uz = true ∧ relB c.k c.lk c.uk = true := by
  unfold fitE at h
  split at h
  · rename_i h1
    split at h
    · rename_i h2
      unfold fitB at h2
      simp only [Bool.and_eq_true] at h2
      exact ⟨h1, h2.1.1, h2.1.2, h2.2⟩
    · cases h
  · cases h
theorem fitE_20 {c : Ca} (h : formB c.k c.n = false) : fitE c = 20 := if_neg (by rw [h]; simp)
theorem fitE_54 {c : Ca} (h : formB c.k c.n = true) (h2 : fitB c = false) : fitE c = 54 := by unfold fitE; rw [if_pos h, if_neg (by rw [h2]; simp)]
theorem fitE_ok {c : Ca} (h : formB c.k c.n = true) (h2 : fitB c = true) : fitE c = 0 := by unfold fitE; rw [if_pos h, if_pos h2]
theorem fitE_some (c : Ca) : fitE c = 0 ∨ fitE c = 20 ∨ fitE c = 54 := by
  unfold fitE; split
  · split <;> simp
  · simp
/-- Whether i needs j by its kind. -/
def linkB (c : Ca) (i j : Int) : Bool :=
  if c.k = 1 then decide (i = j) else if c.k = 2 then decide (j ≤ i) && decide (i - c.n < j) else if c.k = 3 then decide (j = i + c.n)
  else if c.k = 4 then decide (bg c.lk i ≤ bg c.uk j) && decide (bg c.uk (j + 1) ≤ bg c.lk (i + 1)) else true
def inB (a z i : Int) : Bool := decide (a ≤ i) && decide (i ≤ z)
theorem inB_iff {a z i : Int} : inB a z i = true ↔ a ≤ i ∧ i ≤ z := by unfold inB; simp
def needB (c : Ca) (i j : Int) : Bool := inB c.la c.lz i && inB c.ua c.uz j && linkB c i j
theorem needB_iff {c : Ca} {i j : Int} : needB c i j = true ↔ (c.la ≤ i ∧ i ≤ c.lz) ∧ (c.ua ≤ j ∧ j ≤ c.uz) ∧ linkB c i j = true := by
  unfold needB; simp only [Bool.and_eq_true, inB_iff, and_assoc]
/-- Those of the first N from a on of which p holds are those from x to y. -/
def RunIs (p : Int → Bool) (a : Int) (N x y : Nat) : Prop := x ≤ y ∧ y ≤ N ∧ ∀ t : Nat, t < N → (p (a + (t : Int)) = true ↔ x ≤ t ∧ t < y)
theorem RunIs.congr {p q : Int → Bool} {a : Int} {N x y : Nat} (h : RunIs p a N x y) (hq : ∀ t : Nat, t < N → p (a + (t : Int)) = q (a + (t : Int))) : RunIs q a N x y :=
  ⟨h.1, h.2.1, fun t ht => by rw [← hq t ht]; exact h.2.2 t ht⟩
theorem run_none {p : Int → Bool} {a : Int} {N : Nat} (h : ∀ t : Nat, t < N → p (a + (t : Int)) = false) : RunIs p a N 0 0 :=
  ⟨Nat.le_refl _, Nat.zero_le _, fun t ht => by rw [h t ht]; simp⟩
theorem run_all (a : Int) (N : Nat) : RunIs (fun _ => true) a N 0 N := ⟨Nat.zero_le _, Nat.le_refl _, fun t ht => by simp; exact ht⟩
/-- The numbers from f to g are a run. -/
theorem run_betw {a f g : Int} {N : Nat} (h : max f a ≤ min g (a + (N : Int) - 1)) : RunIs (fun j => decide (f ≤ j) && decide (j ≤ g)) a N (max f a - a).toNat ((max f a - a).toNat + (min g (a + (N : Int) - 1) + 1 - max f a).toNat) := by
  refine ⟨by omega, by omega, fun t ht => ?_⟩
  simp only [Bool.and_eq_true, decide_eq_true_eq]
  omega
theorem run_betw_no {a f g : Int} {N : Nat} (h : min g (a + (N : Int) - 1) < max f a) : RunIs (fun j => decide (f ≤ j) && decide (j ≤ g)) a N 0 0 :=
  run_none fun t ht => by simp only [Bool.and_eq_false_iff, decide_eq_false_iff_not]; omega
/-- How far the first and the last partition lie. -/
def distL (k n : Int) : Int := if k = 2 then 1 - n else if k = 3 then n else 0
def distM (k n : Int) : Int := if k = 3 then n else 0
theorem link_of {c : Ca} {i j : Int} (hk : c.k = 1 ∨ c.k = 2 ∨ c.k = 3) : linkB c i j = (decide (i + distL c.k c.n ≤ j) && decide (j ≤ i + distM c.k c.n)) := by
  rw [Bool.eq_iff_iff]
  unfold linkB distL distM
  rcases hk with h | h | h <;> rw [h] <;> simp <;> omega
theorem link_back {c : Ca} {i j : Int} (hk : c.k = 1 ∨ c.k = 2 ∨ c.k = 3) : linkB c i j = (decide (j - distM c.k c.n ≤ i) && decide (i ≤ j - distL c.k c.n)) := by
  rw [Bool.eq_iff_iff]
  unfold linkB distL distM
  rcases hk with h | h | h <;> rw [h] <;> simp <;> omega
/-- How many of the first t lie in the run. -/
def cntR (x y t : Nat) : Nat := min t y - x
end WM
end Go.Proofs.YtomhiganfmoceaaDoor
