/-
  The text of a mapping, read back: no program in it.
-/
import Derived.Test.YtomhiganfmoceaaDoorWMath
import Derived.Test.YtomhiganfmoceaaDoorJText
import Derived.Lib.ItoaMem
namespace Go.Proofs.YtomhiganfmoceaaDoor
namespace WM
open CM JM Lib

/-- The words of the kinds. -/
def wordW (k : Int) : List UInt8 := if k = 1 then [115, 97, 109, 101] else if k = 2 then [108, 97, 115, 116] else if k = 3 then [115, 104, 105, 102, 116] else if k = 4 then [119, 105, 116, 104, 105, 110] else [97, 108, 108]
/-- The kind of a word. -/
def kindW (l : List UInt8) : Int := if l = wordW 1 then 1 else if l = wordW 2 then 2 else if l = wordW 3 then 3 else if l = wordW 4 then 4 else if l = wordW 5 then 5 else 0
theorem kindW_word {k : Int} (h : k = 1 ∨ k = 2 ∨ k = 3 ∨ k = 4 ∨ k = 5) : kindW (wordW k) = k ∧ (32 : UInt8) ∉ wordW k ∧ (wordW k).length ≤ 6 := by
  rcases h with rfl | rfl | rfl | rfl | rfl <;> decide
theorem kindW_at {l : List UInt8} {k : Nat} (hk : k < 5) (e : l = wordW ((k : Int) + 1)) : kindW l = (k : Int) + 1 := by
  subst e
  exact (kindW_word (by omega)).1
theorem kindW_none {l : List UInt8} (hn : ∀ j : Nat, j < 5 → l ≠ wordW ((j : Int) + 1)) : kindW l = 0 := by
  have h1 : l ≠ wordW 1 := hn 0 (by omega)
  have h2 : l ≠ wordW 2 := hn 1 (by omega)
  have h3 : l ≠ wordW 3 := hn 2 (by omega)
  have h4 : l ≠ wordW 4 := hn 3 (by omega)
  have h5 : l ≠ wordW 5 := hn 4 (by omega)
  unfold kindW
  rw [if_neg h1, if_neg h2, if_neg h3, if_neg h4, if_neg h5]
theorem kindW_bd (l : List UInt8) : 0 ≤ kindW l ∧ kindW l ≤ 5 := by
  unfold kindW
  repeat' split
  all_goals omega
/-- The text of a mapping, the empty one where there is none. -/
def textM (k n : Int) : List UInt8 := if n = 0 then wordW k else wordW k ++ (32 :: itoa n)
def showM (k n : Int) : List UInt8 := if formB k n = true then textM k n else []
/-- What a text is read as. -/
def readMk (l : List UInt8) : Int := kindW (cut l [32]).1
def readMn (l : List UInt8) : Int := numV (cut l [32]).2.1
theorem num_nil : numV [] = 0 := rfl
theorem num_neg {u : Nat} (hu : u < 1000000000000) : numV (45 :: decDigits u) = -(u : Int) := by
  apply numV_ok
  have hp := parse_dec u [] hu
  rw [List.append_nil, parse_end] at hp
  rw [atoiAll_minus]
  unfold parseMag
  rw [if_neg (by intro h; exact dec_ne u h), hp]
  unfold signed
  simp only
  rw [if_neg (by omega)]
theorem num_itoa {n : Int} (h0 : -1000000 ≤ n) (h1 : n ≤ 1000000) : numV (itoa n) = n := by
  by_cases h : 0 ≤ n
  · rw [itoa_dec h, num_dec (by omega)]; omega
  · rw [show n = -((-n).toNat : Int) by omega, itoa_neg _ (by omega), num_neg (by omega)]
theorem cut_word {k : Int} (h : k = 1 ∨ k = 2 ∨ k = 3 ∨ k = 4 ∨ k = 5) : cut (wordW k) [32] = (wordW k, [], false) := by
  rcases h with rfl | rfl | rfl | rfl | rfl <;> decide
theorem show_backM {k n : Int} (h : formB k n = true) : readMk (showM k n) = k ∧ readMn (showM k n) = n := by
  obtain ⟨hk, h0, h1⟩ := form_kind h
  obtain ⟨k1, k2, _⟩ := kindW_word hk
  unfold showM
  rw [if_pos h]
  unfold textM readMk readMn
  by_cases hn : n = 0
  · rw [if_pos hn, cut_word hk]
    exact ⟨k1, by rw [num_nil]; exact hn.symm⟩
  · rw [if_neg hn, show cut (wordW k ++ (32 :: itoa n)) [32] = (wordW k, itoa n, true) from cut_at (sub := []) k2]
    exact ⟨k1, num_itoa (by omega) (by omega)⟩
end WM
end Go.Proofs.YtomhiganfmoceaaDoor
