/-
  The text of a scheme, read back: no program in it.
-/
import Derived.Test.YtomhiganfmoceaaDoorJMath
import Derived.Test.YtomhiganfmoceaaDoorCNum
import Derived.Lib.AtoiAllCases
import Derived.Lib.CutLaws
import Derived.Lib.IndexLaws
namespace Go.Proofs.YtomhiganfmoceaaDoor
namespace JM
open CM Lib

/-- The words of the kinds. -/
def wordK (k : Int) : List UInt8 := if k = 1 then [104, 111, 117, 114, 108, 121] else if k = 2 then [100, 97, 105, 108, 121] else if k = 3 then [119, 101, 101, 107, 108, 121] else if k = 4 then [109, 111, 110, 116, 104, 108, 121] else [115, 116, 97, 116, 105, 99]
/-- The kind of a word. -/
def kindN (l : List UInt8) : Int := if l = wordK 1 then 1 else if l = wordK 2 then 2 else if l = wordK 3 then 3 else if l = wordK 4 then 4 else if l = wordK 5 then 5 else 0
theorem kind_word {k : Int} (h : k = 1 ∨ k = 2 ∨ k = 3 ∨ k = 4 ∨ k = 5) : kindN (wordK k) = k ∧ (32 : UInt8) ∉ wordK k ∧ (wordK k).length ≤ 7 := by
  rcases h with rfl | rfl | rfl | rfl | rfl <;> decide
theorem kind_at {l : List UInt8} {k : Nat} (hk : k < 5) (e : l = wordK ((k : Int) + 1)) : kindN l = (k : Int) + 1 := by
  subst e
  exact (kind_word (by omega)).1
theorem kind_none {l : List UInt8} (hn : ∀ j : Nat, j < 5 → l ≠ wordK ((j : Int) + 1)) : kindN l = 0 := by
  have h1 : l ≠ wordK 1 := hn 0 (by omega)
  have h2 : l ≠ wordK 2 := hn 1 (by omega)
  have h3 : l ≠ wordK 3 := hn 2 (by omega)
  have h4 : l ≠ wordK 4 := hn 3 (by omega)
  have h5 : l ≠ wordK 5 := hn 4 (by omega)
  unfold kindN
  rw [if_neg h1, if_neg h2, if_neg h3, if_neg h4, if_neg h5]
/-- The text of a scheme, the empty one where there is none. -/
def textS (k a z : Int) : List UInt8 := wordK k ++ (32 :: (itoa a ++ (46 :: 46 :: itoa z)))
def showS (k a z : Int) : List UInt8 := if okS k a z = true then textS k a z else []
/-- What a text is read as. -/
def readK (l : List UInt8) : Int := kindN (cut l [32]).1
def readA (l : List UInt8) : Int := numV (cut (cut l [32]).2.1 [46, 46]).1
def readZ (l : List UInt8) : Int := numV (cut (cut l [32]).2.1 [46, 46]).2.1
theorem cut_at {c : UInt8} {sub w r : List UInt8} (h : c ∉ w) : cut (w ++ (c :: (sub ++ r))) (c :: sub) = (w, r, true) := by
  have hp : (c :: sub).isPrefixOf (c :: (sub ++ r)) = true := by
    rw [List.isPrefixOf_iff_prefix]
    exact ⟨r, by simp⟩
  have hi : index (w ++ (c :: (sub ++ r))) (c :: sub) = (w.length : Int) := index_first (by simp) (by unfold occAt; rw [List.drop_left]; exact hp) (fun j hj => by
    unfold occAt
    rw [List.drop_append_of_le_length (by omega), List.drop_eq_getElem_cons hj, List.cons_append]
    have : ¬ c = w[j] := fun e => h (e ▸ List.getElem_mem hj)
    simp [List.isPrefixOf, this])
  unfold cut
  rw [if_pos (by rw [hi]; omega), hi]
  simp
theorem dec_mem : ∀ (u : Nat) (b : UInt8), b ∈ decDigits u → 48 ≤ b.toNat ∧ b.toNat ≤ 57 := by
  intro u
  induction u using Nat.strongRecOn with
  | ind u ih =>
    intro b hb
    by_cases h : u < 10
    · rw [dec_small h, List.mem_singleton] at hb
      subst hb; rw [dig_nat h]; omega
    · rw [dec_big h, List.mem_append, List.mem_singleton] at hb
      rcases hb with hb | hb
      · exact ih (u / 10) (by omega) b hb
      · subst hb; rw [dig_nat (by omega)]; omega
theorem parse_dig' {k : Nat} (h : k < 10) (acc : Nat) (ha : acc < 100000000000) (r : List UInt8) : parseUint10 acc (UInt8.ofNat (48 + k) :: r) = parseUint10 (acc * 10 + k) r := by
  rw [parseUint10, dig_nat h, if_pos (by omega), if_neg (by omega), if_neg (by omega), show 48 + k - 48 = k by omega]
theorem parse_dec : ∀ (u : Nat) (r : List UInt8), u < 1000000000000 → parseUint10 0 (decDigits u ++ r) = parseUint10 u r := by
  intro u
  induction u using Nat.strongRecOn with
  | ind u ih =>
    intro r hu
    by_cases h : u < 10
    · rw [dec_small h, List.singleton_append, parse_dig' h 0 (by omega)]; simp
    · rw [dec_big h, List.append_assoc, ih (u / 10) (by omega) _ (by omega), List.singleton_append, parse_dig' (by omega) _ (by omega)]
      congr 1; omega
theorem dec_ne (u : Nat) : decDigits u ≠ [] := by
  by_cases h : u < 10
  · rw [dec_small h]; simp
  · rw [dec_big h]; simp
theorem num_dec {u : Nat} (hu : u < 1000000000000) : numV (decDigits u) = (u : Int) := by
  apply numV_ok
  have hp := parse_dec u [] hu
  rw [List.append_nil, parse_end] at hp
  have hm := dec_mem u
  have hn := dec_ne u
  cases hd : decDigits u with
  | nil => exact absurd hd hn
  | cons c r =>
    rw [hd] at hp hm
    have hc := hm c List.mem_cons_self
    rw [atoiAll_plain c r (by omega) (by omega)]
    unfold parseMag
    rw [if_neg (by simp), hp]
    unfold signless
    simp only
    rw [if_neg (by omega)]
theorem itoa_dec {n : Int} (h : 0 ≤ n) : itoa n = decDigits n.toNat := by unfold itoa; rw [if_neg (by omega)]
theorem read_text {k a z : Int} (hk : k = 1 ∨ k = 2 ∨ k = 3 ∨ k = 4 ∨ k = 5) (h0 : 0 ≤ a) (h1 : a < 1000000000000) (h2 : 0 ≤ z) (h3 : z < 1000000000000) : readK (textS k a z) = k ∧ readA (textS k a z) = a ∧ readZ (textS k a z) = z := by
  obtain ⟨k1, k2, _⟩ := kind_word hk
  have e1 : cut (textS k a z) [32] = (wordK k, itoa a ++ (46 :: 46 :: itoa z), true) := cut_at (sub := []) k2
  have e2 : cut (itoa a ++ (46 :: 46 :: itoa z)) [46, 46] = (itoa a, itoa z, true) := cut_at (c := 46) (sub := [46]) (r := itoa z) (by
    rw [itoa_dec h0]; intro hm
    have := (dec_mem _ _ hm).1
    simp at this)
  unfold readK readA readZ
  rw [e1]
  simp only
  rw [e2]
  simp only
  rw [k1, itoa_dec h0, itoa_dec h2, num_dec (by omega), num_dec (by omega)]
  exact ⟨rfl, by omega, by omega⟩
theorem show_text {k a z : Int} (h : okS k a z = true) : showS k a z = textS k a z := if_pos h
theorem show_back {k a z : Int} (h : okS k a z = true) : readK (showS k a z) = k ∧ readA (showS k a z) = a ∧ readZ (showS k a z) = z := by
  have := ok_bd h
  rw [show_text h]
  exact read_text (ok_kind h) (by omega) (by omega) (by omega) (by omega)
theorem num_bd (l : List UInt8) : -9223372036854775808 ≤ numV l ∧ numV l ≤ 9223372036854775807 := by
  unfold numV
  cases h : atoiAll l with
  | ok v => exact atoiAll_bounds h
  | «syntax» => simp
  | range => exact atoiSat_bounds l
end JM
end Go.Proofs.YtomhiganfmoceaaDoor
