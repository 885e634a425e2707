/-
  The order of two lists of bytes: the lesser byte at the first place where they part decides; a proper beginning stands ahead. No program in it.
-/
import Derived.WalkKit
import Derived.Lib.Strings
namespace Go.Proofs.YtpohofcfmllghaaDoor

def lexL : List UInt8 → List UInt8 → Int
  | [], [] => 0
  | [], _ :: _ => -1
  | _ :: _, [] => 1
  | a :: x, b :: y => if a.toNat < b.toNat then -1 else if b.toNat < a.toNat then 1 else lexL x y

theorem lexL_refl : ∀ x : List UInt8, lexL x x = 0
  | [] => rfl
  | a :: x => by simp [lexL, lexL_refl x]
theorem lexL_range : ∀ x y : List UInt8, lexL x y = -1 ∨ lexL x y = 0 ∨ lexL x y = 1
  | [], [] => by simp [lexL]
  | [], _ :: _ => by simp [lexL]
  | _ :: _, [] => by simp [lexL]
  | a :: x, b :: y => by
    unfold lexL
    split
    · simp
    split
    · simp
    · exact lexL_range x y
theorem lexL_turn : ∀ x y : List UInt8, lexL y x = -lexL x y
  | [], [] => by simp [lexL]
  | [], _ :: _ => by simp [lexL]
  | _ :: _, [] => by simp [lexL]
  | a :: x, b :: y => by
    unfold lexL
    by_cases h1 : a.toNat < b.toNat
    · rw [if_pos h1, if_neg (by omega), if_pos h1]; rfl
    · by_cases h2 : b.toNat < a.toNat
      · rw [if_pos h2, if_neg h1, if_pos h2]
      · rw [if_neg h2, if_neg h1, if_neg h1, if_neg h2]; exact lexL_turn x y
theorem lexL_zero : ∀ x y : List UInt8, lexL x y = 0 ↔ x = y
  | [], [] => by simp [lexL]
  | [], _ :: _ => by simp [lexL]
  | _ :: _, [] => by simp [lexL]
  | a :: x, b :: y => by
    unfold lexL
    by_cases h1 : a.toNat < b.toNat
    · rw [if_pos h1]; simp; intro h; subst h; omega
    · by_cases h2 : b.toNat < a.toNat
      · rw [if_neg h1, if_pos h2]; simp; intro h; subst h; omega
      · rw [if_neg h1, if_neg h2, lexL_zero x y]
        have : a = b := UInt8.toNat_inj.1 (by omega)
        simp [this]
theorem lexL_less : ∀ x y : List UInt8, Op.bytesLess x y = decide (lexL x y < 0)
  | [], [] => by simp [lexL, Op.bytesLess]
  | [], _ :: _ => by simp [lexL, Op.bytesLess]
  | _ :: _, [] => by simp [lexL, Op.bytesLess]
  | a :: x, b :: y => by
    unfold lexL Op.bytesLess
    rw [lexL_less x y]
    by_cases h1 : a.toNat < b.toNat
    · have h1' : a < b := UInt8.lt_iff_toNat_lt.2 h1
      simp [h1, h1']
    · have h1' : ¬ a < b := fun h => h1 (UInt8.lt_iff_toNat_lt.1 h)
      by_cases h2 : b.toNat < a.toNat
      · have h3 : ¬ a = b := fun h => by subst h; omega
        simp [h1, h1', h2, h3]
      · have h3 : a = b := UInt8.toNat_inj.1 (by omega)
        subst h3
        simp
theorem lexL_app : ∀ p x y : List UInt8, lexL (p ++ x) (p ++ y) = lexL x y
  | [], _, _ => rfl
  | c :: p, x, y => by simp [lexL, lexL_app p x y]
theorem lexL_at {s t : List UInt8} {k : Nat} (h : s.take k = t.take k) : lexL s t = lexL (s.drop k) (t.drop k) := by
  conv => lhs; rw [← List.take_append_drop k s, ← List.take_append_drop k t, h]
  exact lexL_app _ _ _

/-- The order of two strings. -/
def cmpS (s t : ByteArray) : Int := lexL s.data.toList t.data.toList
theorem len_data (s : ByteArray) : s.data.toList.length = s.size := by simp
theorem drop_cons {s : ByteArray} {k : Nat} (h : k < s.size) : s.data.toList.drop k = s[k] :: s.data.toList.drop (k + 1) := by
  rw [List.drop_eq_getElem_cons (by rw [len_data]; exact h)]; rfl
theorem cmpS_lt {s t : ByteArray} {k : Nat} (h : s.data.toList.take k = t.data.toList.take k) (h1 : k < s.size) (h2 : k < t.size) (hab : s[k].toNat < t[k].toNat) : cmpS s t = -1 := by
  unfold cmpS; rw [lexL_at h, drop_cons h1, drop_cons h2]; unfold lexL; rw [if_pos hab]
theorem cmpS_gt {s t : ByteArray} {k : Nat} (h : s.data.toList.take k = t.data.toList.take k) (h1 : k < s.size) (h2 : k < t.size) (hab : t[k].toNat < s[k].toNat) : cmpS s t = 1 := by
  unfold cmpS; rw [lexL_at h, drop_cons h1, drop_cons h2]; unfold lexL; rw [if_neg (by omega), if_pos hab]
theorem take_both {s t : ByteArray} {k : Nat} (h : s.data.toList.take k = t.data.toList.take k) (h1 : k < s.size) (h2 : k < t.size) (hab : s[k].toNat = t[k].toNat) : s.data.toList.take (k + 1) = t.data.toList.take (k + 1) := by
  rw [List.take_succ_eq_append_getElem (by rw [len_data]; exact h1), List.take_succ_eq_append_getElem (by rw [len_data]; exact h2), h]
  have e : s[k] = t[k] := UInt8.toNat_inj.1 hab
  have e' : s.data.toList[k]'(by rw [len_data]; exact h1) = t.data.toList[k]'(by rw [len_data]; exact h2) := e
  rw [e']
theorem cmpS_end {s t : ByteArray} {k : Nat} (h : s.data.toList.take k = t.data.toList.take k) (h1 : k ≤ s.size) (h2 : k ≤ t.size) (hk : ¬ k < s.size ∨ ¬ k < t.size) :
    cmpS s t = if s.size < t.size then -1 else if t.size < s.size then 1 else 0 := by
  unfold cmpS; rw [lexL_at h]
  have l1 : (s.data.toList.drop k).length = s.size - k := by rw [List.length_drop, len_data]
  have l2 : (t.data.toList.drop k).length = t.size - k := by rw [List.length_drop, len_data]
  generalize s.data.toList.drop k = x at l1 ⊢
  generalize t.data.toList.drop k = y at l2 ⊢
  match x, y, l1, l2 with
  | [], [], l1, l2 => simp at l1 l2; rw [if_neg (by omega), if_neg (by omega)]; rfl
  | [], _ :: _, l1, l2 => simp at l1 l2; rw [if_pos (by omega)]; rfl
  | _ :: _, [], l1, l2 => simp at l1 l2; rw [if_neg (by omega), if_pos (by omega)]; rfl
  | _ :: _, _ :: _, l1, l2 => simp at l1 l2; omega

/-- The order of two values: by kind, by number, by text. -/
def cmpV (k n : Int) (s : ByteArray) (l m : Int) (t : ByteArray) : Int :=
  if k < l then -1 else if l < k then 1 else if n < m then -1 else if m < n then 1 else cmpS s t
theorem cmpV_turn (k n : Int) (s : ByteArray) (l m : Int) (t : ByteArray) : cmpV l m t k n s = -cmpV k n s l m t := by
  unfold cmpV cmpS
  rw [lexL_turn]
  repeat' split
  all_goals first | omega | rfl
theorem cmpV_range (k n : Int) (s : ByteArray) (l m : Int) (t : ByteArray) : cmpV k n s l m t = -1 ∨ cmpV k n s l m t = 0 ∨ cmpV k n s l m t = 1 := by
  unfold cmpV cmpS
  have := lexL_range s.data.toList t.data.toList
  repeat' split
  all_goals first | omega | simp
theorem cmpS_zero (s t : ByteArray) : cmpS s t = 0 ↔ s = t := by
  unfold cmpS; rw [lexL_zero]
  constructor
  · intro h
    cases s with | mk a => cases t with | mk b => simp at h; rw [h]
  · intro h; rw [h]
theorem cmpV_zero (k n : Int) (s : ByteArray) (l m : Int) (t : ByteArray) : cmpV k n s l m t = 0 ↔ k = l ∧ n = m ∧ s = t := by
  unfold cmpV
  rw [← cmpS_zero s t]
  repeat' split
  all_goals omega
end Go.Proofs.YtpohofcfmllghaaDoor
