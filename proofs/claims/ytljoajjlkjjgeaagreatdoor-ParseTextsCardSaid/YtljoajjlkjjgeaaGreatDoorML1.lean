/-
  The tokens of a text, as a function on lists of bytes: no program in it.
  A token at the beginning of a list of bytes, and all tokens: no program in it.
  Tokens written down with gaps between are read again; two texts put together: no program in it.
-/
import Derived.Test.YtljoajjlkjjgeaaGreatDoorMV3
import Derived.Lib.AtoiAllCases
namespace Go.Proofs.YtljoajjlkjjgeaaGreatDoor
namespace LM

def lowP (c : UInt8) : Bool := decide (97 ≤ c.toNat) && decide (c.toNat ≤ 122)
def digP (c : UInt8) : Bool := decide (48 ≤ c.toNat) && decide (c.toNat ≤ 57)
def worP (c : UInt8) : Bool := lowP c || digP c || c == 95
/-- So many bytes at the beginning pass. -/
def pre (p : UInt8 → Bool) : List UInt8 → Nat
 | [] => 0
 | c :: r => if p c then pre p r + 1 else 0
/-- So many bytes at the beginning pass a test that remembers one bit. -/
def preS (f : Bool → UInt8 → Bool × Bool) : Bool → List UInt8 → Nat
 | _, [] => 0
 | b, c :: r => if (f b c).1 then preS f (f b c).2 r + 1 else 0
def plain (p : UInt8 → Bool) (b : Bool) (c : UInt8) : Bool × Bool := (p c, b)
def skB (b : Bool) (c : UInt8) : Bool := if c = 35 then true else if c = 10 then false else b
def skF (b : Bool) (c : UInt8) : Bool × Bool := (skB b c || c == 32 || c == 9 || c == 10, skB b c)
def qtF (b : Bool) (c : UInt8) : Bool × Bool := (b || c != 34, c == 92 && !b)
abbrev gap (l : List UInt8) : Nat := preS skF false l
theorem pre_plain (p : UInt8 → Bool) (b : Bool) : ∀ l, preS (plain p) b l = pre p l
 | [] => rfl
 | c :: r => by
  have ih := pre_plain p b r
  unfold preS pre plain
  simp only
  rw [show (fun b c => (p c, b)) = plain p from rfl, ih]
theorem pre_le (p : UInt8 → Bool) : ∀ l, pre p l ≤ l.length
 | [] => Nat.le_refl _
 | c :: r => by
  have := pre_le p r
  unfold pre
  split
  ·simp only [List.length_cons]; omega
  ·omega
theorem preS_le (f : Bool → UInt8 → Bool × Bool) : ∀ b l, preS f b l ≤ l.length
 | _, [] => Nat.le_refl _
 | b, c :: r => by
  have := preS_le f (f b c).2 r
  unfold preS
  split
  ·simp only [List.length_cons]; omega
  ·omega
theorem pre_all (p : UInt8 → Bool) : ∀ l : List UInt8, (l.take (pre p l)).all p = true
 | [] => rfl
 | c :: r => by
  have := pre_all p r
  unfold pre
  split
  ·rename_i h
   rw [List.take_succ_cons, List.all_cons, h, this]; rfl
  ·rfl
/-- A run that ends at a byte which does not pass. -/
theorem pre_run {p : UInt8 → Bool} : ∀ {l : List UInt8} {x : UInt8} {r : List UInt8}, l.all p = true → p x = false → pre p (l ++ x :: r) = l.length
 | [], x, r, _, hx => by
  show pre p (x :: r) = 0
  unfold pre; rw [hx]; rfl
 | c :: l, x, r, h, hx => by
  rw [List.all_cons, Bool.and_eq_true] at h
  show pre p (c :: (l ++ x :: r)) = _
  unfold pre
  rw [if_pos h.1, pre_run h.2 hx, List.length_cons]
/-- What stands behind an end of line changes no run. -/
theorem pre_cut {p : UInt8 → Bool} {z : UInt8} (hz : p z = false) : ∀ (l r : List UInt8), pre p (l ++ z :: r) = pre p l
 | [], r => by
  show pre p (z :: r) = 0
  unfold pre; rw [hz]; rfl
 | c :: l, r => by
  show pre p (c :: (l ++ z :: r)) = _
  unfold pre
  rw [pre_cut hz l r]

/-- The text behind an opening quote, and how many bytes it has with the closing one. -/
def quo : List UInt8 → Option (List UInt8 × Nat)
 | [] => none
 | [c] => if c = 34 then some ([], 1) else none
 | c :: d :: r => if c = 34 then some ([], 1) else if okByte c = false then none else if c = 92 then (if d = 34 ∨ d = 92 then (quo r).map (fun x => (d :: x.1, x.2 + 2)) else none)
   else (quo (d :: r)).map (fun x => (c :: x.1, x.2 + 1))
def litL (r : List UInt8) : Option (List UInt8 × Nat) := match quo r with
 | some (t, m) => if t.length ≤ 64 then some (t, m) else none
 | none => none
theorem quo_34 (r : List UInt8) : quo (34 :: r) = some ([], 1) := by cases r <;> simp [quo]
theorem quo_one {c : UInt8} (r : List UInt8) (h : okByte c = true) (h1 : c ≠ 34) (h2 : c ≠ 92) : quo (c :: r) = (quo r).map fun x => (c :: x.1, x.2 + 1) := by
 cases r with
 | nil => simp [quo, h1]
 | cons d r => rw [quo, if_neg h1, if_neg (by rw [h]; simp), if_neg h2]
theorem quo_two {d : UInt8} (r : List UInt8) (h : d = 34 ∨ d = 92) : quo (92 :: d :: r) = (quo r).map fun x => (d :: x.1, x.2 + 2) := by
 rw [quo, if_neg (by decide), if_neg (by decide), if_pos rfl, if_pos h]
theorem quo_esc : ∀ (t r : List UInt8), t.all okByte = true → quo (esc t ++ 34 :: r) = some (t, (esc t).length + 1)
 | [], r, _ => quo_34 r
 | c :: t, r, h => by
  rw [List.all_cons, Bool.and_eq_true] at h
  have ih := quo_esc t r h.2
  rw [esc_cons]
  by_cases h1 : c = 34 ∨ c = 92
  ·have e : escByte c = [92, c] := by unfold escByte; rw [if_pos h1]
   rw [e]
   show quo (92 :: c :: (esc t ++ 34 :: r)) = _
   rw [quo_two _ h1, ih]
   simp
  ·have e : escByte c = [c] := by unfold escByte; rw [if_neg h1]
   rw [e]
   show quo (c :: (esc t ++ 34 :: r)) = _
   rw [quo_one _ h.1 (fun e => h1 (Or.inl e)) (fun e => h1 (Or.inr e)), ih]
   simp
theorem quo_some : ∀ (l t : List UInt8) (m : Nat), quo l = some (t, m) → t.all okByte = true ∧ (∃ r, l = esc t ++ 34 :: r) ∧ m = (esc t).length + 1
 | [], t, m, h => by simp [quo] at h
 | [c], t, m, h => by
  unfold quo at h
  split at h
  ·rename_i hc
   injection h with h; injection h with h1 h2
   subst h1; subst h2; subst hc
   exact ⟨rfl, ⟨[], rfl⟩, rfl⟩
  ·cases h
 | c :: d :: r, t, m, h => by
  by_cases h1 : c = 34
  ·subst h1
   rw [quo_34] at h
   injection h with h; injection h with h1 h2
   subst h1; subst h2
   exact ⟨rfl, ⟨d :: r, rfl⟩, rfl⟩
  by_cases h2 : okByte c = false
  ·rw [quo, if_neg h1, if_pos h2] at h; cases h
  by_cases h3 : c = 92
  ·subst h3
   by_cases h4 : d = 34 ∨ d = 92
   ·rw [quo_two _ h4] at h
    cases hq : quo r with
    | none => rw [hq] at h; cases h
    | some x =>
     rw [hq] at h
     obtain ⟨t', m'⟩ := x
     obtain ⟨i1, ⟨r', i2⟩, i3⟩ := quo_some r t' m' hq
     injection h with h; injection h with h5 h6
     subst h5; subst h6
     have e : escByte d = [92, d] := by unfold escByte; rw [if_pos h4]
     refine ⟨?_, ⟨r', ?_⟩, ?_⟩
     ·rw [List.all_cons, i1]; rcases h4 with rfl | rfl <;> rfl
     ·rw [esc_cons, e, i2]; rfl
     ·rw [esc_cons, e, i3]; simp
   ·rw [quo, if_neg h1, if_neg h2, if_pos rfl, if_neg h4] at h; cases h
  ·have h2' : okByte c = true := by simpa using h2
   rw [quo_one _ h2' h1 h3] at h
   cases hq : quo (d :: r) with
   | none => rw [hq] at h; cases h
   | some x =>
    rw [hq] at h
    obtain ⟨t', m'⟩ := x
    obtain ⟨i1, ⟨r', i2⟩, i3⟩ := quo_some (d :: r) t' m' hq
    injection h with h; injection h with h5 h6
    subst h5; subst h6
    have e : escByte c = [c] := by unfold escByte; rw [if_neg (by rintro (h | h); exact h1 h; exact h3 h)]
    refine ⟨?_, ⟨r', ?_⟩, ?_⟩
    ·rw [List.all_cons, i1, h2']; rfl
    ·rw [esc_cons, e, i2]; rfl
    ·rw [esc_cons, e, i3]; simp
theorem quo_bad {z : UInt8} (hz : okByte z = false) (hq : z ≠ 34) (r : List UInt8) : quo (z :: r) = none := by
 cases r with
 | nil => simp [quo, hq]
 | cons d r => rw [quo, if_neg hq, if_pos hz]
/-- What stands behind an end of line changes no text between quotes. -/
theorem quo_cut (z : UInt8) (hz : okByte z = false) (hq : z ≠ 34) (hq2 : z ≠ 92) : ∀ (l r : List UInt8), quo (l ++ z :: r) = quo l
 | [], r => by rw [List.nil_append, quo_bad hz hq]; rfl
 | [c], r => by
  show quo (c :: z :: r) = _
  by_cases h1 : c = 34
  ·subst h1; rw [quo_34, quo_34]
  ·have h2 : ¬ (z = 34 ∨ z = 92) := by rintro (h | h); exact hq h; exact hq2 h
   have hb := quo_bad hz hq r
   simp [quo, h1, h2, hb]
 | c :: d :: l, r => by
  show quo (c :: d :: (l ++ z :: r)) = _
  rw [quo, quo, quo_cut z hz hq hq2 l r, show d :: (l ++ z :: r) = (d :: l) ++ z :: r from rfl, quo_cut z hz hq hq2 (d :: l) r]
theorem lit_cut (z : UInt8) (hz : okByte z = false) (hq : z ≠ 34) (hq2 : z ≠ 92) (l r : List UInt8) : litL (l ++ z :: r) = litL l := by
 unfold litL; rw [quo_cut z hz hq hq2]
theorem lit_some {l t : List UInt8} {m : Nat} (h : litL l = some (t, m)) : t.all okByte = true ∧ t.length ≤ 64 ∧ (∃ r, l = esc t ++ 34 :: r) ∧ m = (esc t).length + 1 := by
 unfold litL at h
 cases hq : quo l with
 | none => rw [hq] at h; cases h
 | some x =>
  obtain ⟨t', m'⟩ := x
  rw [hq] at h
  simp only at h
  split at h
  ·rename_i hl
   injection h with h; injection h with h1 h2
   subst h1; subst h2
   obtain ⟨i1, i2, i3⟩ := quo_some _ _ _ hq
   exact ⟨i1, hl, i2, i3⟩
  ·cases h
theorem lit_esc {t : List UInt8} (r : List UInt8) (h : t.all okByte = true) (hl : t.length ≤ 64) : litL (esc t ++ 34 :: r) = some (t, (esc t).length + 1) := by
 unfold litL; rw [quo_esc t r h]; simp only; rw [if_pos hl]
/-- The closing quote, as the program looks for it. -/
theorem qt_esc : ∀ (t r : List UInt8), preS qtF false (esc t ++ 34 :: r) = (esc t).length
 | [], r => rfl
 | c :: t, r => by
  have ih := qt_esc t r
  rw [esc_cons]
  by_cases h1 : c = 34 ∨ c = 92
  ·have e : escByte c = [92, c] := by unfold escByte; rw [if_pos h1]
   rw [e]
   show preS qtF false (92 :: c :: (esc t ++ 34 :: r)) = _
   have e1 : qtF false 92 = (true, true) := rfl
   have e2 : qtF true c = (true, false) := by unfold qtF; simp
   rw [preS, e1, if_pos rfl, preS, e2, if_pos rfl, ih]
   simp
  ·have e : escByte c = [c] := by unfold escByte; rw [if_neg h1]
   rw [e]
   show preS qtF false (c :: (esc t ++ 34 :: r)) = _
   have h2 : c ≠ 34 := fun e => h1 (Or.inl e)
   have h3 : c ≠ 92 := fun e => h1 (Or.inr e)
   have e1 : qtF false c = (true, false) := by unfold qtF; simp [h2, h3]
   rw [preS, e1, if_pos rfl, ih]
   simp

/-- The number of some digits. -/
def valN (l : List UInt8) : Nat := l.foldl (fun a c => a * 10 + (c.toNat - 48)) 0
theorem fold_le : ∀ (l : List UInt8) (a : Nat), a ≤ l.foldl (fun a c => a * 10 + (c.toNat - 48)) a
 | [], a => Nat.le_refl _
 | c :: r, a => by
  have := fold_le r (a * 10 + (c.toNat - 48))
  rw [List.foldl_cons]; omega
theorem parse_fold : ∀ (l : List UInt8) (a : Nat), a < 18446744073709551616 → l.all digP = true →
  Lib.parseUint10 a l = if l.foldl (fun a c => a * 10 + (c.toNat - 48)) a < 18446744073709551616 then .ok (l.foldl (fun a c => a * 10 + (c.toNat - 48)) a) else .range
 | [], a, ha, _ => by rw [Lib.parseUint10, List.foldl_nil, if_pos ha]
 | c :: r, a, ha, h => by
  rw [List.all_cons, Bool.and_eq_true] at h
  have hc : 48 ≤ c.toNat ∧ c.toNat ≤ 57 := by have := h.1; unfold digP at this; simpa using this
  have hl := fold_le r (a * 10 + (c.toNat - 48))
  rw [Lib.parseUint10, if_pos hc, List.foldl_cons]
  by_cases h1 : 1844674407370955162 ≤ a
  ·rw [if_pos h1, if_neg (by omega)]
  rw [if_neg h1]
  by_cases h2 : 18446744073709551616 ≤ a * 10 + (c.toNat - 48)
  ·rw [if_pos h2, if_neg (by omega)]
  rw [if_neg h2, parse_fold r _ (by omega) h.2]
/-- What Atoi tells of digits. -/
theorem atoi_dig {l : List UInt8} (hn : l ≠ []) (h : l.all digP = true) : Lib.atoiAll l = if valN l < 9223372036854775808 then .ok (valN l : Int) else .range := by
 cases l with
 | nil => exact absurd rfl hn
 | cons c r =>
  have hc : 48 ≤ c.toNat ∧ c.toNat ≤ 57 := by
   rw [List.all_cons, Bool.and_eq_true] at h
   have := h.1; unfold digP at this; simpa using this
  rw [Lib.atoiAll_plain c r (by omega) (by omega)]
  unfold Lib.parseMag
  rw [if_neg (by simp), parse_fold _ 0 (by omega) h]
  show Lib.signless (if valN (c :: r) < _ then .ok (valN (c :: r)) else .range) = _
  by_cases h1 : valN (c :: r) < 18446744073709551616
  ·rw [if_pos h1]
   unfold Lib.signless
   simp only
   by_cases h2 : valN (c :: r) < 9223372036854775808
   ·rw [if_neg (by omega), if_pos h2]
   ·rw [if_pos (by omega), if_neg h2]
  ·rw [if_neg h1, if_neg (by omega)]; rfl
theorem val_snoc (l : List UInt8) (c : UInt8) : valN (l ++ [c]) = valN l * 10 + (c.toNat - 48) := by unfold valN; rw [List.foldl_append]; rfl
theorem dig_back {c : UInt8} (h : digP c = true) : dig (c.toNat - 48) = c := by
 unfold digP at h
 simp only [Bool.and_eq_true, decide_eq_true_eq] at h
 unfold dig
 apply UInt8.toNat_inj.1
 rw [UInt8.toNat_ofNat_of_lt' (by show _ < 256; omega)]
 omega
/-- Digits without a zero ahead are the text of their number. -/
theorem dec_val : ∀ (n : Nat) (l : List UInt8), l.length = n → l ≠ [] → l.all digP = true → (l.head? ≠ some 48 ∨ l.length = 1) → Lib.decDigits (valN l) = l ∧ (l.head? ≠ some 48 → 0 < valN l)
 | 0, l, h0, hn, _, _ => absurd (List.eq_nil_of_length_eq_zero h0) hn
 | n + 1, l, h0, hn, h, hz => by
  obtain ⟨l', c, rfl⟩ : ∃ l' c, l = l' ++ [c] := ⟨l.dropLast, l.getLast hn, (List.dropLast_concat_getLast hn).symm⟩
  rw [List.all_append, Bool.and_eq_true] at h
  have hc : digP c = true := by have := h.2; simpa using this
  have hc' : 48 ≤ c.toNat ∧ c.toNat ≤ 57 := by have := hc; unfold digP at this; simpa using this
  rw [val_snoc]
  by_cases hl : l' = []
  ·subst hl
   have e : valN [] = 0 := rfl
   rw [e, Nat.zero_mul, Nat.zero_add, dec_small (by omega), dig_back hc]
   refine ⟨rfl, fun h0 => ?_⟩
   have : c ≠ 48 := fun e => h0 (by subst e; rfl)
   have : c.toNat ≠ 48 := fun e => this (UInt8.toNat_inj.1 e)
   omega
  ·have h1 : (l' ++ [c]).head? = l'.head? := by cases l' with
    | nil => exact absurd rfl hl
    | cons a r => rfl
   have hh : l'.head? ≠ some 48 := by
    rcases hz with hz | hz
    ·rw [← h1]; exact hz
    ·exfalso
     rw [List.length_append, List.length_singleton] at hz
     exact hl (List.eq_nil_of_length_eq_zero (by omega))
   obtain ⟨i1, i2⟩ := dec_val n l' (by rw [List.length_append, List.length_singleton] at h0; omega) hl h.1 (Or.inl hh)
   have hp := i2 hh
   have e1 : (valN l' * 10 + (c.toNat - 48)) / 10 = valN l' := by omega
   have e2 : dig (valN l' * 10 + (c.toNat - 48)) = c := by
    have : dig (valN l' * 10 + (c.toNat - 48)) = dig (c.toNat - 48) := by
     unfold dig
     have : (valN l' * 10 + (c.toNat - 48)) % 10 = (c.toNat - 48) % 10 := by omega
     rw [this]
    rw [this, dig_back hc]
   refine ⟨by rw [dec_big (by omega), e1, e2, i1], fun _ => by omega⟩
theorem dec_all : ∀ (k u : Nat), u ≤ k → (Lib.decDigits u).all digP = true ∧ ((Lib.decDigits u).head? = some 48 → u = 0)
 | k, u, hk => by
  have hd := dig_val u
  have hp : digP (dig u) = true := by unfold digP; simp; omega
  by_cases h : u < 10
  ·rw [dec_small h]
   refine ⟨by rw [List.all_cons, hp]; rfl, fun e => ?_⟩
   have : dig u = 48 := by simpa using e
   rw [this] at hd
   have : ((48 : UInt8).toNat : Int) = 48 := rfl
   omega
  ·match k, hk with
   | 0, hk => omega
   | k + 1, hk =>
    obtain ⟨i1, i2⟩ := dec_all k (u / 10) (by omega)
    rw [dec_big h]
    refine ⟨by rw [List.all_append, i1, List.all_cons, hp]; rfl, fun e => ?_⟩
    have hn := dec_ne (u / 10)
    have : (Lib.decDigits (u / 10)).head? = some 48 := by
     cases hx : Lib.decDigits (u / 10) with
     | nil => exact absurd hx hn
     | cons a r => rw [hx] at e; exact e
    have := i2 this
    omega
theorem val_dec : ∀ (k u : Nat), u ≤ k → valN (Lib.decDigits u) = u
 | k, u, hk => by
  have hd := dig_val u
  by_cases h : u < 10
  ·rw [dec_small h]
   show 0 * 10 + ((dig u).toNat - 48) = u
   omega
  ·match k, hk with
   | 0, hk => omega
   | k + 1, hk =>
    rw [dec_big h, val_snoc, val_dec k (u / 10) (by omega)]
    omega
theorem dec_head1 {u : Nat} (h : (Lib.decDigits u).head? = some 48) : (Lib.decDigits u).length = 1 := by
 have := (dec_all u u (Nat.le_refl _)).2 h
 subst this
 rw [dec_small (by omega)]; rfl
end LM
end Go.Proofs.YtljoajjlkjjgeaaGreatDoor
namespace Go.Proofs.YtljoajjlkjjgeaaGreatDoor
namespace LM

/-- What stands at the beginning: a token (kind, text, number, length), or an error. -/
inductive Rd where
 | ok (k : Int) (t : List UInt8) (n : Int) (m : Nat)
 | no (e : Int)
def wordR (l : List UInt8) : Rd := if 16 < pre worP l then .no 50 else .ok 1 (l.take (pre worP l)) 0 (pre worP l)
def numR (l : List UInt8) : Rd := if l.head? = some 48 ∧ 1 < pre digP l then .no 50 else if valN (l.take (pre digP l)) < 9223372036854775808 then .ok 2 [] (valN (l.take (pre digP l)) : Nat) (pre digP l) else .no 10
def litR (l : List UInt8) : Rd := match litL l.tail with
 | some (t, m) => .ok 3 t 0 (m + 1)
 | none => .no 50
/-- The signs, those of two bytes ahead. -/
def signsL : List (List UInt8) := [[33, 61], [60, 61], [62, 61], [46, 46], [40], [41], [44], [59], [58], [124], [43], [45], [42], [47], [37], [61], [60], [62]]
def sgnL (l : List UInt8) : Option (List UInt8) := signsL.find? fun g => g.isPrefixOf l
def sgnR (l : List UInt8) : Rd := match sgnL l with
 | some g => .ok 4 g 0 g.length
 | none => .no 50
def tokL : List UInt8 → Rd
 | [] => .no 50
 | c :: r => if lowP c then wordR (c :: r) else if digP c then numR (c :: r) else if c = 34 then litR (c :: r) else sgnR (c :: r)

structure Tk where
 k : Int
 t : List UInt8
 n : Int
 at' : Nat

/-- Tokens, the place and the error. -/
abbrev Res := List Tk × Nat × Int
/-- Tokens ahead of what comes. -/
def joinT (L : List Tk) (x : Res) : Res := if x.2.2 = 0 then (L ++ x.1, x.2.1, 0) else ([], x.2.1, x.2.2)
/-- The tokens of what stands behind a gap. -/
def lexF : Nat → List UInt8 → Nat → Res
 | 0, _, a => ([], a, 0)
 | f + 1, l, a => if l = [] then ([], a, 0) else match tokL l with
  | .no e => ([], a, e)
  | .ok k t n m => joinT [⟨k, t, n, a⟩] (lexF f ((l.drop m).drop (gap (l.drop m))) (a + m + gap (l.drop m)))
def lexA (l : List UInt8) : Res := if 16384 < l.length then ([], 0, 31) else lexF (l.length + 1) (l.drop (gap l)) (gap l)

theorem joinT_nil (x : Res) (h : x.2.2 = 0 ∨ x.1 = []) : joinT [] x = x := by
 obtain ⟨a, b, c⟩ := x
 unfold joinT
 simp only at h ⊢
 split
 ·rename_i h0; rw [h0]; rfl
 ·rename_i h0; rcases h with h | h
  ·exact absurd h h0
  ·rw [h]
theorem joinT_join (L M : List Tk) (x : Res) : joinT L (joinT M x) = joinT (L ++ M) x := by
 obtain ⟨a, b, c⟩ := x
 unfold joinT
 simp only
 by_cases h : c = 0
 ·simp [h]
 ·simp [h]
theorem joinT_ok {L : List Tk} {x : Res} (h : x.2.2 = 0) : joinT L x = (L ++ x.1, x.2.1, 0) := if_pos h
theorem joinT_no {L : List Tk} {x : Res} (h : ¬ x.2.2 = 0) : joinT L x = ([], x.2.1, x.2.2) := if_neg h
theorem joinT_e (L : List Tk) (x : Res) : (joinT L x).2.2 = x.2.2 := by
 unfold joinT; split
 ·rename_i h; rw [h]
 ·rfl

/-- The text of a token. -/
def showT (k : Int) (t : List UInt8) (n : Int) : List UInt8 := if k = 2 then Lib.itoa n else if k = 3 then quoteL t else t
/-- A byte that may stand right behind any token: a blank, a tab, an end of line, a remark. -/
def sepB (c : UInt8) : Bool := c == 32 || c == 9 || c == 10 || c == 35

theorem low_not {c : UInt8} (h : lowP c = true) : digP c = false := by unfold lowP at h; unfold digP; simp at h ⊢; omega
theorem wor_low {c : UInt8} (h : lowP c = true) : worP c = true := by unfold worP; rw [h]; rfl
theorem pre_pos {p : UInt8 → Bool} {c : UInt8} {r : List UInt8} (h : p c = true) : 0 < pre p (c :: r) := by unfold pre; rw [if_pos h]; omega
theorem take_pre_ne {p : UInt8 → Bool} {c : UInt8} {r : List UInt8} (h : p c = true) : (c :: r).take (pre p (c :: r)) ≠ [] := by
 have := pre_pos (r := r) h
 obtain ⟨n, hn⟩ : ∃ n, pre p (c :: r) = n + 1 := ⟨pre p (c :: r) - 1, by omega⟩
 rw [hn]; simp
theorem sep_cases {x : UInt8} (h : sepB x = true) : x = 32 ∨ x = 9 ∨ x = 10 ∨ x = 35 := by
 unfold sepB at h; simp at h
 rcases h with ((h | h) | h) | h <;> simp [h]
theorem sgn_some {l g : List UInt8} (h : sgnL l = some g) : g ∈ signsL ∧ g.isPrefixOf l = true := ⟨List.mem_of_find?_eq_some h, by simpa using List.find?_some h⟩
theorem sgn_facts : ∀ g ∈ signsL, g ≠ [] ∧ (∀ c ∈ g, sepB c = false ∧ c ≠ 34 ∧ lowP c = false ∧ digP c = false) := by decide
/-- The sign at the beginning, wherever a separator follows. -/
theorem sgn_back : ∀ g ∈ signsL, ∀ (x : UInt8) (r : List UInt8), sepB x = true → sgnL (g ++ x :: r) = some g := by
 intro g hg x r hx
 unfold signsL at hg
 simp only [List.mem_cons, List.not_mem_nil, or_false] at hg
 rcases sep_cases hx with rfl | rfl | rfl | rfl <;> rcases hg with rfl | rfl | rfl | rfl | rfl | rfl | rfl | rfl | rfl | rfl | rfl | rfl | rfl | rfl | rfl | rfl | rfl | rfl <;> simp [sgnL, signsL, List.find?, List.isPrefixOf]
theorem prefix_cut {z : UInt8} : ∀ (g l r : List UInt8), z ∉ g → g.isPrefixOf (l ++ z :: r) = g.isPrefixOf l
 | [], l, r, _ => by simp [List.isPrefixOf]
 | c :: g, [], r, h => by
  have : ¬ c = z := fun e => h (by rw [e]; exact List.mem_cons_self)
  simp [List.isPrefixOf, this]
 | c :: g, d :: l, r, h => by
  have := prefix_cut g l r (fun e => h (List.mem_cons_of_mem _ e))
  show (c == d && g.isPrefixOf (l ++ z :: r)) = (c == d && g.isPrefixOf l)
  rw [this]
theorem find_congr {p q : List UInt8 → Bool} : ∀ L : List (List UInt8), (∀ g ∈ L, p g = q g) → L.find? p = L.find? q
 | [], _ => rfl
 | a :: L, h => by
  rw [List.find?_cons, List.find?_cons, h a List.mem_cons_self, find_congr L (fun g hg => h g (List.mem_cons_of_mem _ hg))]
theorem sgn_cut {z : UInt8} (hz : sepB z = true) (l r : List UInt8) : sgnL (l ++ z :: r) = sgnL l := by
 unfold sgnL
 refine find_congr _ fun g hg => ?_
 exact prefix_cut g l r (fun h => by have := ((sgn_facts g hg).2 z h).1; rw [hz] at this; cases this)

/-- What a token is, and what of the text it takes. -/
theorem tok_some {l : List UInt8} {k n : Int} {t : List UInt8} {m : Nat} (h : tokL l = .ok k t n m) :
  0 < m ∧ m ≤ l.length ∧ l.take m = showT k t n ∧ (k = 1 ∨ k = 2 ∨ k = 3 ∨ k = 4) ∧ 0 ≤ n ∧ n ≤ 9223372036854775807 ∧ t.length ≤ 64 ∧ (∀ x r, sepB x = true → tokL (showT k t n ++ x :: r) = .ok k t n m) ∧ (k = 3 → t.all okByte = true) := by
 cases l with
 | nil => cases h
 | cons c r =>
  unfold tokL at h
  simp only at h
  by_cases h1 : lowP c = true
  ·rw [if_pos h1] at h
   unfold wordR at h
   by_cases h2 : 16 < pre worP (c :: r)
   ·rw [if_pos h2] at h; cases h
   rw [if_neg h2] at h
   injection h with e1 e2 e3 e4
   subst e1; subst e3; subst e4
   have hp := pre_pos (r := r) (wor_low h1)
   have hl := pre_le worP (c :: r)
   have ha := pre_all worP (c :: r)
   have ht : t.length = pre worP (c :: r) := by rw [← e2, List.length_take]; omega
   have hs : showT 1 t 0 = t := by unfold showT; simp
   refine ⟨hp, hl, by rw [hs, e2], Or.inl rfl, by omega, by omega, by omega, fun x q hx => ?_, fun h => by omega⟩
   rw [hs]
   have hw : worP x = false := by rcases sep_cases hx with rfl | rfl | rfl | rfl <;> rfl
   rw [e2] at ha
   have hr : pre worP (t ++ x :: q) = t.length := pre_run ha hw
   obtain ⟨t', e⟩ : ∃ t', t = c :: t' := by
    obtain ⟨j, hj⟩ : ∃ j, pre worP (c :: r) = j + 1 := ⟨pre worP (c :: r) - 1, by omega⟩
    rw [hj, List.take_succ_cons] at e2
    exact ⟨_, e2.symm⟩
   have : tokL (t ++ x :: q) = wordR (t ++ x :: q) := by rw [e]; show tokL (c :: (t' ++ x :: q)) = _; unfold tokL; simp only; rw [if_pos h1]; rfl
   rw [this]
   unfold wordR
   rw [hr, if_neg (by omega), List.take_left, ht]
  rw [if_neg h1] at h
  by_cases h2 : digP c = true
  ·rw [if_pos h2] at h
   unfold numR at h
   by_cases h3 : (c :: r).head? = some 48 ∧ 1 < pre digP (c :: r)
   ·rw [if_pos h3] at h; cases h
   rw [if_neg h3] at h
   by_cases h4 : valN ((c :: r).take (pre digP (c :: r))) < 9223372036854775808
   ·rw [if_pos h4] at h
    injection h with e1 e2 e3 e4
    subst e1; subst e2
    have hp := pre_pos (r := r) h2
    have hl := pre_le digP (c :: r)
    have ha := pre_all digP (c :: r)
    have hne := take_pre_ne (r := r) h2
    have hlen : ((c :: r).take (pre digP (c :: r))).length = pre digP (c :: r) := by rw [List.length_take]; omega
    have hhd : ((c :: r).take (pre digP (c :: r))).head? = some c := by
     obtain ⟨j, hj⟩ : ∃ j, pre digP (c :: r) = j + 1 := ⟨pre digP (c :: r) - 1, by omega⟩
     rw [hj, List.take_succ_cons]; rfl
    obtain ⟨d1, -⟩ := dec_val _ _ rfl hne ha (by
     by_cases e : pre digP (c :: r) = 1
     ·right; rw [hlen]; exact e
     ·left; rw [hhd]; intro e'; exact h3 ⟨e', by omega⟩)
    have hi : Lib.itoa n = (c :: r).take (pre digP (c :: r)) := by
     rw [← e3]
     unfold Lib.itoa
     rw [if_neg (by omega), Int.toNat_natCast, d1]
    have hs : showT 2 [] n = Lib.itoa n := by unfold showT; simp
    refine ⟨by omega, by omega, by rw [hs, hi, e4], Or.inr (Or.inl rfl), by omega, by omega, by simp, fun x q hx => ?_, fun h => by omega⟩
    rw [hs, hi]
    generalize hL : (c :: r).take (pre digP (c :: r)) = L at *
    have hw : digP x = false := by rcases sep_cases hx with rfl | rfl | rfl | rfl <;> rfl
    have hr : pre digP (L ++ x :: q) = L.length := pre_run ha hw
    obtain ⟨L', e⟩ : ∃ L', L = c :: L' := by
     cases L with
     | nil => exact absurd rfl hne
     | cons a b => injection hhd with hhd; exact ⟨b, by rw [hhd]⟩
    have : tokL (L ++ x :: q) = numR (L ++ x :: q) := by rw [e]; show tokL (c :: (L' ++ x :: q)) = _; unfold tokL; simp only; rw [if_neg h1, if_pos h2]; rfl
    rw [this]
    unfold numR
    rw [hr, List.take_left]
    have hh : (L ++ x :: q).head? = some c := by rw [e]; rfl
    rw [hh, hlen, if_neg (by intro e'; exact h3 ⟨e'.1, e'.2⟩), if_pos h4, e3, e4]
   ·rw [if_neg h4] at h; cases h
  rw [if_neg h2] at h
  by_cases h3 : c = 34
  ·subst h3
   rw [if_pos rfl] at h
   unfold litR at h
   simp only [List.tail_cons] at h
   cases hq : litL r with
   | none => rw [hq] at h; cases h
   | some x =>
    obtain ⟨t', m'⟩ := x
    rw [hq] at h
    simp only at h
    injection h with e1 e2 e3 e4
    subst e1; subst e2; subst e3; subst e4
    obtain ⟨i1, i2, ⟨r', i3⟩, i4⟩ := lit_some hq
    have hs : showT 3 t' 0 = quoteL t' := by unfold showT; simp
    have hz : (34 :: r : List UInt8) = quoteL t' ++ r' := by rw [i3]; unfold quoteL; simp
    have hlen : (quoteL t').length = m' + 1 := by unfold quoteL; simp [i4]
    refine ⟨by omega, ?_, by rw [hs, hz, ← hlen, List.take_left], Or.inr (Or.inr (Or.inl rfl)), by omega, by omega, i2, fun x q hx => ?_, fun _ => i1⟩
    ·rw [hz, List.length_append, hlen]; omega
    ·rw [hs]
     have e : quoteL t' ++ x :: q = 34 :: (esc t' ++ 34 :: (x :: q)) := by unfold quoteL; simp
     rw [e]
     unfold tokL
     simp only
     rw [if_neg h1, if_neg h2, if_pos trivial]
     unfold litR
     simp only [List.tail_cons]
     rw [lit_esc _ i1 i2, i4]
  ·rw [if_neg h3] at h
   unfold sgnR at h
   cases hq : sgnL (c :: r) with
   | none => rw [hq] at h; cases h
   | some g =>
    rw [hq] at h
    simp only at h
    injection h with e1 e2 e3 e4
    subst e1; subst e2; subst e3; subst e4
    obtain ⟨hm, hp⟩ := sgn_some hq
    obtain ⟨hne, hf⟩ := sgn_facts g hm
    have hpf : g <+: (c :: r) := List.isPrefixOf_iff_prefix.1 hp
    have hs : showT 4 g 0 = g := by unfold showT; simp
    have hpos : 0 < g.length := List.length_pos_iff.2 hne
    have hl : g.length ≤ 2 := by
     have : ∀ g ∈ signsL, g.length ≤ 2 := by decide
     exact this g hm
    refine ⟨hpos, hpf.length_le, by rw [hs]; exact (List.prefix_iff_eq_take.1 hpf).symm, Or.inr (Or.inr (Or.inr rfl)), by omega, by omega, by omega, fun x q hx => ?_, fun h => by omega⟩
    rw [hs]
    cases g with
    | nil => exact absurd rfl hne
    | cons a b =>
     obtain ⟨-, f2, f3, f4⟩ := hf a List.mem_cons_self
     have : tokL ((a :: b) ++ x :: q) = sgnR ((a :: b) ++ x :: q) := by
      show tokL (a :: (b ++ x :: q)) = _
      unfold tokL
      simp only
      rw [if_neg (by rw [f3]; simp), if_neg (by rw [f4]; simp), if_neg f2]
      rfl
     rw [this]
     unfold sgnR
     rw [sgn_back _ hm x q hx]
/-- An end of line behind a text changes no token in it. -/
theorem tok_cut {l : List UInt8} (hl : l ≠ []) (r : List UInt8) : tokL (l ++ 10 :: r) = tokL l := by
 cases l with
 | nil => exact absurd rfl hl
 | cons c l =>
  show tokL (c :: (l ++ 10 :: r)) = _
  have hw : pre worP (c :: l ++ 10 :: r) = pre worP (c :: l) := pre_cut (by rfl) _ _
  have hd : pre digP (c :: l ++ 10 :: r) = pre digP (c :: l) := pre_cut (by rfl) _ _
  have ht : ∀ m, m ≤ (c :: l).length → (c :: l ++ 10 :: r).take m = (c :: l).take m := fun m hm => List.take_append_of_le_length hm
  have h1 := ht _ (pre_le worP (c :: l))
  have h2 := ht _ (pre_le digP (c :: l))
  have a1 : wordR (c :: (l ++ 10 :: r)) = wordR (c :: l) := by
   unfold wordR
   rw [show c :: (l ++ 10 :: r) = c :: l ++ 10 :: r from rfl, hw, h1]
  have a2 : numR (c :: (l ++ 10 :: r)) = numR (c :: l) := by
   unfold numR
   rw [show c :: (l ++ 10 :: r) = c :: l ++ 10 :: r from rfl, hd, h2]; rfl
  have a3 : litR (c :: (l ++ 10 :: r)) = litR (c :: l) := by
   unfold litR
   simp only [List.tail_cons]
   rw [lit_cut 10 (by rfl) (by decide) (by decide)]
  have a4 : sgnR (c :: (l ++ 10 :: r)) = sgnR (c :: l) := by
   unfold sgnR
   rw [show c :: (l ++ 10 :: r) = c :: l ++ 10 :: r from rfl, sgn_cut (by rfl)]
  unfold tokL
  simp only
  rw [a1, a2, a3, a4]
end LM
end Go.Proofs.YtljoajjlkjjgeaaGreatDoor
namespace Go.Proofs.YtljoajjlkjjgeaaGreatDoor
namespace LM

theorem sk_sep {b : Bool} {c : UInt8} (h : sepB c = true) : (skF b c).1 = true := by
 rcases sep_cases h with rfl | rfl | rfl | rfl <;> cases b <;> rfl
theorem sk_no {c : UInt8} (h : sepB c = false) : skF false c = (false, false) := by
 unfold sepB at h
 simp at h
 obtain ⟨⟨⟨h1, h2⟩, h3⟩, h4⟩ := h
 unfold skF skB
 rw [if_neg h4, if_neg h3]
 simp [h1, h2, h3]
theorem sk_blank {c : UInt8} (h : c = 32 ∨ c = 9 ∨ c = 10) : skF false c = (true, false) := by
 rcases h with rfl | rfl | rfl <;> rfl
/-- A gap: whatever stands behind it, all of it is passed. -/
def GapOk (g : List UInt8) : Prop := ∀ r, gap (g ++ r) = g.length + gap r
def blankB (c : UInt8) : Bool := c == 32 || c == 9 || c == 10
theorem gap_blank : ∀ (g : List UInt8), g.all blankB = true → GapOk g
 | [], _, r => by simp
 | c :: g, h, r => by
  rw [List.all_cons, Bool.and_eq_true] at h
  have hc : c = 32 ∨ c = 9 ∨ c = 10 := by
   have := h.1; unfold blankB at this; simp at this
   rcases this with (h | h) | h <;> simp [h]
  have ih : preS skF false (g ++ r) = g.length + gap r := gap_blank g h.2 r
  show preS skF false (c :: (g ++ r)) = _
  rw [preS, sk_blank hc, if_pos rfl]
  simp only
  rw [ih, List.length_cons]; omega
theorem gap_line : ∀ (g : List UInt8) (b : Bool) (r : List UInt8), g.all sepB = true → preS skF b (g ++ 10 :: r) = g.length + 1 + gap r
 | [], b, r, _ => by
  show preS skF b (10 :: r) = _
  have e : skF b 10 = (true, false) := by cases b <;> rfl
  rw [preS, e, if_pos rfl]
  show preS skF false r + 1 = 0 + 1 + preS skF false r
  omega
 | c :: g, b, r, h => by
  rw [List.all_cons, Bool.and_eq_true] at h
  have ih := gap_line g (skF b c).2 r h.2
  show preS skF b (c :: (g ++ 10 :: r)) = _
  rw [preS, if_pos (sk_sep h.1), ih, List.length_cons]; omega
theorem gap_lineOk {g : List UInt8} (h : g.all sepB = true) : GapOk (g ++ [10]) := fun r => by
 rw [List.append_assoc]
 show preS skF false (g ++ 10 :: r) = _
 rw [gap_line g false r h]; simp
theorem tok_gap {c : UInt8} {r : List UInt8} {k n : Int} {t : List UInt8} {m : Nat} (h : tokL (c :: r) = .ok k t n m) : gap (c :: r) = 0 := by
 cases hs : sepB c with
 | false =>
  show preS skF false (c :: r) = 0
  rw [preS, sk_no hs]; simp
 | true =>
  exfalso
  have hsg : sgnL (c :: r) = none := by
   unfold sgnL
   rw [List.find?_eq_none]
   intro g hg hp
   obtain ⟨hne, hf⟩ := sgn_facts g hg
   cases g with
   | nil => exact hne rfl
   | cons a b =>
    have h1 := (hf a List.mem_cons_self).1
    have h2 : (a == c) = true := by
     have : (a == c && b.isPrefixOf r) = true := hp
     rw [Bool.and_eq_true] at this; exact this.1
    have : a = c := by simpa using h2
    rw [this, hs] at h1; cases h1
  unfold tokL at h
  simp only at h
  have e1 : lowP c = false := by rcases sep_cases hs with rfl | rfl | rfl | rfl <;> rfl
  have e2 : digP c = false := by rcases sep_cases hs with rfl | rfl | rfl | rfl <;> rfl
  have e3 : ¬ c = 34 := by rcases sep_cases hs with rfl | rfl | rfl | rfl <;> decide
  rw [e1, e2, if_neg (by simp), if_neg (by simp), if_neg e3] at h
  unfold sgnR at h
  rw [hsg] at h
  cases h
/-- A token that stands somewhere. -/
def ValT (x : Tk) : Prop := ∃ l m, tokL l = .ok x.k x.t x.n m
abbrev shT (x : Tk) : List UInt8 := showT x.k x.t x.n
/-- A token but for its place. -/
abbrev keyT (x : Tk) : Int × List UInt8 × Int := (x.k, x.t, x.n)
/-- Tokens written down, behind each a gap. -/
def glue (G : Nat → List UInt8) : Nat → List Tk → List UInt8
 | _, [] => []
 | i, x :: r => shT x ++ (G i ++ glue G (i + 1) r)
theorem valT_read {x : Tk} (h : ValT x) {c : UInt8} (r : List UInt8) (hc : sepB c = true) : tokL (shT x ++ c :: r) = .ok x.k x.t x.n (shT x).length ∧ 0 < (shT x).length ∧ gap (shT x ++ c :: r) = 0 := by
 obtain ⟨l, m, e⟩ := h
 obtain ⟨h1, h2, h3, -, -, -, -, h4, -⟩ := tok_some e
 have hm : (shT x).length = m := by
  show (showT x.k x.t x.n).length = m
  rw [← h3, List.length_take]; omega
 have h5 := h4 c r hc
 refine ⟨by rw [hm]; exact h5, by omega, ?_⟩
 cases hs : shT x with
 | nil => rw [hs] at hm; simp at hm; omega
 | cons a b =>
  have h6 : tokL (shT x ++ c :: r) = .ok x.k x.t x.n m := h5
  rw [hs] at h6
  exact tok_gap h6
theorem glue_gap {G : Nat → List UInt8} (hG : ∀ i, ∃ c r, G i = c :: r ∧ sepB c = true) (i : Nat) (L : List Tk) (hL : ∀ x ∈ L, ValT x) : gap (glue G i L) = 0 := by
 cases L with
 | nil => rfl
 | cons x r =>
  obtain ⟨c, q, e, hc⟩ := hG i
  show gap (shT x ++ (G i ++ glue G (i + 1) r)) = 0
  rw [e, List.cons_append]
  exact (valT_read (hL x List.mem_cons_self) _ hc).2.2
theorem lexF_nil (f a : Nat) : lexF f [] a = ([], a, 0) := by cases f <;> simp [lexF]
theorem glue_lex {G : Nat → List UInt8} (hG : ∀ i, ∃ c r, G i = c :: r ∧ sepB c = true) (hO : ∀ i, GapOk (G i)) : ∀ (L : List Tk) (i f a : Nat), (∀ x ∈ L, ValT x) → (glue G i L).length < f →
  ∃ M, lexF f (glue G i L) a = (M, a + (glue G i L).length, 0) ∧ M.map keyT = L.map keyT
 | [], i, f, a, _, _ => ⟨[], by rw [show glue G i [] = [] from rfl, lexF_nil]; rfl, rfl⟩
 | x :: L, i, f, a, hL, hf => by
  obtain ⟨c, q, e, hc⟩ := hG i
  have hO' := hO i
  have hx := hL x List.mem_cons_self
  have hL' : ∀ y ∈ L, ValT y := fun y hy => hL y (List.mem_cons_of_mem _ hy)
  have hg0 := glue_gap hG (i + 1) L hL'
  have eg : glue G i (x :: L) = shT x ++ (G i ++ glue G (i + 1) L) := rfl
  obtain ⟨t1, t2, t3⟩ := valT_read hx (q ++ glue G (i + 1) L) hc
  have eg2 : shT x ++ (G i ++ glue G (i + 1) L) = shT x ++ c :: (q ++ glue G (i + 1) L) := by rw [e]; rfl
  rw [eg] at hf ⊢
  simp only [List.length_append] at hf ⊢
  obtain ⟨f, rfl⟩ : ∃ g, f = g + 1 := ⟨f - 1, by omega⟩
  obtain ⟨M, ih, hk⟩ := glue_lex hG hO L (i + 1) f (a + (shT x).length + (G i).length) hL' (by omega)
  have hne : shT x ++ (G i ++ glue G (i + 1) L) ≠ [] := by intro h; have := congrArg List.length h; simp only [List.length_append, List.length_nil] at this; omega
  rw [lexF, if_neg hne, eg2, t1]
  simp only
  rw [← eg2, List.drop_left, hO', hg0, Nat.add_zero, List.drop_left, ih]
  refine ⟨⟨x.k, x.t, x.n, a⟩ :: M, ?_, ?_⟩
  ·unfold joinT
   rw [if_pos rfl]
   show (_, _, _) = _
   rw [show a + (shT x).length + (G i).length + (glue G (i + 1) L).length = a + ((shT x).length + ((G i).length + (glue G (i + 1) L).length)) by omega]
   rfl
  ·rw [List.map_cons, List.map_cons, hk]
/-- A gap, and tokens with gaps behind: these tokens. -/
theorem glue_all {G : Nat → List UInt8} (hG : ∀ i, ∃ c r, G i = c :: r ∧ sepB c = true) (hO : ∀ i, GapOk (G i)) {g : List UInt8} (hg : GapOk g) (L : List Tk) (hL : ∀ x ∈ L, ValT x) (hs : (g ++ glue G 0 L).length ≤ 16384) :
  ∃ M p, lexA (g ++ glue G 0 L) = (M, p, 0) ∧ M.map keyT = L.map keyT := by
 have h0 := glue_gap hG 0 L hL
 unfold lexA
 rw [if_neg (by omega), hg, h0]
 simp only [Nat.add_zero]
 rw [List.drop_left]
 obtain ⟨M, h1, h2⟩ := glue_lex hG hO L 0 ((g ++ glue G 0 L).length + 1) g.length hL (by simp only [List.length_append]; omega)
 exact ⟨M, _, h1, h2⟩
/-- What all tokens' texts have together. -/
def lenT (L : List Tk) : Nat := (L.map fun x => (shT x).length).sum
theorem lexF_val : ∀ (f : Nat) (l : List UInt8) (a : Nat), (∀ x ∈ (lexF f l a).1, ValT x) ∧ lenT (lexF f l a).1 ≤ l.length ∧ (lexF f l a).1.length ≤ l.length
 | 0, l, a => ⟨fun x h => by simp [lexF] at h, by simp [lexF, lenT], by simp [lexF]⟩
 | f + 1, l, a => by
  by_cases hl : l = []
  ·rw [lexF, if_pos hl]
   exact ⟨fun x h => by simp at h, by simp [lenT], by simp⟩
  rw [lexF, if_neg hl]
  cases ht : tokL l with
  | no z => exact ⟨fun x h => by simp at h, by simp [lenT], by simp⟩
  | ok k t n m =>
   simp only
   obtain ⟨i1, i2, i3⟩ := lexF_val f ((l.drop m).drop (gap (l.drop m))) (a + m + gap (l.drop m))
   obtain ⟨h1, h2, h3, -⟩ := tok_some ht
   rw [List.length_drop, List.length_drop] at i2 i3
   have hsh : (showT k t n).length = m := by rw [← h3, List.length_take]; omega
   unfold joinT
   split
   ·refine ⟨fun x hx => ?_, ?_, ?_⟩
    ·rw [List.mem_append, List.mem_singleton] at hx
     rcases hx with rfl | hx
     ·exact ⟨l, m, ht⟩
     ·exact i1 x hx
    ·unfold lenT at i2 ⊢
     rw [List.map_append, List.sum_append]
     simp only [List.map_cons, List.map_nil, List.sum_cons, List.sum_nil]
     have : (shT ⟨k, t, n, a⟩).length = m := hsh
     omega
    ·simp only [List.length_append, List.length_singleton]; omega
   ·exact ⟨fun x h => by simp at h, by simp [lenT], by simp⟩
theorem lexA_val (l : List UInt8) : (∀ x ∈ (lexA l).1, ValT x) ∧ lenT (lexA l).1 ≤ l.length ∧ (lexA l).1.length ≤ l.length := by
 unfold lexA
 split
 ·exact ⟨fun x h => by simp at h, by simp [lenT], by simp⟩
 ·obtain ⟨h1, h2, h3⟩ := lexF_val (l.length + 1) (l.drop (gap l)) (gap l)
  rw [List.length_drop] at h2 h3
  exact ⟨h1, by omega, by omega⟩
theorem glue_len {G : Nat → List UInt8} {B : Nat} (hB : ∀ i, (G i).length ≤ B) : ∀ (L : List Tk) (i : Nat), (glue G i L).length ≤ lenT L + L.length * B
 | [], i => by simp [glue]
 | x :: L, i => by
  have := glue_len hB L (i + 1)
  have := hB i
  have e : lenT (x :: L) = (shT x).length + lenT L := by unfold lenT; rw [List.map_cons, List.sum_cons]
  show (shT x ++ (G i ++ glue G (i + 1) L)).length ≤ _
  rw [e]
  simp only [List.length_append, List.length_cons, Nat.add_mul]; omega
theorem glue_snoc (G : Nat → List UInt8) : ∀ (L : List Tk) (i : Nat) (x : Tk), glue G i (L ++ [x]) = glue G i L ++ (shT x ++ G (i + L.length))
 | [], i, x => by simp [glue]
 | y :: L, i, x => by
  have := glue_snoc G L (i + 1) x
  show shT y ++ (G i ++ glue G (i + 1) (L ++ [x])) = _
  rw [this, show i + 1 + L.length = i + (y :: L).length by simp; omega]
  show _ = (shT y ++ (G i ++ glue G (i + 1) L)) ++ _
  simp only [List.append_assoc]

/-! Two texts. -/
def shiftT (c : Nat) (x : Tk) : Tk := ⟨x.k, x.t, x.n, x.at' + c⟩
def shiftR (c : Nat) (x : Res) : Res := (x.1.map (shiftT c), x.2.1 + c, x.2.2)
theorem shift_join (c : Nat) (L : List Tk) (x : Res) : shiftR c (joinT L x) = joinT (L.map (shiftT c)) (shiftR c x) := by
 obtain ⟨a, b, z⟩ := x
 unfold joinT shiftR
 simp only
 by_cases h : z = 0
 ·simp [h]
 ·simp [h]
theorem lexF_shift (c : Nat) : ∀ (f : Nat) (l : List UInt8) (a : Nat), lexF f l (a + c) = shiftR c (lexF f l a)
 | 0, l, a => rfl
 | f + 1, l, a => by
  unfold lexF
  by_cases hl : l = []
  ·rw [if_pos hl, if_pos hl]; rfl
  rw [if_neg hl, if_neg hl]
  cases tokL l with
  | no z => rfl
  | ok k t n m =>
   simp only
   rw [shift_join, ← lexF_shift c f, show a + c + m + gap (l.drop m) = a + m + gap (l.drop m) + c by omega]
   rfl
theorem lexF_fuel : ∀ (f g : Nat) (l : List UInt8) (a : Nat), l.length < f → l.length < g → lexF f l a = lexF g l a
 | 0, g, l, a, h, _ => absurd h (Nat.not_lt_zero _)
 | f + 1, 0, l, a, _, h => absurd h (Nat.not_lt_zero _)
 | f + 1, g + 1, l, a, hf, hg => by
  unfold lexF
  by_cases hl : l = []
  ·rw [if_pos hl, if_pos hl]
  rw [if_neg hl, if_neg hl]
  cases ht : tokL l with
  | no z => rfl
  | ok k t n m =>
   simp only
   have hm := (tok_some ht).1
   have hl0 : 0 < l.length := List.length_pos_iff.2 hl
   rw [lexF_fuel f g _ _ (by rw [List.length_drop, List.length_drop]; omega) (by rw [List.length_drop, List.length_drop]; omega)]
theorem lexF_form2 : ∀ (f : Nat) (l : List UInt8) (a : Nat), (lexF f l a).2.2 = 0 ∨ (lexF f l a).1 = []
 | 0, l, a => Or.inl rfl
 | f + 1, l, a => by
  unfold lexF
  by_cases h : l = []
  ·rw [if_pos h]; exact Or.inl rfl
  rw [if_neg h]
  cases tokL l with
  | no e => exact Or.inr rfl
  | ok k t n m =>
   simp only
   unfold joinT
   split
   ·exact Or.inl rfl
   ·exact Or.inr rfl
/-- From a gap on. -/
def lexG (f : Nat) (l : List UInt8) (a : Nat) : Res := lexF f (l.drop (gap l)) (a + gap l)
theorem gap_cat : ∀ (y : List UInt8) (b : Bool), (∀ r, preS skF b (y ++ 10 :: r) = y.length + 1 + gap r) ∨ ∃ d, d < y.length ∧ ∀ r, preS skF b (y ++ 10 :: r) = d
 | [], b => Or.inl fun r => gap_line [] b r rfl
 | c :: y, b => by
  cases h : (skF b c).1 with
  | false => exact Or.inr ⟨0, by simp, fun r => by show preS skF b (c :: (y ++ 10 :: r)) = 0; rw [preS, h]; rfl⟩
  | true =>
   rcases gap_cat y (skF b c).2 with ih | ⟨d, hd, ih⟩
   ·refine Or.inl fun r => ?_
    show preS skF b (c :: (y ++ 10 :: r)) = _
    rw [preS, if_pos h, ih r, List.length_cons]; omega
   ·refine Or.inr ⟨d + 1, by rw [List.length_cons]; omega, fun r => ?_⟩
    show preS skF b (c :: (y ++ 10 :: r)) = _
    rw [preS, if_pos h, ih r]
theorem lexG_cat (b : List UInt8) (g : Nat) (hg : b.length < g) : ∀ (n : Nat) (y : List UInt8) (a f h : Nat), y.length ≤ n → y.length + 1 < h → y.length + 1 + b.length < f →
  ((lexG h (y ++ [10]) a).2.2 ≠ 0 → (lexG f (y ++ 10 :: b) a).2.2 = (lexG h (y ++ [10]) a).2.2) ∧ ((lexG h (y ++ [10]) a).2.2 = 0 → lexG f (y ++ 10 :: b) a = joinT (lexG h (y ++ [10]) a).1 (lexG g b (a + y.length + 1)))
 | n, y, a, f, h, hn, hh, hf => by
  rcases gap_cat y false with hc | ⟨d, hd, hc⟩
  ·have e1 : lexG h (y ++ [10]) a = ([], a + (y.length + 1), 0) := by
    unfold lexG
    have := hc []
    rw [show gap (y ++ [10]) = y.length + 1 from this]
    rw [List.drop_of_length_le (by simp), lexF_nil]
   have e2 : lexG f (y ++ 10 :: b) a = lexG g b (a + y.length + 1) := by
    unfold lexG
    have h1 : gap (y ++ 10 :: b) = y.length + 1 + gap b := hc b
    rw [h1]
    have h2 : (y ++ 10 :: b).drop (y.length + 1 + gap b) = b.drop (gap b) := by
     rw [show y ++ 10 :: b = (y ++ [10]) ++ b by simp, show y.length + 1 = (y ++ [10]).length by simp, List.drop_append]
     simp
    rw [h2, show a + (y.length + 1 + gap b) = a + y.length + 1 + gap b by omega]
    exact lexF_fuel _ _ _ _ (by rw [List.length_drop]; omega) (by rw [List.length_drop]; omega)
   rw [e1, e2]
   refine ⟨fun h => absurd rfl h, fun _ => ?_⟩
   have := lexF_form2 g (b.drop (gap b)) (a + y.length + 1 + gap b)
   show lexG g b _ = joinT [] (lexG g b _)
   unfold joinT
   split
   ·rename_i h0
    generalize lexG g b (a + y.length + 1) = X at *
    obtain ⟨x1, x2, x3⟩ := X
    simp only at h0
    rw [h0]; rfl
   ·rename_i h0
    rcases this with h1 | h1
    ·exact absurd h1 h0
    ·have h2 : (lexG g b (a + y.length + 1)).1 = [] := h1
     generalize lexG g b (a + y.length + 1) = X at *
     obtain ⟨x1, x2, x3⟩ := X
     simp only at h2
     rw [h2]
  ·obtain ⟨y1, y2, rfl, rfl⟩ : ∃ y1 y2, y = y1 ++ y2 ∧ d = y1.length := ⟨y.take d, y.drop d, (List.take_append_drop d y).symm, by rw [List.length_take]; omega⟩
   have hy2 : y2 ≠ [] := by rintro rfl; simp at hd
   have hl2 : 0 < y2.length := List.length_pos_iff.2 hy2
   simp only [List.length_append] at hn hh hf
   have hd1 : ∀ r, lexG f ((y1 ++ y2) ++ 10 :: r) a = lexF f (y2 ++ 10 :: r) (a + y1.length) ∧ lexG h ((y1 ++ y2) ++ 10 :: r) a = lexF h (y2 ++ 10 :: r) (a + y1.length) := fun r => by
    unfold lexG
    rw [show gap ((y1 ++ y2) ++ 10 :: r) = y1.length from hc r, List.append_assoc, List.drop_left]
    exact ⟨rfl, rfl⟩
   rw [show y1 ++ y2 ++ [10] = (y1 ++ y2) ++ 10 :: [] from rfl, (hd1 []).2, (hd1 b).1]
   obtain ⟨f, rfl⟩ : ∃ q, f = q + 1 := ⟨f - 1, by omega⟩
   obtain ⟨h, rfl⟩ : ∃ q, h = q + 1 := ⟨h - 1, by omega⟩
   have hne : ∀ r : List UInt8, y2 ++ 10 :: r ≠ [] := fun r e => by simp at e
   have ht := fun r => tok_cut hy2 r
   cases hk : tokL y2 with
   | no z =>
    have e1 : ∀ q r A, lexF (q + 1) (y2 ++ 10 :: r) A = ([], A, z) := fun q r A => by rw [lexF, if_neg (hne r), ht r, hk]
    rw [e1, e1]
    refine ⟨fun _ => rfl, fun h => ?_⟩
    have : z = 0 := h
    subst this
    exfalso
    cases y2 with
    | nil => exact hy2 rfl
    | cons c r =>
     unfold tokL wordR numR litR sgnR at hk
     simp only at hk
     repeat' split at hk
     all_goals first | cases hk | (injection hk with hk; exact absurd hk (by decide))
   | ok k t n' m =>
    obtain ⟨h1, h2, -⟩ := tok_some hk
    have e1 : ∀ q r A, lexF (q + 1) (y2 ++ 10 :: r) A = joinT [⟨k, t, n', A⟩] (lexG q (y2.drop m ++ 10 :: r) (A + m)) := fun q r A => by
     rw [lexF, if_neg (hne r), ht r, hk]
     simp only
     have : (y2 ++ 10 :: r).drop m = y2.drop m ++ 10 :: r := List.drop_append_of_le_length h2
     rw [this]
     rfl
    rw [e1, e1]
    match n, hn with
    | 0, hn => omega
    | n + 1, hn =>
     obtain ⟨j1, j2⟩ := lexG_cat b g hg n (y2.drop m) (a + y1.length + m) f h (by rw [List.length_drop]; omega) (by rw [List.length_drop]; omega) (by rw [List.length_drop]; omega)
     rw [show (y2.drop m ++ 10 :: ([] : List UInt8)) = y2.drop m ++ [10] from rfl]
     generalize hX : lexG h (y2.drop m ++ [10]) (a + y1.length + m) = X at *
     constructor
     ·intro hz
      have hz' : X.2.2 ≠ 0 := fun e => hz (by unfold joinT; rw [if_pos e])
      have h3 := j1 hz'
      generalize lexG f (y2.drop m ++ 10 :: b) (a + y1.length + m) = Y at *
      unfold joinT
      rw [if_neg (by rw [h3]; exact hz'), if_neg hz']
      exact h3
     ·intro hz
      have hz' : X.2.2 = 0 := by
       unfold joinT at hz
       split at hz
       ·assumption
       ·exact hz
      rw [j2 hz', show a + y1.length + m + (y2.drop m).length + 1 = a + (y1 ++ y2).length + 1 by rw [List.length_drop, List.length_append]; omega]
      generalize lexG g b (a + (y1 ++ y2).length + 1) = Z
      obtain ⟨z1, z2, z3⟩ := Z
      unfold joinT
      simp only [hz', if_true]
      by_cases hz3 : z3 = 0
      ·simp [hz3]
      ·simp [hz3]
/-- A text that ends its line, and another one behind it. -/
theorem lexA_cat (a b : List UInt8) (ha : a.length ≤ 2000) (hb : b.length ≤ 2000) :
  ((lexA (a ++ [10])).2.2 ≠ 0 → (lexA (a ++ 10 :: b)).2.2 = (lexA (a ++ [10])).2.2) ∧ ((lexA (a ++ [10])).2.2 = 0 → lexA (a ++ 10 :: b) = joinT (lexA (a ++ [10])).1 (shiftR (a.length + 1) (lexA b))) := by
 have e : ∀ l : List UInt8, l.length ≤ 16384 → lexA l = lexG (l.length + 1) l 0 := fun l hl => by
  unfold lexA lexG
  rw [if_neg (by omega), Nat.zero_add]
 have h1 : (a ++ [10]).length = a.length + 1 := by simp
 have h2 : (a ++ 10 :: b).length = a.length + 1 + b.length := by simp; omega
 rw [e (a ++ [10]) (by omega), e (a ++ 10 :: b) (by omega), e b (by omega), h1, h2]
 obtain ⟨i1, i2⟩ := lexG_cat b (b.length + 1) (by omega) a.length a 0 (a.length + 1 + b.length + 1) (a.length + 1 + 1) (Nat.le_refl _) (by omega) (by omega)
 refine ⟨i1, fun hz => ?_⟩
 rw [i2 hz]
 have : lexG (b.length + 1) b (0 + a.length + 1) = shiftR (a.length + 1) (lexG (b.length + 1) b 0) := by
  unfold lexG
  rw [show 0 + a.length + 1 + gap b = (0 + gap b) + (a.length + 1) by omega, lexF_shift]
 rw [this]
end LM
end Go.Proofs.YtljoajjlkjjgeaaGreatDoor
