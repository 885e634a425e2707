/-
  The tokens of a text, as a function on lists of bytes: no program in it.
-/
import Derived.Test.YteaaloejjafhlaaDoorParse
import Derived.Lib.AtoiAllCases
namespace Go.Proofs.YteaaloejjafhlaaDoor
namespace LM

def lowP (c : UInt8) : Bool := decide (97 ≤ c.toNat) && decide (c.toNat ≤ 122)
def digP (c : UInt8) : Bool := decide (48 ≤ c.toNat) && decide (c.toNat ≤ 57)
def worP (c : UInt8) : Bool := lowP c || digP c || c == 95
/-- So many bytes at the beginning pass. -/
def pre (p : UInt8 → Bool) : List UInt8 → Nat
  | [] => 0
  | c :: r => if p c then pre p r + 1 else 0
/-- So many bytes at the beginning pass a test that remembers one bit. -/
def preS (f : Bool → UInt8 → Bool × Bool) : Bool → List UInt8 → Nat
  | _, [] => 0
  | b, c :: r => if (f b c).1 then preS f (f b c).2 r + 1 else 0
def plain (p : UInt8 → Bool) (b : Bool) (c : UInt8) : Bool × Bool := (p c, b)
def skB (b : Bool) (c : UInt8) : Bool := if c = 35 then true else if c = 10 then false else b
def skF (b : Bool) (c : UInt8) : Bool × Bool := (skB b c || c == 32 || c == 9 || c == 10, skB b c)
def qtF (b : Bool) (c : UInt8) : Bool × Bool := (b || c != 34, c == 92 && !b)
abbrev gap (l : List UInt8) : Nat := preS skF false l
theorem pre_plain (p : UInt8 → Bool) (b : Bool) : ∀ l, preS (plain p) b l = pre p l
  | [] => rfl
  | c :: r => by
    have ih := pre_plain p b r
    unfold preS pre plain
    simp only
    rw [show (fun b c => (p c, b)) = plain p from rfl, ih]
theorem pre_le (p : UInt8 → Bool) : ∀ l, pre p l ≤ l.length
  | [] => Nat.le_refl _
  | c :: r => by
    have := pre_le p r
    unfold pre
    split
    · simp only [List.length_cons]; omega
    · omega
theorem preS_le (f : Bool → UInt8 → Bool × Bool) : ∀ b l, preS f b l ≤ l.length
  | _, [] => Nat.le_refl _
  | b, c :: r => by
    have := preS_le f (f b c).2 r
    unfold preS
    split
    · simp only [List.length_cons]; omega
    · omega
theorem pre_all (p : UInt8 → Bool) : ∀ l : List UInt8, (l.take (pre p l)).all p = true
  | [] => rfl
  | c :: r => by
    have := pre_all p r
    unfold pre
    split
    · rename_i h
      rw [List.take_succ_cons, List.all_cons, h, this]; rfl
    · rfl
/-- A run that ends at a byte which does not pass. -/
theorem pre_run {p : UInt8 → Bool} : ∀ {l : List UInt8} {x : UInt8} {r : List UInt8}, l.all p = true → p x = false → pre p (l ++ x :: r) = l.length
  | [], x, r, _, hx => by
    show pre p (x :: r) = 0
    unfold pre; rw [hx]; rfl
  | c :: l, x, r, h, hx => by
    rw [List.all_cons, Bool.and_eq_true] at h
    show pre p (c :: (l ++ x :: r)) = _
    unfold pre
    rw [if_pos h.1, pre_run h.2 hx, List.length_cons]
/-- What stands behind an end of line changes no run. -/
theorem pre_cut {p : UInt8 → Bool} {z : UInt8} (hz : p z = false) : ∀ (l r : List UInt8), pre p (l ++ z :: r) = pre p l
  | [], r => by
    show pre p (z :: r) = 0
    unfold pre; rw [hz]; rfl
  | c :: l, r => by
    show pre p (c :: (l ++ z :: r)) = _
    unfold pre
    rw [pre_cut hz l r]

/-- The text behind an opening quote, and how many bytes it has with the closing one. -/
def quo : List UInt8 → Option (List UInt8 × Nat)
  | [] => none
  | [c] => if c = 34 then some ([], 1) else none
  | c :: d :: r => if c = 34 then some ([], 1) else if okByte c = false then none else if c = 92 then (if d = 34 ∨ d = 92 then (quo r).map (fun x => (d :: x.1, x.2 + 2)) else none)
      else (quo (d :: r)).map (fun x => (c :: x.1, x.2 + 1))
def litL (r : List UInt8) : Option (List UInt8 × Nat) := match quo r with
  | some (t, m) => if t.length ≤ 64 then some (t, m) else none
  | none => none
theorem quo_34 (r : List UInt8) : quo (34 :: r) = some ([], 1) := by cases r <;> simp [quo]
theorem quo_one {c : UInt8} (r : List UInt8) (h : okByte c = true) (h1 : c ≠ 34) (h2 : c ≠ 92) : quo (c :: r) = (quo r).map fun x => (c :: x.1, x.2 + 1) := by
  cases r with
  | nil => simp [quo, h1]
  | cons d r => rw [quo, if_neg h1, if_neg (by rw [h]; simp), if_neg h2]
theorem quo_two {d : UInt8} (r : List UInt8) (h : d = 34 ∨ d = 92) : quo (92 :: d :: r) = (quo r).map fun x => (d :: x.1, x.2 + 2) := by
  rw [quo, if_neg (by decide), if_neg (by decide), if_pos rfl, if_pos h]
theorem quo_esc : ∀ (t r : List UInt8), t.all okByte = true → quo (esc t ++ 34 :: r) = some (t, (esc t).length + 1)
  | [], r, _ => quo_34 r
  | c :: t, r, h => by
    rw [List.all_cons, Bool.and_eq_true] at h
    have ih := quo_esc t r h.2
    rw [esc_cons]
    by_cases h1 : c = 34 ∨ c = 92
    · have e : escByte c = [92, c] := by unfold escByte; rw [if_pos h1]
      rw [e]
      show quo (92 :: c :: (esc t ++ 34 :: r)) = _
      rw [quo_two _ h1, ih]
      simp
    · have e : escByte c = [c] := by unfold escByte; rw [if_neg h1]
      rw [e]
      show quo (c :: (esc t ++ 34 :: r)) = _
      rw [quo_one _ h.1 (fun e => h1 (Or.inl e)) (fun e => h1 (Or.inr e)), ih]
      simp
theorem quo_some : ∀ (l t : List UInt8) (m : Nat), quo l = some (t, m) → t.all okByte = true ∧ (∃ r, l = esc t ++ 34 :: r) ∧ m = (esc t).length + 1
  | [], t, m, h => by simp [quo] at h
  | [c], t, m, h => by
    unfold quo at h
    split at h
    · rename_i hc
      injection h with h; injection h with h1 h2
      subst h1; subst h2; subst hc
      exact ⟨rfl, ⟨[], rfl⟩, rfl⟩
    · cases h
  | c :: d :: r, t, m, h => by
    by_cases h1 : c = 34
    · subst h1
      rw [quo_34] at h
      injection h with h; injection h with h1 h2
      subst h1; subst h2
      exact ⟨rfl, ⟨d :: r, rfl⟩, rfl⟩
    by_cases h2 : okByte c = false
    · rw [quo, if_neg h1, if_pos h2] at h; cases h
    by_cases h3 : c = 92
    · subst h3
      by_cases h4 : d = 34 ∨ d = 92
      · rw [quo_two _ h4] at h
        cases hq : quo r with
        | none => rw [hq] at h; cases h
        | some x =>
          rw [hq] at h
          obtain ⟨t', m'⟩ := x
          obtain ⟨i1, ⟨r', i2⟩, i3⟩ := quo_some r t' m' hq
          injection h with h; injection h with h5 h6
          subst h5; subst h6
          have e : escByte d = [92, d] := by unfold escByte; rw [if_pos h4]
          refine ⟨?_, ⟨r', ?_⟩, ?_⟩
          · rw [List.all_cons, i1]; rcases h4 with rfl | rfl <;> rfl
          · rw [esc_cons, e, i2]; rfl
          · rw [esc_cons, e, i3]; simp
      · rw [quo, if_neg h1, if_neg h2, if_pos rfl, if_neg h4] at h; cases h
    · have h2' : okByte c = true := by simpa using h2
      rw [quo_one _ h2' h1 h3] at h
      cases hq : quo (d :: r) with
      | none => rw [hq] at h; cases h
      | some x =>
        rw [hq] at h
        obtain ⟨t', m'⟩ := x
        obtain ⟨i1, ⟨r', i2⟩, i3⟩ := quo_some (d :: r) t' m' hq
        injection h with h; injection h with h5 h6
        subst h5; subst h6
        have e : escByte c = [c] := by unfold escByte; rw [if_neg (by rintro (h | h); exact h1 h; exact h3 h)]
        refine ⟨?_, ⟨r', ?_⟩, ?_⟩
        · rw [List.all_cons, i1, h2']; rfl
        · rw [esc_cons, e, i2]; rfl
        · rw [esc_cons, e, i3]; simp
theorem quo_bad {z : UInt8} (hz : okByte z = false) (hq : z ≠ 34) (r : List UInt8) : quo (z :: r) = none := by
  cases r with
  | nil => simp [quo, hq]
  | cons d r => rw [quo, if_neg hq, if_pos hz]
/-- What stands behind an end of line changes no text between quotes. -/
theorem quo_cut (z : UInt8) (hz : okByte z = false) (hq : z ≠ 34) (hq2 : z ≠ 92) : ∀ (l r : List UInt8), quo (l ++ z :: r) = quo l
  | [], r => by rw [List.nil_append, quo_bad hz hq]; rfl
  | [c], r => by
    show quo (c :: z :: r) = _
    by_cases h1 : c = 34
    · subst h1; rw [quo_34, quo_34]
    · have h2 : ¬ (z = 34 ∨ z = 92) := by rintro (h | h); exact hq h; exact hq2 h
      have hb := quo_bad hz hq r
      simp [quo, h1, h2, hb]
  | c :: d :: l, r => by
    show quo (c :: d :: (l ++ z :: r)) = _
    rw [quo, quo, quo_cut z hz hq hq2 l r, show d :: (l ++ z :: r) = (d :: l) ++ z :: r from rfl, quo_cut z hz hq hq2 (d :: l) r]
theorem lit_cut (z : UInt8) (hz : okByte z = false) (hq : z ≠ 34) (hq2 : z ≠ 92) (l r : List UInt8) : litL (l ++ z :: r) = litL l := by
  unfold litL; rw [quo_cut z hz hq hq2]
theorem lit_some {l t : List UInt8} {m : Nat} (h : litL l = some (t, m)) : t.all okByte = true ∧ t.length ≤ 64 ∧ (∃ r, l = esc t ++ 34 :: r) ∧ m = (esc t).length + 1 := by
  unfold litL at h
  cases hq : quo l with
  | none => rw [hq] at h; cases h
  | some x =>
    obtain ⟨t', m'⟩ := x
    rw [hq] at h
    simp only at h
    split at h
    · rename_i hl
      injection h with h; injection h with h1 h2
      subst h1; subst h2
      obtain ⟨i1, i2, i3⟩ := quo_some _ _ _ hq
      exact ⟨i1, hl, i2, i3⟩
    · cases h
theorem lit_esc {t : List UInt8} (r : List UInt8) (h : t.all okByte = true) (hl : t.length ≤ 64) : litL (esc t ++ 34 :: r) = some (t, (esc t).length + 1) := by
  unfold litL; rw [quo_esc t r h]; simp only; rw [if_pos hl]
/-- The closing quote, as the program looks for it. -/
theorem qt_esc : ∀ (t r : List UInt8), preS qtF false (esc t ++ 34 :: r) = (esc t).length
  | [], r => rfl
  | c :: t, r => by
    have ih := qt_esc t r
    rw [esc_cons]
    by_cases h1 : c = 34 ∨ c = 92
    · have e : escByte c = [92, c] := by unfold escByte; rw [if_pos h1]
      rw [e]
      show preS qtF false (92 :: c :: (esc t ++ 34 :: r)) = _
      have e1 : qtF false 92 = (true, true) := rfl
      have e2 : qtF true c = (true, false) := by unfold qtF; simp
      rw [preS, e1, if_pos rfl, preS, e2, if_pos rfl, ih]
      simp
    · have e : escByte c = [c] := by unfold escByte; rw [if_neg h1]
      rw [e]
      show preS qtF false (c :: (esc t ++ 34 :: r)) = _
      have h2 : c ≠ 34 := fun e => h1 (Or.inl e)
      have h3 : c ≠ 92 := fun e => h1 (Or.inr e)
      have e1 : qtF false c = (true, false) := by unfold qtF; simp [h2, h3]
      rw [preS, e1, if_pos rfl, ih]
      simp

/-- The number of some digits. -/
def valN (l : List UInt8) : Nat := l.foldl (fun a c => a * 10 + (c.toNat - 48)) 0
theorem fold_le : ∀ (l : List UInt8) (a : Nat), a ≤ l.foldl (fun a c => a * 10 + (c.toNat - 48)) a
  | [], a => Nat.le_refl _
  | c :: r, a => by
    have := fold_le r (a * 10 + (c.toNat - 48))
    rw [List.foldl_cons]; omega
theorem parse_fold : ∀ (l : List UInt8) (a : Nat), a < 18446744073709551616 → l.all digP = true →
    Lib.parseUint10 a l = if l.foldl (fun a c => a * 10 + (c.toNat - 48)) a < 18446744073709551616 then .ok (l.foldl (fun a c => a * 10 + (c.toNat - 48)) a) else .range
  | [], a, ha, _ => by rw [Lib.parseUint10, List.foldl_nil, if_pos ha]
  | c :: r, a, ha, h => by
    rw [List.all_cons, Bool.and_eq_true] at h
    have hc : 48 ≤ c.toNat ∧ c.toNat ≤ 57 := by have := h.1; unfold digP at this; simpa using this
    have hl := fold_le r (a * 10 + (c.toNat - 48))
    rw [Lib.parseUint10, if_pos hc, List.foldl_cons]
    by_cases h1 : 1844674407370955162 ≤ a
    · rw [if_pos h1, if_neg (by omega)]
    rw [if_neg h1]
    by_cases h2 : 18446744073709551616 ≤ a * 10 + (c.toNat - 48)
    · rw [if_pos h2, if_neg (by omega)]
    rw [if_neg h2, parse_fold r _ (by omega) h.2]
/-- What Atoi tells of digits. -/
theorem atoi_dig {l : List UInt8} (hn : l ≠ []) (h : l.all digP = true) : Lib.atoiAll l = if valN l < 9223372036854775808 then .ok (valN l : Int) else .range := by
  cases l with
  | nil => exact absurd rfl hn
  | cons c r =>
    have hc : 48 ≤ c.toNat ∧ c.toNat ≤ 57 := by
      rw [List.all_cons, Bool.and_eq_true] at h
      have := h.1; unfold digP at this; simpa using this
    rw [Lib.atoiAll_plain c r (by omega) (by omega)]
    unfold Lib.parseMag
    rw [if_neg (by simp), parse_fold _ 0 (by omega) h]
    show Lib.signless (if valN (c :: r) < _ then .ok (valN (c :: r)) else .range) = _
    by_cases h1 : valN (c :: r) < 18446744073709551616
    · rw [if_pos h1]
      unfold Lib.signless
      simp only
      by_cases h2 : valN (c :: r) < 9223372036854775808
      · rw [if_neg (by omega), if_pos h2]
      · rw [if_pos (by omega), if_neg h2]
    · rw [if_neg h1, if_neg (by omega)]; rfl
theorem val_snoc (l : List UInt8) (c : UInt8) : valN (l ++ [c]) = valN l * 10 + (c.toNat - 48) := by unfold valN; rw [List.foldl_append]; rfl
theorem dig_back {c : UInt8} (h : digP c = true) : dig (c.toNat - 48) = c := by
  unfold digP at h
  simp only [Bool.and_eq_true, decide_eq_true_eq] at h
  unfold dig
  apply UInt8.toNat_inj.1
  rw [UInt8.toNat_ofNat_of_lt' (by show _ < 256; omega)]
  omega
/-- Digits without a zero ahead are the text of their number. -/
theorem dec_val : ∀ (n : Nat) (l : List UInt8), l.length = n → l ≠ [] → l.all digP = true → (l.head? ≠ some 48 ∨ l.length = 1) → Lib.decDigits (valN l) = l ∧ (l.head? ≠ some 48 → 0 < valN l)
  | 0, l, h0, hn, _, _ => absurd (List.eq_nil_of_length_eq_zero h0) hn
  | n + 1, l, h0, hn, h, hz => by
    obtain ⟨l', c, rfl⟩ : ∃ l' c, l = l' ++ [c] := ⟨l.dropLast, l.getLast hn, (List.dropLast_concat_getLast hn).symm⟩
    rw [List.all_append, Bool.and_eq_true] at h
    have hc : digP c = true := by have := h.2; simpa using this
    have hc' : 48 ≤ c.toNat ∧ c.toNat ≤ 57 := by have := hc; unfold digP at this; simpa using this
    rw [val_snoc]
    by_cases hl : l' = []
    · subst hl
      have e : valN [] = 0 := rfl
      rw [e, Nat.zero_mul, Nat.zero_add, dec_small (by omega), dig_back hc]
      refine ⟨rfl, fun h0 => ?_⟩
      have : c ≠ 48 := fun e => h0 (by subst e; rfl)
      have : c.toNat ≠ 48 := fun e => this (UInt8.toNat_inj.1 e)
      omega
    · have h1 : (l' ++ [c]).head? = l'.head? := by cases l' with
        | nil => exact absurd rfl hl
        | cons a r => rfl
      have hh : l'.head? ≠ some 48 := by
        rcases hz with hz | hz
        · rw [← h1]; exact hz
        · exfalso
          rw [List.length_append, List.length_singleton] at hz
          exact hl (List.eq_nil_of_length_eq_zero (by omega))
      obtain ⟨i1, i2⟩ := dec_val n l' (by rw [List.length_append, List.length_singleton] at h0; omega) hl h.1 (Or.inl hh)
      have hp := i2 hh
      have e1 : (valN l' * 10 + (c.toNat - 48)) / 10 = valN l' := by omega
      have e2 : dig (valN l' * 10 + (c.toNat - 48)) = c := by
        have : dig (valN l' * 10 + (c.toNat - 48)) = dig (c.toNat - 48) := by
          unfold dig
          have : (valN l' * 10 + (c.toNat - 48)) % 10 = (c.toNat - 48) % 10 := by omega
          rw [this]
        rw [this, dig_back hc]
      refine ⟨by rw [dec_big (by omega), e1, e2, i1], fun _ => by omega⟩
theorem dec_all : ∀ (k u : Nat), u ≤ k → (Lib.decDigits u).all digP = true ∧ ((Lib.decDigits u).head? = some 48 → u = 0)
  | k, u, hk => by
    have hd := dig_val u
    have hp : digP (dig u) = true := by unfold digP; simp; omega
    by_cases h : u < 10
    · rw [dec_small h]
      refine ⟨by rw [List.all_cons, hp]; rfl, fun e => ?_⟩
      have : dig u = 48 := by simpa using e
      rw [this] at hd
      have : ((48 : UInt8).toNat : Int) = 48 := rfl
      omega
    · match k, hk with
      | 0, hk => omega
      | k + 1, hk =>
        obtain ⟨i1, i2⟩ := dec_all k (u / 10) (by omega)
        rw [dec_big h]
        refine ⟨by rw [List.all_append, i1, List.all_cons, hp]; rfl, fun e => ?_⟩
        have hn := dec_ne (u / 10)
        have : (Lib.decDigits (u / 10)).head? = some 48 := by
          cases hx : Lib.decDigits (u / 10) with
          | nil => exact absurd hx hn
          | cons a r => rw [hx] at e; exact e
        have := i2 this
        omega
theorem val_dec : ∀ (k u : Nat), u ≤ k → valN (Lib.decDigits u) = u
  | k, u, hk => by
    have hd := dig_val u
    by_cases h : u < 10
    · rw [dec_small h]
      show 0 * 10 + ((dig u).toNat - 48) = u
      omega
    · match k, hk with
      | 0, hk => omega
      | k + 1, hk =>
        rw [dec_big h, val_snoc, val_dec k (u / 10) (by omega)]
        omega
theorem dec_head1 {u : Nat} (h : (Lib.decDigits u).head? = some 48) : (Lib.decDigits u).length = 1 := by
  have := (dec_all u u (Nat.le_refl _)).2 h
  subst this
  rw [dec_small (by omega)]; rfl
end LM
end Go.Proofs.YteaaloejjafhlaaDoor
