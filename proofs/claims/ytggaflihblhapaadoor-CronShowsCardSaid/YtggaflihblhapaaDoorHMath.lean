/-
  Sets of numbers as bits, specs, and the minutes that match: no program in it.
-/
import Derived.Test.YtggaflihblhapaaDoorCMath
import Derived.Lib.TrailingZeros
namespace Go.Proofs.YtggaflihblhapaaDoor
namespace HM
open Go.Lib CM

/-- The set of the numbers below k that p takes. -/
def ofP (p : Nat → Bool) : Nat → Nat
  | 0 => 0
  | k + 1 => ofP p k ||| (if p k then 2 ^ k else 0)
theorem bit_ofP (p : Nat → Bool) (k m : Nat) : (ofP p k).testBit m = (decide (m < k) && p m) := by
  induction k with
  | zero => simp [ofP]
  | succ k ih =>
    rw [ofP, Nat.testBit_or, ih]
    by_cases hp : p k = true
    · rw [if_pos hp, Nat.testBit_two_pow]
      by_cases e : k = m
      · subst e; simp [hp]
      · have : (decide (m < k + 1)) = decide (m < k) := by congr 1; exact propext ⟨fun h => by omega, fun h => by omega⟩
        simp [e, this]
    · rw [if_neg hp]
      by_cases e : k = m
      · subst e; simp [hp]
      · have : (decide (m < k + 1)) = decide (m < k) := by congr 1; exact propext ⟨fun h => by omega, fun h => by omega⟩
        simp [this]
theorem ofP_lt (p : Nat → Bool) (k : Nat) : ofP p k < 2 ^ k := by
  induction k with
  | zero => simp [ofP]
  | succ k ih =>
    rw [ofP]
    refine Nat.or_lt_two_pow (Nat.lt_trans ih (Nat.pow_lt_pow_right (by omega) (by omega))) ?_
    split
    · exact Nat.pow_lt_pow_right (by omega) (by omega)
    · exact Nat.pos_of_ne_zero (by simp)
theorem bits_eq {a b : Nat} (h : ∀ m, a.testBit m = b.testBit m) : a = b := Nat.eq_of_testBit_eq h
theorem bit_hi {S m : Nat} (h : S < 18446744073709551616) (hm : 64 ≤ m) : S.testBit m = false :=
  Nat.testBit_lt_two_pow (Nat.lt_of_lt_of_le h (by
    have : (2 : Nat) ^ 64 ≤ 2 ^ m := Nat.pow_le_pow_right (by omega) hm
    exact this))
/-- The numbers from a to b in steps of s. -/
def inS (a b s n : Nat) : Bool := decide (a ≤ n) && (decide (n ≤ b) && decide ((n - a) % s = 0))
def spanN (a b s : Nat) : Nat := ofP (inS a b s) 64
theorem spanN_lt (a b s : Nat) : spanN a b s < 18446744073709551616 := ofP_lt _ 64
theorem bit_span {a b s : Nat} (hb : b ≤ 63) (m : Nat) : (spanN a b s).testBit m = inS a b s m := by
  unfold spanN
  rw [bit_ofP]
  by_cases h : m < 64
  · simp [h]
  · have : inS a b s m = false := by unfold inS; simp; omega
    simp [this]
/-- What a set holds when the numbers below n are through. -/
def upto (a b s n : Nat) : Nat := ofP (fun m => decide (m < n) && inS a b s m) 64
theorem upto_lt (a b s n : Nat) : upto a b s n < 18446744073709551616 := ofP_lt _ 64
theorem upto_start (a b s : Nat) : upto a b s a = 0 := by
  refine bits_eq fun m => ?_
  unfold upto
  rw [bit_ofP, Nat.zero_testBit]
  by_cases h : m < a
  · have : inS a b s m = false := by unfold inS; simp; omega
    simp [this]
  · simp [h]
theorem upto_done {a b s n : Nat} (h : b < n) : upto a b s n = spanN a b s := by
  refine bits_eq fun m => ?_
  unfold upto spanN
  rw [bit_ofP, bit_ofP]
  by_cases hm : m < n
  · simp [hm]
  · have : inS a b s m = false := by unfold inS; simp; omega
    simp [this]
theorem upto_step {a b s n : Nat} (hs : 1 ≤ s) (ha : a ≤ n) (hn : n ≤ b) (hb : b ≤ 63) (hm : (n - a) % s = 0) : upto a b s (n + s) = upto a b s n ||| 2 ^ n := by
  refine bits_eq fun m => ?_
  rw [Nat.testBit_or, Nat.testBit_two_pow]
  unfold upto
  rw [bit_ofP, bit_ofP]
  by_cases e : n = m
  · subst e
    have : inS a b s n = true := by unfold inS; simp; exact ⟨ha, hn, hm⟩
    simp [this]; omega
  · by_cases h1 : m < n
    · simp [e, h1, show m < n + s by omega]
    · by_cases h2 : m < n + s
      · have : inS a b s m = false := by
          unfold inS
          have h3 : (m - a) % s = m - n := by
            have : m - a = (n - a) + (m - n) := by omega
            rw [this, Nat.add_mod, hm, Nat.zero_add, Nat.mod_mod, Nat.mod_eq_of_lt (by omega)]
          simp [h3]; omega
        simp [this, e]
      · simp [h1, h2, e]
/-- Where a field's numbers begin and end. -/
def loN (f : Nat) : Nat := if f = 2 ∨ f = 3 then 1 else 0
def hiN (f : Nat) : Nat := if f = 0 then 59 else if f = 1 then 23 else if f = 2 then 31 else if f = 3 then 12 else 6
theorem lohi (f : Nat) : loN f ≤ 1 ∧ 6 ≤ hiN f ∧ hiN f ≤ 59 := by
  unfold loN hiN
  refine ⟨?_, ?_, ?_⟩ <;> (repeat' split) <;> omega
def inF (f n : Nat) : Bool := decide (loN f ≤ n) && decide (n ≤ hiN f)
def maskN (f : Nat) : Nat := spanN (loN f) (hiN f) 1
theorem maskN_lt (f : Nat) : maskN f < 18446744073709551616 := spanN_lt _ _ _
theorem bit_mask (f m : Nat) : (maskN f).testBit m = inF f m := by
  unfold maskN
  rw [bit_span (by have := lohi f; omega)]
  unfold inS inF
  simp [Nat.mod_one]

/-- A spec: its sets, and which fields are any. -/
structure Sp where
  S : Nat → Nat
  A : Nat → Bool
def Sp.wf (c : Sp) : Prop := ∀ f, f < 5 → c.S f < 18446744073709551616
/-- A field is right: not empty, of its own numbers alone; all of them if it is any. -/
def okB (f s : Nat) (a : Bool) : Bool := !(s == 0) && (decide (s &&& maskN f = s) && (!a || s == maskN f))
def validB (c : Sp) : Bool := okB 0 (c.S 0) (c.A 0) && (okB 1 (c.S 1) (c.A 1) && (okB 2 (c.S 2) (c.A 2) && (okB 3 (c.S 3) (c.A 3) && okB 4 (c.S 4) (c.A 4))))
theorem valid_iff (c : Sp) : validB c = true ↔ ∀ f, f < 5 → okB f (c.S f) (c.A f) = true := by
  unfold validB
  simp only [Bool.and_eq_true]
  constructor
  · rintro ⟨h0, h1, h2, h3, h4⟩ f hf
    obtain rfl | rfl | rfl | rfl | rfl : f = 0 ∨ f = 1 ∨ f = 2 ∨ f = 3 ∨ f = 4 := by omega
    all_goals assumption
  · intro h
    exact ⟨h 0 (by omega), h 1 (by omega), h 2 (by omega), h 3 (by omega), h 4 (by omega)⟩
theorem valid_bits {c : Sp} (h : validB c = true) {f : Nat} (hf : f < 5) : c.S f ≠ 0 ∧ (∀ m, (c.S f).testBit m = true → loN f ≤ m ∧ m ≤ hiN f) ∧ (c.A f = true → c.S f = maskN f) := by
  have h1 := (valid_iff c).1 h f hf
  unfold okB at h1
  simp only [Bool.and_eq_true, Bool.not_eq_true', beq_eq_false_iff_ne, ne_eq, decide_eq_true_eq, Bool.or_eq_true, beq_iff_eq] at h1
  obtain ⟨h2, h3, h4⟩ := h1
  refine ⟨h2, fun m hm => ?_, fun ha => ?_⟩
  · have : (maskN f).testBit m = true := by
      rw [← h3, Nat.testBit_and] at hm
      simp only [Bool.and_eq_true] at hm
      exact hm.2
    rw [bit_mask] at this
    unfold inF at this
    simpa using this
  · rcases h4 with h4 | h4
    · rw [ha] at h4; cases h4
    · exact h4
/-- The day of a month and its weekday match. -/
def mdB (c : Sp) (d wd : Int) : Bool := if (c.A 2 || c.A 4) = true then (c.S 2).testBit d.toNat && (c.S 4).testBit wd.toNat else (c.S 2).testBit d.toNat || (c.S 4).testBit wd.toNat
/-- A day matches. -/
def dayB (c : Sp) (d : Int) : Bool := (c.S 3).testBit (K (d * 1440) + 1) && mdB c (D (d * 1440)) ((6 + d) % 7)
/-- A time of day matches. -/
def timB (c : Sp) (t : Int) : Bool := (c.S 0).testBit (t % 60).toNat && (c.S 1).testBit (t / 60).toNat
/-- A minute matches. -/
def matB (c : Sp) (n : Int) : Bool := timB c (n % 1440) && dayB c (n / 1440)
theorem same_day {n m : Int} (h : n / 1440 = m / 1440) : Y n = Y m ∧ K n = K m ∧ D n = D m := by
  have hY : Y n = Y m := by unfold Y; rw [h]
  have hR : R n = R m := by unfold R; rw [hY, h]
  have hK : K n = K m := by unfold K; rw [hY, hR]
  exact ⟨hY, hK, by unfold D; rw [hY, hR, hK]⟩
theorem day_of (n : Int) : Y (n / 1440 * 1440) = Y n ∧ K (n / 1440 * 1440) = K n ∧ D (n / 1440 * 1440) = D n := same_day (by omega)
/-- The reckoning of Match. -/
theorem mat_parts (c : Sp) {n : Int} : matB c n = ((c.S 0).testBit (n % 60).toNat && ((c.S 1).testBit (n / 60 % 24).toNat && ((c.S 3).testBit (K n + 1) && mdB c (D n) ((6 + n / 1440) % 7)))) := by
  unfold matB timB dayB
  rw [(day_of n).2.1, (day_of n).2.2, show n % 1440 % 60 = n % 60 by omega, show n % 1440 / 60 = n / 60 % 24 by omega, Bool.and_assoc]
/-- The days of a month that are left lie one behind the other. -/
theorem day_add {d i : Int} (h0 : 0 ≤ d) (hi : 0 ≤ i) (h : i < dm (Y (d * 1440)) (K (d * 1440) + 1) - D (d * 1440) + 1) :
    Y ((d + i) * 1440) = Y (d * 1440) ∧ K ((d + i) * 1440) = K (d * 1440) ∧ D ((d + i) * 1440) = D (d * 1440) + i := by
  have hk := K_spec (n := d * 1440) (by omega)
  have hd := D_bd (n := d * 1440) (by omega)
  have hy := Y_lo (n := d * 1440) (by omega)
  have he := n_eq (n := d * 1440)
  have := parts hy hk.1 (d := D (d * 1440) + i) (h := 0) (mi := 0) (by omega) (by omega) (by omega) (by omega) ((d + i) * 1440) (by omega)
  exact ⟨this.2.1, this.2.2.1, this.2.2.2.1⟩
/-- From n on. -/
def upN (S n : Nat) : Nat := S / 2 ^ n * 2 ^ n
theorem upN_le (S n : Nat) : upN S n ≤ S := Nat.div_mul_le_self S (2 ^ n)
theorem bit_up (S n m : Nat) : (upN S n).testBit m = (decide (n ≤ m) && S.testBit m) := by
  unfold upN
  rw [Nat.testBit_mul_two_pow, Nat.testBit_div_two_pow]
  by_cases h : n ≤ m
  · simp [h]
  · simp [h]
theorem up_zero {S n : Nat} (h : upN S n = 0) {m : Nat} (hm : n ≤ m) : S.testBit m = false := by
  have := bit_up S n m
  rw [h, Nat.zero_testBit] at this
  simp [hm] at this
  exact this
/-- The least number of a set. -/
def lst (S : Nat) : Nat := ctz 64 S
theorem lst_spec {S : Nat} (h0 : S ≠ 0) (h1 : S < 18446744073709551616) : S.testBit (lst S) = true ∧ lst S < 64 ∧ ∀ m, m < lst S → S.testBit m = false := by
  obtain ⟨k, hk, hl⟩ := ctzFrom_spec 64 S (Nat.pos_of_ne_zero h0) h1
  have e : lst S = ctzFrom 64 S := by unfold lst ctz; rw [if_neg h0]
  rw [e]
  generalize ctzFrom 64 S = j at *
  subst hk
  refine ⟨?_, hl, fun m hm => ?_⟩
  · rw [Nat.mul_comm, Nat.testBit_mul_two_pow]; simp
  · rw [Nat.mul_comm, Nat.testBit_mul_two_pow]; simp; omega
theorem has_pow (S n : Nat) : (S / 2 ^ n) % 2 = (S.testBit n).toNat := by
  rw [Nat.testBit_eq_decide_div_mod_eq]
  by_cases h : S / 2 ^ n % 2 = 1
  · simp [h]
  · have : S / 2 ^ n % 2 = 0 := by omega
    simp [this]
end HM
end Go.Proofs.YtggaflihblhapaaDoor
