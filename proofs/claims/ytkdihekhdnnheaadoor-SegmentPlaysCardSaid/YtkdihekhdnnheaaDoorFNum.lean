/-
  Numbers as bytes, and bytes as numbers: the document's encoding. No program in it.
-/
import Derived.Lib.BitFns
namespace Go.Proofs.YtkdihekhdnnheaaDoor

/-- A number's bytes, the lowest first, at most so many. -/
def digs : Nat → Nat → List UInt8
  | 0, _ => []
  | k + 1, n => if n = 0 then [] else UInt8.ofNat n :: digs k (n / 256)
/-- What bytes say, the lowest first. -/
def valL : List UInt8 → Nat
  | [] => 0
  | c :: l => c.toNat + 256 * valL l
def lastB (l : List UInt8) : Nat := l.getLast?.elim 1 UInt8.toNat
theorem u8mod (n : Nat) : (UInt8.ofNat n).toNat = n % 256 := by simp [UInt8.toNat_ofNat']
theorem u8of (c : UInt8) (h : Nat) : UInt8.ofNat (c.toNat + 256 * h) = c := by
  apply UInt8.toNat_inj.1
  rw [u8mod]
  have := c.toNat_lt
  omega
theorem digs_zero (k : Nat) : digs k 0 = [] := by cases k <;> simp [digs]
theorem digs_len (k n : Nat) : (digs k n).length ≤ k := by
  induction k generalizing n with
  | zero => simp [digs]
  | succ k ih => unfold digs; split; simp; simp; exact ih _
theorem digs_more (k : Nat) : ∀ n, n < 256 ^ k → digs (k + 1) n = digs k n := by
  induction k with
  | zero => intro n h; obtain rfl : n = 0 := by simpa using h
            rfl
  | succ k ih =>
    intro n h
    rw [digs]
    conv => rhs; rw [digs]
    split
    · rfl
    · rw [ih (n / 256) (by rw [Nat.div_lt_iff_lt_mul (by omega)]; rw [Nat.pow_succ] at h; exact h)]
theorem val_digs (k : Nat) : ∀ n, n < 256 ^ k → valL (digs k n) = n := by
  induction k with
  | zero => intro n h; obtain rfl : n = 0 := by simpa using h
            rfl
  | succ k ih =>
    intro n h
    unfold digs
    split
    · rename_i h0; rw [h0]; rfl
    · rw [valL, ih (n / 256) (by rw [Nat.div_lt_iff_lt_mul (by omega)]; rw [Nat.pow_succ] at h; exact h), u8mod]; omega
theorem valL_lt : ∀ l : List UInt8, valL l < 256 ^ l.length
  | [] => by simp [valL]
  | c :: l => by
    have := valL_lt l
    have hc := c.toNat_lt
    rw [valL, List.length_cons, Nat.pow_succ]
    omega
theorem lastB_cons (c : UInt8) (d : UInt8) (l : List UInt8) : lastB (c :: d :: l) = lastB (d :: l) := by simp [lastB]
theorem valL_zero : ∀ l : List UInt8, l ≠ [] → lastB l ≠ 0 → valL l ≠ 0
  | [], h, _ => absurd rfl h
  | [c], _, h => by simp [lastB] at h; simp [valL]; exact h
  | c :: d :: l, _, h => by
    rw [lastB_cons] at h
    have := valL_zero (d :: l) (by simp) h
    rw [valL]; omega
/-- Bytes without a zero as the last one are those of their number. -/
theorem digs_val (k : Nat) : ∀ l : List UInt8, l.length ≤ k → lastB l ≠ 0 → digs k (valL l) = l := by
  induction k with
  | zero => intro l h _; obtain rfl : l = [] := by simpa using h
            rfl
  | succ k ih =>
    intro l h h0
    cases l with
    | nil => simp [valL, digs]
    | cons c l =>
      have hv := valL_zero (c :: l) (by simp) h0
      unfold digs
      rw [if_neg hv, valL, u8of]
      have e : (c.toNat + 256 * valL l) / 256 = valL l := by have := c.toNat_lt; omega
      rw [e, ih l (by simpa using h)]
      cases l with
      | nil => simp [lastB]
      | cons d l => rw [lastB_cons] at h0; exact h0
theorem digs_last (k : Nat) : ∀ n, n < 256 ^ k → lastB (digs k n) ≠ 0 := by
  induction k with
  | zero => intro n _; simp [digs, lastB]
  | succ k ih =>
    intro n h
    unfold digs
    split
    · simp [lastB]
    · rename_i h0
      have h1 : n / 256 < 256 ^ k := by rw [Nat.div_lt_iff_lt_mul (by omega)]; rw [Nat.pow_succ] at h; exact h
      have := ih (n / 256) h1
      cases hd : digs k (n / 256) with
      | nil =>
        have hv := val_digs k _ h1
        rw [hd] at hv
        have hv : 0 = n / 256 := hv
        simp only [lastB, List.getLast?_singleton, Option.elim_some, u8mod]
        omega
      | cons d l => rw [lastB_cons, ← hd]; exact this
theorem digs_get (k : Nat) : ∀ n j, j < (digs k n).length → (digs k n).getD j 0 = UInt8.ofNat (n / 256 ^ j) := by
  induction k with
  | zero => intro n j h; simp [digs] at h
  | succ k ih =>
    intro n j h
    unfold digs at h ⊢
    split
    · rename_i h0; rw [if_pos h0] at h; simp at h
    · rename_i h0
      rw [if_neg h0] at h
      cases j with
      | zero => simp
      | succ j =>
        have := ih (n / 256) j (by simpa using h)
        rw [List.getD_cons_succ, this, Nat.div_div_eq_div_mul, Nat.pow_succ, Nat.mul_comm]
theorem digs_left (k : Nat) : ∀ n j, j ≤ (digs k n).length → n / 256 ^ j = 0 → n < 256 ^ k → j = (digs k n).length := by
  induction k with
  | zero => intro n j h _ _; simp [digs] at h ⊢; omega
  | succ k ih =>
    intro n j h h0 hn
    unfold digs at h ⊢
    split
    · rename_i h1; rw [if_pos h1] at h; simpa using h
    · rename_i h1
      rw [if_neg h1] at h
      cases j with
      | zero => simp at h0; omega
      | succ j =>
        have := ih (n / 256) j (by simpa using h) (by rw [Nat.div_div_eq_div_mul, Nat.mul_comm, ← Nat.pow_succ]; exact h0) (by rw [Nat.div_lt_iff_lt_mul (by omega)]; rw [Nat.pow_succ] at hn; exact hn)
        simp [← this]
theorem digs_step {k n j : Nat} (h : j < (digs k n).length) : n / 256 ^ j ≠ 0 := by
  induction k generalizing n j with
  | zero => simp [digs] at h
  | succ k ih =>
    unfold digs at h
    split at h
    · simp at h
    · rename_i h0
      cases j with
      | zero => simpa using h0
      | succ j =>
        have := ih (n := n / 256) (j := j) (by simpa using h)
        rw [Nat.div_div_eq_div_mul, Nat.mul_comm, ← Nat.pow_succ] at this
        exact this

/-- How many bits: how many bytes. -/
theorem bitLenAux_div (f : Nat) : ∀ n, n < 2 ^ (f + 8) → 256 ≤ n → Lib.bitLenAux (f + 8) n = 8 + Lib.bitLenAux f (n / 256) := by
  intro n _ hn
  have e : ∀ g m, m ≠ 0 → Lib.bitLenAux (g + 1) m = 1 + Lib.bitLenAux g (m / 2) := fun g m h => by rw [Lib.bitLenAux, if_neg h]
  rw [e (f + 7) n (by omega), e (f + 6) (n / 2) (by omega), e (f + 5) (n / 2 / 2) (by omega), e (f + 4) (n / 2 / 2 / 2) (by omega), e (f + 3) (n / 2 / 2 / 2 / 2) (by omega), e (f + 2) (n / 2 / 2 / 2 / 2 / 2) (by omega), e (f + 1) (n / 2 / 2 / 2 / 2 / 2 / 2) (by omega), e f (n / 2 / 2 / 2 / 2 / 2 / 2 / 2) (by omega)]
  rw [show n / 2 / 2 / 2 / 2 / 2 / 2 / 2 / 2 = n / 256 by omega]
  omega
theorem bitLenAux_zero (f : Nat) : Lib.bitLenAux f 0 = 0 := by cases f <;> simp [Lib.bitLenAux]
theorem bitLenAux_small (f n : Nat) (h0 : n ≠ 0) (h : n < 256) : 1 ≤ Lib.bitLenAux (f + 8) n ∧ Lib.bitLenAux (f + 8) n ≤ 8 := by
  have e : ∀ g m, Lib.bitLenAux (g + 1) m = if m = 0 then 0 else 1 + Lib.bitLenAux g (m / 2) := fun g m => by rw [Lib.bitLenAux]
  have hz : Lib.bitLenAux f (n / 2 / 2 / 2 / 2 / 2 / 2 / 2 / 2) = 0 := by rw [show n / 2 / 2 / 2 / 2 / 2 / 2 / 2 / 2 = 0 by omega]; exact bitLenAux_zero f
  rw [e (f + 7), e (f + 6), e (f + 5), e (f + 4), e (f + 3), e (f + 2), e (f + 1), e f, hz]
  (repeat' split) <;> omega
theorem digs_bits (k : Nat) : ∀ n, n < 256 ^ k → (digs k n).length = (Lib.bitLenAux (8 * k) n + 7) / 8 := by
  induction k with
  | zero => intro n h; obtain rfl : n = 0 := by simpa using h
            rfl
  | succ k ih =>
    intro n h
    unfold digs
    have hp : (256 : Nat) ^ (k + 1) = 2 ^ (8 * k + 8) := by
      rw [show (256 : Nat) = 2 ^ 8 by rfl, ← Nat.pow_mul]; congr 1
    rw [show 8 * (k + 1) = 8 * k + 8 by omega]
    split
    · rename_i h0; rw [h0, bitLenAux_zero]; rfl
    · rename_i h0
      have h1 : n / 256 < 256 ^ k := by rw [Nat.div_lt_iff_lt_mul (by omega)]; rw [Nat.pow_succ] at h; exact h
      rw [List.length_cons, ih (n / 256) h1]
      by_cases hs : n < 256
      · have := bitLenAux_small (8 * k) n h0 hs
        rw [show n / 256 = 0 by omega, bitLenAux_zero]
        omega
      · rw [bitLenAux_div (8 * k) n (by rw [← hp]; exact h) (by omega)]
        omega
theorem digs_count (n : Nat) (h : n < 256 ^ 8) : (digs 8 n).length = (Lib.bitLen n + 7) / 8 := digs_bits 8 n h

/-- What is encoded: the number, or, if it is negative, what -1 less it is. -/
def magI (n : Int) : Nat := if n < 0 then (-1 - n).toNat else n.toNat
def headI (n : Int) : UInt8 := UInt8.ofNat ((if n < 0 then 16 else 0) + (digs 8 (magI n)).length)
/-- The bytes of an integer. -/
def intB (n : Int) : List UInt8 := headI n :: digs 8 (magI n)
def Int64 (n : Int) : Prop := -9223372036854775808 ≤ n ∧ n ≤ 9223372036854775807
theorem magI_lt {n : Int} (h : Int64 n) : magI n < 9223372036854775808 := by unfold Int64 at h; unfold magI; split <;> omega
theorem magI_lt8 {n : Int} (h : Int64 n) : magI n < 256 ^ 8 := by have := magI_lt h; omega
theorem intB_len (n : Int) : 1 ≤ (intB n).length ∧ (intB n).length ≤ 9 := by
  have := digs_len 8 (magI n)
  unfold intB; rw [List.length_cons]; omega
theorem headI_nat (n : Int) : (headI n).toNat = (if n < 0 then 16 else 0) + (digs 8 (magI n)).length := by
  have := digs_len 8 (magI n)
  unfold headI
  rw [u8mod]
  split <;> omega
/-- Is it the head of an integer of so many bytes? -/
def headOk (h : Nat) (left : Nat) : Bool := decide (h ≤ 31) && decide (h % 16 ≤ 8) && decide (h % 16 ≤ left)
def signI (h : Nat) (m : Nat) : Int := if 16 ≤ h then -1 - (m : Int) else m
/-- The integer that bytes begin with, and how many bytes it takes; or none. -/
def readI : List UInt8 → Option (Int × Nat)
  | [] => none
  | c :: t =>
    if headOk c.toNat t.length = true then
      if lastB (t.take (c.toNat % 16)) ≠ 0 ∧ valL (t.take (c.toNat % 16)) < 9223372036854775808 then some (signI c.toNat (valL (t.take (c.toNat % 16))), 1 + c.toNat % 16) else none
    else none
theorem readI_le {l : List UInt8} {n : Int} {k : Nat} (h : readI l = some (n, k)) : 1 ≤ k ∧ k ≤ l.length ∧ k ≤ 9 := by
  cases l with
  | nil => cases h
  | cons c t =>
    rw [readI] at h
    split at h
    · rename_i ho
      split at h
      · injection h with h; injection h with h1 h2
        simp [headOk] at ho
        rw [List.length_cons]
        omega
      · cases h
    · cases h
theorem readI_i64 {l : List UInt8} {n : Int} {k : Nat} (h : readI l = some (n, k)) : Int64 n := by
  cases l with
  | nil => cases h
  | cons c t =>
    rw [readI] at h
    split at h
    · split at h
      · rename_i hv
        injection h with h; injection h with h1 h2
        rw [← h1]
        unfold signI Int64
        split <;> omega
      · cases h
    · cases h
/-- What was written is read. -/
theorem readI_intB {n : Int} (hn : Int64 n) (r : List UInt8) : readI (intB n ++ r) = some (n, (intB n).length) := by
  have hl := digs_len 8 (magI n)
  have hm := magI_lt hn
  unfold intB
  rw [List.cons_append, readI, headI_nat]
  have e : ((if n < 0 then 16 else 0) + (digs 8 (magI n)).length) % 16 = (digs 8 (magI n)).length := by split <;> omega
  have ho : headOk ((if n < 0 then 16 else 0) + (digs 8 (magI n)).length) (digs 8 (magI n) ++ r).length = true := by
    simp only [headOk, e, List.length_append, Bool.and_eq_true, decide_eq_true_eq]
    split <;> omega
  rw [if_pos ho, e, List.take_left]
  rw [if_pos ⟨digs_last 8 _ (by omega), by rw [val_digs 8 _ (by omega)]; exact hm⟩, val_digs 8 _ (by omega), List.length_cons]
  congr 1
  unfold signI magI
  refine Prod.ext ?_ (by simp; omega)
  simp only []
  by_cases h0 : n < 0
  · rw [if_pos h0, if_pos h0, if_pos (by omega)]; omega
  · rw [if_neg h0, if_neg h0, if_neg (by rw [magI, if_neg h0] at hl; omega)]; omega
/-- What is read has just these bytes. -/
theorem intB_readI {l : List UInt8} {n : Int} {k : Nat} (h : readI l = some (n, k)) : intB n = l.take k := by
  cases l with
  | nil => cases h
  | cons c t =>
    rw [readI] at h
    split at h
    · rename_i ho
      split at h
      · rename_i hv
        obtain ⟨hv1, hv2⟩ := hv
        injection h with h; injection h with h1 h2
        simp [headOk] at ho
        have htl : (t.take (c.toNat % 16)).length = c.toNat % 16 := by rw [List.length_take]; omega
        have hd := digs_val 8 (t.take (c.toNat % 16)) (by omega) hv1
        have hm : magI n = valL (t.take (c.toNat % 16)) := by
          rw [← h1]; unfold magI signI
          by_cases h16 : 16 ≤ c.toNat
          · rw [if_pos h16, if_pos (by omega)]; omega
          · rw [if_neg h16, if_neg (by omega)]; omega
        rw [← h2, Nat.add_comm, List.take_succ_cons]
        unfold intB
        rw [hm, hd]
        congr 1
        apply UInt8.toNat_inj.1
        rw [headI_nat, hm, hd, htl, ← h1]
        unfold signI
        by_cases h16 : 16 ≤ c.toNat
        · rw [if_pos h16, if_pos (by omega)]; omega
        · rw [if_neg h16, if_neg (by omega)]; omega
      · cases h
    · cases h
/-- Bytes that begin with an integer's begin with that integer. -/
theorem readI_iff {l : List UInt8} {n : Int} {k : Nat} : readI l = some (n, k) ↔ Int64 n ∧ k = (intB n).length ∧ intB n = l.take k := by
  constructor
  · intro h
    have h2 := intB_readI h
    exact ⟨readI_i64 h, by rw [h2, List.length_take]; have := readI_le h; omega, h2⟩
  · rintro ⟨hn, rfl, h⟩
    have := readI_intB hn (l.drop (intB n).length)
    rw [h] at this
    rw [List.length_take] at this
    have hk : min (intB n).length l.length = (intB n).length := by rw [h] ; simp
    rw [hk, List.take_append_drop] at this
    exact this
/-- A text's bytes. -/
def textB (s : List UInt8) : List UInt8 := intB s.length ++ s
end Go.Proofs.YtkdihekhdnnheaaDoor
