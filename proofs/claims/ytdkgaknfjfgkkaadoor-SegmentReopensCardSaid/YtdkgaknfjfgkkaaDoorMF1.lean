/-
  Numbers as bytes, and bytes as numbers: the document's encoding. No program in it.
  CRC-32 by bits and by half bytes: one and the same. No program in it.
-/
import Derived.Lib.BitFns
import Init
namespace Go.Proofs.YtdkgaknfjfgkkaaDoor

/-- A number's bytes, the lowest first, at most so many. -/
def digs : Nat → Nat → List UInt8
  | 0, _ => []
  | k + 1, n => if n = 0 then [] else UInt8.ofNat n :: digs k (n / 256)
/-- What bytes say, the lowest first. -/
def valL : List UInt8 → Nat
  | [] => 0
  | c :: l => c.toNat + 256 * valL l
def lastB (l : List UInt8) : Nat := l.getLast?.elim 1 UInt8.toNat
theorem u8mod (n : Nat) : (UInt8.ofNat n).toNat = n % 256 := by simp [UInt8.toNat_ofNat']
theorem u8of (c : UInt8) (h : Nat) : UInt8.ofNat (c.toNat + 256 * h) = c := by
  apply UInt8.toNat_inj.1
  rw [u8mod]
  have := c.toNat_lt
  omega
theorem digs_zero (k : Nat) : digs k 0 = [] := by cases k <;> simp [digs]
theorem digs_len (k n : Nat) : (digs k n).length ≤ k := by
  induction k generalizing n with
  | zero => simp [digs]
  | succ k ih => unfold digs; split; simp; simp; exact ih _
theorem digs_more (k : Nat) : ∀ n, n < 256 ^ k → digs (k + 1) n = digs k n := by
  induction k with
  | zero => intro n h; obtain rfl : n = 0 := by simpa using h
            rfl
  | succ k ih =>
    intro n h
    rw [digs]
    conv => rhs; rw [digs]
    split
    · rfl
    · rw [ih (n / 256) (by rw [Nat.div_lt_iff_lt_mul (by omega)]; rw [Nat.pow_succ] at h; exact h)]
theorem val_digs (k : Nat) : ∀ n, n < 256 ^ k → valL (digs k n) = n := by
  induction k with
  | zero => intro n h; obtain rfl : n = 0 := by simpa using h
            rfl
  | succ k ih =>
    intro n h
    unfold digs
    split
    · rename_i h0; rw [h0]; rfl
    · rw [valL, ih (n / 256) (by rw [Nat.div_lt_iff_lt_mul (by omega)]; rw [Nat.pow_succ] at h; exact h), u8mod]; omega
theorem valL_lt : ∀ l : List UInt8, valL l < 256 ^ l.length
  | [] => by simp [valL]
  | c :: l => by
    have := valL_lt l
    have hc := c.toNat_lt
    rw [valL, List.length_cons, Nat.pow_succ]
    omega
theorem lastB_cons (c : UInt8) (d : UInt8) (l : List UInt8) : lastB (c :: d :: l) = lastB (d :: l) := by simp [lastB]
theorem valL_zero : ∀ l : List UInt8, l ≠ [] → lastB l ≠ 0 → valL l ≠ 0
  | [], h, _ => absurd rfl h
  | [c], _, h => by simp [lastB] at h; simp [valL]; exact h
  | c :: d :: l, _, h => by
    rw [lastB_cons] at h
    have := valL_zero (d :: l) (by simp) h
    rw [valL]; omega
/-- Bytes without a zero as the last one are those of their number. -/
theorem digs_val (k : Nat) : ∀ l : List UInt8, l.length ≤ k → lastB l ≠ 0 → digs k (valL l) = l := by
  induction k with
  | zero => intro l h _; obtain rfl : l = [] := by simpa using h
            rfl
  | succ k ih =>
    intro l h h0
    cases l with
    | nil => simp [valL, digs]
    | cons c l =>
      have hv := valL_zero (c :: l) (by simp) h0
      unfold digs
      rw [if_neg hv, valL, u8of]
      have e : (c.toNat + 256 * valL l) / 256 = valL l := by have := c.toNat_lt; omega
      rw [e, ih l (by simpa using h)]
      cases l with
      | nil => simp [lastB]
      | cons d l => rw [lastB_cons] at h0; exact h0
theorem digs_last (k : Nat) : ∀ n, n < 256 ^ k → lastB (digs k n) ≠ 0 := by
  induction k with
  | zero => intro n _; simp [digs, lastB]
  | succ k ih =>
    intro n h
    unfold digs
    split
    · simp [lastB]
    · rename_i h0
      have h1 : n / 256 < 256 ^ k := by rw [Nat.div_lt_iff_lt_mul (by omega)]; rw [Nat.pow_succ] at h; exact h
      have := ih (n / 256) h1
      cases hd : digs k (n / 256) with
      | nil =>
        have hv := val_digs k _ h1
        rw [hd] at hv
        have hv : 0 = n / 256 := hv
        simp only [lastB, List.getLast?_singleton, Option.elim_some, u8mod]
        omega
      | cons d l => rw [lastB_cons, ← hd]; exact this
theorem digs_get (k : Nat) : ∀ n j, j < (digs k n).length → (digs k n).getD j 0 = UInt8.ofNat (n / 256 ^ j) := by
  induction k with
  | zero => intro n j h; simp [digs] at h
  | succ k ih =>
    intro n j h
    unfold digs at h ⊢
    split
    · rename_i h0; rw [if_pos h0] at h; simp at h
    · rename_i h0
      rw [if_neg h0] at h
      cases j with
      | zero => simp
      | succ j =>
        have := ih (n / 256) j (by simpa using h)
        rw [List.getD_cons_succ, this, Nat.div_div_eq_div_mul, Nat.pow_succ, Nat.mul_comm]
theorem digs_left (k : Nat) : ∀ n j, j ≤ (digs k n).length → n / 256 ^ j = 0 → n < 256 ^ k → j = (digs k n).length := by
  induction k with
  | zero => intro n j h _ _; simp [digs] at h ⊢; omega
  | succ k ih =>
    intro n j h h0 hn
    unfold digs at h ⊢
    split
    · rename_i h1; rw [if_pos h1] at h; simpa using h
    · rename_i h1
      rw [if_neg h1] at h
      cases j with
      | zero => simp at h0; omega
      | succ j =>
        have := ih (n / 256) j (by simpa using h) (by rw [Nat.div_div_eq_div_mul, Nat.mul_comm, ← Nat.pow_succ]; exact h0) (by rw [Nat.div_lt_iff_lt_mul (by omega)]; rw [Nat.pow_succ] at hn; exact hn)
        simp [← this]
theorem digs_step {k n j : Nat} (h : j < (digs k n).length) : n / 256 ^ j ≠ 0 := by
  induction k generalizing n j with
  | zero => simp [digs] at h
  | succ k ih =>
    unfold digs at h
    split at h
    · simp at h
    · rename_i h0
      cases j with
      | zero => simpa using h0
      | succ j =>
        have := ih (n := n / 256) (j := j) (by simpa using h)
        rw [Nat.div_div_eq_div_mul, Nat.mul_comm, ← Nat.pow_succ] at this
        exact this

/-- How many bits: how many bytes. -/
theorem bitLenAux_div (f : Nat) : ∀ n, n < 2 ^ (f + 8) → 256 ≤ n → Lib.bitLenAux (f + 8) n = 8 + Lib.bitLenAux f (n / 256) := by
  intro n _ hn
  have e : ∀ g m, m ≠ 0 → Lib.bitLenAux (g + 1) m = 1 + Lib.bitLenAux g (m / 2) := fun g m h => by rw [Lib.bitLenAux, if_neg h]
  rw [e (f + 7) n (by omega), e (f + 6) (n / 2) (by omega), e (f + 5) (n / 2 / 2) (by omega), e (f + 4) (n / 2 / 2 / 2) (by omega), e (f + 3) (n / 2 / 2 / 2 / 2) (by omega), e (f + 2) (n / 2 / 2 / 2 / 2 / 2) (by omega), e (f + 1) (n / 2 / 2 / 2 / 2 / 2 / 2) (by omega), e f (n / 2 / 2 / 2 / 2 / 2 / 2 / 2) (by omega)]
  rw [show n / 2 / 2 / 2 / 2 / 2 / 2 / 2 / 2 = n / 256 by omega]
  omega
theorem bitLenAux_zero (f : Nat) : Lib.bitLenAux f 0 = 0 := by cases f <;> simp [Lib.bitLenAux]
theorem bitLenAux_small (f n : Nat) (h0 : n ≠ 0) (h : n < 256) : 1 ≤ Lib.bitLenAux (f + 8) n ∧ Lib.bitLenAux (f + 8) n ≤ 8 := by
  have e : ∀ g m, Lib.bitLenAux (g + 1) m = if m = 0 then 0 else 1 + Lib.bitLenAux g (m / 2) := fun g m => by rw [Lib.bitLenAux]
  have hz : Lib.bitLenAux f (n / 2 / 2 / 2 / 2 / 2 / 2 / 2 / 2) = 0 := by rw [show n / 2 / 2 / 2 / 2 / 2 / 2 / 2 / 2 = 0 by omega]; exact bitLenAux_zero f
  rw [e (f + 7), e (f + 6), e (f + 5), e (f + 4), e (f + 3), e (f + 2), e (f + 1), e f, hz]
  (repeat' split) <;> omega
theorem digs_bits (k : Nat) : ∀ n, n < 256 ^ k → (digs k n).length = (Lib.bitLenAux (8 * k) n + 7) / 8 := by
  induction k with
  | zero => intro n h; obtain rfl : n = 0 := by simpa using h
            rfl
  | succ k ih =>
    intro n h
    unfold digs
    have hp : (256 : Nat) ^ (k + 1) = 2 ^ (8 * k + 8) := by
      rw [show (256 : Nat) = 2 ^ 8 by rfl, ← Nat.pow_mul]; congr 1
    rw [show 8 * (k + 1) = 8 * k + 8 by omega]
    split
    · rename_i h0; rw [h0, bitLenAux_zero]; rfl
    · rename_i h0
      have h1 : n / 256 < 256 ^ k := by rw [Nat.div_lt_iff_lt_mul (by omega)]; rw [Nat.pow_succ] at h; exact h
      rw [List.length_cons, ih (n / 256) h1]
      by_cases hs : n < 256
      · have := bitLenAux_small (8 * k) n h0 hs
        rw [show n / 256 = 0 by omega, bitLenAux_zero]
        omega
      · rw [bitLenAux_div (8 * k) n (by rw [← hp]; exact h) (by omega)]
        omega
theorem digs_count (n : Nat) (h : n < 256 ^ 8) : (digs 8 n).length = (Lib.bitLen n + 7) / 8 := digs_bits 8 n h

/-- What is encoded: the number, or, if it is negative, what -1 less it is. -/
def magI (n : Int) : Nat := if n < 0 then (-1 - n).toNat else n.toNat
def headI (n : Int) : UInt8 := UInt8.ofNat ((if n < 0 then 16 else 0) + (digs 8 (magI n)).length)
/-- The bytes of an integer. -/
def intB (n : Int) : List UInt8 := headI n :: digs 8 (magI n)
def Int64 (n : Int) : Prop := -9223372036854775808 ≤ n ∧ n ≤ 9223372036854775807
theorem magI_lt {n : Int} (h : Int64 n) : magI n < 9223372036854775808 := by unfold Int64 at h; unfold magI; split <;> omega
theorem magI_lt8 {n : Int} (h : Int64 n) : magI n < 256 ^ 8 := by have := magI_lt h; omega
theorem intB_len (n : Int) : 1 ≤ (intB n).length ∧ (intB n).length ≤ 9 := by
  have := digs_len 8 (magI n)
  unfold intB; rw [List.length_cons]; omega
theorem headI_nat (n : Int) : (headI n).toNat = (if n < 0 then 16 else 0) + (digs 8 (magI n)).length := by
  have := digs_len 8 (magI n)
  unfold headI
  rw [u8mod]
  split <;> omega
/-- Is it the head of an integer of so many bytes? -/
def headOk (h : Nat) (left : Nat) : Bool := decide (h ≤ 31) && decide (h % 16 ≤ 8) && decide (h % 16 ≤ left)
def signI (h : Nat) (m : Nat) : Int := if 16 ≤ h then -1 - (m : Int) else m
/-- The integer that bytes begin with, and how many bytes it takes; or none. -/
def readI : List UInt8 → Option (Int × Nat)
  | [] => none
  | c :: t =>
    if headOk c.toNat t.length = true then
      if lastB (t.take (c.toNat % 16)) ≠ 0 ∧ valL (t.take (c.toNat % 16)) < 9223372036854775808 then some (signI c.toNat (valL (t.take (c.toNat % 16))), 1 + c.toNat % 16) else none
    else none
theorem readI_le {l : List UInt8} {n : Int} {k : Nat} (h : readI l = some (n, k)) : 1 ≤ k ∧ k ≤ l.length ∧ k ≤ 9 := by
  cases l with
  | nil => cases h
  | cons c t =>
    rw [readI] at h
    split at h
    · rename_i ho
      split at h
      · injection h with h; injection h with h1 h2
        simp [headOk] at ho
        rw [List.length_cons]
        omega
      · cases h
    · cases h
theorem readI_i64 {l : List UInt8} {n : Int} {k : Nat} (h : readI l = some (n, k)) : Int64 n := by
  cases l with
  | nil => cases h
  | cons c t =>
    rw [readI] at h
    split at h
    · split at h
      · rename_i hv
        injection h with h; injection h with h1 h2
        rw [← h1]
        unfold signI Int64
        split <;> omega
      · cases h
    · cases h
/-- What was written is read. -/
theorem readI_intB {n : Int} (hn : Int64 n) (r : List UInt8) : readI (intB n ++ r) = some (n, (intB n).length) := by
  have hl := digs_len 8 (magI n)
  have hm := magI_lt hn
  unfold intB
  rw [List.cons_append, readI, headI_nat]
  have e : ((if n < 0 then 16 else 0) + (digs 8 (magI n)).length) % 16 = (digs 8 (magI n)).length := by split <;> omega
  have ho : headOk ((if n < 0 then 16 else 0) + (digs 8 (magI n)).length) (digs 8 (magI n) ++ r).length = true := by
    simp only [headOk, e, List.length_append, Bool.and_eq_true, decide_eq_true_eq]
    split <;> omega
  rw [if_pos ho, e, List.take_left]
  rw [if_pos ⟨digs_last 8 _ (by omega), by rw [val_digs 8 _ (by omega)]; exact hm⟩, val_digs 8 _ (by omega), List.length_cons]
  congr 1
  unfold signI magI
  refine Prod.ext ?_ (by simp; omega)
  simp only []
  by_cases h0 : n < 0
  · rw [if_pos h0, if_pos h0, if_pos (by omega)]; omega
  · rw [if_neg h0, if_neg h0, if_neg (by rw [magI, if_neg h0] at hl; omega)]; omega
/-- What is read has just these bytes. -/
theorem intB_readI {l : List UInt8} {n : Int} {k : Nat} (h : readI l = some (n, k)) : intB n = l.take k := by
  cases l with
  | nil => cases h
  | cons c t =>
    rw [readI] at h
    split at h
    · rename_i ho
      split at h
      · rename_i hv
        obtain ⟨hv1, hv2⟩ := hv
        injection h with h; injection h with h1 h2
        simp [headOk] at ho
        have htl : (t.take (c.toNat % 16)).length = c.toNat % 16 := by rw [List.length_take]; omega
        have hd := digs_val 8 (t.take (c.toNat % 16)) (by omega) hv1
        have hm : magI n = valL (t.take (c.toNat % 16)) := by
          rw [← h1]; unfold magI signI
          by_cases h16 : 16 ≤ c.toNat
          · rw [if_pos h16, if_pos (by omega)]; omega
          · rw [if_neg h16, if_neg (by omega)]; omega
        rw [← h2, Nat.add_comm, List.take_succ_cons]
        unfold intB
        rw [hm, hd]
        congr 1
        apply UInt8.toNat_inj.1
        rw [headI_nat, hm, hd, htl, ← h1]
        unfold signI
        by_cases h16 : 16 ≤ c.toNat
        · rw [if_pos h16, if_pos (by omega)]; omega
        · rw [if_neg h16, if_neg (by omega)]; omega
      · cases h
    · cases h
/-- Bytes that begin with an integer's begin with that integer. -/
theorem readI_iff {l : List UInt8} {n : Int} {k : Nat} : readI l = some (n, k) ↔ Int64 n ∧ k = (intB n).length ∧ intB n = l.take k := by
  constructor
  · intro h
    have h2 := intB_readI h
    exact ⟨readI_i64 h, by rw [h2, List.length_take]; have := readI_le h; omega, h2⟩
  · rintro ⟨hn, rfl, h⟩
    have := readI_intB hn (l.drop (intB n).length)
    rw [h] at this
    rw [List.length_take] at this
    have hk : min (intB n).length l.length = (intB n).length := by rw [h] ; simp
    rw [hk, List.take_append_drop] at this
    exact this
/-- A text's bytes. -/
def textB (s : List UInt8) : List UInt8 := intB s.length ++ s
end Go.Proofs.YtdkgaknfjfgkkaaDoor
namespace Go.Proofs.YtdkgaknfjfgkkaaDoor

def stepC (c : Nat) : Nat := if c % 2 = 1 then (c / 2) ^^^ 3988292384 else c / 2
def halfT : List Nat := [0x00000000, 0x1db71064, 0x3b6e20c8, 0x26d930ac, 0x76dc4190, 0x6b6b51f4, 0x4db26158, 0x5005713c, 0xedb88320, 0xf00f9344, 0xd6d6a3e8, 0xcb61b38c, 0x9b64c2b0, 0x86d3d2d4, 0xa00ae278, 0xbdbdf21c]
def step4 (c : Nat) : Nat := stepC (stepC (stepC (stepC c)))
def step8 (c : Nat) : Nat := step4 (step4 c)
def nibC (c : Nat) : Nat := (c / 16) ^^^ halfT.getD (c % 16) 0
theorem xor_cancel (a b p : Nat) : (a ^^^ p) ^^^ (b ^^^ p) = a ^^^ b := by
  rw [Nat.xor_assoc, Nat.xor_comm p, Nat.xor_assoc, Nat.xor_self, Nat.xor_zero]
theorem stepC_xor (a b : Nat) : stepC (a ^^^ b) = stepC a ^^^ stepC b := by
  have h1 : (a ^^^ b) / 2 = a / 2 ^^^ b / 2 := Nat.xor_div_two
  have h2 : (a ^^^ b) % 2 = (a + b) % 2 := by
    have := @Nat.xor_mod_two_eq_one a b
    omega
  unfold stepC
  rw [h1, h2]
  by_cases ha : a % 2 = 1 <;> by_cases hb : b % 2 = 1
  · rw [if_neg (by omega), if_pos ha, if_pos hb, xor_cancel]
  · rw [if_pos (by omega), if_pos ha, if_neg hb, Nat.xor_assoc, Nat.xor_assoc, Nat.xor_comm (b / 2)]
  · rw [if_pos (by omega), if_neg ha, if_pos hb, Nat.xor_assoc]
  · rw [if_neg (by omega), if_neg ha, if_neg hb]
theorem stepC_two (k : Nat) : stepC (2 * k) = k := by unfold stepC; rw [if_neg (by omega)]; omega
theorem step4_xor (a b : Nat) : step4 (a ^^^ b) = step4 a ^^^ step4 b := by unfold step4; simp only [stepC_xor]
theorem step8_xor (a b : Nat) : step8 (a ^^^ b) = step8 a ^^^ step8 b := by unfold step8; simp only [step4_xor]
theorem step4_hi (k : Nat) : step4 (16 * k) = k := by
  unfold step4
  rw [show 16 * k = 2 * (2 * (2 * (2 * k))) by omega, stepC_two, stepC_two, stepC_two, stepC_two]
theorem step8_hi (k : Nat) : step8 (256 * k) = k := by
  unfold step8
  rw [show 256 * k = 16 * (16 * k) by omega, step4_hi, step4_hi]
theorem xor_parts (i x y : Nat) (h : y < 2 ^ i) : (2 ^ i * x) ^^^ y = 2 ^ i * x + y := by
  apply Nat.eq_of_testBit_eq
  intro j
  rw [Nat.testBit_xor, Nat.testBit_two_pow_mul_add x h, Nat.testBit_two_pow_mul]
  by_cases hj : j < i
  · simp [hj, Nat.not_le.2 hj]
  · have : y.testBit j = false := Nat.testBit_lt_two_pow (Nat.lt_of_lt_of_le h (Nat.pow_le_pow_right (by omega) (by omega)))
    simp [hj, this, Nat.not_lt.1 hj]
theorem step4_lo : ∀ l : Nat, l < 16 → step4 l = halfT.getD l 0 := by decide
theorem nibC_step4 (c : Nat) : nibC c = step4 c := by
  have h := xor_parts 4 (c / 16) (c % 16) (by omega)
  have e : 2 ^ 4 * (c / 16) + c % 16 = c := by omega
  rw [e] at h
  rw [← h, step4_xor, show (2 : Nat) ^ 4 = 16 by rfl, step4_hi, step4_lo _ (by omega), h]
  unfold nibC
  rfl
/-- One byte more. -/
def crcB (s : Nat) (c : UInt8) : Nat := step8 (s ^^^ c.toNat)
def crcL (l : List UInt8) : Nat := l.foldl crcB 4294967295
def sumL (l : List UInt8) : Nat := 4294967295 - crcL l
theorem stepC_lt {c : Nat} (h : c < 4294967296) : stepC c < 4294967296 := by
  unfold stepC
  split
  · exact Nat.xor_lt_two_pow (n := 32) (by omega) (by omega)
  · omega
theorem step4_lt {c : Nat} (h : c < 4294967296) : step4 c < 4294967296 := stepC_lt (stepC_lt (stepC_lt (stepC_lt h)))
theorem nibC_lt {c : Nat} (h : c < 4294967296) : nibC c < 4294967296 := by rw [nibC_step4]; exact step4_lt h
theorem xor_byte_lt {s : Nat} (h : s < 4294967296) (c : UInt8) : s ^^^ c.toNat < 4294967296 :=
  Nat.xor_lt_two_pow (n := 32) (by omega) (by have := c.toNat_lt; omega)
theorem crcB_lt {s : Nat} (h : s < 4294967296) (c : UInt8) : crcB s c < 4294967296 := step4_lt (step4_lt (xor_byte_lt h c))
theorem fold_crc_lt : ∀ (l : List UInt8) (s : Nat), s < 4294967296 → l.foldl crcB s < 4294967296
  | [], _, h => h
  | c :: l, s, h => fold_crc_lt l (crcB s c) (crcB_lt h c)
theorem crcL_lt (l : List UInt8) : crcL l < 4294967296 := fold_crc_lt l 4294967295 (by decide)
theorem sumL_lt (l : List UInt8) : sumL l < 4294967296 := by unfold sumL; omega
theorem crcL_take {l : List UInt8} {k : Nat} (hk : k < l.length) : crcL (l.take (k + 1)) = crcB (crcL (l.take k)) (l.getD k 0) := by
  unfold crcL
  rw [List.take_succ_eq_append_getElem hk, List.foldl_append, List.getD_eq_getElem?_getD, List.getElem?_eq_getElem hk, List.foldl_cons, List.foldl_nil, Option.getD_some]
theorem crcB_nib (s : Nat) (c : UInt8) : crcB s c = nibC (nibC (s ^^^ c.toNat)) := by rw [nibC_step4, nibC_step4]; rfl
/-- The bits' steps, one after another. -/
def stepN : Nat → Nat → Nat
  | 0, c => c
  | k + 1, c => stepC (stepN k c)
theorem stepN_eight (s : Nat) (c : UInt8) : stepN 8 (s ^^^ c.toNat) = crcB s c := rfl
theorem stepN_lt {c : Nat} (h : c < 4294967296) : ∀ k, stepN k c < 4294967296
  | 0 => h
  | k + 1 => stepC_lt (stepN_lt h k)
/-- A sum's four bytes, the lowest first. -/
def sum4 (s : Nat) : List UInt8 := [UInt8.ofNat s, UInt8.ofNat (s / 256), UInt8.ofNat (s / 65536), UInt8.ofNat (s / 16777216)]
theorem u8_mod (n : Nat) : (UInt8.ofNat n).toNat = n % 256 := by simp [UInt8.toNat_ofNat']
theorem step8_add (s b : Nat) : step8 s ^^^ b = step8 (s ^^^ 256 * b) := by rw [step8_xor, step8_hi]
theorem xor_compl (s : Nat) (h : s < 4294967296) : s ^^^ (4294967295 - s) = 4294967295 := by
  apply Nat.eq_of_testBit_eq
  intro j
  have e : 4294967295 - s = 2 ^ 32 - (s + 1) := by omega
  have e2 : (4294967295 : Nat) = 2 ^ 32 - 1 := by rfl
  rw [Nat.testBit_xor, e, Nat.testBit_two_pow_sub_succ (by omega), e2, Nat.testBit_two_pow_sub_one]
  by_cases hj : j < 32
  · simp [hj]
  · have : s.testBit j = false := Nat.testBit_lt_two_pow (Nat.lt_of_lt_of_le h (show 2 ^ 32 ≤ 2 ^ j from Nat.pow_le_pow_right (by omega) (by omega)))
    simp [hj, this]
theorem four_parts (c : Nat) (h : c < 4294967296) : c % 256 ^^^ 256 * (c / 256 % 256) ^^^ 256 * (256 * (c / 65536 % 256)) ^^^ 256 * (256 * (256 * (c / 16777216 % 256))) = c := by
  have h1 := xor_parts 8 (c / 256 % 256) (c % 256) (by omega)
  have h2 := xor_parts 16 (c / 65536 % 256) (c % 65536) (by omega)
  have h3 := xor_parts 24 (c / 16777216 % 256) (c % 16777216) (by omega)
  rw [Nat.xor_comm (c % 256), show 256 * (c / 256 % 256) = 2 ^ 8 * (c / 256 % 256) by rfl, h1, show 2 ^ 8 * (c / 256 % 256) + c % 256 = c % 65536 by omega,
    Nat.xor_comm (c % 65536), show 256 * (256 * (c / 65536 % 256)) = 2 ^ 16 * (c / 65536 % 256) by omega, h2, show 2 ^ 16 * (c / 65536 % 256) + c % 65536 = c % 16777216 by omega,
    Nat.xor_comm (c % 16777216), show 256 * (256 * (256 * (c / 16777216 % 256))) = 2 ^ 24 * (c / 16777216 % 256) by omega, h3]
  omega
theorem crc_four (s b0 b1 b2 b3 : Nat) : step8 (step8 (step8 (step8 (s ^^^ b0) ^^^ b1) ^^^ b2) ^^^ b3) = step8 (step8 (step8 (step8 (s ^^^ (b0 ^^^ 256 * b1 ^^^ 256 * (256 * b2) ^^^ 256 * (256 * (256 * b3))))))) := by
  rw [step8_add (s ^^^ b0), step8_add (step8 _), step8_add (s ^^^ b0 ^^^ 256 * b1), step8_add (step8 (step8 _)), step8_add (step8 _), step8_add (s ^^^ b0 ^^^ 256 * b1 ^^^ 256 * (256 * b2))]
  simp only [Nat.xor_assoc]
/-- Gone on with their own sum, all bytes have one and the same. -/
theorem crc_own (l : List UInt8) : sumL (l ++ sum4 (sumL l)) = 558161692 := by
  have hl := crcL_lt l
  have hs := sumL_lt l
  have e : crcL (l ++ sum4 (sumL l)) = step8 (step8 (step8 (step8 (crcL l ^^^ sumL l)))) := by
    have := four_parts (sumL l) hs
    unfold crcL at *
    rw [List.foldl_append]
    unfold sum4 crcB
    simp only [List.foldl_cons, List.foldl_nil, u8_mod]
    rw [crc_four, this]
  have e2 : crcL l ^^^ sumL l = 4294967295 := xor_compl _ hl
  unfold sumL at *
  rw [e, e2]
  decide
end Go.Proofs.YtdkgaknfjfgkkaaDoor
