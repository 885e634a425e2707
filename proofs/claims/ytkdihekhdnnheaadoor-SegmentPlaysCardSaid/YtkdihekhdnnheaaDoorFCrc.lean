/-
  CRC-32 by bits and by half bytes: one and the same. No program in it.
-/
import Init
namespace Go.Proofs.YtkdihekhdnnheaaDoor

def stepC (c : Nat) : Nat := if c % 2 = 1 then (c / 2) ^^^ 3988292384 else c / 2
def halfT : List Nat := [0x00000000, 0x1db71064, 0x3b6e20c8, 0x26d930ac, 0x76dc4190, 0x6b6b51f4, 0x4db26158, 0x5005713c, 0xedb88320, 0xf00f9344, 0xd6d6a3e8, 0xcb61b38c, 0x9b64c2b0, 0x86d3d2d4, 0xa00ae278, 0xbdbdf21c]
def step4 (c : Nat) : Nat := stepC (stepC (stepC (stepC c)))
def step8 (c : Nat) : Nat := step4 (step4 c)
def nibC (c : Nat) : Nat := (c / 16) ^^^ halfT.getD (c % 16) 0
theorem xor_cancel (a b p : Nat) : (a ^^^ p) ^^^ (b ^^^ p) = a ^^^ b := by
  rw [Nat.xor_assoc, Nat.xor_comm p, Nat.xor_assoc, Nat.xor_self, Nat.xor_zero]
theorem stepC_xor (a b : Nat) : stepC (a ^^^ b) = stepC a ^^^ stepC b := by
  have h1 : (a ^^^ b) / 2 = a / 2 ^^^ b / 2 := Nat.xor_div_two
  have h2 : (a ^^^ b) % 2 = (a + b) % 2 := by
    have := @Nat.xor_mod_two_eq_one a b
    omega
  unfold stepC
  rw [h1, h2]
  by_cases ha : a % 2 = 1 <;> by_cases hb : b % 2 = 1
  · rw [if_neg (by omega), if_pos ha, if_pos hb, xor_cancel]
  · rw [if_pos (by omega), if_pos ha, if_neg hb, Nat.xor_assoc, Nat.xor_assoc, Nat.xor_comm (b / 2)]
  · rw [if_pos (by omega), if_neg ha, if_pos hb, Nat.xor_assoc]
  · rw [if_neg (by omega), if_neg ha, if_neg hb]
theorem stepC_two (k : Nat) : stepC (2 * k) = k := by unfold stepC; rw [if_neg (by omega)]; omega
theorem step4_xor (a b : Nat) : step4 (a ^^^ b) = step4 a ^^^ step4 b := by unfold step4; simp only [stepC_xor]
theorem step8_xor (a b : Nat) : step8 (a ^^^ b) = step8 a ^^^ step8 b := by unfold step8; simp only [step4_xor]
theorem step4_hi (k : Nat) : step4 (16 * k) = k := by
  unfold step4
  rw [show 16 * k = 2 * (2 * (2 * (2 * k))) by omega, stepC_two, stepC_two, stepC_two, stepC_two]
theorem step8_hi (k : Nat) : step8 (256 * k) = k := by
  unfold step8
  rw [show 256 * k = 16 * (16 * k) by omega, step4_hi, step4_hi]
theorem xor_parts (i x y : Nat) (h : y < 2 ^ i) : (2 ^ i * x) ^^^ y = 2 ^ i * x + y := by
  apply Nat.eq_of_testBit_eq
  intro j
  rw [Nat.testBit_xor, Nat.testBit_two_pow_mul_add x h, Nat.testBit_two_pow_mul]
  by_cases hj : j < i
  · simp [hj, Nat.not_le.2 hj]
  · have : y.testBit j = false := Nat.testBit_lt_two_pow (Nat.lt_of_lt_of_le h (Nat.pow_le_pow_right (by omega) (by omega)))
    simp [hj, this, Nat.not_lt.1 hj]
theorem step4_lo : ∀ l : Nat, l < 16 → step4 l = halfT.getD l 0 := by decide
theorem nibC_step4 (c : Nat) : nibC c = step4 c := by
  have h := xor_parts 4 (c / 16) (c % 16) (by omega)
  have e : 2 ^ 4 * (c / 16) + c % 16 = c := by omega
  rw [e] at h
  rw [← h, step4_xor, show (2 : Nat) ^ 4 = 16 by rfl, step4_hi, step4_lo _ (by omega), h]
  unfold nibC
  rfl
/-- One byte more. -/
def crcB (s : Nat) (c : UInt8) : Nat := step8 (s ^^^ c.toNat)
def crcL (l : List UInt8) : Nat := l.foldl crcB 4294967295
def sumL (l : List UInt8) : Nat := 4294967295 - crcL l
theorem stepC_lt {c : Nat} (h : c < 4294967296) : stepC c < 4294967296 := by
  unfold stepC
  split
  · exact Nat.xor_lt_two_pow (n := 32) (by omega) (by omega)
  · omega
theorem step4_lt {c : Nat} (h : c < 4294967296) : step4 c < 4294967296 := stepC_lt (stepC_lt (stepC_lt (stepC_lt h)))
theorem nibC_lt {c : Nat} (h : c < 4294967296) : nibC c < 4294967296 := by rw [nibC_step4]; exact step4_lt h
theorem xor_byte_lt {s : Nat} (h : s < 4294967296) (c : UInt8) : s ^^^ c.toNat < 4294967296 :=
  Nat.xor_lt_two_pow (n := 32) (by omega) (by have := c.toNat_lt; omega)
theorem crcB_lt {s : Nat} (h : s < 4294967296) (c : UInt8) : crcB s c < 4294967296 := step4_lt (step4_lt (xor_byte_lt h c))
theorem fold_crc_lt : ∀ (l : List UInt8) (s : Nat), s < 4294967296 → l.foldl crcB s < 4294967296
  | [], _, h => h
  | c :: l, s, h => fold_crc_lt l (crcB s c) (crcB_lt h c)
theorem crcL_lt (l : List UInt8) : crcL l < 4294967296 := fold_crc_lt l 4294967295 (by decide)
theorem sumL_lt (l : List UInt8) : sumL l < 4294967296 := by unfold sumL; omega
theorem crcL_take {l : List UInt8} {k : Nat} (hk : k < l.length) : crcL (l.take (k + 1)) = crcB (crcL (l.take k)) (l.getD k 0) := by
  unfold crcL
  rw [List.take_succ_eq_append_getElem hk, List.foldl_append, List.getD_eq_getElem?_getD, List.getElem?_eq_getElem hk, List.foldl_cons, List.foldl_nil, Option.getD_some]
theorem crcB_nib (s : Nat) (c : UInt8) : crcB s c = nibC (nibC (s ^^^ c.toNat)) := by rw [nibC_step4, nibC_step4]; rfl
/-- The bits' steps, one after another. -/
def stepN : Nat → Nat → Nat
  | 0, c => c
  | k + 1, c => stepC (stepN k c)
theorem stepN_eight (s : Nat) (c : UInt8) : stepN 8 (s ^^^ c.toNat) = crcB s c := rfl
theorem stepN_lt {c : Nat} (h : c < 4294967296) : ∀ k, stepN k c < 4294967296
  | 0 => h
  | k + 1 => stepC_lt (stepN_lt h k)
/-- A sum's four bytes, the lowest first. -/
def sum4 (s : Nat) : List UInt8 := [UInt8.ofNat s, UInt8.ofNat (s / 256), UInt8.ofNat (s / 65536), UInt8.ofNat (s / 16777216)]
theorem u8_mod (n : Nat) : (UInt8.ofNat n).toNat = n % 256 := by simp [UInt8.toNat_ofNat']
theorem step8_add (s b : Nat) : step8 s ^^^ b = step8 (s ^^^ 256 * b) := by rw [step8_xor, step8_hi]
theorem xor_compl (s : Nat) (h : s < 4294967296) : s ^^^ (4294967295 - s) = 4294967295 := by
  apply Nat.eq_of_testBit_eq
  intro j
  have e : 4294967295 - s = 2 ^ 32 - (s + 1) := by omega
  have e2 : (4294967295 : Nat) = 2 ^ 32 - 1 := by rfl
  rw [Nat.testBit_xor, e, Nat.testBit_two_pow_sub_succ (by omega), e2, Nat.testBit_two_pow_sub_one]
  by_cases hj : j < 32
  · simp [hj]
  · have : s.testBit j = false := Nat.testBit_lt_two_pow (Nat.lt_of_lt_of_le h (show 2 ^ 32 ≤ 2 ^ j from Nat.pow_le_pow_right (by omega) (by omega)))
    simp [hj, this]
theorem four_parts (c : Nat) (h : c < 4294967296) : c % 256 ^^^ 256 * (c / 256 % 256) ^^^ 256 * (256 * (c / 65536 % 256)) ^^^ 256 * (256 * (256 * (c / 16777216 % 256))) = c := by
  have h1 := xor_parts 8 (c / 256 % 256) (c % 256) (by omega)
  have h2 := xor_parts 16 (c / 65536 % 256) (c % 65536) (by omega)
  have h3 := xor_parts 24 (c / 16777216 % 256) (c % 16777216) (by omega)
  rw [Nat.xor_comm (c % 256), show 256 * (c / 256 % 256) = 2 ^ 8 * (c / 256 % 256) by rfl, h1, show 2 ^ 8 * (c / 256 % 256) + c % 256 = c % 65536 by omega,
    Nat.xor_comm (c % 65536), show 256 * (256 * (c / 65536 % 256)) = 2 ^ 16 * (c / 65536 % 256) by omega, h2, show 2 ^ 16 * (c / 65536 % 256) + c % 65536 = c % 16777216 by omega,
    Nat.xor_comm (c % 16777216), show 256 * (256 * (256 * (c / 16777216 % 256))) = 2 ^ 24 * (c / 16777216 % 256) by omega, h3]
  omega
theorem crc_four (s b0 b1 b2 b3 : Nat) : step8 (step8 (step8 (step8 (s ^^^ b0) ^^^ b1) ^^^ b2) ^^^ b3) = step8 (step8 (step8 (step8 (s ^^^ (b0 ^^^ 256 * b1 ^^^ 256 * (256 * b2) ^^^ 256 * (256 * (256 * b3))))))) := by
  rw [step8_add (s ^^^ b0), step8_add (step8 _), step8_add (s ^^^ b0 ^^^ 256 * b1), step8_add (step8 (step8 _)), step8_add (step8 _), step8_add (s ^^^ b0 ^^^ 256 * b1 ^^^ 256 * (256 * b2))]
  simp only [Nat.xor_assoc]
/-- Gone on with their own sum, all bytes have one and the same. -/
theorem crc_own (l : List UInt8) : sumL (l ++ sum4 (sumL l)) = 558161692 := by
  have hl := crcL_lt l
  have hs := sumL_lt l
  have e : crcL (l ++ sum4 (sumL l)) = step8 (step8 (step8 (step8 (crcL l ^^^ sumL l)))) := by
    have := four_parts (sumL l) hs
    unfold crcL at *
    rw [List.foldl_append]
    unfold sum4 crcB
    simp only [List.foldl_cons, List.foldl_nil, u8_mod]
    rw [crc_four, this]
  have e2 : crcL l ^^^ sumL l = 4294967295 := xor_compl _ hl
  unfold sumL at *
  rw [e, e2]
  decide
end Go.Proofs.YtkdihekhdnnheaaDoor
