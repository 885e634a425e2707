/-
  The texts of a minute's date, and the numbers that they give back.
-/
import Derived.Test.YtomhiganfmoceaaDoorCMath
import Derived.Lib.ItoaNum
import Derived.Lib.AtoiAll
namespace Go.Proofs.YtomhiganfmoceaaDoor
namespace CM
open Go.Lib
/-- Two digits. -/
def two (n : Int) : List UInt8 := [UInt8.ofNat (48 + (n / 10).toNat), UInt8.ofNat (48 + (n % 10).toNat)]
theorem two_len (n : Int) : (two n).length = 2 := rfl
/-- A minute's text. -/
def textL (n : Int) : List UInt8 := two (Y n / 100) ++ (two (Y n % 100) ++ (45 :: (two (K n + 1) ++ (45 :: (two (D n) ++ (32 :: (two (n / 60 % 24) ++ (58 :: two (n % 60)))))))))
theorem textL_len (n : Int) : (textL n).length = 16 := rfl
theorem dec_small {u : Nat} (h : u < 10) : decDigits u = [UInt8.ofNat (48 + u)] := by rw [decDigits, dif_pos h]
theorem dec_big {u : Nat} (h : ¬ u < 10) : decDigits u = decDigits (u / 10) ++ [UInt8.ofNat (48 + u % 10)] := by rw [decDigits, dif_neg h]
theorem itoa_two {n : Int} (h0 : 10 ≤ n) (h1 : n ≤ 99) : itoa n = two n := by
  unfold itoa two
  rw [if_neg (by omega), dec_big (by omega), dec_small (by omega), show n.toNat / 10 = (n / 10).toNat by omega, show n.toNat % 10 = (n % 10).toNat by omega]
  rfl
theorem itoa_one {n : Int} (h0 : 0 ≤ n) (h1 : n < 10) : 48 :: itoa n = two n := by
  unfold itoa two
  rw [if_neg (by omega), dec_small (by omega), show n / 10 = 0 by omega, show n % 10 = n by omega]
  rfl
theorem itoa_four {n : Int} (h0 : 1000 ≤ n) (h1 : n ≤ 9999) : itoa n = two (n / 100) ++ two (n % 100) := by
  unfold itoa two
  rw [if_neg (by omega), dec_big (by omega), dec_big (by omega), dec_big (by omega), dec_small (by omega),
    show n.toNat / 10 / 10 / 10 = (n / 100 / 10).toNat by omega, show n.toNat / 10 / 10 % 10 = (n / 100 % 10).toNat by omega, show n.toNat / 10 % 10 = (n % 100 / 10).toNat by omega, show n.toNat % 10 = (n % 100 % 10).toNat by omega]
  rfl
theorem dig_nat {k : Nat} (h : k < 10) : (UInt8.ofNat (48 + k)).toNat = 48 + k := by rw [UInt8.toNat_ofNat']; omega
theorem parse_dig {k : Nat} (h : k < 10) (acc : Nat) (ha : acc < 1000000) (r : List UInt8) : parseUint10 acc (UInt8.ofNat (48 + k) :: r) = parseUint10 (acc * 10 + k) r := by
  rw [parseUint10, dig_nat h, if_pos (by omega), if_neg (by omega), if_neg (by omega), show 48 + k - 48 = k by omega]
theorem parse_end (acc : Nat) : parseUint10 acc [] = .ok acc := rfl
theorem dig_ne {k : Nat} (h : k < 10) : ¬ ((UInt8.ofNat (48 + k)).toNat = 43 ∨ (UInt8.ofNat (48 + k)).toNat = 45) ∧ ¬ (UInt8.ofNat (48 + k)).toNat = 45 := by rw [dig_nat h]; omega
theorem atoi_dig {k : Nat} (h : k < 10) (r : List UInt8) (u : Nat) (hu : parseUint10 k r = .ok u) (hb : u < 1000000) : atoiAll (UInt8.ofNat (48 + k) :: r) = .ok (u : Int) := by
  obtain ⟨h1, h2⟩ := dig_ne h
  have e : parseMag (UInt8.ofNat (48 + k) :: r) = .ok u := by
    unfold parseMag
    rw [if_neg (by simp), parse_dig h 0 (by omega)]
    simpa using hu
  unfold atoiAll
  simp only [if_neg h1, e]
  rw [if_neg (by omega), if_neg (fun x => h2 x.1), if_neg h2]
theorem atoi_two {n : Int} (h0 : 0 ≤ n) (h1 : n ≤ 99) : atoiAll (two n) = .ok n := by
  unfold two
  rw [atoi_dig (by omega) _ n.toNat (by rw [parse_dig (by omega) _ (by omega), parse_end]; congr 1; omega) (by omega)]
  congr 1; omega
theorem atoi_four {a b : Int} (h0 : 0 ≤ a) (h1 : a ≤ 99) (h2 : 0 ≤ b) (h3 : b ≤ 99) : atoiAll (two a ++ two b) = .ok (a * 100 + b) := by
  unfold two
  show atoiAll (_ :: _ :: _ :: _ :: []) = _
  rw [atoi_dig (by omega) _ (a * 100 + b).toNat (by rw [parse_dig (by omega) _ (by omega), parse_dig (by omega) _ (by omega), parse_dig (by omega) _ (by omega), parse_end]; congr 1; omega) (by omega)]
  congr 1; omega
end CM
end Go.Proofs.YtomhiganfmoceaaDoor
