/-
  The reference's text of a number that is not negative.
  The law's join.
-/
import Derived.Test.YtljoajjlkjjgeaaGreatDoorMV3
import Derived.Test.YtljoajjlkjjgeaaGreatDoorMW2
import Derived.Lib.ItoaNum
import Derived.Lib.ItoaLen
import Derived.Laws.IdiomStrings
import Derived.Lib.ConvBytes
import Derived.Test.YtljoajjlkjjgeaaGreatDoorMLw
namespace Go.Proofs.YtljoajjlkjjgeaaGreatDoor
open Go.RowKit Go.Sort LM Go

theorem decS {u : Nat} (h : u < 10) : Lib.decDigits u = [dig u] := by rw [Lib.decDigits, dif_pos h]; unfold dig; rw [Nat.mod_eq_of_lt h]
theorem decB {u : Nat} (h : ¬ u < 10) : Lib.decDigits u = Lib.decDigits (u / 10) ++ [dig u] := by rw [Lib.decDigits, dif_neg h]; rfl

theorem decLen (u : Nat) (h : u < 18446744073709551616) : (Lib.decDigits u).length ≤ 20 := by rw [Lib.decDigits_length]; exact Lib.nDigits_le20 u h

set_option maxHeartbeats 1000000 in
set_option maxRecDepth 100000 in
theorem number_small (u : Nat) (w : World) (h1 : u < 10) :
  Calls Tryz.prog 12 #[.int .i64 u] w fun e w' => e = .returned (.string ⟨(Lib.decDigits u).toArray⟩) ∧ Below w.heap.size w w' := by
 have g : ¬ (u : Int) < 0 := by omega
 have g1 : ¬ (10 : Int) ≤ (u : Int) := by omega
 have hcv := fun w => conv_one (48 + (u : Int) % 10) (dig u) (by rw [dig_val]; omega) w
 have HD := Lib.hid (decS h1)
 clear h1
 go_enter Tryz.func12, Tryz.ntmps12
 go_wp2_with fail
 go_ret
 exact ⟨ret_str (by rw [HD.out]), by go_grown⟩

set_option maxHeartbeats 1000000 in
set_option maxRecDepth 100000 in
theorem number_big (u : Nat) (w : World) (h1 : ¬ u < 10) (hu : (u : Int) ≤ 9223372036854775807)
  (ih : ∀ w, Calls Tryz.prog 12 #[.int .i64 ((u / 10 : Nat) : Int)] w fun e w' => e = .returned (.string ⟨(Lib.decDigits (u / 10)).toArray⟩) ∧ Below w.heap.size w w') :
  Calls Tryz.prog 12 #[.int .i64 u] w fun e w' => e = .returned (.string ⟨(Lib.decDigits u).toArray⟩) ∧ Below w.heap.size w w' := by
 have g : ¬ (u : Int) < 0 := by omega
 have g1 : (10 : Int) ≤ (u : Int) := by omega
 have hcv := fun w => conv_one (48 + (u : Int) % 10) (dig u) (by rw [dig_val]; omega) w
 have HD := Lib.hid (decB h1)
 have hl := decLen (u / 10) (by omega)
 have IH := Lib.hid ih
 have hl2 : ¬ 9223372036854775807 < (Lib.decDigits (u / 10)).length + 1 := by omega
 clear h1 ih hl
 go_enter Tryz.func12, Tryz.ntmps12
 go_wp2_with fail
 refine (IH.out _).mono ?_
 rintro e w1 ⟨rfl, hb1⟩
 have q1 : Below w.heap.size w w1 := (Joins.below_alloc1 w _).trans (hb1.mono (by simp))
 clear hb1
 go_wp2_with fail
 go_ret
 exact ⟨by rw [HD.out]; exact congrArg (fun b => Ending.returned (.string b)) (cat_eq _ _), q1⟩

theorem rnumber_any : ∀ (u : Nat) (w : World), (u : Int) ≤ 9223372036854775807 → Calls Tryz.prog 12 #[.int .i64 u] w fun e w' => e = .returned (.string ⟨(Lib.decDigits u).toArray⟩) ∧ Below w.heap.size w w' := by
 intro u
 induction u using Nat.strongRecOn with
 | ind u ih =>
  intro w hu
  by_cases h : u < 10
  ·exact number_small u w h
  ·exact number_big u w h hu (fun w => ih (u / 10) (by omega) w (by omega))

set_option maxHeartbeats 1000000 in
set_option maxRecDepth 100000 in
theorem number_neg_small (n : Int) (w : World) (h0 : n < 0) (h1 : -10 < n) :
  Calls Tryz.prog 12 #[.int .i64 n] w fun e w' => e = .returned (.string ⟨(45 :: Lib.decDigits n.natAbs).toArray⟩) ∧ Below w.heap.size w w' := by
 have hm := tmod_neg10 h0
 have b1 : -9 ≤ n.tmod 10 := by omega
 have b2 : n.tmod 10 ≤ 0 := by omega
 have hcv := fun w => conv_one (48 - n.tmod 10) (dig n.natAbs) (by rw [dig_val]; omega) w
 have HD := Lib.hid (decS (u := n.natAbs) (by omega))
 have g : ¬ n ≤ -10 := by omega
 clear hm
 go_enter Tryz.func12, Tryz.ntmps12
 go_wp2_with fail
 go_ret
 exact ⟨by rw [HD.out]; exact congrArg (fun b => Ending.returned (.string b)) (cat_eq [45] _), by go_grown⟩
set_option maxHeartbeats 1000000 in
set_option maxRecDepth 100000 in
theorem number_neg_big (n : Int) (w : World) (h9 : -9223372036854775808 ≤ n) (h0 : n ≤ -10)
  (ih : ∀ w, Calls Tryz.prog 12 #[.int .i64 (-(n.tdiv 10))] w fun e w' => e = .returned (.string ⟨(Lib.decDigits (n.natAbs / 10)).toArray⟩) ∧ Below w.heap.size w w') :
  Calls Tryz.prog 12 #[.int .i64 n] w fun e w' => e = .returned (.string ⟨(45 :: Lib.decDigits n.natAbs).toArray⟩) ∧ Below w.heap.size w w' := by
 have h0' : n < 0 := by omega
 have hm := tmod_neg10 h0'
 have hd := tdiv_neg10 h0'
 have b1 : -9 ≤ n.tmod 10 := by omega
 have b2 : n.tmod 10 ≤ 0 := by omega
 have b3 : n.tdiv 10 ≤ 0 := by omega
 have b4 : -1000000000000000000 ≤ n.tdiv 10 := by omega
 have hcv := fun w => conv_one (48 - n.tmod 10) (dig n.natAbs) (by rw [dig_val]; omega) w
 have HD := Lib.hid (decB (u := n.natAbs) (by omega))
 have hl := decLen (n.natAbs / 10) (by omega)
 have hl2 : ¬ 9223372036854775807 < (Lib.decDigits (n.natAbs / 10)).length + 1 := by omega
 have hl3 : ¬ 9223372036854775807 < 1 + ((Lib.decDigits (n.natAbs / 10)).length + 1) := by omega
 have IH := Lib.hid ih
 clear hm hd ih hl
 go_enter Tryz.func12, Tryz.ntmps12
 go_wp2_with fail
 refine (IH.out _).mono ?_
 rintro e w1 ⟨rfl, hb1⟩
 have q1 : Below w.heap.size w w1 := (Joins.below_alloc1 w _).trans (hb1.mono (by simp))
 clear hb1
 go_wp2_with fail
 go_ret
 exact ⟨by rw [HD.out]; exact congrArg (fun b => Ending.returned (.string b)) (by rw [show ({ data := #[dig n.natAbs] } : ByteArray) = ⟨[dig n.natAbs].toArray⟩ from rfl, cat_eq]; exact cat_eq [45] _), q1⟩
theorem rnum_any (n : Int) (w : World) (h0 : -9223372036854775808 ≤ n) (h1 : n ≤ 9223372036854775807) :
  Calls Tryz.prog 12 #[.int .i64 n] w fun e w' => e = .returned (.string ⟨(Lib.itoa n).toArray⟩) ∧ Below w.heap.size w w' := by
 by_cases h : n < 0
 ·rw [show Lib.itoa n = 45 :: Lib.decDigits n.natAbs by unfold Lib.itoa; rw [if_pos h]]
  by_cases h1 : -10 < n
  ·exact number_neg_small n w h h1
  ·refine number_neg_big n w (by omega) (by omega) fun w => ?_
   rw [tdiv_neg10 h]
   exact rnumber_any _ w (by omega)
 ·rw [show Lib.itoa n = Lib.decDigits n.toNat by unfold Lib.itoa; rw [if_neg h]]
  have q := rnumber_any n.toNat w (by omega)
  rw [Int.toNat_of_nonneg (by omega)] at q
  exact q
end Go.Proofs.YtljoajjlkjjgeaaGreatDoor
namespace Go.Proofs.YtljoajjlkjjgeaaGreatDoor
open Go.RowKit Go.Sort LM Go

def joinU (by' : List UInt8) (l : List (List UInt8)) : Nat → List UInt8
 | 0 => []
 | 1 => l.getD 0 []
 | k + 2 => joinU by' l (k + 1) ++ by' ++ l.getD (k + 1) []
theorem joinU_len {by' : List UInt8} {l : List (List UInt8)} (hb : by'.length ≤ 10) (hl : ∀ x ∈ l, x.length ≤ 1000) : ∀ k, k ≤ l.length → (joinU by' l k).length ≤ k * 1010
 | 0, _ => by simp [joinU]
 | 1, h => by
  have : l.getD 0 [] ∈ l := by rw [List.getD_eq_getElem?_getD, List.getElem?_eq_getElem h]; exact List.getElem_mem h
  have := hl _ this
  show (l.getD 0 []).length ≤ _
  omega
 | k + 2, h => by
  have : l.getD (k + 1) [] ∈ l := by rw [List.getD_eq_getElem?_getD, List.getElem?_eq_getElem h]; exact List.getElem_mem h
  have := hl _ this
  have := joinU_len (by' := by') hb hl (k + 1) (by omega)
  rw [joinU, List.length_append, List.length_append]
  omega
theorem cat_ba (a b : List UInt8) : (ba a ++ ba b : ByteArray) = ba (a ++ b) := cat_eq a b
theorem ba_size (a : List UInt8) : (ba a).size = a.length := by show a.toArray.size = _; simp
set_option maxHeartbeats 4000000 in
set_option maxRecDepth 100000 in
theorem join_any (l : List (List UInt8)) (by' : List UInt8) (v : Value) (w : World) (hv : StrL w (l.map ba) v) (hl : l.length ≤ 1000) (hb : by'.length ≤ 10) (hs : ∀ x ∈ l, x.length ≤ 1000) :
  Calls Tryz.prog 11 #[v, .string (ba by')] w fun e w' => e = .returned (.string (ba (joinU by' l l.length))) ∧ Below w.heap.size w w' := by
 obtain ⟨A, c, rfl, hA⟩ := hv
 simp only [List.length_map] at hA ⊢
 have HLen := hide (fun k (h : k ≤ l.length) => joinU_len hb hs k h)
 have HA := hide hA
 have HB0 := hide (Below.refl w.heap.size w)
 have HS1 := hide (fun k => show joinU by' l (k + 2) = joinU by' l (k + 1) ++ by' ++ l.getD (k + 1) [] from rfl)
 have HS0 := hide (show joinU by' l 1 = l.getD 0 [] from rfl)
 have HZ := hide (show ba (joinU by' l 0) = ⟨#[]⟩ from rfl)
 have HEach := hide (fun k (hk : k < l.length) => hs (l.getD k []) (by rw [List.getD_eq_getElem?_getD, List.getElem?_eq_getElem hk]; exact List.getElem_mem hk))
 have hbs : (ba by').size ≤ 10 := by rw [ba_size]; exact hb
 clear hA hs
 go_enter Tryz.func11, Tryz.ntmps11
 go_wp2_with fail
 go_loopw [5, 10] (fun s i wr => ∃ k : Nat, k ≤ l.length ∧ s = .string (ba (joinU by' l k)) ∧ i = .int .i64 k ∧ Hid (Below w.heap.size w wr)) (fun _ i _ => l.length - (intOf i).toNat)
 case atStart => exact ⟨0, Nat.zero_le _, by rw [HZ.out], rfl, HB0⟩
 case round =>
  obtain ⟨k, hk, rfl, rfl, HBr⟩ := hrel
  by_cases hlt : k < l.length
  ·obtain ⟨b, off, rfl, hbl, hc⟩ := HA.out wr HBr.out k hlt
   have hx : (l.map ba)[k]'(by simpa using hlt) = ba (l.getD k []) := by
    rw [List.getElem_map, List.getD_eq_getElem?_getD, List.getElem?_eq_getElem hlt]; rfl
   rw [hx] at hc
   have hj := HLen.out k hk
   have hxl := HEach.out k hlt
   have hjs : (ba (joinU by' l k)).size ≤ 1010000 := by rw [ba_size]; omega
   have hxs : (ba (l.getD k [])).size ≤ 1000 := by rw [ba_size]; exact hxl
   by_cases h0 : 0 < k
   ·have g0 : (0 : Int) < (k : Nat) := by omega
    obtain ⟨m, rfl⟩ : ∃ m, k = m + 1 := ⟨k - 1, by omega⟩
    have hcat : ba (joinU by' l (m + 2)) = (ba (joinU by' l (m + 1)) ++ ba by') ++ ba (l.getD (m + 1) []) := by rw [HS1.out, cat_ba, cat_ba]
    have HC := hide hcat
    have hq : (ba (joinU by' l (m + 1)) ++ ba by').size ≤ 1010010 := by rw [cat_ba, ba_size, List.length_append]; omega
    clear hcat HS1 HS0 HZ HA hx HLen HEach hj hxl
    generalize ba (joinU by' l (m + 1)) = J at *
    generalize ba (l.getD (m + 1) []) = x at *
    generalize ba by' = y at *
    go_wp2_with fail
    go_roundw
    case rel => exact ⟨m + 1 + 1, by omega, by rw [HC.out], by go_num, HBr⟩
    case measure => simp [intOf]; omega
   ·obtain rfl : k = 0 := by omega
    have hcat : ba (joinU by' l (0 + 1)) = ba (joinU by' l 0) ++ ba (l.getD 0 []) := by
     rw [cat_ba, show joinU by' l (0 + 1) = l.getD 0 [] from HS0.out]; rfl
    have HC := hide hcat
    simp only [Nat.add_zero] at hc
    clear hcat HS1 HS0 HZ HA hx HLen HEach hj hxl
    generalize ba (joinU by' l 0) = J at *
    generalize ba (l.getD 0 []) = x at *
    go_wp2_with fail
    go_roundw
    case rel => exact ⟨0 + 1, by omega, by rw [HC.out], by go_num, HBr⟩
    case measure => simp [intOf]; omega
  ·obtain rfl : k = l.length := by omega
   go_wp2_with fail
   go_ret
   exact ⟨rfl, HBr.out⟩
end Go.Proofs.YtljoajjlkjjgeaaGreatDoor
