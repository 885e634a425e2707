/-
  The texts that the laws write, and their tokens (pure): assets and queries.
-/
import Derived.Test.YtljoajjlkjjgeaaGreatDoorNReads2
import Derived.Test.YtljoajjlkjjgeaaGreatDoorNSched
namespace Go.Proofs.YtljoajjlkjjgeaaGreatDoor
open Go.RowKit Go.Sort LM Go

theorem LT.minus {l : List UInt8} {K : List T3} (h : LT l K) : LT (45 :: l) ((4, [45], 0) :: K) := h.tok (x := [45]) (by simp) rfl
theorem LT.ends {l : List UInt8} {K : List T3} (h : LT l K) : LT (10 :: l) K := h.blank (by decide)
theorem LT.sg {c : UInt8} {l : List UInt8} {K : List T3} (h : LT l K) (hc : c = 40 ∨ c = 41 ∨ c = 44 ∨ c = 59 ∨ c = 58 ∨ c = 124 ∨ c = 61) : LT (c :: l) (kS [c] :: K) := h.sign hc
theorem LT.wd {u l : List UInt8} {K : List T3} (h : LT l K) (hu : Nm u) (hl : NoW l) : LT (u ++ l) (kW u :: K) := h.name hu hl
theorem LT.nat {v : Nat} {l : List UInt8} {K : List T3} (h : LT l K) (hv : v < 9223372036854775808) (hl : NoD l) : LT (Lib.decDigits v ++ l) (kN (v : Int) :: K) := h.num hv hl
theorem nm_fix {u : List UInt8} (h : u = [115, 97, 109, 101] ∨ u = [108, 97, 115, 116] ∨ u = [115, 104, 105, 102, 116] ∨ u = [119, 105, 116, 104, 105, 110] ∨ u = [97, 108, 108] ∨ u = [119, 104, 101, 114, 101] ∨ u = [107, 101, 101, 112] ∨ u = [106, 111, 105, 110] ∨ u = [108, 101, 102, 116] ∨ u = [111, 110] ∨ u = [103, 114, 111, 117, 112] ∨ u = [99, 111, 117, 110, 116] ∨ u = [115, 117, 109] ∨ u = [117, 110, 105, 111, 110] ∨ u = [102, 105, 114, 115, 116] ∨ u = [98, 121] ∨ u = [100, 111, 119, 110] ∨ u = [110, 111, 116] ∨ u = [97, 115] ∨ u = [100, 105, 115, 116, 105, 110, 99, 116] ∨ u = [97, 115, 115, 101, 116] ∨ u = [102, 114, 111, 109] ∨ u = [100, 111]) : Nm u := by
 rcases h with rfl | rfl | rfl | rfl | rfl | rfl | rfl | rfl | rfl | rfl | rfl | rfl | rfl | rfl | rfl | rfl | rfl | rfl | rfl | rfl | rfl | rfl | rfl <;> exact ⟨by decide, ⟨_, _, rfl, by decide⟩, by decide⟩
theorem now_c (c : UInt8) (r : List UInt8) (h : worP c = false := by decide) : NoW (c :: r) := NoW.cons h r
theorem nod_c (c : UInt8) (r : List UInt8) (h : digP c = false := by decide) : NoD (c :: r) := NoD.cons h r
theorem dec20 {v : Nat} (h : v < 9223372036854775808) : (Lib.decDigits v).length ≤ 20 := by
 have := decLen v (by omega)
 omega
/-- An asset's text, without its end. -/
def numT (k : Int) (n : Int) : List UInt8 := if k = 2 ∨ k = 3 then 32 :: Lib.itoa n else []
def inpT (x : In3) : List UInt8 := x.1 ++ 32 :: (mapWords.getD (x.2.1.toNat - 1) [] ++ (numT x.2.1 x.2.2 ++ 32 :: ([97, 115] ++ 32 :: x.1)))
def asT (nm : List UInt8) (x : In3) (l : List In3) (i a z : Nat) (R : List UInt8) : List UInt8 :=
 [97, 115, 115, 101, 116] ++ 32 :: (nm ++ 32 :: (schWords.getD i [] ++ 32 :: (Lib.decDigits a ++ 32 :: 46 :: 46 :: 32 :: (Lib.decDigits z ++ 10 :: ([102, 114, 111, 109] ++ 32 :: (inpT x ++ ((l.map fun y => 44 :: [32] ++ inpT y).flatten ++ 10 :: ([100, 111] ++ 32 :: (x.1 ++ 32 :: 124 :: 32 :: ([100, 105, 115, 116, 105, 110, 99, 116] ++ R))))))))))
theorem inp_toks {x : In3} (h : Nm x.1) (hm : MapOk x.2.1 x.2.2) (hb : -1000 ≤ x.2.2 ∧ x.2.2 ≤ 1000) (r : List UInt8) (K : List T3) (hr : LT r K) (hn : NoW r) : LT (inpT x ++ r) (inpK x ++ K) := by
 obtain ⟨u, k, n⟩ := x
 simp only at h hm hb
 have t := LT.blanks (LT.wd (LT.blanks (LT.wd hr h hn)) (nm_fix (u := [97, 115]) (by simp)) (no32 _))
 rcases hm with ⟨rfl, rfl⟩ | ⟨rfl, h0⟩ | rfl | ⟨rfl, rfl⟩ | ⟨rfl, rfl⟩
 ·have e : inpT (u, 1, 0) ++ r = u ++ 32 :: ([115, 97, 109, 101] ++ 32 :: ([97, 115] ++ 32 :: (u ++ r))) := by simp [inpT, numT, mapWords]
  rw [e]
  exact LT.wd (LT.blanks (LT.wd t (nm_fix (by simp)) (no32 _))) h (no32 _)
 ·have hq : Lib.itoa n = Lib.decDigits n.toNat := by unfold Lib.itoa; rw [if_neg (by omega)]
  have e : inpT (u, 2, n) ++ r = u ++ 32 :: ([108, 97, 115, 116] ++ 32 :: (Lib.decDigits n.toNat ++ 32 :: ([97, 115] ++ 32 :: (u ++ r)))) := by simp [inpT, numT, mapWords, hq]
  rw [e]
  have k := LT.wd (LT.blanks (LT.wd (LT.blanks (LT.nat (v := n.toNat) t (by omega) (nod32 _))) (nm_fix (u := [108, 97, 115, 116]) (by simp)) (no32 _))) h (no32 _)
  rw [Int.toNat_of_nonneg h0] at k
  exact k
 ·by_cases hs : n < 0
  ·have hq : Lib.itoa n = 45 :: Lib.decDigits n.natAbs := by unfold Lib.itoa; rw [if_pos hs]
   have e : inpT (u, 3, n) ++ r = u ++ 32 :: ([115, 104, 105, 102, 116] ++ 32 :: 45 :: (Lib.decDigits n.natAbs ++ 32 :: ([97, 115] ++ 32 :: (u ++ r)))) := by simp [inpT, numT, mapWords, hq]
   have e2 : inpK (u, 3, n) ++ K = kW u :: kW [115, 104, 105, 102, 116] :: kS [45] :: kN ((n.natAbs : Nat) : Int) :: kW [97, 115] :: kW u :: K := by
    have : ((n.natAbs : Nat) : Int) = -n := by omega
    rw [this]
    simp [inpK, mapK, mapWords, hs]
   rw [e, e2]
   exact LT.wd (LT.blanks (LT.wd (LT.blanks (LT.minus (LT.nat (v := n.natAbs) t (by omega) (nod32 _)))) (nm_fix (u := [115, 104, 105, 102, 116]) (by simp)) (no32 _))) h (no32 _)
  ·have hq : Lib.itoa n = Lib.decDigits n.toNat := by unfold Lib.itoa; rw [if_neg hs]
   have e : inpT (u, 3, n) ++ r = u ++ 32 :: ([115, 104, 105, 102, 116] ++ 32 :: (Lib.decDigits n.toNat ++ 32 :: ([97, 115] ++ 32 :: (u ++ r)))) := by simp [inpT, numT, mapWords, hq]
   have e2 : inpK (u, 3, n) ++ K = kW u :: kW [115, 104, 105, 102, 116] :: kN ((n.toNat : Nat) : Int) :: kW [97, 115] :: kW u :: K := by
    rw [Int.toNat_of_nonneg (by omega)]
    simp [inpK, mapK, mapWords, hs]
   rw [e, e2]
   exact LT.wd (LT.blanks (LT.wd (LT.blanks (LT.nat (v := n.toNat) t (by omega) (nod32 _))) (nm_fix (u := [115, 104, 105, 102, 116]) (by simp)) (no32 _))) h (no32 _)
 ·have e : inpT (u, 4, 0) ++ r = u ++ 32 :: ([119, 105, 116, 104, 105, 110] ++ 32 :: ([97, 115] ++ 32 :: (u ++ r))) := by simp [inpT, numT, mapWords]
  rw [e]
  exact LT.wd (LT.blanks (LT.wd t (nm_fix (by simp)) (no32 _))) h (no32 _)
 ·have e : inpT (u, 5, 0) ++ r = u ++ 32 :: ([97, 108, 108] ++ 32 :: ([97, 115] ++ 32 :: (u ++ r))) := by simp [inpT, numT, mapWords]
  rw [e]
  exact LT.wd (LT.blanks (LT.wd t (nm_fix (by simp)) (no32 _))) h (no32 _)
theorem as_toks {nm : List UInt8} {x : In3} {l : List In3} {i a z : Nat} (h1 : Nm nm) (h2 : ∀ y ∈ x :: l, Nm y.1 ∧ MapOk y.2.1 y.2.2 ∧ -1000 ≤ y.2.2 ∧ y.2.2 ≤ 1000) (hi : i < 5) (ha : a < 9223372036854775808) (hz : z < 9223372036854775808) {R : List UInt8} {KR : List T3} (hR : LT R KR) (hN : NoW R) :
  LT (asT nm x l i a z R) (asK nm x l i a z ++ KR) := by
 obtain ⟨x1, x2, x3, x4⟩ := h2 x (by simp)
 have t1 := LT.ends (LT.wd (LT.blanks (LT.wd (LT.blanks (LT.sg (c := 124) (LT.blanks (LT.wd hR (nm_fix (u := [100, 105, 115, 116, 105, 110, 99, 116]) (by simp)) hN)) (by decide))) x1 (no32 _))) (nm_fix (u := [100, 111]) (by simp)) (no32 _))
 obtain ⟨i1, i2⟩ := lt_list inpK inpT (s0 := 44) (s1 := [32]) (by decide) by_comma2 t1 (now_c _ _) l (fun y hy r K k1 k2 => by
  obtain ⟨y1, y2, y3, y4⟩ := h2 y (by simp [hy])
  exact inp_toks y1 y2 ⟨y3, y4⟩ r K k1 k2)
 have t2 := LT.ends (LT.wd (LT.blanks (inp_toks x1 x2 ⟨x3, x4⟩ _ _ i1 i2)) (nm_fix (u := [102, 114, 111, 109]) (by simp)) (no32 _))
 have t3 := LT.wd (LT.blanks (LT.wd (LT.blanks (LT.wd (LT.blanks (LT.nat (LT.blanks (LT.dots (LT.blanks (LT.nat t2 hz (nod_c _ _))))) ha (nod32 _))) (nm_kind hi) (no32 _))) h1 (no32 _))) (nm_fix (u := [97, 115, 115, 101, 116]) (by simp)) (no32 _)
 have e : asK nm x l i a z ++ KR = kW [97, 115, 115, 101, 116] :: kW nm :: kW (schWords.getD i []) :: kN a :: kS [46, 46] :: kN z :: kW [102, 114, 111, 109] :: (inpK x ++ (comK inpK l ++ (kW [100, 111] :: kW x.1 :: kS [124] :: kW [100, 105, 115, 116, 105, 110, 99, 116] :: KR))) := by simp [asK, schmK]
 rw [e]
 exact t3
theorem asT_snoc (nm : List UInt8) (x : In3) (l : List In3) (i a z : Nat) : asT nm x l i a z [59] = asT nm x l i a z [] ++ [59] := by unfold asT; simp
theorem as_reads {F : Nat} (hF : 1000 ≤ F) {nm : List UInt8} {x : In3} {l : List In3} {i a z : Nat} (h1 : Nm nm) (h2 : ∀ y ∈ x :: l, Nm y.1 ∧ MapOk y.2.1 y.2.2 ∧ -1000 ≤ y.2.2 ∧ y.2.2 ≤ 1000) (hi : i < 5) (ha : a < 9223372036854775808) (hz : z < 9223372036854775808) (hl : l.length ≤ 20)
  (hs : (asT nm x l i a z [59]).length ≤ 16384) : ReadsAs F (ba (asT nm x l i a z [59])) [asD nm x l i a z] ∧ EndsShort F (ba (asT nm x l i a z [])) := by
 have k1 := as_toks h1 h2 hi ha hz (R := [59]) (LT.nil.sign (c := 59) (by decide)) (NoW.cons (by decide) _)
 have k2 := as_toks h1 h2 hi ha hz (R := []) LT.nil NoW.nil
 rw [List.append_nil] at k2
 have hs2 : (asT nm x l i a z []).length ≤ 16384 := by rw [asT_snoc, List.length_append] at hs; omega
 refine ⟨reads_of k1 hs (text_one (by omega) ?_), short_of k2 hs2 (text_cut (d := asD nm x l i a z) (by omega) (by simp [asK]) ?_)⟩
 ·exact as_def nm x l hi a z [kS [59]] (by decide) (by omega) (by omega) (h2 x (by simp)).1 (fun y hy => (h2 y hy).2.1)
 ·have := as_def nm x l hi a z [] (by decide) (F := F) (by omega) (by omega) (h2 x (by simp)).1 (fun y hy => (h2 y hy).2.1)
  rwa [List.append_nil] at this
end Go.Proofs.YtljoajjlkjjgeaaGreatDoor
