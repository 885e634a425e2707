/-
  The reference's sign.
-/
import Derived.Test.YtljoajjlkjjgeaaGreatDoorLRefT
namespace Go.Proofs.YtljoajjlkjjgeaaGreatDoor
open Go.RowKit Go.Sort LM

def onesL : List UInt8 := [40, 41, 44, 59, 58, 124, 43, 45, 42, 47, 37, 61, 60, 62]
def twoP (c d : UInt8) : Bool := (c == 33 && d == 61) || (c == 60 && d == 61) || (c == 62 && d == 61) || (c == 46 && d == 46)
theorem signs_parts : signsL = [[33, 61], [60, 61], [62, 61], [46, 46]] ++ onesL.map fun x => [x] := rfl
theorem find_ones (c : UInt8) (r : List UInt8) : ∀ L : List UInt8, (L.map fun x => [x]).find? (fun g => g.isPrefixOf (c :: r)) = if c ∈ L then some [c] else none
 | [] => rfl
 | x :: L => by
  rw [List.map_cons, List.find?_cons]
  have e : ([x] : List UInt8).isPrefixOf (c :: r) = (x == c) := by simp [List.isPrefixOf]
  rw [e]
  by_cases h : x = c
  ·subst h; simp
  ·have h1 : (x == c) = false := by simpa using h
   have h2 : ¬ c = x := fun e => h e.symm
   rw [h1, find_ones c r L]
   simp [h2]
theorem sgn_of_two {c d : UInt8} (r : List UInt8) (h : twoP c d = true) : sgnL (c :: d :: r) = some [c, d] := by
 unfold twoP at h
 simp only [Bool.or_eq_true, Bool.and_eq_true, beq_iff_eq] at h
 rcases h with ((⟨rfl, rfl⟩ | ⟨rfl, rfl⟩) | ⟨rfl, rfl⟩) | ⟨rfl, rfl⟩ <;> simp [sgnL, signsL, List.find?, List.isPrefixOf]
theorem sgn_of_one {c : UInt8} {l : List UInt8} (hl : l = [] ∨ ∃ d r, l = d :: r ∧ twoP c d = false) : sgnL (c :: l) = if c ∈ onesL then some [c] else none := by
 unfold sgnL
 rw [signs_parts, List.find?_append, find_ones]
 have h0 : ([[33, 61], [60, 61], [62, 61], [46, 46]] : List (List UInt8)).find? (fun g => g.isPrefixOf (c :: l)) = none := by
  rw [List.find?_eq_none]
  intro g hg hp
  rcases hl with rfl | ⟨d, r, rfl, ht⟩
  ·simp only [List.mem_cons, List.not_mem_nil, or_false] at hg
   rcases hg with rfl | rfl | rfl | rfl <;> simp [List.isPrefixOf] at hp
  ·unfold twoP at ht
   simp only [List.mem_cons, List.not_mem_nil, or_false] at hg
   rcases hg with rfl | rfl | rfl | rfl
   all_goals
    simp [List.isPrefixOf] at hp
    obtain ⟨rfl, rfl⟩ := hp
    revert ht; decide
 rw [h0]; rfl
/-- What sign tells. -/
def sgnT (l : List UInt8) : List UInt8 := match sgnL l with | some g => g | none => []
/-- None of the first signs of one byte. -/
def NoOne (c : UInt8) (k : Nat) : Prop := ∀ j, j < k → onesL.getD j 0 ≠ c
theorem noOne_end {c : UInt8} (h : NoOne c 14) : c ∉ onesL := fun hm => by
 obtain ⟨j, hj, e⟩ := List.getElem_of_mem hm
 exact h j hj (by rw [List.getD_eq_getElem?_getD, List.getElem?_eq_getElem hj]; exact e)
theorem noOne_step {c : UInt8} {k : Nat} (h : NoOne c k) (hn : onesL.getD k 0 ≠ c) : NoOne c (k + 1) := fun j hj => by
 by_cases e : j = k
 ·subst e; exact hn
 ·exact h j (by omega)
theorem two_data {s : ByteArray} {k : Nat} (h : k + 1 < s.size) : (s.extract k (k + 2)).data.toList = [s[k], s[k + 1]] := by
 rw [Lib.extract_data]
 have e : s.data.toList.drop k = s[k] :: s[k + 1] :: s.data.toList.drop (k + 2) := by
  rw [drop_at (show k < s.size by omega), drop_at h]
 rw [e, show k + 2 - k = 2 by omega]; rfl
@[irreducible] def onesB : ByteArray := ⟨#[40, 41, 44, 59, 58, 124, 43, 45, 42, 47, 37, 61, 60, 62]⟩
theorem onesB_is : (⟨#[40, 41, 44, 59, 58, 124, 43, 45, 42, 47, 37, 61, 60, 62]⟩ : ByteArray) = onesB := by unfold onesB; rfl
theorem onesB_size : onesB.size = 14 := by unfold onesB; rfl
theorem onesB_list : onesB.data.toList = onesL := by unfold onesB; rfl
theorem onesB_at {k : Nat} (h : k < onesB.size) : onesL.getD k 0 = onesB[k] := by
 have h1 : k < onesB.data.toList.length := by simpa using h
 rw [← onesB_list, List.getD_eq_getElem?_getD, List.getElem?_eq_getElem h1]; rfl
set_option maxRecDepth 100000 in
set_option maxHeartbeats 8000000 in
theorem rsign_ones (s : ByteArray) (at' : Nat) (w : World) (hs : s.size ≤ 20000) (ha : at' < s.size)
  (hO : (¬ at' + 1 < s.size) ∨ (at' + 1 < s.size ∧ ((s.extract at' (at' + 2)).toList == [33, 61]) = false ∧ ((s.extract at' (at' + 2)).toList == [60, 61]) = false ∧ ((s.extract at' (at' + 2)).toList == [62, 61]) = false ∧ ((s.extract at' (at' + 2)).toList == [46, 46]) = false))
  (hS : sgnT (rest s at') = if s[at'] ∈ onesL then [s[at']] else []) :
  Calls Tryz.prog 46 #[.string s, .int .i64 at'] w fun e w' => e = .returned (txt (sgnT (rest s at'))) ∧ Below w.heap.size w w' := by
 have HS := hide hS
 rw [HS.out]
 clear hS HS
 have HN0 : Hid (NoOne s[at'] 0) := hide fun j hj => absurd hj (Nat.not_lt_zero _)
 rcases hO with h1 | ⟨h1, q1, q2, q3, q4⟩
 all_goals
  go_enter Tryz.func46, Tryz.ntmps46
  go_wp2_with fail
  rw [onesB_is]
  have HZ := onesB_size
  have HAt := hide (fun k h => onesB_at (k := k) h)
  have HCu := hide (fun k (h : k < onesB.size) => cut_one h)
  generalize onesB = A at *
  go_loopw [7] (fun i wr => ∃ k : Nat, i = .int .i64 k ∧ k ≤ 14 ∧ Hid (NoOne s[at'] k) ∧ Hid (Below w.heap.size w wr)) (fun i _ => 14 - (intOf i).toNat)
  case atStart => exact ⟨0, rfl, by omega, HN0, hide (Below.refl _ _)⟩
  case round =>
   obtain ⟨k, rfl, hk, HN, HB⟩ := hrel
   clear HN0
   by_cases hlt : k < 14
   ·have hkA : k < A.size := by omega
    have HA := hide (HAt.out k hkA)
    by_cases he : A[k] = s[at']
    ·have t1 : ((A[k].toNat : Int) == (s[at'].toNat : Int)) = true := by rw [he]; simp
     have HM : Hid (s[at'] ∈ onesL) := hide (by rw [← he, ← HA.out, List.getD_eq_getElem?_getD, List.getElem?_eq_getElem (show k < onesL.length from hlt)]; exact List.getElem_mem _)
     have HC := hide (HCu.out k hkA)
     rw [he] at HC
     clear HN he HA HAt HCu
     go_wp2_with fail
     go_quiet (fail)
     go_wp2_with fail
     go_ret
     refine ⟨?_, HB.out.trans (Joins.below_draws _ _ _)⟩
     first | exact ret_str (of_dataK HC.out) | (rw [if_pos HM.out]; exact ret_str (of_dataK HC.out))
    ·have t1 : ((A[k].toNat : Int) == (s[at'].toNat : Int)) = false := by
      rw [beq_eq_false_iff_ne]
      intro h
      exact he (UInt8.toNat_inj.1 (by omega))
     have HN2 := hide (noOne_step HN.out (by rw [HA.out]; exact he))
     clear HN he HA HAt HCu
     go_wp2_with fail
     go_quiet (fail)
     go_wp2_with fail
     go_roundw
     case rel => exact ⟨k + 1, by go_num, by omega, HN2, hide (HB.out.trans (Joins.below_draws _ _ _))⟩
     case measure => simp [intOf]; omega
   ·obtain rfl : k = 14 := by omega
    have HM := hide (noOne_end HN.out)
    clear HN
    go_wp2_with fail
    go_ret
    refine ⟨?_, HB.out⟩
    first | exact ret_str rfl | exact ret_str (by rw [if_neg HM.out])
set_option maxHeartbeats 8000000 in
theorem rsign_two (s : ByteArray) (at' : Nat) (w : World) (hs : s.size ≤ 20000) (ha : at' + 1 < s.size) (ht : twoP s[at'] s[at' + 1] = true) :
  Calls Tryz.prog 46 #[.string s, .int .i64 at'] w fun e w' => e = .returned (txt [s[at'], s[at' + 1]]) ∧ Below w.heap.size w w' := by
 have hd := two_data ha
 have HD := hide (of_dataK hd)
 have hl : (s.extract at' (at' + 2)).toList = [s[at'], s[at' + 1]] := by rw [Lib.toList_data, hd]
 unfold twoP at ht
 simp only [Bool.or_eq_true, Bool.and_eq_true, beq_iff_eq] at ht
 rw [show txt [s[at'], s[at' + 1]] = .string (s.extract at' (at' + 2)) by rw [HD.out]]
 have hb : ∀ x y : UInt8, ((s.extract at' (at' + 2)).toList == [x, y]) = decide (s[at'] = x ∧ s[at' + 1] = y) := fun x y => by
  rw [hl, Bool.eq_iff_iff, beq_iff_eq, decide_eq_true_iff]; simp
 have q1 := hb 33 61
 have q2 := hb 60 61
 have q3 := hb 62 61
 have q4 := hb 46 46
 clear hb hl hd
 rcases ht with ((h | h) | h) | h
 all_goals
  rw [h.1, h.2] at q1 q2 q3 q4
  simp at q1 q2 q3 q4
  clear h HD
  go_enter Tryz.func46, Tryz.ntmps46
  go_wp2_with fail
  go_ret
  exact ⟨rfl, Below.refl _ _⟩
theorem rsign_any (s : ByteArray) (at' : Nat) (w : World) (hs : s.size ≤ 20000) (ha : at' < s.size) :
  Calls Tryz.prog 46 #[.string s, .int .i64 at'] w fun e w' => e = .returned (txt (sgnT (rest s at'))) ∧ Below w.heap.size w w' := by
 by_cases h1 : at' + 1 < s.size
 ·have hr : rest s at' = s[at'] :: s[at' + 1] :: rest s (at' + 2) := by rw [rest_at ha, rest_at h1]
  cases ht : twoP s[at'] s[at' + 1]
  ·have hl : (s.extract at' (at' + 2)).toList = [s[at'], s[at' + 1]] := by rw [Lib.toList_data, two_data h1]
   have hb : ∀ x y : UInt8, ((s.extract at' (at' + 2)).toList == [x, y]) = (s[at'] == x && s[at' + 1] == y) := fun x y => by
    rw [hl]; simp
   unfold twoP at ht
   simp only [Bool.or_eq_false_iff] at ht
   obtain ⟨⟨⟨t1, t2⟩, t3⟩, t4⟩ := ht
   refine rsign_ones s at' w hs ha (Or.inr ⟨h1, by rw [hb]; exact t1, by rw [hb]; exact t2, by rw [hb]; exact t3, by rw [hb]; exact t4⟩) ?_
   unfold sgnT
   rw [hr, sgn_of_one (Or.inr ⟨_, _, rfl, by unfold twoP; rw [t1, t2, t3, t4]; rfl⟩)]
   split <;> (rename_i h; split at h <;> simp_all)
  ·have : sgnT (rest s at') = [s[at'], s[at' + 1]] := by unfold sgnT; rw [hr, sgn_of_two _ ht]
   rw [this]
   exact rsign_two s at' w hs h1 ht
 ·refine rsign_ones s at' w hs ha (Or.inl h1) ?_
  have hr : rest s at' = [s[at']] := by rw [rest_at ha, rest_end (by omega)]
  unfold sgnT
  rw [hr, sgn_of_one (Or.inl rfl)]
  split <;> (rename_i h; split at h <;> simp_all)
end Go.Proofs.YtljoajjlkjjgeaaGreatDoor
