/-
  Compare, and the document's Holds.
-/
import Derived.Test.YtpohofcfmllghaaDoorSCmp
import Derived.Test.YtpohofcfmllghaaDoorEArith
namespace Go.Proofs.YtpohofcfmllghaaDoor
open Go.RowKit

/-- Which comparison holds at which order. -/
def cmpB (op c : Int) : Bool :=
  if op = 1 then c == 0 else if op = 2 then c != 0 else if op = 3 then decide (c < 0) else if op = 4 then decide (c ≤ 0) else if op = 5 then decide (0 < c) else if op = 6 then decide (0 ≤ c) else false
def bit (b : Bool) : Int := if b then 1 else 0

theorem vtruth_any (b : Bool) (w : World) : Calls Tryd.prog 53 #[.bool b] w fun e w' => e = .returned (vInt (bit b)) ∧ Below w.heap.size w w' := by
  cases b
  all_goals
    go_enter Tryd.func53, Tryd.ntmps53
    go_wp2_with fail
    refine (of_any _ _).mono ?_
    rintro e w1 ⟨rfl, hb⟩
    obtain ⟨hc, hf⟩ := bcell hb
    have hb0 : Below w.heap.size w w1 := (Joins.below_alloc1 w _).trans (hb.mono (by simp))
    clear hb
    go_wp2_with fail
    refine bodyPost_ret (v := vInt _) (by simp [results, Tryd.results53, go_sem, hc]; rfl) rfl ⟨rfl, ?_⟩
    go_grown

set_option maxHeartbeats 1000000 in
theorem compare_null1 (op k n : Int) (s : ByteArray) (l m : Int) (t : ByteArray) (w : World) (hk : (k == 0) = true) :
    Calls Tryd.prog 45 #[.int .i64 op, vVal k n s, vVal l m t] w fun e w' => e = .returned (vNull) ∧ Below w.heap.size w w' := by
  go_enter Tryd.func45, Tryd.ntmps45
  go_wp2_with fail
  refine (null_any _).mono ?_
  rintro e w2 ⟨rfl, hb⟩
  obtain ⟨hc, hf⟩ := bcell hb
  have hb0 : Below w.heap.size w w2 := (by go_grown : Below w.heap.size w _).trans (hb.mono (by simp; omega))
  clear hb
  go_wp2_with fail
  refine bodyPost_ret (v := vNull) (by simp [results, Tryd.results45, go_sem, hc]) rfl ⟨rfl, ?_⟩
  go_grown

set_option maxHeartbeats 1000000 in
theorem compare_null2 (op k n : Int) (s : ByteArray) (l m : Int) (t : ByteArray) (w : World) (hk : (k == 0) = false) (hl : (l == 0) = true) :
    Calls Tryd.prog 45 #[.int .i64 op, vVal k n s, vVal l m t] w fun e w' => e = .returned (vNull) ∧ Below w.heap.size w w' := by
  go_enter Tryd.func45, Tryd.ntmps45
  go_wp2_with fail
  refine (null_any _).mono ?_
  rintro e w2 ⟨rfl, hb⟩
  obtain ⟨hc, hf⟩ := bcell hb
  have hb0 : Below w.heap.size w w2 := (by go_grown : Below w.heap.size w _).trans (hb.mono (by simp; omega))
  clear hb
  go_wp2_with fail
  refine bodyPost_ret (v := vNull) (by simp [results, Tryd.results45, go_sem, hc]) rfl ⟨rfl, ?_⟩
  go_grown

set_option maxHeartbeats 1000000 in
theorem compare_none (op k n : Int) (s : ByteArray) (l m : Int) (t : ByteArray) (w : World) (hk : (k == 0) = false) (hl : (l == 0) = false) (o1 : (op == 1) = false) (o2 : (op == 2) = false) (o3 : (op == 3) = false) (o4 : (op == 4) = false) (o5 : (op == 5) = false) (o6 : (op == 6) = false) :
    Calls Tryd.prog 45 #[.int .i64 op, vVal k n s, vVal l m t] w fun e w' => e = .returned (vNull) ∧ Below w.heap.size w w' := by
  go_enter Tryd.func45, Tryd.ntmps45
  go_wp2_with fail
  refine (cmp_any k n s l m t _).mono ?_
  rintro e w1 ⟨rfl, hb1⟩
  obtain ⟨hc1, hf1⟩ := bcell hb1
  have q1 : Below w.heap.size w w1 := (by go_grown : Below w.heap.size w _).trans (hb1.mono (by simp; omega))
  have z1 : w.heap.size + 1 + 1 < w1.heap.size := by have := hb1.size; simp at this; omega
  clear hb1
  go_wp2_with fail
  refine (null_any _).mono ?_
  rintro e w2 ⟨rfl, hb⟩
  obtain ⟨hc, hf⟩ := bcell hb
  have hb0 : Below w.heap.size w w2 := q1.trans (hb.mono q1.size)
  clear hb
  go_wp2_with fail
  refine bodyPost_ret (v := vNull) (by simp [results, Tryd.results45, go_sem, hc, hc1, z1]) rfl ⟨rfl, ?_⟩
  go_grown

set_option maxHeartbeats 4000000 in
theorem compare_ops (op k n : Int) (s : ByteArray) (l m : Int) (t : ByteArray) (w : World) (hk : (k == 0) = false) (hl : (l == 0) = false) (hop : op = 1 ∨ op = 2 ∨ op = 3 ∨ op = 4 ∨ op = 5 ∨ op = 6) :
    Calls Tryd.prog 45 #[.int .i64 op, vVal k n s, vVal l m t] w fun e w' => e = .returned (vInt (bit (cmpB op (cmpV k n s l m t)))) ∧ Below w.heap.size w w' := by
  have HC := hide (fun w => cmp_any k n s l m t w)
  generalize cmpV k n s l m t = c at HC ⊢
  rcases hop with rfl | rfl | rfl | rfl | rfl | rfl
  all_goals
    go_enter Tryd.func45, Tryd.ntmps45
    go_wp2_with fail
    refine (HC.out _).mono ?_
    rintro e w1 ⟨rfl, hb1⟩
    obtain ⟨hc1, hf1⟩ := bcell hb1
    have q1 : Below w.heap.size w w1 := (by go_grown : Below w.heap.size w _).trans (hb1.mono (by simp; omega))
    have z1 : w.heap.size + 1 + 1 < w1.heap.size := by have := hb1.size; simp at this; omega
    clear hb1
    go_wp2_with fail
    refine (vtruth_any _ _).mono ?_
    rintro e w2 ⟨rfl, hb⟩
    obtain ⟨hc, hf⟩ := bcell hb
    have hb0 : Below w.heap.size w w2 := q1.trans (hb.mono q1.size)
    clear hb
    go_wp2_with fail
    refine bodyPost_ret (v := vInt _) (by simp [results, Tryd.results45, go_sem, hc, hc1, z1]; rfl) rfl ⟨?_, ?_⟩
    · exact congrArg (fun b => Ending.returned (vInt (bit b))) (by simp [cmpB])
    · go_grown

end Go.Proofs.YtpohofcfmllghaaDoor
