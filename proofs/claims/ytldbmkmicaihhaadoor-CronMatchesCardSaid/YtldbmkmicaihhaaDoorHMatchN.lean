/-
  No minute matches what is not right; no number that is no minute matches.
-/
import Derived.Test.YtldbmkmicaihhaaDoorHTime
namespace Go.Proofs.YtldbmkmicaihhaaDoor
open Go.RowKit CM HM

set_option maxHeartbeats 2000000 in
theorem match_out (c : Sp) (n : Int) (w : World) (h : n < 0 ∨ 2147483648 ≤ n) : Calls Tryd.prog 17 #[vC c, .int .i64 n] w fun e w' => e = .returned (.bool false) ∧ Below w.heap.size w w' := by
  have HO := hide (fun w => of_no n w h)
  have HB0 : Hid (Below w.heap.size w (boxC w c)) := hide ((Below.refl _ _).alloc (Nat.le_refl _) _)
  clear h
  go_enter Tryd.func17, Tryd.ntmps17
  go_wp2_with fail
  refine (HO.out _).mono ?_
  rintro e w1 ⟨rfl, hb1⟩
  have HB1 : Hid (∀ o : Obj, Below w.heap.size w (w1.alloc o)) := hide (fun o => by
    have := HB0.out.trans (Below.mono hb1 HB0.out.size)
    exact this.alloc this.size o)
  clear hb1
  go_wp2_with fail
  go_ret
  exact ⟨rfl, HB1.out _⟩
set_option maxHeartbeats 2000000 in
theorem match_wrong (c : Sp) (n : Int) (w : World) (hc : c.wf) (hv : validB c = false) (h0 : 0 ≤ n) (h1 : n < 2147483648) (hM : Mon w) (hB : Bnd w) : Calls Tryd.prog 17 #[vC c, .int .i64 n] w fun e w' => e = .returned (.bool false) ∧ Below w.heap.size w w' := by
  have HO := hide (of_yes n (w.alloc (.cells #[.int .u64 (c.S 0 : Nat), .int .u64 (c.S 1 : Nat), .int .u64 (c.S 2 : Nat), .int .u64 (c.S 3 : Nat), .int .u64 (c.S 4 : Nat), .bool (c.A 0), .bool (c.A 1), .bool (c.A 2), .bool (c.A 3), .bool (c.A 4)] 26)) h0 h1 (hM.on ((Below.refl _ _).alloc (Nat.le_refl _) _)))
  have HC := hide (fun w hB => check_any c w hc hB)
  have HBn := hide hB
  have HQ := hide (chk_no hv)
  clear hB hM hc hv
  have HB0 : Hid (Below w.heap.size w (w.alloc (.cells #[.int .u64 (c.S 0 : Nat), .int .u64 (c.S 1 : Nat), .int .u64 (c.S 2 : Nat), .int .u64 (c.S 3 : Nat), .int .u64 (c.S 4 : Nat), .bool (c.A 0), .bool (c.A 1), .bool (c.A 2), .bool (c.A 3), .bool (c.A 4)] 26))) := hide ((Below.refl _ _).alloc (Nat.le_refl _) _)
  go_enter Tryd.func17, Tryd.ntmps17
  go_wp2_with fail
  refine HO.out.mono ?_
  rintro e w1 ⟨rfl, hb1⟩
  have HB1 := hide hb1
  obtain ⟨c1, f1⟩ := bcell hb1
  have hz1 : w.heap.size < w1.heap.size := by have := hb1.size; simp at this; omega
  clear hb1
  have HB2 := hide (Below.alloc HB1.out HB1.out.size (.cells #[.int .i64 (Y n), .int .i64 (K n + 1), .int .i64 (D n), .int .i64 (n / 60 % 24), .int .i64 (n % 60), .int .i64 ((6 + n / 1440) % 7)] 70))
  go_wp2_with fail
  refine (HC.out _ ?_).mono ?_
  · exact HBn.out.on (HB0.out.trans (Below.mono HB2.out HB0.out.size))
  rintro e w2 ⟨rfl, hb2⟩
  rw [HQ.out]
  have HB3 := hide (HB2.out.trans (hb2.mono HB2.out.size))
  clear hb2
  go_wp2_with fail
  go_ret
  exact ⟨rfl, HB0.out.trans (Below.mono HB3.out HB0.out.size)⟩
/-- Match, whatever it is asked. -/
def mchB (c : Sp) (n : Int) : Bool := validB c && (decide (0 ≤ n) && (decide (n < 2147483648) && matB c n))
theorem match_any (c : Sp) (n : Int) (w : World) (hc : c.wf) (hM : Mon w) (hB : Bnd w) : Calls Tryd.prog 17 #[vC c, .int .i64 n] w fun e w' => e = .returned (.bool (mchB c n)) ∧ Below w.heap.size w w' := by
  unfold mchB
  by_cases h0 : 0 ≤ n
  · by_cases h1 : n < 2147483648
    · rw [decide_eq_true h0, decide_eq_true h1, Bool.true_and, Bool.true_and]
      cases hv : validB c
      · exact match_wrong c n w hc hv h0 h1 hM hB
      · exact match_yes c n w hc hv h0 h1 hM hB
    · rw [decide_eq_false h1, Bool.false_and, Bool.and_false, Bool.and_false]
      exact match_out c n w (by omega)
  · rw [decide_eq_false h0, Bool.false_and, Bool.and_false]
    exact match_out c n w (by omega)
end Go.Proofs.YtldbmkmicaihhaaDoor
