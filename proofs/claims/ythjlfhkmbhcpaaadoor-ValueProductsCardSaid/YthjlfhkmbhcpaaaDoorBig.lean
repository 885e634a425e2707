/-
  The laws' test on products (big): is the product of two numbers no int?
-/
import Derived.Test.YthjlfhkmbhcpaaaDoorText
namespace Go.Proofs.YthjlfhkmbhcpaaaDoor
open Go.RowKit

theorem u64_back {a : Int} (h1 : -9223372036854775808 ≤ a) (h2 : a < 0) : IntKind.u64.wrap (-IntKind.u64.wrap a) = -a := by
  simp only [IntKind.wrap_u64]; omega

theorem u64_quo {m b : Int} (hm0 : 0 ≤ m) (hm : m ≤ 9223372036854775808) (hb : b < 0) : IntKind.u64.wrap (-Int.tdiv m b) = m / -b := by
  have h1 : -Int.tdiv m b = m / -b := by rw [← Int.tdiv_neg, Int.tdiv_eq_ediv_of_nonneg hm0]
  have h2 : 0 ≤ m / -b := Int.ediv_nonneg hm0 (by omega)
  have h3 : m / -b ≤ m := Int.ediv_le_self _ hm0
  rw [h1]; simp only [IntKind.wrap_u64]; omega

/-- The test, by the sizes. -/
theorem big_iff {m x y : Int} (hy : 0 < y) : decide (m / y < x) = decide (m < x * y) := by
  rw [decide_eq_decide]; exact Int.ediv_lt_iff_lt_mul hy

set_option maxRecDepth 100000 in
set_option maxHeartbeats 1000000 in
theorem big_any (a b : Int) (w : World) (ha : I64 a) (hb : I64 b) (ha0 : ¬ a = 0) (hb0 : ¬ b = 0) :
    Calls Tryd.prog 28 #[.int .i64 a, .int .i64 b] w fun e w' => e = .returned (.bool (decide (¬ I64 (a * b)))) ∧ w = w' := by
  obtain ⟨ha1, ha2⟩ := ha
  obtain ⟨hb1, hb2⟩ := hb
  have sa : a < 0 ∨ 0 < a := by omega
  have sb : b < 0 ∨ 0 < b := by omega
  clear ha0 hb0
  rcases sa with sa | sa <;> rcases sb with sb | sb
  · have HF : Hid (decide (9223372036854775807 / -b < -a) = decide (¬ I64 (a * b))) := Lib.hid (by
      rw [big_iff (by omega), decide_eq_decide, Int.neg_mul_neg]; unfold I64
      have : 0 < a * b := Int.mul_pos_of_neg_of_neg sa sb
      omega)
    have d1 : decide (a < 0) = true := by simpa using sa
    have d2 : decide (b < 0) = true := by simpa using sb
    have e1 := u64_back ha1 sa
    have e2 := u64_back hb1 sb
    go_enter Tryd.func28, Tryd.ntmps28
    go_wp2
    go_ret
    exact ⟨ret_bool (by rw [u64_quo (by omega) (by omega) sb]; exact HF.out), rfl⟩
  · have HF : Hid (decide (9223372036854775808 / b < -a) = decide (¬ I64 (a * b))) := Lib.hid (by
      rw [big_iff (by omega), decide_eq_decide, Int.neg_mul]; unfold I64
      have : a * b < 0 := Int.mul_neg_of_neg_of_pos sa sb
      omega)
    have d1 : decide (a < 0) = true := by simpa using sa
    have d2 : decide (b < 0) = false := by simp; omega
    have e1 := u64_back ha1 sa
    go_enter Tryd.func28, Tryd.ntmps28
    go_wp2
    go_ret
    exact ⟨ret_bool HF.out, rfl⟩
  · have HF : Hid (decide (9223372036854775808 / -b < a) = decide (¬ I64 (a * b))) := Lib.hid (by
      rw [big_iff (by omega), decide_eq_decide, Int.mul_neg]; unfold I64
      have : a * b < 0 := Int.mul_neg_of_pos_of_neg sa sb
      omega)
    have d1 : decide (a < 0) = false := by simp; omega
    have d2 : decide (b < 0) = true := by simpa using sb
    have e2 := u64_back hb1 sb
    go_enter Tryd.func28, Tryd.ntmps28
    go_wp2
    go_ret
    exact ⟨ret_bool (by rw [u64_quo (by omega) (by omega) sb]; exact HF.out), rfl⟩
  · have HF : Hid (decide (9223372036854775807 / b < a) = decide (¬ I64 (a * b))) := Lib.hid (by
      rw [big_iff (by omega), decide_eq_decide]; unfold I64
      have : 0 < a * b := Int.mul_pos sa sb
      omega)
    have d1 : decide (a < 0) = false := by simp; omega
    have d2 : decide (b < 0) = false := by simp; omega
    go_enter Tryd.func28, Tryd.ntmps28
    go_wp2
    go_ret
    exact ⟨ret_bool HF.out, rfl⟩
end Go.Proofs.YthjlfhkmbhcpaaaDoor
