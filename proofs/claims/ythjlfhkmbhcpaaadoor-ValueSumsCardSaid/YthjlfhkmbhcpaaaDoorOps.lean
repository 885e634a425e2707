/-
  Arith on two integers by each sign, and the laws' fixed answer (awake).
-/
import Derived.Test.YthjlfhkmbhcpaaaDoorArith
import Derived.Test.YthjlfhkmbhcpaaaDoorShow
namespace Go.Proofs.YthjlfhkmbhcpaaaDoor
open Go.RowKit

theorem opIx_43 : 0 ≤ opIx 43 := by decide
theorem opIx_45 : 0 ≤ opIx 45 := by decide
theorem opIx_42 : 0 ≤ opIx 42 := by decide
theorem opIx_47 : 0 ≤ opIx 47 := by decide
theorem opIx_37 : 0 ≤ opIx 37 := by decide

theorem arRes_yes {p : Prop} [Decidable p] (h : p) (n : Int) : arRes (decide p) n = .tuple #[vInt n, .int .i64 0] := by unfold arRes; rw [if_pos (by simpa using h)]
theorem arRes_no {p : Prop} [Decidable p] (h : ¬ p) (n : Int) : arRes (decide p) n = vErr 10 := by unfold arRes; rw [if_neg (by simpa using h)]

theorem arith_add (a b : Int) (w : World) (ha : I64 a) (hb : I64 b) :
    Calls Tryd.prog 26 #[.int .u8 43, vInt a, vInt b] w fun e w' => e = .returned (arRes (decide (I64 (a + b))) (a + b)) ∧ Below w.heap.size w w' := by
  by_cases h : I64 (a + b)
  · rw [arRes_yes h]
    refine arith_yes 43 a b (a + b) w opIx_43 rfl rfl fun w => (reckon_add a b w ha hb).mono ?_
    rintro e w' ⟨rfl, hw⟩
    exact ⟨two_eq (wrap_fit h) (by simpa using h) rfl, hw⟩
  · rw [arRes_no h]
    refine arith_no 43 a b (wrap64 (a + b)) w opIx_43 rfl rfl fun w => (reckon_add a b w ha hb).mono ?_
    rintro e w' ⟨rfl, hw⟩
    exact ⟨two_eq rfl (by simpa using h) rfl, hw⟩
theorem arith_sub (a b : Int) (w : World) (ha : I64 a) (hb : I64 b) :
    Calls Tryd.prog 26 #[.int .u8 45, vInt a, vInt b] w fun e w' => e = .returned (arRes (decide (I64 (a - b))) (a - b)) ∧ Below w.heap.size w w' := by
  by_cases h : I64 (a - b)
  · rw [arRes_yes h]
    refine arith_yes 45 a b (a - b) w opIx_45 rfl rfl fun w => (reckon_sub a b w ha hb).mono ?_
    rintro e w' ⟨rfl, hw⟩
    exact ⟨two_eq (wrap_fit h) (by simpa using h) rfl, hw⟩
  · rw [arRes_no h]
    refine arith_no 45 a b (wrap64 (a - b)) w opIx_45 rfl rfl fun w => (reckon_sub a b w ha hb).mono ?_
    rintro e w' ⟨rfl, hw⟩
    exact ⟨two_eq rfl (by simpa using h) rfl, hw⟩
theorem arith_mul (a b : Int) (w : World) (ha : I64 a) (hb : I64 b) :
    Calls Tryd.prog 26 #[.int .u8 42, vInt a, vInt b] w fun e w' => e = .returned (arRes (decide (I64 (a * b))) (a * b)) ∧ Below w.heap.size w w' := by
  by_cases h : I64 (a * b)
  · rw [arRes_yes h]
    refine arith_yes 42 a b (a * b) w opIx_42 rfl rfl fun w => (reckon_mul a b w ha hb).mono ?_
    rintro e w' ⟨rfl, hw⟩
    exact ⟨two_eq (wrap_fit h) (by simpa using h) rfl, hw⟩
  · rw [arRes_no h]
    refine arith_no 42 a b (wrap64 (a * b)) w opIx_42 rfl rfl fun w => (reckon_mul a b w ha hb).mono ?_
    rintro e w' ⟨rfl, hw⟩
    exact ⟨two_eq rfl (by simpa using h) rfl, hw⟩
theorem tdiv_i64 {a b : Int} (ha : I64 a) : I64 (a.tdiv b) ↔ (a != -9223372036854775808 || b != -1) = true := by
  by_cases h1 : b = -1
  · subst h1
    rw [Int.tdiv_neg, Int.tdiv_one]; unfold I64 at *; simp; omega
  · exact ⟨fun _ => by simp [h1], fun _ => tdiv_fit ha h1⟩
theorem arith_div (a b : Int) (w : World) (ha : I64 a) (hb : ¬ b = 0) :
    Calls Tryd.prog 26 #[.int .u8 47, vInt a, vInt b] w fun e w' => e = .returned (arRes (decide (I64 (a.tdiv b))) (a.tdiv b)) ∧ Below w.heap.size w w' := by
  by_cases h : I64 (a.tdiv b)
  · rw [arRes_yes h]
    refine arith_quo_yes 47 a b (a.tdiv b) w opIx_47 rfl (by simpa using hb) fun w => (reckon_div a b w hb).mono ?_
    rintro e w' ⟨rfl, hw⟩
    exact ⟨two_eq (wrap_fit h) ((tdiv_i64 ha).1 h) rfl, hw⟩
  · rw [arRes_no h]
    refine arith_quo_no 47 a b (wrap64 (a.tdiv b)) w opIx_47 rfl (by simpa using hb) fun w => (reckon_div a b w hb).mono ?_
    rintro e w' ⟨rfl, hw⟩
    exact ⟨two_eq rfl (by rw [← Bool.not_eq_true, ← tdiv_i64 ha]; exact h) rfl, hw⟩
theorem arith_rem (a b : Int) (w : World) (hb : ¬ b = 0) :
    Calls Tryd.prog 26 #[.int .u8 37, vInt a, vInt b] w fun e w' => e = .returned (.tuple #[vInt (a.tmod b), .int .i64 0]) ∧ Below w.heap.size w w' := by
  refine arith_rem_yes 37 a b (a.tmod b) w opIx_37 rfl rfl (by simpa using hb) fun w => (reckon_rem a b w hb).mono ?_
  rintro e w' ⟨rfl, hw⟩
  exact ⟨rfl, hw⟩

theorem awake_div (w : World) : Calls Tryd.prog 26 #[.int .u8 47, vInt (-7), vInt 2] w fun e w' => e = .returned (.tuple #[vInt (-3), .int .i64 0]) ∧ Below w.heap.size w w' := by
  have h := arith_div (-7) 2 w (by unfold I64; omega) (by decide)
  rw [arRes_yes (by decide)] at h
  exact h
theorem awake_show (w : World) (ht : Tab w) : Calls Tryd.prog 20 #[vVal 2 0 ⟨#[97, 34, 98]⟩] w fun e w' => e = .returned (.string ⟨#[34, 97, 92, 34, 98, 34]⟩) ∧ Below w.heap.size w w' := by
  refine (show_any 2 0 ⟨#[97, 34, 98]⟩ w (by decide) (by unfold I64; omega) ht).mono ?_
  rintro e w' ⟨rfl, hw⟩
  exact ⟨by rw [show showV 2 0 ⟨#[97, 34, 98]⟩ = [34, 97, 92, 34, 98, 34] by decide], hw⟩

set_option maxHeartbeats 1000000 in
theorem awake_any (w : World) (ht : Tab w) : Calls Tryd.prog 12 #[] w fun e w' => e = .returned (.bool true) ∧ Below w.heap.size w w' := by
  go_enter Tryd.func12, Tryd.ntmps12
  go_wp2_with fail
  refine (of_any (-7) _).mono ?_
  rintro e w1 ⟨rfl, hb1⟩
  go_wp2_with fail
  refine (of_any 2 _).mono ?_
  rintro e w2 ⟨rfl, hb2⟩
  go_wp2_with fail
  refine (awake_div _).mono ?_
  rintro e w3 ⟨rfl, hb3⟩
  have hb4 : Below w.heap.size w w3 := (hb1.trans (hb2.mono hb1.size)).trans (hb3.mono (by have := hb1.size; have := hb2.size; omega))
  clear hb1 hb2 hb3
  go_wp2_with fail
  refine (text_any _ _).mono ?_
  rintro e w5 ⟨rfl, hb5⟩
  have hb6 : Below w.heap.size w w5 := by
    refine Below.trans ?_ (hb5.mono (by have := hb4.size; simp; omega))
    exact hb4.alloc (by have := hb4.size; omega) _
  go_wp2_with fail
  refine (awake_show _ (ht.stays hb6 (Nat.le_refl _))).mono ?_
  rintro e w7 ⟨rfl, hb7⟩
  have hb8 : Below w.heap.size w w7 := hb6.trans (hb7.mono hb6.size)
  clear hb4 hb5 hb6 hb7
  go_wp2_with fail
  go_ret
  exact ⟨rfl, hb8⟩
end Go.Proofs.YthjlfhkmbhcpaaaDoor
