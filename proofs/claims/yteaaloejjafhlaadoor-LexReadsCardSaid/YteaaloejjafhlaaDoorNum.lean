/-
  Plain facts on 64-bit numbers: when a sum, a difference, a product or a quotient fits, and how the program's tests tell it. No program in it.
-/
import Derived.WalkKit
namespace Go.Proofs.YteaaloejjafhlaaDoor
open Go.RowKit

/-- x is an int of 64 bits. -/
def I64 (x : Int) : Prop := -9223372036854775808 ≤ x ∧ x ≤ 9223372036854775807

instance I64.dec (x : Int) : Decidable (I64 x) := by unfold I64; infer_instance
theorem wrap_fit {x : Int} (h : I64 x) : wrap64 x = x := by unfold I64 at h; exact IntWalk.wrap64_in x h
theorem wrap_zero : wrap64 0 = 0 := wrap_fit (by unfold I64; omega)
theorem wrap_mod (x : Int) : ∃ k : Int, wrap64 x = x + 18446744073709551616 * k := by
  unfold wrap64; refine ⟨-((x + 9223372036854775808) / 18446744073709551616), ?_⟩; omega
theorem wrap_i64 (x : Int) : I64 (wrap64 x) := by unfold I64 wrap64; omega

def okAdd (a b : Int) : Bool := decide (a < wrap64 (a + b)) == decide (0 < b)
def okSub (a b : Int) : Bool := decide (wrap64 (a - b) < a) == decide (0 < b)
def okMul (a b : Int) : Bool := wrap64 ((wrap64 (a * b)).tdiv a) == b

theorem okAdd_yes {a b : Int} (_ha : I64 a) (hb : I64 b) (h : I64 (a + b)) : okAdd a b = true := by
  unfold okAdd; rw [wrap_fit h]; unfold I64 at *
  by_cases h0 : 0 < b
  · have h1 : a < a + b := by omega
    simp [h0, h1]
  · have h1 : ¬ a < a + b := by omega
    simp [h0, h1]
theorem okAdd_no {a b : Int} (ha : I64 a) (hb : I64 b) (h : ¬ I64 (a + b)) : okAdd a b = false := by
  unfold okAdd; unfold I64 at *
  by_cases h0 : 0 < b
  · have h1 : ¬ a < wrap64 (a + b) := by unfold wrap64; omega
    simp [h0, h1]
  · have h1 : a < wrap64 (a + b) := by unfold wrap64; omega
    simp [h0, h1]
theorem okSub_yes {a b : Int} (_ha : I64 a) (hb : I64 b) (h : I64 (a - b)) : okSub a b = true := by
  unfold okSub; rw [wrap_fit h]; unfold I64 at *
  by_cases h0 : 0 < b
  · have h1 : a - b < a := by omega
    simp [h0, h1]
  · have h1 : ¬ a - b < a := by omega
    simp [h0, h1]
theorem okSub_no {a b : Int} (ha : I64 a) (hb : I64 b) (h : ¬ I64 (a - b)) : okSub a b = false := by
  unfold okSub; unfold I64 at *
  by_cases h0 : 0 < b
  · have h1 : ¬ wrap64 (a - b) < a := by unfold wrap64; omega
    simp [h0, h1]
  · have h1 : wrap64 (a - b) < a := by unfold wrap64; omega
    simp [h0, h1]

theorem abs_tmod_lt (n a : Int) (h : a ≠ 0) : (n.tmod a).natAbs < a.natAbs := by
  have := Int.natAbs_tmod n a
  rw [this]; exact Nat.mod_lt _ (by omega)

/-- A quotient by neither 0 nor -1 fits. -/
theorem tdiv_fit {n a : Int} (hn : I64 n) (h1 : a ≠ -1) : I64 (n.tdiv a) := by
  have hd : (n.tdiv a).natAbs = n.natAbs / a.natAbs := Int.natAbs_tdiv n a
  unfold I64 at *
  by_cases h0 : a = 0
  · subst h0; simp
  by_cases h2 : a = 1
  · subst h2; simpa using hn
  have h3 : 2 ≤ a.natAbs := by omega
  have h4 : n.natAbs / a.natAbs ≤ n.natAbs / 2 := Nat.div_le_div_left h3 (by omega)
  omega

theorem okMul_yes {a b : Int} (h0 : a ≠ 0) (hb : I64 b) (h : I64 (a * b)) : okMul a b = true := by
  unfold okMul; rw [wrap_fit h, Int.mul_tdiv_cancel_left b h0, wrap_fit hb]; simp
theorem okMul_no {a b : Int} (h0 : a ≠ 0) (h1 : a ≠ -1) (ha : I64 a) (h : ¬ I64 (a * b)) : okMul a b = false := by
  unfold okMul
  rw [wrap_fit (tdiv_fit (wrap_i64 _) h1)]
  rw [beq_eq_false_iff_ne]
  intro he
  obtain ⟨k, hk⟩ := wrap_mod (a * b)
  have hm := Int.mul_tdiv_add_tmod (wrap64 (a * b)) a
  rw [he] at hm
  have hr := abs_tmod_lt (wrap64 (a * b)) a h0
  have hw := wrap_i64 (a * b)
  generalize (wrap64 (a * b)).tmod a = r at *
  generalize hp : a * b = p at *
  generalize wrap64 p = m at *
  unfold I64 at *
  by_cases hk0 : k = 0
  · subst hk0; omega
  · omega
end Go.Proofs.YteaaloejjafhlaaDoor
