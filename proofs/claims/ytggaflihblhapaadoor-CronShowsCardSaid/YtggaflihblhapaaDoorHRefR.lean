/-
  Is a field right, as the reference asks it.
-/
import Derived.Test.YtggaflihblhapaaDoorHRefM
namespace Go.Proofs.YtggaflihblhapaaDoor
open Go.RowKit CM HM

/-! The reckoning. -/
theorem okB_bad1 {f s n : Nat} {a : Bool} (hb : s.testBit n = true) (hi : inF f n = false) : okB f s a = false := by
  unfold okB
  have : ¬ (s &&& maskN f = s) := fun e => by
    rw [← e, Nat.testBit_and, bit_mask, hi] at hb
    simp at hb
  rw [decide_eq_false this]
  simp
theorem okB_bad2 {f s n : Nat} (hb : s.testBit n = false) (hi : inF f n = true) : okB f s true = false := by
  unfold okB
  have : (s == maskN f) = false := by
    rw [beq_eq_false_iff_ne]
    intro e
    rw [e, bit_mask, hi] at hb
    cases hb
  rw [this]
  simp
theorem inF_lt {f n : Nat} (h : inF f n = true) : n < 64 := by
  have := lohi f
  unfold inF at h
  simp at h
  omega
theorem okB_end {f s : Nat} {a : Bool} (hs : s < 18446744073709551616) (h1 : ∀ m, m < 64 → s.testBit m = true → inF f m = true) (h2 : a = true → ∀ m, m < 64 → inF f m = true → s.testBit m = true) : okB f s a = !(s == 0) := by
  unfold okB
  have e1 : s &&& maskN f = s := by
    refine bits_eq fun m => ?_
    rw [Nat.testBit_and, bit_mask]
    by_cases hm : m < 64
    · cases hb : s.testBit m
      · rfl
      · rw [h1 m hm hb]; rfl
    · rw [bit_hi hs (by omega)]; rfl
  have e2 : (!a || s == maskN f) = true := by
    cases a
    · rfl
    · have : s = maskN f := by
        refine bits_eq fun m => ?_
        rw [bit_mask]
        by_cases hm : m < 64
        · cases hb : s.testBit m
          · cases hi : inF f m
            · rfl
            · rw [h2 rfl m hm hi] at hb; cases hb
          · rw [h1 m hm hb]
        · rw [bit_hi hs (by omega)]
          cases hi : inF f m
          · rfl
          · exact absurd (inF_lt hi) hm
      rw [this]; simp
  rw [e2, decide_eq_true e1]
  simp
theorem none_zero {s : Nat} (hs : s < 18446744073709551616) (h : ∀ m, m < 64 → s.testBit m = false) : s = 0 := by
  refine bits_eq fun m => ?_
  rw [Nat.zero_testBit]
  by_cases hm : m < 64
  · exact h m hm
  · exact bit_hi hs (by omega)
/-! The field. -/
@[irreducible] def fL (c : Sp) (f : Nat) : List Value := (List.range 65).map fun j => fV c (65 * f + j)
theorem fL_len (c : Sp) (f : Nat) : (fL c f).length = 65 := by unfold fL; simp
theorem fL_at (c : Sp) (f : Nat) {j : Nat} (h : j < 65) : (fL c f)[j]? = some (fV c (65 * f + j)) := by
  unfold fL; rw [List.getElem?_map, List.getElem?_range h]; rfl
theorem rlow_any (f : Nat) (w : World) (hf : f < 5) : Calls Tryd.prog 56 #[.int .i64 (f : Nat)] w fun e w' => e = .returned (.int .i64 (loN f : Nat)) ∧ w' = w := by
  obtain rfl | rfl | rfl | rfl | rfl : f = 0 ∨ f = 1 ∨ f = 2 ∨ f = 3 ∨ f = 4 := by omega
  all_goals
    go_enter Tryd.func56, Tryd.ntmps56
    go_wp2_with fail
    go_ret
    exact ⟨rfl, rfl⟩
theorem rhigh_any (f : Nat) (w : World) (hf : f < 5) : Calls Tryd.prog 57 #[.int .i64 (f : Nat)] w fun e w' => e = .returned (.int .i64 (hiN f : Nat)) ∧ Below w.heap.size w w' := by
  obtain rfl | rfl | rfl | rfl | rfl : f = 0 ∨ f = 1 ∨ f = 2 ∨ f = 3 ∨ f = 4 := by omega
  all_goals
    go_enter Tryd.func57, Tryd.ntmps57
    go_wp2_with fail
    go_ret
    exact ⟨rfl, (Below.refl _ _).alloc (Nat.le_refl _) _⟩
end Go.Proofs.YtggaflihblhapaaDoor
