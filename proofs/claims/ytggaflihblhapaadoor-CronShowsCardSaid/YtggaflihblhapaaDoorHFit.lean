/-
  Whether an item fits; fields.
-/
import Derived.Test.YtggaflihblhapaaDoorHItem
namespace Go.Proofs.YtggaflihblhapaaDoor
open Go.RowKit HM

def fitB (f a b s : Nat) : Bool := decide (loN f ≤ a) && (decide (a ≤ b) && (decide (b ≤ hiN f) && (decide (1 ≤ s) && decide (s ≤ 59))))
set_option maxHeartbeats 2000000 in
theorem fit_any (f a b s : Nat) (w : World) (hf : f < 5) (hB : Bnd w) : Calls Tryd.prog 67 #[vI a b s, .int .i64 (f : Nat)] w fun e w' => e = .returned (.bool (fitB f a b s)) ∧ Below w.heap.size w w' := by
  have g1 := hB.1 f hf
  have g2 := hB.2 f hf
  have l1 : 1 < w.heap.size := lt_of_cell g1
  have l2 : 2 < w.heap.size := lt_of_cell g2
  have HE : Hid (fitB f a b s = (decide (loN f ≤ a) && (decide (a ≤ b) && (decide (b ≤ hiN f) && (decide (1 ≤ s) && decide (s ≤ 59)))))) := hide rfl
  have hfi : (f : Int) < 5 := by omega
  clear hB
  generalize fitB f a b s = r at *
  generalize loN f = lo at *
  generalize hiN f = hi at *
  by_cases h1 : lo ≤ a
  · have d1 : decide (lo ≤ a) = true := by simp; omega
    rw [d1] at HE
    clear h1
    by_cases h2 : a ≤ b
    · have d2 : decide (a ≤ b) = true := by simp; omega
      rw [d2] at HE
      clear h2
      by_cases h3 : b ≤ hi
      · have d3 : decide (b ≤ hi) = true := by simp; omega
        rw [d3] at HE
        clear h3
        by_cases h4 : 1 ≤ s
        · have d4 : decide ((1 : Int) ≤ s) = true := by simp; omega
          have d4' : decide (1 ≤ s) = true := by simp; omega
          rw [d4'] at HE
          clear h4
          by_cases h5 : s ≤ 59
          · have d5 : decide ((s : Int) ≤ 59) = true := by simp; omega
            have d5' : decide (s ≤ 59) = true := by simp; omega
            rw [d5'] at HE
            clear h5
            go_enter Tryd.func67, Tryd.ntmps67
            go_wp2_with fail
            go_quiet (fail)
            go_wp2_with fail
            go_ret
            exact ⟨ret_bool (by rw [HE.out]; simp), then_below ((Below.refl _ _).alloc (Nat.le_refl _) _) (Joins.below_draws _ _ _)⟩
          · have d5 : decide ((s : Int) ≤ 59) = false := by simp; omega
            have d5' : decide (s ≤ 59) = false := by simp; omega
            rw [d5'] at HE
            clear h5
            go_enter Tryd.func67, Tryd.ntmps67
            go_wp2_with fail
            go_quiet (fail)
            go_wp2_with fail
            go_ret
            exact ⟨ret_bool (by rw [HE.out]; simp), then_below ((Below.refl _ _).alloc (Nat.le_refl _) _) (Joins.below_draws _ _ _)⟩
        · have d4 : decide ((1 : Int) ≤ s) = false := by simp; omega
          have d4' : decide (1 ≤ s) = false := by simp; omega
          rw [d4'] at HE
          clear h4
          go_enter Tryd.func67, Tryd.ntmps67
          go_wp2_with fail
          go_quiet (fail)
          go_wp2_with fail
          go_ret
          exact ⟨ret_bool (by rw [HE.out]; simp), then_below ((Below.refl _ _).alloc (Nat.le_refl _) _) (Joins.below_draws _ _ _)⟩
      · have d3 : decide (b ≤ hi) = false := by simp; omega
        rw [d3] at HE
        clear h3
        go_enter Tryd.func67, Tryd.ntmps67
        go_wp2_with fail
        go_quiet (fail)
        go_wp2_with fail
        go_ret
        exact ⟨ret_bool (by rw [HE.out]; simp), then_below ((Below.refl _ _).alloc (Nat.le_refl _) _) (Joins.below_draws _ _ _)⟩
    · have d2 : decide (a ≤ b) = false := by simp; omega
      rw [d2] at HE
      clear h2
      go_enter Tryd.func67, Tryd.ntmps67
      go_wp2_with fail
      go_quiet (fail)
      go_wp2_with fail
      go_ret
      exact ⟨ret_bool (by rw [HE.out]; simp), then_below ((Below.refl _ _).alloc (Nat.le_refl _) _) (Joins.below_draws _ _ _)⟩
  · have d1 : decide (lo ≤ a) = false := by simp; omega
    rw [d1] at HE
    clear h1
    go_enter Tryd.func67, Tryd.ntmps67
    go_wp2_with fail
    go_quiet (fail)
    go_wp2_with fail
    go_ret
    exact ⟨ret_bool (by rw [HE.out]; simp), then_below ((Below.refl _ _).alloc (Nat.le_refl _) _) (Joins.below_draws _ _ _)⟩
end Go.Proofs.YtggaflihblhapaaDoor
