/-
  The document's answer on validity (ref, Right) and the laws' guard (right): the same function as the program's.
-/
import Derived.Test.YteenhmniikloiaaDoorSText
namespace Go.Proofs.YteenhmniikloiaaDoor
open Go.RowKit

theorem size_zero {s : ByteArray} (h : s.size = 0) : s.data.toList = [] := by
  have : s.data.toList.length = s.size := by simp
  exact List.eq_nil_of_length_eq_zero (by omega)
theorem isEmpty_size (s : ByteArray) : s.toList.isEmpty = decide (s.size = 0) := by
  have : s.data.toList.length = s.size := by simp
  rw [Lib.toList_data, Bool.eq_iff_iff, List.isEmpty_iff, decide_eq_true_iff]
  constructor
  · intro h; rw [h] at this; simpa using this.symm
  · intro h; exact size_zero h
theorem rightV_all {k n : Int} {s : ByteArray} (h : (k = 0 ∧ n = 0 ∧ s.size = 0) ∨ (k = 1 ∧ s.size = 0) ∨ (k = 2 ∧ n = 0 ∧ s.size ≤ 64)) : rightV k n s = s.data.toList.all okByte := by
  rcases h with ⟨rfl, rfl, h⟩ | ⟨rfl, h⟩ | ⟨rfl, rfl, h⟩
  · unfold rightV; rw [isEmpty_size, size_zero h]; simp [h]
  · unfold rightV; rw [isEmpty_size, size_zero h]; simp [h]
  · unfold rightV rightT; simp [h]
theorem rightV_none {k n : Int} {s : ByteArray} (h : ¬ ((k = 0 ∧ n = 0 ∧ s.size = 0) ∨ (k = 1 ∧ s.size = 0) ∨ (k = 2 ∧ n = 0 ∧ s.size ≤ 64))) : rightV k n s = false := by
  unfold rightV rightT; rw [isEmpty_size]
  by_cases h0 : k = 0
  · subst h0; simp at h ⊢; intro h1; exact h h1
  by_cases h1 : k = 1
  · subst h1; simp at h ⊢; exact h
  by_cases h2 : k = 2
  · subst h2; simp at h ⊢; intro h3 h4; exact absurd h4 (by have := h h3; omega)
  · simp [h0, h1, h2]

set_option maxRecDepth 100000 in
set_option maxHeartbeats 1000000 in
theorem refRight_none (k n : Int) (s : ByteArray) (w : World) (hs : s.size ≤ maxLen) (h : k < 0 ∨ 2 < k ∨ (k = 0 ∧ n ≠ 0) ∨ (k = 0 ∧ n = 0 ∧ 0 < s.size) ∨ (k = 1 ∧ 0 < s.size) ∨ (k = 2 ∧ n ≠ 0) ∨ (k = 2 ∧ n = 0 ∧ 64 < s.size)) :
    Calls Tryd.prog 72 #[vVal k n s] w fun e w' => e = .returned (.bool false) ∧ Below w.heap.size w w' := by
  unfold maxLen at hs
  rcases h with h | h | ⟨rfl, h⟩ | ⟨rfl, rfl, h⟩ | ⟨rfl, h⟩ | ⟨rfl, h⟩ | ⟨rfl, rfl, h⟩
  · go_enter Tryd.func72, Tryd.ntmps72
    go_wp2
    go_ret
    exact ⟨rfl, by go_grown⟩
  · have h' : ¬ k < 0 := by omega
    go_enter Tryd.func72, Tryd.ntmps72
    go_wp2
    go_ret
    exact ⟨rfl, by go_grown⟩
  · go_enter Tryd.func72, Tryd.ntmps72
    go_wp2
    go_ret
    exact ⟨rfl, by go_grown⟩
  · go_enter Tryd.func72, Tryd.ntmps72
    go_wp2
    go_ret
    exact ⟨rfl, by go_grown⟩
  · go_enter Tryd.func72, Tryd.ntmps72
    go_wp2
    go_ret
    exact ⟨rfl, by go_grown⟩
  · go_enter Tryd.func72, Tryd.ntmps72
    go_wp2
    go_ret
    exact ⟨rfl, by go_grown⟩
  · have h' : 0 < s.size := by omega
    go_enter Tryd.func72, Tryd.ntmps72
    go_wp2
    go_ret
    exact ⟨rfl, by go_grown⟩

def allOk (s : ByteArray) : Bool := s.data.toList.all okByte
theorem all_no {s : ByteArray} {k : Nat} (h : k < s.size) (hc : (s[k].toNat : Int) < 32 ∨ 126 < (s[k].toNat : Int)) : allOk s = false :=
  all_not h (by unfold okByte; simp; omega)

set_option maxRecDepth 100000 in
set_option maxHeartbeats 1000000 in
theorem refRight_loop (k n : Int) (s : ByteArray) (w : World) (hs : s.size ≤ 64) (h : (k = 0 ∧ n = 0 ∧ s.size = 0) ∨ (k = 1 ∧ s.size = 0) ∨ (k = 2 ∧ n = 0)) :
    Calls Tryd.prog 72 #[vVal k n s] w fun e w' => e = .returned (.bool (allOk s)) ∧ Below w.heap.size w w' := by
  have key : ∀ k n : Int, (k < 0) = False → (2 < k) = False → ((k != 1 && n != 0) = false) → ((k != 2 && decide (0 < s.size)) = false) →
      Calls Tryd.prog 72 #[vVal k n s] w fun e w' => e = .returned (.bool (allOk s)) ∧ Below w.heap.size w w' := by
    intro k n h1 h2 h3 h4
    have H3 : (k != 1) = false ∨ (k != 1) = true ∧ (n != 0) = false := by cases hk : (k != 1) <;> simp_all
    have H4 : (k != 2) = false ∨ (k != 2) = true ∧ s.size ≤ 0 := by
      cases hk : (k != 2)
      · exact Or.inl rfl
      · refine Or.inr ⟨rfl, ?_⟩; rw [hk, Bool.true_and, decide_eq_false_iff_not] at h4; omega
    have h1' : ¬ k < 0 := by simp_all
    have h2' : ¬ 2 < k := by simp_all
    clear h1 h2 h3 h4
    have hloop : True := trivial
    rcases H3 with h3 | ⟨h3, h3'⟩ <;> rcases H4 with h4 | ⟨h4, h4'⟩
    all_goals
      go_enter Tryd.func72, Tryd.ntmps72
      go_wp2_with fail
      go_loop [3] (fun i => ∃ k : Nat, k ≤ s.size ∧ i = .int .i64 k ∧ (s.data.toList.take k).all okByte = true) (fun i => s.size - (intOf i).toNat)
      case atStart => exact ⟨0, Nat.zero_le _, rfl, rfl⟩
      case round =>
        obtain ⟨j, hj, rfl, ha⟩ := hrel
        have HA := hide ha; clear ha
        by_cases hlt : j < s.size
        · first
            | (exfalso; omega)
            | (go_wp2
               · go_ret
                 exact ⟨ret_bool (all_no hlt (by first | (left; assumption) | assumption)).symm, by go_grown⟩
               · go_round
                 case rel => exact ⟨j + 1, by omega, by go_num, all_take hlt HA.out (by unfold okByte; simp; omega)⟩
                 case measure => simp [intOf]; omega
               · go_ret
                 exact ⟨ret_bool (all_no hlt (by first | (left; assumption) | assumption)).symm, by go_grown⟩)
        · go_wp2
          go_ret
          exact ⟨ret_bool (by have := HA.out; rw [List.take_of_length_le (by simp; omega)] at this; exact this.symm), by go_grown⟩
  rcases h with ⟨rfl, rfl, h⟩ | ⟨rfl, h⟩ | ⟨rfl, rfl⟩
  · exact key 0 0 (by simp) (by simp) (by simp) (by simp [h])
  · exact key 1 n (by simp) (by simp) (by simp) (by simp [h])
  · exact key 2 0 (by simp) (by simp) (by simp) (by simp)

theorem refRight_any (k n : Int) (s : ByteArray) (w : World) (hs : s.size ≤ maxLen) :
    Calls Tryd.prog 72 #[vVal k n s] w fun e w' => e = .returned (.bool (rightV k n s)) ∧ Below w.heap.size w w' := by
  by_cases h : (k = 0 ∧ n = 0 ∧ s.size = 0) ∨ (k = 1 ∧ s.size = 0) ∨ (k = 2 ∧ n = 0 ∧ s.size ≤ 64)
  · rw [rightV_all h]
    exact refRight_loop k n s w (by omega) (by omega)
  · rw [rightV_none h]
    exact refRight_none k n s w hs (by omega)

theorem rightV_cases {k n : Int} {s : ByteArray} (h : rightV k n s = true) : (k = 0 ∧ n = 0 ∧ s = ⟨#[]⟩) ∨ (k = 1 ∧ s = ⟨#[]⟩) ∨ (k = 2 ∧ n = 0 ∧ s.size ≤ 64) := by
  have hz : ∀ t : ByteArray, t.size = 0 → t = ⟨#[]⟩ := fun t ht => by
    have h1 := size_zero ht
    cases t with
    | mk d => cases d with
      | mk l => simp at h1; subst h1; rfl
  by_cases hh : (k = 0 ∧ n = 0 ∧ s.size = 0) ∨ (k = 1 ∧ s.size = 0) ∨ (k = 2 ∧ n = 0 ∧ s.size ≤ 64)
  · rcases hh with ⟨h1, h2, h3⟩ | ⟨h1, h2⟩ | h1
    · exact Or.inl ⟨h1, h2, hz s h3⟩
    · exact Or.inr (Or.inl ⟨h1, hz s h2⟩)
    · exact Or.inr (Or.inr h1)
  · rw [rightV_none hh] at h; cases h
end Go.Proofs.YteenhmniikloiaaDoor
