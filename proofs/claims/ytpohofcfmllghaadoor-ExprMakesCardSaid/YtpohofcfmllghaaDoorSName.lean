/-
  Whether a text is a valid name: the program's way and the document's.
-/
import Derived.Test.YtpohofcfmllghaaDoorSBase
namespace Go.Proofs.YtpohofcfmllghaaDoor
open Go.RowKit

def lowB (c : Int) : Bool := decide (97 ≤ c) && decide (c ≤ 122)
def digB (c : Int) : Bool := decide (48 ≤ c) && decide (c ≤ 57)
def okAt (j : Nat) (c : UInt8) : Bool := lowB (c.toNat : Int) || (decide (j ≠ 0) && ((c.toNat : Int) == 95 || digB (c.toNat : Int)))
def preN (s : ByteArray) (k : Nat) : Prop := ∀ j, j < k → okAt j (s.data.toList.getD j 0) = true
instance preN.dec (s : ByteArray) (k : Nat) : Decidable (preN s k) := by unfold preN; infer_instance
def nameB (s : ByteArray) : Bool := decide (1 ≤ s.size ∧ s.size ≤ 16) && decide (preN s s.size)

theorem preN_zero (s : ByteArray) : preN s 0 := fun j h => by omega
theorem preN_succ {s : ByteArray} {k : Nat} (h : preN s k) (hk : k < s.size) (hc : okAt k s[k] = true) : preN s (k + 1) := fun j hj => by
  by_cases e : j = k
  · subst e; rw [getD_at s j hk]; exact hc
  · exact h j (by omega)
theorem nameB_not {s : ByteArray} {k : Nat} (hk : k < s.size) (hc : okAt k s[k] = false) : nameB s = false := by
  have : ¬ preN s s.size := fun h => by have h1 := h k hk; rw [getD_at s k hk, hc] at h1; cases h1
  unfold nameB; simp [this]
theorem nameB_size {s : ByteArray} (h : nameB s = true) : 1 ≤ s.size ∧ s.size ≤ 16 := by
  unfold nameB at h; simp at h; exact h.1

theorem letter_any (c : Int) (w : World) : Calls Tryd.prog 46 #[.int .u8 c] w fun e w' => e = .returned (.bool (lowB c)) ∧ w = w' := by
  go_enter Tryd.func46, Tryd.ntmps46
  go_wp2
  all_goals go_ret
  all_goals exact ⟨ret_bool (by unfold lowB; simp; omega), rfl⟩
theorem digit_any (c : Int) (w : World) : Calls Tryd.prog 47 #[.int .u8 c] w fun e w' => e = .returned (.bool (digB c)) ∧ w = w' := by
  go_enter Tryd.func47, Tryd.ntmps47
  go_wp2
  all_goals go_ret
  all_goals exact ⟨ret_bool (by unfold digB; simp; omega), rfl⟩

theorem nameB_len {s : ByteArray} (h : ¬ (1 ≤ s.size ∧ s.size ≤ 16)) : nameB s = false := by unfold nameB; simp only [h, decide_false, Bool.false_and]
theorem nameB_all {s : ByteArray} (h1 : 1 ≤ s.size) (h2 : s.size ≤ 16) (h : preN s s.size) : nameB s = true := by unfold nameB; simp [h, h1, h2]
theorem okAt_first {s : ByteArray} {k : Nat} (hz : 0 < s.size) (h0 : lowB (s[0].toNat : Int) = true) (hk : k < s.size)
    (h : lowB (s[k].toNat : Int) = true ∨ digB (s[k].toNat : Int) = true ∨ ((s[k].toNat : Int) != 95) = false) : okAt k s[k] = true := by
  by_cases e : k = 0
  · subst e; unfold okAt; rw [h0]; rfl
  · unfold okAt
    rcases h with h | h | h
    · rw [h]; rfl
    · rw [h]; simp [e]
    · have h' : ((s[k].toNat : Int) == 95) = true := by simpa [bne] using h
      rw [h']; simp [e]
theorem okAt_no {k : Nat} {c : UInt8} (h1 : ¬ lowB (c.toNat : Int) = true) (h2 : ¬ digB (c.toNat : Int) = true) (h3 : ((c.toNat : Int) != 95) = true) : okAt k c = false := by
  unfold okAt
  have h' : ((c.toNat : Int) == 95) = false := by simpa [bne] using h3
  rw [h', Bool.not_eq_true _ |>.mp h1, Bool.not_eq_true _ |>.mp h2]; simp

set_option maxHeartbeats 800000 in
theorem name_any (s : ByteArray) (w : World) (hs : s.size ≤ maxLen) :
    Calls Tryd.prog 31 #[.string s] w fun e w' => e = .returned (.bool (nameB s)) ∧ w = w' := by
  unfold maxLen at hs
  by_cases h0 : s.size = 0
  · have HR := hide (nameB_len (s := s) (by omega))
    have he : s.toList = [] := by rw [Lib.toList_data]; exact List.eq_nil_of_length_eq_zero (by simpa using h0)
    have he2 : s.toList.isEmpty = true := by rw [he]; rfl
    clear h0
    go_enter Tryd.func31, Tryd.ntmps31
    go_wp2
    go_ret
    exact ⟨ret_bool HR.out.symm, rfl⟩
  have he : s.toList.isEmpty = false := by
    rw [Lib.toList_data, Bool.eq_false_iff]; intro h; rw [List.isEmpty_iff] at h
    have : s.data.toList.length = s.size := by simp
    rw [h] at this; simp at this; omega
  have hz : 0 < s.size := by omega
  by_cases h16 : 16 < s.size
  · have HR := hide (nameB_len (s := s) (by omega))
    go_enter Tryd.func31, Tryd.ntmps31
    go_wp2
    go_ret
    exact ⟨ret_bool HR.out.symm, rfl⟩
  have hl : s.size ≤ 16 := by omega
  have hl' : ¬ (16 : Int) < (s.size : Int) := by omega
  cases hb : lowB (s[0].toNat : Int)
  · have HR := hide (nameB_not (s := s) (k := 0) hz (by unfold okAt; rw [hb]; rfl))
    have HB := hide hb
    clear hb
    go_enter Tryd.func31, Tryd.ntmps31
    go_wp2_with (go_at_call 46; refine (letter_any _ _).mono ?_; rintro e w' ⟨rfl, rfl⟩; rw [HB.out])
    go_ret
    exact ⟨ret_bool HR.out.symm, rfl⟩
  · have HB := hide hb
    clear hb
    go_enter Tryd.func31, Tryd.ntmps31
    go_wp2_with (go_at_call 46; refine (letter_any _ _).mono ?_; rintro e w' ⟨rfl, rfl⟩; rw [HB.out])
    go_loop [19] (fun i => ∃ k : Nat, k ≤ s.size ∧ i = .int .i64 k ∧ preN s k) (fun i => s.size - (intOf i).toNat)
    case atStart => exact ⟨0, Nat.zero_le _, rfl, preN_zero s⟩
    case round =>
      obtain ⟨k, hk, rfl, hp⟩ := hrel
      have HP := hide hp; clear hp
      by_cases hlt : k < s.size
      · go_wp2_with (first | (go_at_call 46; refine (letter_any _ _).mono ?_; rintro e w' ⟨rfl, rfl⟩) | (go_at_call 47; refine (digit_any _ _).mono ?_; rintro e w' ⟨rfl, rfl⟩))
        all_goals first
          | (go_round
             case rel => exact ⟨k + 1, by omega, by go_num, preN_succ HP.out hlt (okAt_first hz HB.out hlt (by first | exact .inl ‹_› | exact .inr (.inl ‹_›) | exact .inr (.inr ‹_›)))⟩
             case measure => simp [intOf]; omega)
          | (go_ret; exact ⟨ret_bool (nameB_not hlt (okAt_no ‹_› ‹_› ‹_›)).symm, rfl⟩)
      · go_wp2
        go_ret
        exact ⟨ret_bool (nameB_all hz hl (by have := HP.out; rw [show k = s.size by omega] at this; exact this)).symm, rfl⟩

/-- The ways that a byte can be, as the document's answer asks. -/
theorem ways_at (k : Nat) (c : UInt8) :
    (okAt k c = true ∧ ((97 ≤ (c.toNat : Int) ∧ (c.toNat : Int) ≤ 122) ∨ (((c.toNat : Int) < 97 ∨ 122 < (c.toNat : Int)) ∧ ((k : Int) == 0) = false ∧ ((c.toNat : Int) != 95) = false) ∨
      (((c.toNat : Int) < 97 ∨ 122 < (c.toNat : Int)) ∧ ((k : Int) == 0) = false ∧ ((c.toNat : Int) != 95) = true ∧ 48 ≤ (c.toNat : Int) ∧ (c.toNat : Int) ≤ 57))) ∨
    (okAt k c = false ∧ ((((c.toNat : Int) < 97 ∨ 122 < (c.toNat : Int)) ∧ ((k : Int) == 0) = true) ∨
      (((c.toNat : Int) < 97 ∨ 122 < (c.toNat : Int)) ∧ ((k : Int) == 0) = false ∧ ((c.toNat : Int) != 95) = true ∧ ((c.toNat : Int) < 48 ∨ 57 < (c.toNat : Int))))) := by
  unfold okAt lowB digB
  generalize (c.toNat : Int) = x
  simp only [bne, Bool.not_eq_false', Bool.not_eq_true', beq_iff_eq, beq_eq_false_iff_ne, ne_eq, Bool.or_eq_true, Bool.and_eq_true, decide_eq_true_eq, Bool.or_eq_false_iff, Bool.and_eq_false_iff, decide_eq_false_iff_not]
  omega

end Go.Proofs.YtpohofcfmllghaaDoor
