/-
  Right and rightText: whether a value is valid; as functions on numbers and lists of bytes.
-/
import Derived.Test.YteaaloejjafhlaaDoorVal
namespace Go.Proofs.YteaaloejjafhlaaDoor
open Go.RowKit

def okByte (c : UInt8) : Bool := decide (32 ≤ (c.toNat : Int)) && decide ((c.toNat : Int) ≤ 126)
def rightT (s : ByteArray) : Bool := decide (s.size ≤ 64) && s.data.toList.all okByte
def rightV (k n : Int) (s : ByteArray) : Bool :=
  if k = 0 then decide (n = 0) && s.toList.isEmpty else if k = 1 then s.toList.isEmpty else if k = 2 then decide (n = 0) && rightT s else false

theorem rightV_int (n : Int) : rightV 1 n ⟨#[]⟩ = true := by unfold rightV; simp [Lib.toList_data]
theorem rightV_null : rightV 0 0 ⟨#[]⟩ = true := by unfold rightV; simp [Lib.toList_data]

theorem take_snoc (s : ByteArray) (k : Nat) (h : k < s.size) : s.data.toList.take (k + 1) = s.data.toList.take k ++ [s[k]] := by
  rw [List.take_succ_eq_append_getElem (by simpa using h)]; rfl
theorem all_take {s : ByteArray} {k : Nat} (h : k < s.size) (ha : (s.data.toList.take k).all okByte = true) (hc : okByte s[k] = true) : (s.data.toList.take (k + 1)).all okByte = true := by
  rw [take_snoc s k h, List.all_append, ha]; simp [hc]
theorem all_not {s : ByteArray} {k : Nat} (h : k < s.size) (hc : okByte s[k] = false) : s.data.toList.all okByte = false := by
  rw [← List.take_append_drop (k + 1) s.data.toList, List.all_append, take_snoc s k h, List.all_append]; simp [hc]
theorem rightT_not {s : ByteArray} {k : Nat} (h : k < s.size) (hc : (s[k].toNat : Int) < 32 ∨ 126 < (s[k].toNat : Int)) : rightT s = false := by
  have : okByte s[k] = false := by unfold okByte; simp; omega
  unfold rightT; rw [all_not h this]; simp
theorem ret_bool {a b : Bool} (h : a = b) : Ending.returned (.bool a) = .returned (.bool b) := by rw [h]

set_option maxHeartbeats 800000 in
theorem rightText_any (s : ByteArray) (w : World) (hs : s.size ≤ maxLen) :
    Calls Tryd.prog 47 #[.string s] w fun e w' => e = .returned (.bool (rightT s)) ∧ w = w' := by
  unfold maxLen at hs
  by_cases hl : 64 < s.size
  · have hr : rightT s = false := by unfold rightT; simp [Nat.not_le.2 hl]
    have HR := Lib.hid hr; clear hr
    go_enter Tryd.func47, Tryd.ntmps47
    go_wp2
    go_ret
    exact ⟨ret_bool HR.out.symm, rfl⟩
  · have HL := Lib.hid hl
    have hl' : s.size ≤ 64 := by omega
    go_enter Tryd.func47, Tryd.ntmps47
    go_wp2
    go_loop [9] (fun i => ∃ k : Nat, k ≤ s.size ∧ i = .int .i64 k ∧ (s.data.toList.take k).all okByte = true) (fun i => s.size - (intOf i).toNat)
    case atStart => exact ⟨0, Nat.zero_le _, rfl, rfl⟩
    case round =>
      obtain ⟨k, hk, rfl, ha⟩ := hrel
      have HA := Lib.hid ha; clear ha
      by_cases hlt : k < s.size
      · go_wp2
        · go_ret
          exact ⟨ret_bool (rightT_not hlt (by first | (left; assumption) | assumption)).symm, rfl⟩
        · go_round
          case rel => exact ⟨k + 1, by omega, by go_num, all_take hlt HA.out (by unfold okByte; simp; omega)⟩
          case measure => simp [intOf]; omega
        · go_ret
          exact ⟨ret_bool (rightT_not hlt (by first | (left; assumption) | assumption)).symm, rfl⟩
      · go_wp2
        go_ret
        exact ⟨ret_bool (by have := HA.out; rw [List.take_of_length_le (by simp; omega)] at this; unfold rightT; rw [this]; simp [hl']), rfl⟩

set_option maxHeartbeats 800000 in
theorem right_any (k n : Int) (s : ByteArray) (w : World) (hs : s.size ≤ maxLen) :
    Calls Tryd.prog 34 #[vVal k n s] w fun e w' => e = .returned (.bool (rightV k n s)) ∧ Below w.heap.size w w' := by
  go_enter Tryd.func34, Tryd.ntmps34
  go_wp2_with (go_at_call 47; refine (rightText_any s _ hs).mono ?_; rintro e w1 ⟨rfl, rfl⟩)
  all_goals go_ret
  all_goals refine ⟨ret_bool ?_, by go_grown⟩
  all_goals simp_all [rightV]
end Go.Proofs.YteaaloejjafhlaaDoor
