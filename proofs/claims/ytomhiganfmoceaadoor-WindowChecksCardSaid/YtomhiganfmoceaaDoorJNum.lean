/-
  The reference's text of a number that is not negative.
-/
import Derived.Test.YtomhiganfmoceaaDoorCNum
import Derived.Lib.ItoaNum
import Derived.Lib.ItoaLen
import Derived.Laws.IdiomStrings
import Derived.Lib.ConvBytes
namespace Go.Proofs.YtomhiganfmoceaaDoor
open Go.RowKit Go.Sort

/-- string([]byte{x}). -/
theorem conv_one (x : Int) (d : UInt8) (hd : (d.toNat : Int) = x) (w : World) :
    (convert 78 9 (.slice (some ⟨w.heap.size, 0, none⟩) 1 1)).run Tryd.prog (w.alloc (.cells #[.int .u8 x] 5)) = .ok (.string ⟨#[d]⟩) (w.alloc (.cells #[.int .u8 x] 5)) := by
  refine run_convert_bytes_back (w.alloc (.cells #[.int .u8 x] 5)) 78 9 5 ⟨w.heap.size, 0, none⟩ 1 [d] Tryd.underlying78 Tryd.underlying5 Tryd.underlying9 ?_
  intro j hj
  obtain rfl : j = 0 := by simpa using hj
  subst hd
  simp [Addr.add]

theorem cat_eq (a b : List UInt8) : (⟨a.toArray⟩ ++ ⟨b.toArray⟩ : ByteArray) = ⟨(a ++ b).toArray⟩ := by
  have h : (⟨a.toArray⟩ ++ ⟨b.toArray⟩ : ByteArray).data = (a ++ b).toArray := by simp [ByteArray.data_append]
  rw [show (⟨a.toArray⟩ ++ ⟨b.toArray⟩ : ByteArray) = ⟨(⟨a.toArray⟩ ++ ⟨b.toArray⟩ : ByteArray).data⟩ from rfl, h]
/-- The byte of a digit. -/
def dig (u : Nat) : UInt8 := UInt8.ofNat (48 + u % 10)
theorem dig_val (u : Nat) : ((dig u).toNat : Int) = 48 + ((u % 10 : Nat) : Int) := by
  unfold dig; rw [UInt8.toNat_ofNat_of_lt' (by have := Nat.mod_lt u (show 0 < 10 by decide); show _ < 256; omega)]; omega
theorem decS {u : Nat} (h : u < 10) : Lib.decDigits u = [dig u] := by rw [Lib.decDigits, dif_pos h]; unfold dig; rw [Nat.mod_eq_of_lt h]
theorem decB {u : Nat} (h : ¬ u < 10) : Lib.decDigits u = Lib.decDigits (u / 10) ++ [dig u] := by rw [Lib.decDigits, dif_neg h]; rfl

theorem decLen (u : Nat) (h : u < 18446744073709551616) : (Lib.decDigits u).length ≤ 20 := by rw [Lib.decDigits_length]; exact Lib.nDigits_le20 u h

set_option maxHeartbeats 1000000 in
set_option maxRecDepth 100000 in
theorem number_small (u : Nat) (w : World) (h1 : u < 10) :
    Calls Tryd.prog 38 #[.int .i64 u] w fun e w' => e = .returned (.string ⟨(Lib.decDigits u).toArray⟩) ∧ Below w.heap.size w w' := by
  have g : ¬ (u : Int) < 0 := by omega
  have g1 : ¬ (10 : Int) ≤ (u : Int) := by omega
  have hcv := fun w => conv_one (48 + (u : Int) % 10) (dig u) (by rw [dig_val]; omega) w
  have HD := Lib.hid (decS h1)
  clear h1
  go_enter Tryd.func38, Tryd.ntmps38
  go_wp2_with fail
  go_ret
  exact ⟨ret_str (by rw [HD.out]), by go_grown⟩

set_option maxHeartbeats 1000000 in
set_option maxRecDepth 100000 in
theorem number_big (u : Nat) (w : World) (h1 : ¬ u < 10) (hu : (u : Int) ≤ 9223372036854775807)
    (ih : ∀ w, Calls Tryd.prog 38 #[.int .i64 ((u / 10 : Nat) : Int)] w fun e w' => e = .returned (.string ⟨(Lib.decDigits (u / 10)).toArray⟩) ∧ Below w.heap.size w w') :
    Calls Tryd.prog 38 #[.int .i64 u] w fun e w' => e = .returned (.string ⟨(Lib.decDigits u).toArray⟩) ∧ Below w.heap.size w w' := by
  have g : ¬ (u : Int) < 0 := by omega
  have g1 : (10 : Int) ≤ (u : Int) := by omega
  have hcv := fun w => conv_one (48 + (u : Int) % 10) (dig u) (by rw [dig_val]; omega) w
  have HD := Lib.hid (decB h1)
  have hl := decLen (u / 10) (by omega)
  have IH := Lib.hid ih
  have hl2 : ¬ 9223372036854775807 < (Lib.decDigits (u / 10)).length + 1 := by omega
  clear h1 ih hl
  go_enter Tryd.func38, Tryd.ntmps38
  go_wp2_with fail
  refine (IH.out _).mono ?_
  rintro e w1 ⟨rfl, hb1⟩
  have q1 : Below w.heap.size w w1 := (Joins.below_alloc1 w _).trans (hb1.mono (by simp))
  clear hb1
  go_wp2_with fail
  go_ret
  exact ⟨by rw [HD.out]; exact congrArg (fun b => Ending.returned (.string b)) (cat_eq _ _), q1⟩

theorem rnumber_any : ∀ (u : Nat) (w : World), (u : Int) ≤ 9223372036854775807 → Calls Tryd.prog 38 #[.int .i64 u] w fun e w' => e = .returned (.string ⟨(Lib.decDigits u).toArray⟩) ∧ Below w.heap.size w w' := by
  intro u
  induction u using Nat.strongRecOn with
  | ind u ih =>
    intro w hu
    by_cases h : u < 10
    · exact number_small u w h
    · exact number_big u w h hu (fun w => ih (u / 10) (by omega) w (by omega))
end Go.Proofs.YtomhiganfmoceaaDoor
