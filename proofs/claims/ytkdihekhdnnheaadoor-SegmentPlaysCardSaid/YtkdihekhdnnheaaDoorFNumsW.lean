/-
  The walk of FrameNumbers.
-/
import Derived.Test.YtkdihekhdnnheaaDoorFLists
import Derived.Test.YtkdihekhdnnheaaDoorFText
import Derived.Test.YtkdihekhdnnheaaDoorFAwake
namespace Go.Proofs.YtkdihekhdnnheaaDoor
open Go.RowKit

theorem intN_enc {n : Int} (hn : Int64 n) (r : List UInt8) : intN (intB n ++ r) = n ∧ intL (intB n ++ r) = r ∧ intX (intB n ++ r) = false := by
  have h := readI_intB hn r
  unfold intN intL intX
  rw [h]
  refine ⟨rfl, ?_, rfl⟩
  show (intB n ++ r).drop (intB n).length = r
  rw [List.drop_left]
theorem txt_enc (s : ByteArray) (r : List UInt8) (hs : s.size ≤ 4294960000) : txtS (textB s.data.toList ++ r) = s.data.toList ∧ txtL (textB s.data.toList ++ r) = r ∧ txtX (textB s.data.toList ++ r) = false := by
  have hz : s.data.toList.length = s.size := by simp
  obtain ⟨h1, h2, h3⟩ := intN_enc (n := (s.data.toList.length : Int)) ⟨by omega, by omega⟩ (s.data.toList ++ r)
  have e : textB s.data.toList ++ r = intB (s.data.toList.length : Int) ++ (s.data.toList ++ r) := by unfold textB; rw [List.append_assoc]
  have ok : TxtOk (textB s.data.toList ++ r) := by
    unfold TxtOk
    rw [e, h1, h2, List.length_append]
    omega
  unfold txtS txtL txtX
  rw [if_pos ok, if_pos ok, if_pos ok, e, h1, h2, h3, Int.toNat_natCast]
  exact ⟨List.take_left, List.drop_left, rfl⟩
end Go.Proofs.YtkdihekhdnnheaaDoor
