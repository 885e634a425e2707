/-
  Integers and texts: what was written is read. No program in it.
-/
import Derived.Test.YtbjcbgomkhdmmaaDoorFText
namespace Go.Proofs.YtbjcbgomkhdmmaaDoor
open Go.RowKit

theorem intN_enc {n : Int} (hn : Int64 n) (r : List UInt8) : intN (intB n ++ r) = n ∧ intL (intB n ++ r) = r ∧ intX (intB n ++ r) = false := by
  have h := readI_intB hn r
  unfold intN intL intX
  rw [h]
  refine ⟨rfl, ?_, rfl⟩
  show (intB n ++ r).drop (intB n).length = r
  rw [List.drop_left]
theorem txt_enc (s : ByteArray) (r : List UInt8) (hs : s.size ≤ 4294960000) : txtS (textB s.data.toList ++ r) = s.data.toList ∧ txtL (textB s.data.toList ++ r) = r ∧ txtX (textB s.data.toList ++ r) = false := by
  have hz : s.data.toList.length = s.size := by simp
  obtain ⟨h1, h2, h3⟩ := intN_enc (n := (s.data.toList.length : Int)) ⟨by omega, by omega⟩ (s.data.toList ++ r)
  have e : textB s.data.toList ++ r = intB (s.data.toList.length : Int) ++ (s.data.toList ++ r) := by unfold textB; rw [List.append_assoc]
  have ok : TxtOk (textB s.data.toList ++ r) := by
    unfold TxtOk
    rw [e, h1, h2, List.length_append]
    omega
  unfold txtS txtL txtX
  rw [if_pos ok, if_pos ok, if_pos ok, e, h1, h2, h3, Int.toNat_natCast]
  exact ⟨List.take_left, List.drop_left, rfl⟩
theorem int_dead {l : List UInt8} (h : intX l = true) : intN l = 0 ∧ intL l = [] := by
  unfold intX at h
  unfold intN intL
  cases hr : readI l with
  | none => exact ⟨rfl, rfl⟩
  | some p => rw [hr] at h; cases h
theorem int_dec {l : List UInt8} (h : intX l = false) : l = intB (intN l) ++ intL l ∧ Int64 (intN l) ∧ (intL l).length ≤ l.length := by
  unfold intX at h
  cases hr : readI l with
  | none => rw [hr] at h; cases h
  | some p =>
    obtain ⟨n, k⟩ := p
    have e1 : intN l = n := by unfold intN; rw [hr]; rfl
    have e2 : intL l = l.drop k := by unfold intL; rw [hr]; rfl
    rw [e1, e2, intB_readI hr, List.take_append_drop]
    exact ⟨rfl, readI_i64 hr, by rw [List.length_drop]; omega⟩
theorem txt_dead {l : List UInt8} (h : txtX l = true) : txtL l = [] := by
  unfold txtX at h
  unfold txtL
  by_cases ho : TxtOk l
  · rw [if_pos ho] at h ⊢
    rw [(int_dead h).2]; simp
  · rw [if_neg ho]
theorem txt_dec {l : List UInt8} (h : txtX l = false) : l = textB (txtS l) ++ txtL l ∧ (txtS l).length ≤ l.length ∧ (txtL l).length ≤ l.length := by
  unfold txtX at h
  by_cases ho : TxtOk l
  · rw [if_pos ho] at h
    obtain ⟨h1, h2, h3⟩ := int_dec h
    have e1 : txtS l = (intL l).take (intN l).toNat := by unfold txtS; rw [if_pos ho]
    have e2 : txtL l = (intL l).drop (intN l).toNat := by unfold txtL; rw [if_pos ho]
    unfold TxtOk at ho
    have e3 : (txtS l).length = (intN l).toNat := by rw [e1, List.length_take]; omega
    refine ⟨?_, by omega, by rw [e2, List.length_drop]; omega⟩
    unfold textB
    rw [e3, show (((intN l).toNat : Nat) : Int) = intN l by omega, List.append_assoc, e1, e2, List.take_append_drop]
    exact h1
  · rw [if_neg ho] at h; cases h
theorem textB_len (s : ByteArray) : (textB s.data.toList).length ≤ 9 + s.size := by
  unfold textB
  rw [List.length_append]
  have := (intB_len (s.data.toList.length : Int)).2
  have hz : s.data.toList.length = s.size := by simp
  omega
end Go.Proofs.YtbjcbgomkhdmmaaDoor
