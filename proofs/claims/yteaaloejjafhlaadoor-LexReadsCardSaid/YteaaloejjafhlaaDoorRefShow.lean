/-
  The document's text of a number (Number) and of a value (Show): the program's texts.
-/
import Derived.Test.YteaaloejjafhlaaDoorRef
import Derived.Test.YteaaloejjafhlaaDoorQuote
import Derived.Lib.ItoaNum
import Derived.Lib.ItoaLen
import Derived.Laws.IdiomStrings
import Derived.Lib.IndexBytes
import Derived.Test.YteaaloejjafhlaaDoorShow
namespace Go.Proofs.YteaaloejjafhlaaDoor
open Go.RowKit

/-- string([]byte{x}). -/
theorem conv_one (x : Int) (d : UInt8) (hd : (d.toNat : Int) = x) (w : World) :
    (convert 35 9 (.slice (some ⟨w.heap.size, 0, none⟩) 1 1)).run Tryd.prog (w.alloc (.cells #[.int .u8 x] 5)) = .ok (.string ⟨#[d]⟩) (w.alloc (.cells #[.int .u8 x] 5)) := by
  refine run_convert_bytes_back (w.alloc (.cells #[.int .u8 x] 5)) 35 9 5 ⟨w.heap.size, 0, none⟩ 1 [d] Tryd.underlying35 Tryd.underlying5 Tryd.underlying9 ?_
  intro j hj
  obtain rfl : j = 0 := by simpa using hj
  subst hd
  simp [Addr.add]

theorem cat_eq (a b : List UInt8) : (⟨a.toArray⟩ ++ ⟨b.toArray⟩ : ByteArray) = ⟨(a ++ b).toArray⟩ := by
  have h : (⟨a.toArray⟩ ++ ⟨b.toArray⟩ : ByteArray).data = (a ++ b).toArray := by simp [ByteArray.data_append]
  rw [show (⟨a.toArray⟩ ++ ⟨b.toArray⟩ : ByteArray) = ⟨(⟨a.toArray⟩ ++ ⟨b.toArray⟩ : ByteArray).data⟩ from rfl, h]
/-- The byte of a digit. -/
def dig (u : Nat) : UInt8 := UInt8.ofNat (48 + u % 10)
theorem dig_val (u : Nat) : ((dig u).toNat : Int) = 48 + ((u % 10 : Nat) : Int) := by
  unfold dig; rw [UInt8.toNat_ofNat_of_lt' (by have := Nat.mod_lt u (show 0 < 10 by decide); show _ < 256; omega)]; omega
theorem dec_small {u : Nat} (h : u < 10) : Lib.decDigits u = [dig u] := by rw [Lib.decDigits, dif_pos h]; unfold dig; rw [Nat.mod_eq_of_lt h]
theorem dec_big {u : Nat} (h : ¬ u < 10) : Lib.decDigits u = Lib.decDigits (u / 10) ++ [dig u] := by rw [Lib.decDigits, dif_neg h]; rfl

theorem dec_len (u : Nat) (h : u < 18446744073709551616) : (Lib.decDigits u).length ≤ 20 := by rw [Lib.decDigits_length]; exact Lib.nDigits_le20 u h

theorem tmod_neg10 {n : Int} (h : n < 0) : n.tmod 10 = -((n.natAbs % 10 : Nat) : Int) := by
  have h1 : n = -((n.natAbs : Nat) : Int) := by omega
  conv => lhs; rw [h1]
  rw [Int.neg_tmod, Int.tmod_eq_emod_of_nonneg (by omega)]
  omega
theorem tdiv_neg10 {n : Int} (h : n < 0) : -(n.tdiv 10) = ((n.natAbs / 10 : Nat) : Int) := by
  have h1 : n = -((n.natAbs : Nat) : Int) := by omega
  conv => lhs; rw [h1]
  rw [Int.neg_tdiv, Int.tdiv_eq_ediv_of_nonneg (by omega)]
  omega

theorem cat_data (a b : ByteArray) : (a ++ b).data.toList = a.data.toList ++ b.data.toList := by simp [ByteArray.data_append]
theorem cat_size (a b : ByteArray) : (a ++ b).size = a.size + b.size := by simp [ByteArray.size_append]
theorem cut_one {s : ByteArray} {k : Nat} (h : k < s.size) : (s.extract k (k + 1)).data.toList = [s[k]] := by
  rw [Lib.extract_data, show k + 1 - k = 1 by omega, List.drop_eq_getElem_cons (by simpa using h)]
  rfl
theorem cut_size {s : ByteArray} {k : Nat} (h : k < s.size) : (s.extract k (k + 1)).size = 1 := by
  have h2 : (s.extract k (k + 1)).data.toList.length = (s.extract k (k + 1)).size := Array.length_toList
  rw [cut_one h] at h2
  exact h2.symm
theorem of_data {b : ByteArray} {l : List UInt8} (h : b.data.toList = l) : b = ⟨l.toArray⟩ := by
  cases b with | mk d => simp at h; subst h; simp

end Go.Proofs.YteaaloejjafhlaaDoor
