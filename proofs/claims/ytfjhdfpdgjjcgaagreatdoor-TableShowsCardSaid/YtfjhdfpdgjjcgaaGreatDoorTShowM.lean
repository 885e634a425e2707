/-
  The text of a table, line by line. No program in it.
-/
import Derived.Test.YtfjhdfpdgjjcgaaGreatDoorTDefs
import Derived.Test.YtfjhdfpdgjjcgaaGreatDoorSShow
import Derived.Test.YtfjhdfpdgjjcgaaGreatDoorVShow
import Derived.Lib.ItoaLen
import Derived.Lib.ItoaNum
namespace Go.Proofs.YtfjhdfpdgjjcgaaGreatDoor
open Go.RowKit

def showL (v : Int × Int × ByteArray) : List UInt8 := showV v.1 v.2.1 v.2.2
/-- The texts of the first k values, with commas and blanks between. -/
def lineK (vs : List (Int × Int × ByteArray)) : Nat → List UInt8
  | 0 => []
  | k + 1 => lineK vs k ++ ((if 0 < k then [44, 32] else []) ++ showL (vs.getD k (0, 0, ⟨#[]⟩)))
def lineX (vs : List (Int × Int × ByteArray)) : List UInt8 := lineK vs vs.length
def linesX (rs : R3) : List UInt8 := rs.flatMap fun r => lineX r ++ [10]
def showX (cs : List (ByteArray × Int)) (rs : R3) : List UInt8 := showC cs ++ [10] ++ linesX rs
theorem itoa_len2 (n : Int) (hn : I64 n) : (Lib.itoa n).length ≤ 21 := by
  have hd : ∀ u, u < 18446744073709551616 → (Lib.decDigits u).length ≤ 20 := fun u h => by rw [Lib.decDigits_length]; exact Lib.nDigits_le20 u h
  unfold I64 at hn
  unfold Lib.itoa
  by_cases h0 : n < 0
  · rw [if_pos h0]; have := hd n.natAbs (by omega); simp only [List.length_cons]; omega
  · rw [if_neg h0]; have := hd n.toNat (by omega); omega
theorem showL_len {v : Int × Int × ByteArray} (h : I64 v.2.1) : (showL v).length ≤ 130 := by
  unfold showL showV
  split
  · rename_i hr
    have := rightV_size hr
    split
    · have := itoa_len2 _ h; omega
    · split
      · unfold quoteL
        have h1 := esc_len v.2.2.data.toList
        have h2 : v.2.2.data.toList.length = v.2.2.size := Array.length_toList
        simp only [List.length_cons, List.length_append, List.length_nil]; omega
      · simp
  · simp
theorem valWf_i64 {v : Int × Int × ByteArray} (h : valWf v) : I64 v.1 ∧ I64 v.2.1 := by unfold I64; exact ⟨h.1, h.2.1⟩
theorem lineK_len {vs : List (Int × Int × ByteArray)} (h : ∀ v ∈ vs, I64 v.2.1) : ∀ k, k ≤ vs.length → (lineK vs k).length ≤ k * 132
  | 0, _ => by simp [lineK]
  | k + 1, hk => by
    have ih := lineK_len h k (by omega)
    have hc := showL_len (h (vs.getD k (0, 0, ⟨#[]⟩)) (by rw [List.getD_eq_getElem?_getD, List.getElem?_eq_getElem (by omega)]; exact List.getElem_mem (by omega)))
    unfold lineK
    rw [List.length_append, List.length_append]
    have : (if 0 < k then [44, 32] else [] : List UInt8).length ≤ 2 := by split <;> simp
    omega

theorem linesX_take {rs : R3} {k : Nat} (hk : k < rs.length) : linesX (rs.take (k + 1)) = linesX (rs.take k) ++ (lineX (rs.getD k []) ++ [10]) := by
  unfold linesX
  rw [List.take_succ_eq_append_getElem hk, List.flatMap_append, List.getD_eq_getElem?_getD, List.getElem?_eq_getElem hk]; simp
theorem linesX_len {rs : R3} (h : ∀ r ∈ rs, WfR r ∧ r.length ≤ 16) : (linesX rs).length ≤ rs.length * 2200 := by
  induction rs with
  | nil => simp [linesX]
  | cons r rs ih =>
    have i1 := ih (fun x hx => h x (List.mem_cons_of_mem _ hx))
    obtain ⟨h1, h2⟩ := h r (by simp)
    have h3 : (lineX r).length ≤ r.length * 132 := lineK_len (vs := r) (fun v hv' => (valWf_i64 (h1.2 v hv')).2) r.length (Nat.le_refl _)
    unfold linesX at *
    simp only [List.flatMap_cons, List.length_append, List.length_cons, List.length_nil]
    omega
theorem fits_len {cs : List (ByteArray × Int)} {rs : R3} (h : checkT cs rs = 0) : ∀ r ∈ rs, r.length ≤ 16 := fun r hr => by
  obtain ⟨h1, _, h3⟩ := checkT_zero h
  rw [List.all_eq_true] at h3
  have := h3 r hr
  unfold rowFits at this
  simp only [Bool.and_eq_true, decide_eq_true_eq] at this
  have := (checkC_ok h1).2.1
  omega

end Go.Proofs.YtfjhdfpdgjjcgaaGreatDoor
