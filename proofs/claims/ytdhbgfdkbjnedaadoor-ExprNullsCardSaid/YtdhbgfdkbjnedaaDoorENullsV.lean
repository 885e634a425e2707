/-
  What the expressions of ExprNulls come to.
-/
import Derived.Test.YtdhbgfdkbjnedaaDoorEAwake
namespace Go.Proofs.YtdhbgfdkbjnedaaDoor
open Go.RowKit

def nulX : XT := .mk 2 ⟨#[]⟩ (0, 0, ⟨#[]⟩) ⟨#[]⟩ none 0 []
def lrX (left : Bool) (o : ByteArray) : XT := binX o (if left = true then nulX else colA) (if left = true then colA else nulX)
def elevenL : List ByteArray := [⟨#[43]⟩, ⟨#[45]⟩, ⟨#[42]⟩, ⟨#[47]⟩, ⟨#[37]⟩, ⟨#[61]⟩, ⟨#[33, 61]⟩, ⟨#[60]⟩, ⟨#[60, 61]⟩, ⟨#[62]⟩, ⟨#[62, 61]⟩]
theorem nulls_11 {o : ByteArray} (h : o ∈ elevenL) (left : Bool) (n : Int) : evalTop csA [(1, n, ⟨#[]⟩)] (lrX left o) = (d3, 0) := by
  simp only [elevenL, List.mem_cons, List.not_mem_nil, or_false] at h
  rcases h with rfl | rfl | rfl | rfl | rfl | rfl | rfl | rfl | rfl | rfl | rfl <;> (cases left <;> kernel_rfl)
theorem nulls_and (left : Bool) (n : Int) : evalTop csA [(1, n, ⟨#[]⟩)] (lrX left ⟨#[97, 110, 100]⟩) = ((1, 0, ⟨#[]⟩), 0) := by
  cases left
  · have h : evalTop csA [(1, n, ⟨#[]⟩)] (lrX false ⟨#[97, 110, 100]⟩) = partX ⟨#[97, 110, 100]⟩ ⟨#[97, 110, 100]⟩ 2 [((1, n, ⟨#[]⟩), 0), (d3, 0)] := by kernel_rfl
    rw [h]
    cases hb : (n != 0) <;> simp [partX, settleV, twoX, nextW, trueV, truthV, Lib.toList_data, hb]
  · kernel_rfl
theorem nulls_or (left : Bool) (n : Int) : evalTop csA [(1, n, ⟨#[]⟩)] (lrX left ⟨#[111, 114]⟩) = (truthV (n != 0), 0) := by
  cases left
  · have h : evalTop csA [(1, n, ⟨#[]⟩)] (lrX false ⟨#[111, 114]⟩) = partX ⟨#[111, 114]⟩ ⟨#[111, 114]⟩ 2 [((1, n, ⟨#[]⟩), 0), (d3, 0)] := by kernel_rfl
    rw [h]
    cases hb : (n != 0) <;> simp [partX, settleV, twoX, nextW, trueV, truthV, Lib.toList_data, hb]
  · have h : evalTop csA [(1, n, ⟨#[]⟩)] (lrX true ⟨#[111, 114]⟩) = partX ⟨#[111, 114]⟩ ⟨#[111, 114]⟩ 2 [(d3, 0), ((1, n, ⟨#[]⟩), 0)] := by kernel_rfl
    rw [h]
    cases hb : (n != 0) <;> simp [partX, settleV, twoX, nextW, trueV, truthV, Lib.toList_data, hb]
theorem rule_none {o : ByteArray} (h : ∀ s ∈ elevenL ++ [⟨#[97, 110, 100]⟩, ⟨#[111, 114]⟩], (o.toList == s.toList) = false) : ruleOf 4 o = none := by
  unfold ruleOf
  rw [List.find?_eq_none]
  intro r hr
  have hall : ∀ r ∈ rulesL, r.k = 4 → r.w ∈ elevenL ++ [(⟨#[97, 110, 100]⟩ : ByteArray), ⟨#[111, 114]⟩] := by
    intro r hr
    simp only [rulesL, List.mem_cons, List.not_mem_nil, or_false] at hr
    rcases hr with rfl | rfl | rfl | rfl | rfl | rfl | rfl | rfl | rfl | rfl | rfl | rfl | rfl | rfl | rfl | rfl | rfl | rfl | rfl | rfl | rfl <;> simp [elevenL]
  unfold hitR
  intro hh
  simp only [Bool.and_eq_true, beq_iff_eq] at hh
  have := h r.w (hall r hr hh.1)
  rw [hh.2] at this
  simp at this
theorem nulls_no {o : ByteArray} (h : ∀ s ∈ elevenL ++ [⟨#[97, 110, 100]⟩, ⟨#[111, 114]⟩], (o.toList == s.toList) = false) (left : Bool) (n : Int) : evalTop csA [(1, n, ⟨#[]⟩)] (lrX left o) = (d3, 20) := by
  have hr : (ruleX (lrX left o)).2 = false := by
    unfold ruleX
    rw [if_neg (by show ¬ ((4 : Int) = 1 ∨ (4 : Int) = 2); decide)]
    show (match ruleOf 4 (wordX (lrX left o)) with | some r => (r, true) | none => (dR, false)).2 = false
    rw [show wordX (lrX left o) = o from rfl, rule_none h]
  have hf : formedX (lrX left o) = false := by unfold formedX; rw [hr]; rfl
  have ht : typeTop csA (lrX left o) = (0, 20) := by
    unfold typeTop
    rw [if_pos (by kernel_rfl), if_neg (by cases left <;> (show ¬ 256 < 3; decide))]
    unfold lrX binX at hf ⊢
    rw [typeX, if_neg (by decide), if_pos hf]
  unfold evalTop
  rw [ht]
  rfl
theorem wfLr (left : Bool) (o : ByteArray) : wfX (lrX left o) ∧ wfI (lrX left o) := by
  have a : wfX nulX ∧ wfI nulX := wfL (by unfold maxLen; show 0 ≤ _; omega) (by unfold I64; decide)
  cases left
  · exact wfBin wfColA a
  · exact wfBin a wfColA
theorem szLr (left : Bool) (o : ByteArray) : szX (lrX left o) = 3 := by cases left <;> rfl
end Go.Proofs.YtdhbgfdkbjnedaaDoor
