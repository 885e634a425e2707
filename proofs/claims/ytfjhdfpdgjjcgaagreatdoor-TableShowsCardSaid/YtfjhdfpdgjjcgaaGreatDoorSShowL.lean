/-
  The document's text of columns.
-/
import Derived.Test.YtfjhdfpdgjjcgaaGreatDoorSCheck
namespace Go.Proofs.YtfjhdfpdgjjcgaaGreatDoor
open Go.RowKit

def tailC (n : Int) : List UInt8 := if n = 1 then [32, 105, 110, 116] else [32, 116, 101, 120, 116]
def showK (cs : List (ByteArray × Int)) : Nat → List UInt8
  | 0 => [40]
  | k + 1 => showK cs k ++ ((if 0 < k then [44, 32] else []) ++ ((cs.getD k (⟨#[]⟩, 0)).1.data.toList ++ tailC (cs.getD k (⟨#[]⟩, 0)).2))
def showC (cs : List (ByteArray × Int)) : List UInt8 := showK cs cs.length ++ [41]
theorem tailC_len (n : Int) : (tailC n).length ≤ 5 := by unfold tailC; split <;> simp
theorem showK_len {cs : List (ByteArray × Int)} (h : ∀ c ∈ cs, c.1.size ≤ 100) : ∀ k, (showK cs k).length ≤ 1 + k * 107
  | 0 => by simp [showK]
  | k + 1 => by
    have ih := showK_len h k
    have ht := tailC_len (cs.getD k (⟨#[]⟩, 0)).2
    have hc : (cs.getD k (⟨#[]⟩, 0)).1.data.toList.length ≤ 100 := by
      by_cases hk : k < cs.length
      · have := h (cs.getD k (⟨#[]⟩, 0)) (by rw [List.getD_eq_getElem?_getD, List.getElem?_eq_getElem hk]; exact List.getElem_mem hk)
        simpa using this
      · rw [List.getD_eq_getElem?_getD, List.getElem?_eq_none (by omega)]; simp
    unfold showK
    rw [List.length_append, List.length_append, List.length_append]
    have : (if 0 < k then [44, 32] else [] : List UInt8).length ≤ 2 := by split <;> simp
    omega
theorem text_eq {l m : List UInt8} (h : l = m) : Value.string ⟨l.toArray⟩ = .string ⟨m.toArray⟩ := by rw [h]
theorem text_data {s : ByteArray} {l : List UInt8} (h : s.data.toList = l) : Value.string s = .string ⟨l.toArray⟩ := by rw [of_data h]
theorem ret_text {l m : List UInt8} (h : l = m) : Ending.returned (.string ⟨l.toArray⟩) = .returned (.string ⟨m.toArray⟩) := by rw [h]

end Go.Proofs.YtfjhdfpdgjjcgaaGreatDoor
