/-
  Find of a column.
-/
import Derived.Test.YtpohofcfmllghaaDoorSCheck
namespace Go.Proofs.YtpohofcfmllghaaDoor
open Go.RowKit

/-- Where the first column with this name stands; the list's length if there is none. -/
def findK (cs : List (ByteArray × Int)) (s : ByteArray) : Nat := cs.findIdx fun c => c.1.data.toList == s.data.toList
def noneAhead (cs : List (ByteArray × Int)) (s : ByteArray) (k : Nat) : Prop := ∀ j, j < k → ¬ (cs.getD j (⟨#[]⟩, 0)).1.data.toList = s.data.toList
theorem noneAhead_succ {cs : List (ByteArray × Int)} {s : ByteArray} {k : Nat} (h : noneAhead cs s k) (hm : ¬ (cs.getD k (⟨#[]⟩, 0)).1.data.toList = s.data.toList) : noneAhead cs s (k + 1) := fun j hj => by
  by_cases e : j = k
  · subst e; exact hm
  · exact h j (by omega)
theorem findK_at {cs : List (ByteArray × Int)} {s : ByteArray} {k : Nat} (hk : k < cs.length) (h : noneAhead cs s k) (he : (cs.getD k (⟨#[]⟩, 0)).1.data.toList = s.data.toList) : findK cs s = k := by
  unfold findK
  rw [List.findIdx_eq hk]
  refine ⟨?_, fun j hj => ?_⟩
  · rw [List.getD_eq_getElem?_getD, List.getElem?_eq_getElem hk] at he; simpa using he
  · have := h j hj
    rw [List.getD_eq_getElem?_getD, List.getElem?_eq_getElem (by omega)] at this; simpa using this
theorem findK_none {cs : List (ByteArray × Int)} {s : ByteArray} (h : noneAhead cs s cs.length) : findK cs s = cs.length := by
  unfold findK
  rw [List.findIdx_eq_length]
  intro c hc
  obtain ⟨j, hj, e⟩ := List.getElem_of_mem hc
  have := h j hj
  rw [List.getD_eq_getElem?_getD, List.getElem?_eq_getElem hj] at this
  rw [← e]; simpa using this
theorem findK_le (cs : List (ByteArray × Int)) (s : ByteArray) : findK cs s ≤ cs.length := List.findIdx_le_length

def foundV (cs : List (ByteArray × Int)) (s : ByteArray) : Value := if findK cs s < cs.length then .tuple #[.int .i64 (findK cs s : Nat), .bool true] else .tuple #[.int .i64 0, .bool false]
theorem foundV_at {cs : List (ByteArray × Int)} {s : ByteArray} {k : Nat} (hk : k < cs.length) (h : findK cs s = k) : foundV cs s = .tuple #[.int .i64 (k : Nat), .bool true] := by
  unfold foundV; rw [h, if_pos hk]
theorem foundV_none {cs : List (ByteArray × Int)} {s : ByteArray} (h : findK cs s = cs.length) : foundV cs s = .tuple #[.int .i64 0, .bool false] := by
  unfold foundV; rw [h, if_neg (Nat.lt_irrefl _)]

set_option maxHeartbeats 800000 in
set_option maxRecDepth 100000 in
theorem find_any (A : Option Addr) (cap : Nat) (cs : List (ByteArray × Int)) (s : ByteArray) (w : World) (hC : ColsAt w.heap.size w A cs) (hl : cs.length ≤ maxLen) :
    Calls Tryd.prog 26 #[.slice A cs.length cap, .string s] w fun e w' => e = .returned (foundV cs s) ∧ Below w.heap.size w w' := by
  unfold maxLen at hl
  have HC := hide hC; clear hC
  go_enter Tryd.func26, Tryd.ntmps26
  go_wp2
  go_loopw [10] (fun i wr => ∃ k : Nat, k ≤ cs.length ∧ i = .int .i64 k ∧ noneAhead cs s k ∧ Below w.heap.size w wr) (fun i _ => cs.length - (intOf i).toNat)
  case atStart => exact ⟨0, Nat.zero_le _, rfl, fun j h => by omega, Below.refl _ _⟩
  case round =>
    obtain ⟨k, hk, rfl, hp, hbw⟩ := hrel
    have HP := hide hp; clear hp
    by_cases hlt : k < cs.length
    · obtain ⟨b, off, rfl, hb, h0, h1⟩ := HC.out.below hbw k hlt
      generalize hcol : cs.getD k (⟨#[]⟩, 0) = c at h0 h1
      have HK := hide hcol; clear hcol
      go_wp2
      · have he : (c.1.toList == s.toList) = true := by assumption
        go_ret2
        exact ⟨congrArg Ending.returned (foundV_at hlt (findK_at hlt HP.out (by rw [HK.out]; rw [Lib.toList_data, Lib.toList_data] at he; simpa using he))).symm, hbw.alloc hbw.size _⟩
      · have he : (c.1.toList == s.toList) = false := by assumption
        go_roundw
        case rel => exact ⟨k + 1, by omega, by go_num, noneAhead_succ HP.out (by rw [HK.out]; rw [Lib.toList_data, Lib.toList_data] at he; simpa using he), hbw.alloc hbw.size _⟩
        case measure => simp [intOf]; omega
    · go_wp2
      go_ret2
      exact ⟨congrArg Ending.returned (foundV_none (findK_none (by have := HP.out; rw [show k = cs.length by omega] at this; exact this))).symm, hbw⟩
end Go.Proofs.YtpohofcfmllghaaDoor
