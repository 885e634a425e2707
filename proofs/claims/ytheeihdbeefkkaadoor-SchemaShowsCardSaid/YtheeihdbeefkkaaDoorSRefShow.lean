/-
  The document's text of columns.
-/
import Derived.Test.YtheeihdbeefkkaaDoorSCheck
namespace Go.Proofs.YtheeihdbeefkkaaDoor
open Go.RowKit

def tailC (n : Int) : List UInt8 := if n = 1 then [32, 105, 110, 116] else [32, 116, 101, 120, 116]
def showK (cs : List (ByteArray × Int)) : Nat → List UInt8
  | 0 => [40]
  | k + 1 => showK cs k ++ ((if 0 < k then [44, 32] else []) ++ ((cs.getD k (⟨#[]⟩, 0)).1.data.toList ++ tailC (cs.getD k (⟨#[]⟩, 0)).2))
def showC (cs : List (ByteArray × Int)) : List UInt8 := showK cs cs.length ++ [41]
theorem tailC_len (n : Int) : (tailC n).length ≤ 5 := by unfold tailC; split <;> simp
theorem showK_len {cs : List (ByteArray × Int)} (h : ∀ c ∈ cs, c.1.size ≤ 100) : ∀ k, (showK cs k).length ≤ 1 + k * 107
  | 0 => by simp [showK]
  | k + 1 => by
    have ih := showK_len h k
    have ht := tailC_len (cs.getD k (⟨#[]⟩, 0)).2
    have hc : (cs.getD k (⟨#[]⟩, 0)).1.data.toList.length ≤ 100 := by
      by_cases hk : k < cs.length
      · have := h (cs.getD k (⟨#[]⟩, 0)) (by rw [List.getD_eq_getElem?_getD, List.getElem?_eq_getElem hk]; exact List.getElem_mem hk)
        simpa using this
      · rw [List.getD_eq_getElem?_getD, List.getElem?_eq_none (by omega)]; simp
    unfold showK
    rw [List.length_append, List.length_append, List.length_append]
    have : (if 0 < k then [44, 32] else [] : List UInt8).length ≤ 2 := by split <;> simp
    omega
theorem text_eq {l m : List UInt8} (h : l = m) : Value.string ⟨l.toArray⟩ = .string ⟨m.toArray⟩ := by rw [h]
theorem text_data {s : ByteArray} {l : List UInt8} (h : s.data.toList = l) : Value.string s = .string ⟨l.toArray⟩ := by rw [of_data h]
theorem ret_text {l m : List UInt8} (h : l = m) : Ending.returned (.string ⟨l.toArray⟩) = .returned (.string ⟨m.toArray⟩) := by rw [h]

set_option maxHeartbeats 1600000 in
set_option maxRecDepth 100000 in
theorem refShow_any (A : Option Addr) (cap : Nat) (cs : List (ByteArray × Int)) (w : World) (hC : ColsAt w.heap.size w A cs) (hl : cs.length ≤ 65536) (hn : ∀ c ∈ cs, c.1.size ≤ 100) :
    Calls Tryd.prog 26 #[.slice A cs.length cap] w fun e w' => e = .returned (.string ⟨(showC cs).toArray⟩) ∧ Below w.heap.size w w' := by
  have HC := hide hC; clear hC
  have HN := hide (showK_len hn); have HN0 := hide hn; clear hn
  have HD := hide (show showC cs = showK cs cs.length ++ [41] from rfl)
  generalize showC cs = res at HD ⊢
  go_enter Tryd.func26, Tryd.ntmps26
  go_wp2
  go_loopw [3, 4] (fun v i wr => ∃ k : Nat, k ≤ cs.length ∧ i = .int .i64 k ∧ v = .string ⟨(showK cs k).toArray⟩ ∧ Below w.heap.size w wr) (fun _ i _ => cs.length - (intOf i).toNat)
  case atStart => exact ⟨0, Nat.zero_le _, rfl, rfl, Below.refl _ _⟩
  case round =>
    obtain ⟨k, hk, rfl, rfl, hbw⟩ := hrel
    by_cases hlt : k < cs.length
    · obtain ⟨b, off, rfl, hb, h0, h1⟩ := HC.out.below hbw k hlt
      have HS := hide (show showK cs (k + 1) = showK cs k ++ ((if 0 < k then [44, 32] else []) ++ ((cs.getD k (⟨#[]⟩, 0)).1.data.toList ++ tailC (cs.getD k (⟨#[]⟩, 0)).2)) from rfl)
      have hp := HN.out k
      have hcn : (cs.getD k (⟨#[]⟩, 0)).1.size ≤ 100 := HN0.out _ (by rw [List.getD_eq_getElem?_getD, List.getElem?_eq_getElem hlt]; exact List.getElem_mem hlt)
      generalize hcol : cs.getD k (⟨#[]⟩, 0) = c at h0 h1 HS hcn
      clear hcol
      generalize showK cs k = pre at *
      by_cases h0k : 0 < k
      all_goals
        have H0 := hide h0k
        cases htb : c.2 == 1
        all_goals
          have HT := hide htb
          go_wp2
          go_roundw
          case rel =>
            refine ⟨k + 1, by omega, by go_num, ?_, hbw⟩
            refine text_data ?_
            rw [HS.out]
            have hT := HT.out
            have h0 := H0.out
            unfold tailC
            simp_all
          case measure => simp [intOf]; omega
    · obtain rfl : k = cs.length := by omega
      have hp := HN.out cs.length
      generalize showK cs cs.length = pre at *
      go_wp2
      go_ret
      exact ⟨congrArg Ending.returned (text_data (by rw [HD.out]; simp)), hbw⟩
end Go.Proofs.YtheeihdbeefkkaaDoor
