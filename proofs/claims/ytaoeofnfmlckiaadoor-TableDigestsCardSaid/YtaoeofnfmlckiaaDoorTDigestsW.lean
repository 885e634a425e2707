/-
  The walk of TableDigests.
-/
import Derived.Test.YtaoeofnfmlckiaaDoorTDig
import Derived.Test.YtaoeofnfmlckiaaDoorTBox
import Derived.Laws.BytesArg
import Derived.Laws.IdiomStrings
import Derived.Lib.QuietBelow
namespace Go.Proofs.YtaoeofnfmlckiaaDoor.tableDigests
open Go.RowKit

/-- string(b). -/
theorem conv_bytes (A : Option Addr) (cap : Nat) (l : List UInt8) (w : World) (h : BytesAt w.heap.size w A l) : (convert 59 9 (.slice A l.length cap)).run Tryd.prog w = .ok (.string ⟨l.toArray⟩) w := by
  cases A with
  | none =>
    have hv : l = [] := by
      rcases l with _ | ⟨y, r⟩
      · rfl
      · obtain ⟨_, _, e, _⟩ := h 0 (by simp); cases e
    subst hv
    exact run_convert_bytes_nil w _ 5 Tryd.underlying59 Tryd.underlying5 _ _ _ Tryd.underlying9
  | some a =>
    refine run_convert_bytes_back w _ _ 5 a cap l Tryd.underlying59 Tryd.underlying5 Tryd.underlying9 (fun j hj => ?_)
    obtain ⟨b, off, e, _, h0⟩ := h j hj
    injection e with e
    subst e
    rw [List.getD_eq_getElem?_getD, List.getElem?_eq_getElem hj] at h0
    rw [show (⟨b, off, none⟩ : Addr).add j = ⟨b, off + j, none⟩ by unfold Addr.add; split <;> simp_all]
    exact h0

set_option maxHeartbeats 1600000 in
set_option maxRecDepth 100000 in
theorem tableDigests_walk (A : Option Addr) (cap : Nat) (l : List UInt8) (w : World) (hB : BytesAt w.heap.size w A l) (hl : l.length ≤ maxLen) (hT : Tab w) :
    Calls Tryd.prog 7 #[.slice A l.length cap] w fun e w' => e = .returned (.bool true) ∧ Below w.heap.size w w' := by
  have HB := hide hB
  have HAw := hide (aw_later hT)
  have HLn := hide hl
  clear hB hT
  unfold maxLen at hl
  by_cases h5 : 5000 < l.length
  · have h5' : (5000 : Int) < (l.length : Int) := by omega
    go_enter Tryd.func7, Tryd.ntmps7
    go_wp2_with (go_at_call 9; refine (HAw.out _ (Below.refl _ _)).mono ?_; rintro e wa ⟨rfl, hba⟩)
    go_ret
    exact ⟨rfl, hba⟩
  · have h5' : ¬ (5000 : Int) < (l.length : Int) := by omega
    have hcv := fun d os => conv_bytes A cap l (Go.Sort.grow (redrawn w d) os) (fun j hj => by
      obtain ⟨b, off, e, hlt, h0⟩ := (HB.out.below (below_regrown w d os)) j hj
      exact ⟨b, off, e, Nat.lt_of_lt_of_le hlt (below_regrown w d os).size, h0⟩)
    have HD1 := hide (fun w' (h : Below w.heap.size w w') => (digest_any A cap l w' (fun j hj => by
      obtain ⟨b, off, e, hlt, h0⟩ := (HB.out.below h) j hj
      exact ⟨b, off, e, Nat.lt_of_lt_of_le hlt h.size, h0⟩) HLn.out).mono fun e w1 (hh : e = .returned (.int .u64 (digL l : Nat)) ∧ w' = w1) => (⟨hh.1, hh.2 ▸ Below.refl _ _⟩ : e = .returned (.int .u64 (digL l : Nat)) ∧ Below w'.heap.size w' w1))
    have HD2 := hide (fun w' => (refDigest_any ⟨l.toArray⟩ w' (by rw [size_of]; exact HLn.out)).mono fun e w1 (hh : e = .returned (.int .u64 (digL (⟨l.toArray⟩ : ByteArray).data.toList : Nat)) ∧ Below w'.heap.size w' w1) => (⟨by rw [hh.1, list_of], hh.2⟩ : e = .returned (.int .u64 (digL l : Nat)) ∧ Below w'.heap.size w' w1))
    generalize digL l = z at *
    go_enter Tryd.func7, Tryd.ntmps7
    go_wp2_with fail
    refine wp_region_quiet_below (by kernel_rfl) (by kernel_rfl) ?_
    repeat (go_big_quiet_step (first
      | (go_at_call 27; exact Calls.regrown_of (HD1.out _ (below_regrown _ _ _)))
      | (go_at_call 28; exact Calls.regrown_of (HD2.out _))
      | (go_at_call 9; exact Calls.regrown_of (HAw.out _ (below_regrown _ _ _)))))
    refine wpQuiet_nil ?_
    intro _ hw'
    obtain ⟨⟨dq, osq⟩, hw''⟩ := hw'
    subst hw''
    go_wp2_with fail
    go_ret
    exact ⟨rfl, below_regrown _ dq osq⟩
end Go.Proofs.YtaoeofnfmlckiaaDoor.tableDigests
