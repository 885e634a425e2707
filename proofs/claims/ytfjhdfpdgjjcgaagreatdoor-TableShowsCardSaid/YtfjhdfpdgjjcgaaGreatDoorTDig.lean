/-
  The digest of bytes: the program's product and the document's shifts and sums.
-/
import Derived.Test.YtfjhdfpdgjjcgaaGreatDoorTFrame
import Derived.Laws.BitsAll
import Derived.Laws.Bits64
namespace Go.Proofs.YtfjhdfpdgjjcgaaGreatDoor
open Go.RowKit

/-- One byte more. -/
def digStep (h : Nat) (c : UInt8) : Nat := (h ^^^ c.toNat) * 1099511628211 % 18446744073709551616
def digL (l : List UInt8) : Nat := l.foldl digStep 14695981039346656037
theorem digStep_lt (h : Nat) (c : UInt8) : digStep h c < 18446744073709551616 := by
  unfold digStep
  generalize (h ^^^ c.toNat) * 1099511628211 = x
  omega
theorem fold_lt {M : Nat} {f : Nat → UInt8 → Nat} (hf : ∀ h c, f h c < M) : ∀ (l : List UInt8) (a : Nat), a < M → l.foldl f a < M
  | [], _, h => h
  | c :: l, a, _ => fold_lt hf l (f a c) (hf a c)
theorem digL_lt (l : List UInt8) : digL l < 18446744073709551616 := fold_lt (f := digStep) digStep_lt l 14695981039346656037 (by decide)
theorem digL_take {l : List UInt8} {k : Nat} (hk : k < l.length) : digL (l.take (k + 1)) = digStep (digL (l.take k)) (l.getD k 0) := by
  unfold digL
  rw [List.take_succ_eq_append_getElem hk, List.foldl_append, List.getD_eq_getElem?_getD, List.getElem?_eq_getElem hk, List.foldl_cons, List.foldl_nil, Option.getD_some]

set_option maxHeartbeats 1600000 in
set_option maxRecDepth 100000 in
theorem digest_any (A : Option Addr) (cap : Nat) (l : List UInt8) (w : World) (hB : BytesAt w.heap.size w A l) (hl : l.length ≤ maxLen) :
    Calls Tryz.prog 42 #[.slice A l.length cap] w fun e w' => e = .returned (.int .u64 (digL l : Nat)) ∧ w = w' := by
  unfold maxLen at hl
  have HB := hide hB; clear hB
  go_enter Tryz.func42, Tryz.ntmps42
  go_wp2_with fail
  go_loop [3, 8] (fun v i => ∃ k : Nat, k ≤ l.length ∧ i = .int .i64 k ∧ v = .int .u64 (digL (l.take k) : Nat)) (fun _ i => l.length - (intOf i).toNat)
  case atStart => exact ⟨0, Nat.zero_le _, rfl, rfl⟩
  case round =>
    obtain ⟨k, hk, rfl, rfl⟩ := hrel
    by_cases hlt : k < l.length
    · obtain ⟨b, off, rfl, hb, c0⟩ := HB.out k hlt
      have HT := hide (digL_take hlt)
      have hd := digL_lt (l.take k)
      generalize digL (l.take k) = h at *
      have hc := (l.getD k 0).toNat_lt
      generalize l.getD k 0 = c at *
      have hc1 : c.toNat < 256 := hc
      clear hc
      have HX := hide (bits_xor_u64_nat h c.toNat hd (by omega))
      go_wp2_with fail
      go_round
      case rel =>
        refine ⟨k + 1, by omega, by go_num, ?_⟩
        rw [HT.out, HX.out, IntKind.wrap_u64]
        unfold digStep
        generalize h ^^^ c.toNat = x
        congr 1
      case measure => simp [intOf]; omega
    · obtain rfl : k = l.length := by omega
      have ht : l.take l.length = l := List.take_length
      rw [ht]
      clear ht
      go_wp2_with fail
      go_ret
      exact ⟨rfl, rfl⟩

set_option maxHeartbeats 1600000 in
set_option maxRecDepth 100000 in
theorem refDigest_any (s : ByteArray) (w : World) (hs : s.size ≤ maxLen) :
    Calls Tryz.prog 20 #[.string s] w fun e w' => e = .returned (.int .u64 (digL s.data.toList : Nat)) ∧ Below w.heap.size w w' := by
  unfold maxLen at hs
  have hln : s.data.toList.length = s.size := by simp
  have HLN := hide hln
  clear hln
  go_enter Tryz.func20, Tryz.ntmps20
  go_wp2_with fail
  go_loopw [3, 4] (fun v i wr => ∃ k : Nat, k ≤ s.size ∧ i = .int .i64 k ∧ v = .int .u64 (digL (s.data.toList.take k) : Nat) ∧ Below w.heap.size w wr) (fun _ i _ => s.size - (intOf i).toNat)
  case atStart => exact ⟨0, Nat.zero_le _, rfl, rfl, Below.refl _ _⟩
  case round =>
    obtain ⟨k, hk, rfl, rfl, hbw⟩ := hrel
    by_cases hlt : k < s.size
    · have HT := hide (digL_take (l := s.data.toList) (k := k) (by rw [HLN.out]; exact hlt))
      have hd := digL_lt (s.data.toList.take k)
      rw [getD_at s k hlt] at HT
      generalize digL (s.data.toList.take k) = h at *
      have hc := s[k].toNat_lt
      have hc1 : s[k].toNat < 256 := hc
      clear hc
      have HX := hide (bits_xor_u64_nat h s[k].toNat hd (by omega))
      go_wp2_with fail
      go_roundw
      case rel =>
        refine ⟨k + 1, by omega, by go_num, ?_, hbw⟩
        rw [HT.out, HX.out]
        simp only [IntKind.wrap_u64]
        unfold digStep
        generalize h ^^^ s[k].toNat = x
        congr 1
        omega
      case measure => simp [intOf]; omega
    · obtain rfl : k = s.size := by omega
      have ht : s.data.toList.take s.size = s.data.toList := List.take_of_length_le (by rw [HLN.out]; exact Nat.le_refl _)
      rw [ht]
      clear ht
      go_wp2_with fail
      go_ret
      exact ⟨rfl, hbw⟩
end Go.Proofs.YtfjhdfpdgjjcgaaGreatDoor
