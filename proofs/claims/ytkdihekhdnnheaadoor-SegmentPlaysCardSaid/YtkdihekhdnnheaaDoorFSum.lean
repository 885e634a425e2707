/-
  The checksum: the program's by half bytes, the document's by bits.
-/
import Derived.Test.YtkdihekhdnnheaaDoorFBase
import Derived.Laws.BitsAll
namespace Go.Proofs.YtkdihekhdnnheaaDoor
open Go.RowKit

def nibN : Nat → Nat → Nat
  | 0, c => c
  | k + 1, c => nibC (nibN k c)
theorem nibN_lt {c : Nat} (h : c < 4294967296) : ∀ k, nibN k c < 4294967296
  | 0 => h
  | k + 1 => nibC_lt (nibN_lt h k)
theorem nib_two (s : Nat) (c : UInt8) : nibN 2 (s ^^^ c.toNat) = crcB s c := by rw [crcB_nib]; rfl
theorem not_u32 (s : Nat) (h : s < 4294967296) : bits .xor .u32 IntKind.u32.max (s : Int) = ((4294967295 - s : Nat) : Int) := by
  have h1 := u32_xor_nat 4294967295 s (by omega) h
  have h2 := xor_compl s h
  have h3 : 4294967295 ^^^ s = 4294967295 - s := by
    conv => lhs; rw [← h2]
    rw [Nat.xor_comm, ← Nat.xor_assoc, Nat.xor_self, Nat.zero_xor]
  rw [h3] at h1
  exact h1

set_option maxHeartbeats 1600000 in
set_option maxRecDepth 100000 in
theorem sum_any (A : Option Addr) (cap : Nat) (l : List UInt8) (w : World) (hB : BytesAt w.heap.size w A l) (hT : Tab w) (hl : l.length ≤ maxLen) :
    Calls Tryd.prog 73 #[.slice A l.length cap] w fun e w' => e = .returned (.int .u32 (sumL l : Nat)) ∧ w = w' := by
  unfold maxLen at hl
  have HB := hide hB; clear hB
  have HTb := hide hT; clear hT
  go_enter Tryd.func73, Tryd.ntmps73
  go_wp2_with fail
  go_loop [3, 8] (fun v i => ∃ k : Nat, k ≤ l.length ∧ i = .int .i64 k ∧ v = .int .u32 (crcL (l.take k) : Nat)) (fun _ i => l.length - (intOf i).toNat)
  case atStart => exact ⟨0, Nat.zero_le _, rfl, rfl⟩
  case round =>
    obtain ⟨k, hk, rfl, rfl⟩ := hrel
    by_cases hlt : k < l.length
    · obtain ⟨b, off, rfl, hb, c0⟩ := HB.out k hlt
      have HT := hide (crcL_take hlt)
      have hd := crcL_lt (l.take k)
      generalize crcL (l.take k) = h at *
      have hc1 : (l.getD k 0).toNat < 256 := (l.getD k 0).toNat_lt
      have hx := u32_xor_nat h (l.getD k 0).toNat hd (by omega)
      have hxl := xor_byte_lt hd (l.getD k 0)
      have HN := hide (nib_two h (l.getD k 0))
      generalize l.getD k 0 = c at *
      generalize h ^^^ c.toNat = x at *
      go_wp2_with fail
      go_loop [3, 16] (fun v i => ∃ m : Nat, m ≤ 2 ∧ i = .int .i64 m ∧ v = .int .u32 (nibN m x : Nat)) (fun _ i => 2 - (intOf i).toNat)
      case atStart => exact ⟨0, by omega, rfl, rfl⟩
      case round =>
        obtain ⟨m, hm, rfl, rfl⟩ := hrel
        by_cases hlm : m < 2
        · have hn := nibN_lt hxl m
          have HM := hide (show nibN (m + 1) x = (nibN m x / 16) ^^^ halfT.getD (nibN m x % 16) 0 from rfl)
          generalize nibN m x = s at *
          have hq : s % 16 < 16 := Nat.mod_lt _ (by omega)
          have c1 := HTb.out (s % 16) hq
          have ha : bits .and .u32 (s : Int) 15 = ((s % 16 : Nat) : Int) := by
            have := u32_and_nat s 15 hn (by omega)
            rw [show s &&& 15 = s % 16 from Nat.and_two_pow_sub_one_eq_mod s 4] at this
            exact this
          have hy : halfT.getD (s % 16) 0 < 4294967296 := by rw [← step4_lo _ hq]; exact step4_lt (by omega)
          generalize halfT.getD (s % 16) 0 = y at *
          generalize s % 16 = q at *
          have hdv : (s : Int) / 16 = ((s / 16 : Nat) : Int) := by omega
          have hxx := hide (u32_xor_nat (s / 16) y (by omega) hy)
          clear hdv
          go_wp2_with fail
          go_round
          case rel => exact ⟨m + 1, by omega, by go_num, by rw [HM.out, ← hxx.out]; rfl⟩
          case measure => simp [intOf]; omega
        · obtain rfl : m = 2 := by omega
          rw [HN.out]
          go_wp2_with fail
          go_round
          case rel => exact ⟨k + 1, by omega, by go_num, by rw [HT.out]⟩
          case measure => simp [intOf]; omega
    · obtain rfl : k = l.length := by omega
      have ht : l.take l.length = l := List.take_length
      rw [ht]
      clear ht
      have hd := crcL_lt l
      have HS := hide (show sumL l = 4294967295 - crcL l from rfl)
      have HU := hide (not_u32 (crcL l) hd)
      generalize crcL l = s at *
      have hsg : IntKind.u32.signed = false := rfl
      go_wp2_with fail
      go_ret
      refine ⟨ret_int ?_, rfl⟩
      rw [HS.out, ← HU.out]

set_option maxHeartbeats 1600000 in
set_option maxRecDepth 100000 in
theorem refSum_any (A : Option Addr) (cap : Nat) (l : List UInt8) (w : World) (hB : BytesAt w.heap.size w A l) (hl : l.length ≤ maxLen) :
    Calls Tryd.prog 50 #[.slice A l.length cap] w fun e w' => e = .returned (.int .u32 (sumL l : Nat)) ∧ w = w' := by
  unfold maxLen at hl
  have HB := hide hB; clear hB
  go_enter Tryd.func50, Tryd.ntmps50
  go_wp2_with fail
  go_loop [3, 4, 5, 6] (fun v i _ _ => ∃ k : Nat, k ≤ l.length ∧ i = .int .i64 k ∧ v = .int .u32 (crcL (l.take k) : Nat)) (fun _ i _ _ => l.length - (intOf i).toNat)
  case atStart => exact ⟨0, Nat.zero_le _, rfl, rfl⟩
  case round =>
    obtain ⟨k, hk, rfl, rfl⟩ := hrel
    by_cases hlt : k < l.length
    · obtain ⟨b, off, rfl, hb, c0⟩ := HB.out k hlt
      have HT := hide (crcL_take hlt)
      have hd := crcL_lt (l.take k)
      generalize crcL (l.take k) = h at *
      have hc1 : (l.getD k 0).toNat < 256 := (l.getD k 0).toNat_lt
      have hx := u32_xor_nat h (l.getD k 0).toNat hd (by omega)
      have hxl := xor_byte_lt hd (l.getD k 0)
      have HN := hide (stepN_eight h (l.getD k 0))
      generalize l.getD k 0 = c at *
      generalize h ^^^ c.toNat = x at *
      go_wp2_with fail
      go_loop [3, 5, 6] (fun v i _ => ∃ m : Nat, m ≤ 8 ∧ i = .int .i64 m ∧ v = .int .u32 (stepN m x : Nat)) (fun _ i _ => 8 - (intOf i).toNat)
      case atStart => exact ⟨0, by omega, rfl, rfl⟩
      case round =>
        obtain ⟨m, hm, rfl, rfl⟩ := hrel
        by_cases hlm : m < 8
        · have hn := stepN_lt hxl m
          have HM := hide (show stepN (m + 1) x = stepC (stepN m x) from rfl)
          generalize stepN m x = s at *
          by_cases ho : s % 2 = 1
          · have HO := hide (show stepC s = (s / 2) ^^^ 3988292384 by unfold stepC; rw [if_pos ho])
            have ho1 : (s : Int) % 2 = 1 := by omega
            clear ho
            have hxx := hide (u32_xor_nat (s / 2) 3988292384 (by omega) (by omega))
            go_wp2_with fail
            go_round
            case rel => exact ⟨m + 1, by omega, by go_num, by rw [HM.out, HO.out, ← hxx.out]; rfl⟩
            case measure => simp [intOf]; omega
          · have HO := hide (show stepC s = s / 2 by unfold stepC; rw [if_neg ho])
            have ho1 : (s : Int) % 2 = 0 := by omega
            clear ho
            go_wp2_with fail
            go_round
            case rel => exact ⟨m + 1, by omega, by go_num, by rw [HM.out, HO.out]; rfl⟩
            case measure => simp [intOf]; omega
        · obtain rfl : m = 8 := by omega
          rw [HN.out]
          go_wp2_with fail
          go_round
          case rel => exact ⟨k + 1, by omega, by go_num, by rw [HT.out]⟩
          case measure => simp [intOf]; omega
    · obtain rfl : k = l.length := by omega
      have ht : l.take l.length = l := List.take_length
      rw [ht]
      clear ht
      have hd := crcL_lt l
      have HS := hide (show sumL l = 4294967295 - crcL l from rfl)
      generalize crcL l = s at *
      go_wp2_with fail
      go_ret
      refine ⟨ret_int ?_, rfl⟩
      rw [HS.out]
      omega
end Go.Proofs.YtkdihekhdnnheaaDoor
