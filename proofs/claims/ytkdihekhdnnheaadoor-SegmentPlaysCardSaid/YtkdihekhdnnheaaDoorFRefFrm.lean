/-
  The reference's Frame; slices of slices.
-/
import Derived.Test.YtkdihekhdnnheaaDoorFScan
import Derived.Test.YtkdihekhdnnheaaDoorFRead
import Derived.Deep.QuietTactic
import Derived.IntWalk
import Derived.RegionTactic
import Derived.ChangeAlike
namespace Go.Proofs.YtkdihekhdnnheaaDoor
open Go.RowKit

set_option maxHeartbeats 3200000 in
set_option maxRecDepth 100000 in
theorem refFrame_any (A : Option Addr) (n c : Nat) (l : List UInt8) (w : World) (hn : n = l.length) (hB : BytesAt w.heap.size w A l) (hl : l.length ≤ 1073741824) :
    Calls Tryd.prog 29 #[.slice A n c] w (OwnRes w (frameB l)) := by
  subst hn
  have hcv := conv_bytes A c l w hB
  have hsz : (⟨l.toArray⟩ : ByteArray).size = l.length := by simp [ByteArray.size]
  have hdt : (⟨l.toArray⟩ : ByteArray).data.toList = l := rfl
  have HTx := hide (refText_any ⟨l.toArray⟩ w (by rw [hsz]; omega))
  rw [hdt] at HTx
  have HS := hide (fun w' (h : Below w.heap.size w w') => refSum_any A c l w' (hB.on h) (by unfold maxLen; omega))
  have hs := sumL_lt l
  have HTk := hide (fun k h => sum4_take (s := sumL l) (k := k) h)
  have HFr := hide (show frameB l = textB l ++ sum4 (sumL l) by unfold frameB textB; rw [List.append_assoc])
  have HFl := hide (show (frameB l).length = (textB l).length + 4 by rw [HFr.out, List.length_append]; rfl)
  have htl := (frameB_bd l).2
  rw [HFl.out] at htl
  unfold OwnRes at HTx ⊢
  clear hB hdt hsz
  have h44 : (sum4 (sumL l)).take 4 = sum4 (sumL l) := rfl
  generalize sumL l = s at *
  generalize frameB l = fb at *
  generalize textB l = tb at *
  go_enter Tryd.func29, Tryd.ntmps29
  go_wp2_with fail
  refine HTx.out.mono ?_
  rintro e w1 ⟨v1, rfl, hr1, hb1⟩
  have HR1 := hide hr1
  have HB1 := hide hb1
  have HS1 := hide (HS.out w1 hb1)
  obtain ⟨A1, c1, rfl, -⟩ := row_slice hr1
  clear hr1 hb1 hcv
  go_wp2_with fail
  refine HS1.out.mono ?_
  rintro e w2 ⟨rfl, rfl⟩
  go_wp2_with fail
  go_loopw [3, 4, 5] (fun v x i wr => ∃ k : Nat, k ≤ 4 ∧ i = .int .i64 k ∧ x = .int .u32 (s / 256 ^ k : Nat) ∧ wr.ownsRow w.heap.size 5 1 v (tb.length + k) (byC (tb ++ (sum4 s).take k)) ∧ Below w.heap.size w wr) (fun _ _ i _ => 4 - (intOf i).toNat)
  case atStart => exact ⟨0, by omega, rfl, by rw [Nat.pow_zero, Nat.div_one], by rw [List.take_zero, List.append_nil]; exact HR1.out, HB1.out⟩
  case round =>
    obtain ⟨k, hk, rfl, rfl, hrow, hbw⟩ := hrel
    by_cases hlk : k < 4
    · have HQ := hide (show s / 256 ^ (k + 1) = s / 256 ^ k / 256 by rw [Nat.pow_succ, Nat.div_div_eq_div_mul])
      have hq : s / 256 ^ k < 4294967296 := Nat.lt_of_le_of_lt (Nat.div_le_self _ _) hs
      have HT1 := hide (show tb ++ (sum4 s).take (k + 1) = (tb ++ (sum4 s).take k) ++ [UInt8.ofNat (s / 256 ^ k)] by rw [HTk.out k hlk, List.append_assoc])
      generalize s / 256 ^ k = q at *
      have HRow := hide hrow
      have HBw := hide hbw
      have hsz := hbw.size
      obtain ⟨A3, cp3, rfl, -⟩ := row_slice hrow
      have HU := hide (u8mod q)
      generalize UInt8.ofNat q = z at *
      clear hrow hbw
      go_wp2_with (at_builtin; go_must (refine append_bytes rfl _ _ rfl w.heap.size (.slice A3 (tb.length + k) cp3) (tb ++ (sum4 s).take k) [z] (tb.length + k) rfl (HRow.out.alloc _) _ (some ⟨wr.heap.size, 0, none⟩) 1 1 rfl rfl (one_new wr _ _ ?hy) (fun e => by cases e) (by omega) (by simp; omega) ?_))
      case hy =>
        rw [HU.out]
        omega
      intro v' w4 hown4 hgrow4 hat4
      have HB4 := hide (grow_below HBw.out HRow.out hsz _ hgrow4)
      have HT2 := hide (show tb ++ ((sum4 s).take k ++ [z]) = tb ++ (sum4 s).take (k + 1) by rw [HT1.out, List.append_assoc])
      rw [HT2.out] at hown4
      have HO4 := hide hown4
      obtain ⟨A4, cp4, rfl, -⟩ := row_slice hown4
      clear hown4 hgrow4 hat4
      go_wp2_with fail
      go_roundw
      case rel => exact ⟨k + 1, by omega, by go_num, by rw [HQ.out]; go_num, HO4.out, HB4.out⟩
      case measure => simp [intOf]; omega
    · obtain rfl : k = 4 := by omega
      rw [h44, ← HFr.out, ← HFl.out] at hrow
      have HF := hide (And.intro hrow hbw)
      obtain ⟨A4, cp4, rfl, -⟩ := row_slice hrow
      clear hrow hbw
      go_wp2_with fail
      go_ret
      exact ⟨_, rfl, HF.out⟩

theorem below_drewN (w : World) (n : Nat) : Below w.heap.size w (w.drewN n) := by
  induction n with
  | zero => exact Below.refl _ _
  | succ n ih => exact ih.drew
theorem part_at (b off : Nat) (l : List UInt8) (p v : Nat) (w : World) (hB : BytesAt w.heap.size w (some ⟨b, off, none⟩) l) (h : p + v ≤ l.length) : BytesAt w.heap.size w (some ⟨b, off + p, none⟩) ((l.drop p).take v) := fun j hj => by
  rw [List.length_take, List.length_drop] at hj
  obtain ⟨b', off', e, hlt, h0⟩ := hB (p + j) (by omega)
  injection e with e; injection e with ea eb
  subst ea; subst eb
  refine ⟨b, off + p, rfl, hlt, ?_⟩
  rw [Nat.add_assoc, h0, List.getD_eq_getElem?_getD, List.getD_eq_getElem?_getD, List.getElem?_take_of_lt (by omega), List.getElem?_drop]
theorem part_str2 (b off : Nat) (l : List UInt8) (p v c' : Nat) (w : World) (hB : BytesAt w.heap.size w (some ⟨b, off, none⟩) l) (h : p + v ≤ l.length) :
    (convert 28 9 (.slice (some ⟨b, off + p, none⟩) v c')).run Tryd.prog w = .ok (.string ⟨((l.drop p).take v).toArray⟩) w := by
  have hlen : ((l.drop p).take v).length = v := by rw [List.length_take, List.length_drop]; omega
  have h1 := conv_bytes (some ⟨b, off + p, none⟩) c' ((l.drop p).take v) w (part_at b off l p v w hB h)
  rw [hlen] at h1
  exact h1
theorem some_of {B : Nat} {w : World} {A : Option Addr} {l : List UInt8} (hB : BytesAt B w A l) (hq : 0 < l.length) : ∃ b off, A = some ⟨b, off, none⟩ := by
  obtain ⟨b, off, e, _⟩ := hB 0 hq
  exact ⟨b, off, e⟩
theorem live_int {rl : List UInt8} {n : Int} {k : Nat} (h : readI rl = some (n, k)) : intN rl = n ∧ intL rl = rl.drop k ∧ intX rl = false := by unfold intN intL intX; rw [h]; exact ⟨rfl, rfl, rfl⟩
theorem ret_pair {v : Value} {a b : Int} (h2 : a = b) : Ending.returned (.tuple #[v, .int .i64 a]) = .returned (.tuple #[v, .int .i64 b]) := by rw [h2]
end Go.Proofs.YtkdihekhdnnheaaDoor
