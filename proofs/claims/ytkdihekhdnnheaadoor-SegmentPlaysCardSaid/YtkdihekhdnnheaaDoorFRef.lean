/-
  The reference's encoding: integers and texts.
-/
import Derived.Test.YtkdihekhdnnheaaDoorFOutT
namespace Go.Proofs.YtkdihekhdnnheaaDoor
open Go.RowKit

theorem digs_end (m : Nat) (h : m < 256 ^ 8) : m / 256 ^ (digs 8 m).length = 0 := by
  have h1 := valL_lt (digs 8 m)
  rw [val_digs 8 m h] at h1
  exact Nat.div_eq_of_lt h1
theorem grow_below {base : Nat} {w w1 w2 : World} {v : Value} {e : TypeId} {k n : Nat} {xs : List Value} (h : Below base w w1) (hr : w1.ownsRow base e k v n xs) (hb : base ≤ w1.heap.size) (o : Obj) (hg : (w1.alloc o).grownBy w2 v.ownBlock) : Below base w w2 :=
  h.trans (((Below.refl base w1).alloc hb o).trans ((Below.refl base (w1.alloc o)).grown hg (by simp; omega) fun j hj => (hr.lt j hj).1))
theorem grow_below0 {base : Nat} {w w1 w2 : World} {v : Value} {e : TypeId} {k n : Nat} {xs : List Value} (h : Below base w w1) (hr : w1.ownsRow base e k v n xs) (hb : base ≤ w1.heap.size) (hg : w1.grownBy w2 v.ownBlock) : Below base w w2 :=
  h.trans ((Below.refl base w1).grown hg hb fun j hj => (hr.lt j hj).1)
/-- Bytes of the call's own. -/
def OwnRes (w : World) (l : List UInt8) (e : Ending) (w' : World) : Prop := ∃ v', e = .returned v' ∧ w'.ownsRow w.heap.size 5 1 v' l.length (byC l) ∧ Below w.heap.size w w'
theorem one_row (w : World) (x : Int) (c : UInt8) (h : x = c.toNat) (base : Nat) (hb : base ≤ w.heap.size) : (w.alloc (.cells #[.int .u8 x] 5)).ownsRow base 5 1 (.slice (some ⟨w.heap.size, 0, none⟩) 1 1) 1 (byC [c]) := by
  subst h
  exact ⟨by simp [byC], .inr ⟨w.heap.size, 1, _, rfl, hb, heap_alloc_new w _, Nat.le_refl _, by decide, rfl, by simp [byC]⟩⟩
set_option maxHeartbeats 3200000 in
set_option maxRecDepth 100000 in
theorem refInt_any (n : Int) (w : World) (hn : Int64 n) : Calls Tryd.prog 28 #[.int .i64 n] w (OwnRes w (intB n)) := by
  have hm := magI_lt hn
  have hlen := digs_len 8 (magI n)
  have HEnd := hide (digs_end (magI n) (magI_lt8 hn))
  have HStep := hide (fun j (h : j < (digs 8 (magI n)).length) => digs_step h)
  have HGet := hide (fun j h => digs_get 8 (magI n) j h)
  have hls : (intB n).length = (digs 8 (magI n)).length + 1 := by unfold intB; rw [List.length_cons]
  unfold OwnRes
  unfold Int64 at hn
  obtain ⟨hn0, hn1⟩ := hn
  have HB1 := hide (fun (w' : World) o => (Below.refl w'.heap.size w').alloc (Nat.le_refl _) o)
  by_cases h0 : n < 0
  · have hmi : ((magI n : Nat) : Int) = -1 - n := by unfold magI; rw [if_pos h0]; omega
    have HH := hide (headI_nat n)
    rw [if_pos h0] at HH
    have HI := hide (show intB n = headI n :: digs 8 (magI n) from rfl)
    have HLs := hide hls
    have HM := hide hmi
    clear hmi hls
    generalize intB n = ib at *
    generalize headI n = hd at *
    have HDl := hide (rfl : digs 8 (magI n) = digs 8 (magI n))
    generalize magI n = m at *
    generalize digs 8 m = ds at *
    clear HDl
    go_enter Tryd.func28, Tryd.ntmps28
    go_wp2_with fail
    go_loopw [0, 4] (fun x v wr => ∃ k : Nat, k ≤ ds.length ∧ x = .int .i64 (m / 256 ^ k : Nat) ∧ wr.ownsRow w.heap.size 5 1 v (ds.take k).length (byC (ds.take k)) ∧ Below w.heap.size w wr) (fun x _ _ => (intOf x).toNat)
    case atStart => exact ⟨0, Nat.zero_le _, by rw [Nat.pow_zero, Nat.div_one, HM.out], World.ownsRow_nil _ _ _ _, Below.refl _ _⟩
    case round =>
      rename_i v _
      obtain ⟨k, hk, rfl, hrow, hbw⟩ := hrel
      by_cases hlk : k < ds.length
      · have HG := hide (HGet.out k hlk)
        have hne := HStep.out k hlk
        have HQ := hide (show m / 256 ^ (k + 1) = m / 256 ^ k / 256 by rw [Nat.pow_succ, Nat.div_div_eq_div_mul])
        have hq : m / 256 ^ k < 9223372036854775808 := Nat.lt_of_le_of_lt (Nat.div_le_self _ _) hm
        generalize m / 256 ^ k = q at *
        have hq0 : 0 < q := by omega
        have HRow := hide hrow
        have HBw := hide hbw
        have hs := hbw.size
        obtain ⟨A1, cp1, rfl, -⟩ := row_slice hrow
        have hlt : (ds.take k).length = k := by rw [List.length_take]; omega
        have HTk := hide (show ds.take k ++ [UInt8.ofNat q] = ds.take (k + 1) by rw [List.take_succ_eq_append_getElem hlk, ← HG.out, List.getD_eq_getElem?_getD, List.getElem?_eq_getElem hlk]; rfl)
        rw [hlt] at HRow
        rw [hlt]
        have HTl := hide (show k + 1 = (ds.take (k + 1)).length by rw [List.length_take]; omega)
        clear hrow hbw hlt hne
        generalize ds.take k = l1 at *
        have HU := hide (u8mod q)
        generalize UInt8.ofNat q = c at *
        go_wp2_with (at_builtin; go_must (refine append_bytes rfl _ _ rfl w.heap.size (.slice A1 k cp1) l1 [c] k rfl (HRow.out.alloc _) _ (some ⟨wr.heap.size, 0, none⟩) 1 1 rfl rfl (one_new wr _ _ ?hy) (fun e => by cases e) (by omega) (by simp; omega) ?_))
        case hy =>
          rw [HU.out]
          omega
        intro v' w4 hown4 hgrow4 hat4
        have HB4 := hide (grow_below HBw.out HRow.out hs _ hgrow4)
        rw [HTk.out] at hown4
        have HO4 := hide hown4
        obtain ⟨A4, cp4, rfl, -⟩ := row_slice hown4
        clear hown4 hgrow4 hat4
        go_wp2_with fail
        go_roundw
        case rel => exact ⟨k + 1, by omega, by rw [HQ.out]; go_num, by rw [← HTl.out]; exact HO4.out, HB4.out⟩
        case measure => simp [intOf]; omega
      · obtain rfl : k = ds.length := by omega
        rw [List.take_length] at hrow
        rw [HEnd.out]
        have HRow := hide hrow
        have HBw := hide hbw
        have hs := hbw.size
        obtain ⟨A1, cp1, hv, hBy, hA, hnl, -⟩ := bytes_of_row hrow
        subst hv
        have HBy := hide hBy
        have HNl := hide hnl
        clear hrow hbw hBy hA hnl
        go_wp2_with (at_builtin; go_must (refine append_bytes rfl _ _ rfl w.heap.size (.slice (some ⟨wr.heap.size, 0, none⟩) 1 1) [hd] ds 1 rfl (one_row wr _ hd ?hz _ hs) _ A1 ds.length cp1 rfl rfl (HBy.out.on (HB1.out wr _)) HNl.out (by omega) (by simp; omega) ?_))
        case hz =>
          have h1 := HH.out
          omega
        intro v' w4 hown4 hgrow4 hat4
        have HB4 := hide (HBw.out.trans (((HB1.out wr _).mono hs).trans ((Below.refl w.heap.size _).grown hgrow4 (by simp; omega) (fun j e => by cases e; exact hs))))
        have HO4 := hide (show w4.ownsRow w.heap.size 5 1 v' ib.length (byC ib) by rw [HLs.out, HI.out, Nat.add_comm]; exact hown4)
        obtain ⟨A4, cp4, rfl, -⟩ := row_slice hown4
        clear hown4 hgrow4 hat4
        go_wp2_with fail
        go_ret
        exact ⟨_, rfl, HO4.out, HB4.out⟩
  · have hmi : ((magI n : Nat) : Int) = n := by unfold magI; rw [if_neg h0]; omega
    have HH := hide (headI_nat n)
    rw [if_neg h0] at HH
    have HI := hide (show intB n = headI n :: digs 8 (magI n) from rfl)
    have HLs := hide hls
    have HM := hide hmi
    clear hmi hls
    generalize intB n = ib at *
    generalize headI n = hd at *
    have HDl := hide (rfl : digs 8 (magI n) = digs 8 (magI n))
    generalize magI n = m at *
    generalize digs 8 m = ds at *
    clear HDl
    go_enter Tryd.func28, Tryd.ntmps28
    go_wp2_with fail
    go_loopw [0, 4] (fun x v wr => ∃ k : Nat, k ≤ ds.length ∧ x = .int .i64 (m / 256 ^ k : Nat) ∧ wr.ownsRow w.heap.size 5 1 v (ds.take k).length (byC (ds.take k)) ∧ Below w.heap.size w wr) (fun x _ _ => (intOf x).toNat)
    case atStart => exact ⟨0, Nat.zero_le _, by rw [Nat.pow_zero, Nat.div_one, HM.out], World.ownsRow_nil _ _ _ _, Below.refl _ _⟩
    case round =>
      rename_i v _
      obtain ⟨k, hk, rfl, hrow, hbw⟩ := hrel
      by_cases hlk : k < ds.length
      · have HG := hide (HGet.out k hlk)
        have hne := HStep.out k hlk
        have HQ := hide (show m / 256 ^ (k + 1) = m / 256 ^ k / 256 by rw [Nat.pow_succ, Nat.div_div_eq_div_mul])
        have hq : m / 256 ^ k < 9223372036854775808 := Nat.lt_of_le_of_lt (Nat.div_le_self _ _) hm
        generalize m / 256 ^ k = q at *
        have hq0 : 0 < q := by omega
        have HRow := hide hrow
        have HBw := hide hbw
        have hs := hbw.size
        obtain ⟨A1, cp1, rfl, -⟩ := row_slice hrow
        have hlt : (ds.take k).length = k := by rw [List.length_take]; omega
        have HTk := hide (show ds.take k ++ [UInt8.ofNat q] = ds.take (k + 1) by rw [List.take_succ_eq_append_getElem hlk, ← HG.out, List.getD_eq_getElem?_getD, List.getElem?_eq_getElem hlk]; rfl)
        rw [hlt] at HRow
        rw [hlt]
        have HTl := hide (show k + 1 = (ds.take (k + 1)).length by rw [List.length_take]; omega)
        clear hrow hbw hlt hne
        generalize ds.take k = l1 at *
        have HU := hide (u8mod q)
        generalize UInt8.ofNat q = c at *
        go_wp2_with (at_builtin; go_must (refine append_bytes rfl _ _ rfl w.heap.size (.slice A1 k cp1) l1 [c] k rfl (HRow.out.alloc _) _ (some ⟨wr.heap.size, 0, none⟩) 1 1 rfl rfl (one_new wr _ _ ?hy) (fun e => by cases e) (by omega) (by simp; omega) ?_))
        case hy =>
          rw [HU.out]
          omega
        intro v' w4 hown4 hgrow4 hat4
        have HB4 := hide (grow_below HBw.out HRow.out hs _ hgrow4)
        rw [HTk.out] at hown4
        have HO4 := hide hown4
        obtain ⟨A4, cp4, rfl, -⟩ := row_slice hown4
        clear hown4 hgrow4 hat4
        go_wp2_with fail
        go_roundw
        case rel => exact ⟨k + 1, by omega, by rw [HQ.out]; go_num, by rw [← HTl.out]; exact HO4.out, HB4.out⟩
        case measure => simp [intOf]; omega
      · obtain rfl : k = ds.length := by omega
        rw [List.take_length] at hrow
        rw [HEnd.out]
        have HRow := hide hrow
        have HBw := hide hbw
        have hs := hbw.size
        obtain ⟨A1, cp1, hv, hBy, hA, hnl, -⟩ := bytes_of_row hrow
        subst hv
        have HBy := hide hBy
        have HNl := hide hnl
        clear hrow hbw hBy hA hnl
        go_wp2_with (at_builtin; go_must (refine append_bytes rfl _ _ rfl w.heap.size (.slice (some ⟨wr.heap.size, 0, none⟩) 1 1) [hd] ds 1 rfl (one_row wr _ hd ?hz _ hs) _ A1 ds.length cp1 rfl rfl (HBy.out.on (HB1.out wr _)) HNl.out (by omega) (by simp; omega) ?_))
        case hz =>
          have h1 := HH.out
          omega
        intro v' w4 hown4 hgrow4 hat4
        have HB4 := hide (HBw.out.trans (((HB1.out wr _).mono hs).trans ((Below.refl w.heap.size _).grown hgrow4 (by simp; omega) (fun j e => by cases e; exact hs))))
        have HO4 := hide (show w4.ownsRow w.heap.size 5 1 v' ib.length (byC ib) by rw [HLs.out, HI.out, Nat.add_comm]; exact hown4)
        obtain ⟨A4, cp4, rfl, -⟩ := row_slice hown4
        clear hown4 hgrow4 hat4
        go_wp2_with fail
        go_ret
        exact ⟨_, rfl, HO4.out, HB4.out⟩
set_option maxHeartbeats 3200000 in
set_option maxRecDepth 100000 in
theorem refText_any (s : ByteArray) (w : World) (hs : s.size ≤ 4294960000) : Calls Tryd.prog 30 #[.string s] w (OwnRes w (textB s.data.toList)) := by
  have hsz : s.data.toList.length = s.size := by simp
  have HI := hide (refInt_any (s.size : Int) w ⟨by omega, by omega⟩)
  have HB := hide (show textB s.data.toList = intB (s.size : Int) ++ s.data.toList by unfold textB; rw [hsz])
  have hi9 := (intB_len (s.size : Int)).2
  have HLn := hide (show (textB s.data.toList).length = (intB (s.size : Int)).length + s.size by rw [HB.out, List.length_append, hsz])
  clear hsz
  unfold OwnRes at HI ⊢
  generalize intB (s.size : Int) = ib at *
  generalize textB s.data.toList = tb at *
  go_enter Tryd.func30, Tryd.ntmps30
  go_wp2_with fail
  refine HI.out.mono ?_
  rintro e w1 ⟨v1, rfl, hr1, hb1⟩
  have HR1 := hide hr1
  have HB1 := hide hb1
  have hs1 := hb1.size
  obtain ⟨A, cp, rfl, -⟩ := row_slice hr1
  clear hr1 hb1
  go_wp2_with (at_builtin; go_must (refine append_str rfl _ _ rfl w.heap.size (.slice A ib.length cp) ib ib.length rfl HR1.out s rfl (by omega) hs1 ?_))
  intro v' w3 hown3 hgrow3 hat3
  have HO3 := hide (show w3.ownsRow w.heap.size 5 1 v' tb.length (byC tb) by rw [HLn.out, HB.out]; exact hown3)
  have HB3 := hide (grow_below0 HB1.out HR1.out hs1 hgrow3)
  obtain ⟨A3, cp3, rfl, -⟩ := row_slice hown3
  clear hown3 hgrow3 hat3
  go_wp2_with fail
  go_ret
  exact ⟨_, rfl, HO3.out, HB3.out⟩
end Go.Proofs.YtkdihekhdnnheaaDoor
