/-
  The encoder: integers and texts, appended to what it has.
-/
import Derived.Test.YtkdihekhdnnheaaDoorFBase
import Derived.Test.YtkdihekhdnnheaaDoorShelf
import Derived.RegionTactic
import Derived.Deep.RegionWith
namespace Go.Proofs.YtkdihekhdnnheaaDoor
open Go.RowKit

abbrev vO (g : Nat) : Value := .pointer (some ⟨g, 0, none⟩)
theorem one_new (w : World) (x : Int) (c : UInt8) (h : x = c.toNat) : BytesAt (w.alloc (.cells #[.int .u8 x] 5)).heap.size (w.alloc (.cells #[.int .u8 x] 5)) (some ⟨w.heap.size, 0, none⟩) [c] := by subst h; exact bytes_new w [c] (0, 0)

theorem len_any (x : Int) (m : Nat) (w : World) (hx : x = m) (h1 : m < 9223372036854775808) : Calls Tryd.prog 64 #[.int .u64 x] w fun e w' => e = .returned (.int .i64 (Lib.bitLen m)) ∧ w = w' := by
  subst hx
  refine (Tryd.bits_Len64 (m : Int) w (by omega) (by omega)).mono fun e w' h => ?_
  rw [Int.toNat_natCast] at h
  exact ⟨h.1, h.2.symm⟩
theorem bitLen_le (n : Nat) : Lib.bitLen n ≤ 64 := by
  have aux : ∀ f m, Lib.bitLenAux f m ≤ f := fun f => by
    induction f with
    | zero => intro m; simp [Lib.bitLenAux]
    | succ f ih => intro m; rw [Lib.bitLenAux]; split; omega; have := ih (m / 2); omega
  exact aux 64 n

set_option maxHeartbeats 3200000 in
set_option maxRecDepth 100000 in
theorem outInt_any {base g : Nat} {v : Value} {l : List UInt8} (n : Int) (w : World) (hn : Int64 n) (hO : OutAt base g w v l) (hl : l.length ≤ 4294967000) :
    Calls Tryd.prog 51 #[vO g, .int .i64 n] w fun e w' => e = .returned (vO g) ∧ ∃ v', OutAt base g w' v' (l ++ intB n) ∧ OutTurn g v v' w w' := by
  have hm := magI_lt hn
  have hlen := digs_len 8 (magI n)
  have HCnt := hide (digs_count (magI n) (magI_lt8 hn))
  have hL := bitLen_le (magI n)
  have HO := hide hO
  obtain ⟨A, cp, rfl, -⟩ := row_slice hO.row
  have c0 : w.cell? ⟨g, 0, none⟩ = some (.slice A l.length cp) := Lib.cell_of_heap hO.box 0
  have hlt := hO.lt
  have hbs := hO.hg
  clear hO
  unfold Int64 at hn
  obtain ⟨hn0, hn1⟩ := hn
  by_cases h0 : n < 0
  · have hmi : ((magI n : Nat) : Int) = -1 - n := by unfold magI; rw [if_pos h0]; omega
    have HH := hide (headI_nat n)
    rw [if_pos h0] at HH
    have HI := hide (show intB n = headI n :: digs 8 (magI n) from rfl)
    have HLen := hide (fun w' => len_any (-1 - n) (magI n) w' hmi.symm hm)
    have HGet := hide (fun j h => digs_get 8 (magI n) j h)
    have HM := hide hmi
    clear hmi
    generalize intB n = ib at *
    generalize headI n = hd at *
    have HDl := hide (rfl : digs 8 (magI n) = digs 8 (magI n))
    generalize magI n = m at *
    generalize Lib.bitLen m = L at *
    generalize digs 8 m = ds at *
    have HB1 := hide (fun (w' : World) o => (Below.refl w'.heap.size w').alloc (Nat.le_refl _) o)
    go_enter Tryd.func51, Tryd.ntmps51
    go_wp2_with fail
    refine (HLen.out _).mono ?_
    rintro e w1 ⟨rfl, rfl⟩
    go_wp2_with (at_builtin; go_must (refine append_bytes rfl _ _ rfl base (.slice A l.length cp) l [hd] l.length rfl (HO.out.below (HB1.out w _)).row _ (some ⟨w.heap.size, 0, none⟩) 1 1 rfl rfl (one_new w _ _ ?hx) (fun e => by cases e) (by omega) (by simp; omega) ?_))
    case hx =>
      have h1 := HH.out
      have h2 := HCnt.out
      omega
    intro v' w3 hown3 hgrow3 hat3
    obtain ⟨A3, cp3, rfl, -⟩ := row_slice hown3
    obtain ⟨q0, qf, hs3, hput, hTurn⟩ := (HO.out.below (HB1.out w _)).put (l.length + 1) (by simp) hown3 hgrow3 (by rw [World.size_alloc]; exact hat3)
    have HS := hide (show ∃ v', OutAt base g (w3.setCell ⟨g, 0, none⟩ (.slice A3 (l.length + 1) cp3)) v' (l ++ hd :: ds.take 0) ∧ OutTurn g (.slice A l.length cp) v' w (w3.setCell ⟨g, 0, none⟩ (.slice A3 (l.length + 1) cp3)) from ⟨_, by simpa using hput, (OutTurn.of_below (HB1.out w _)).trans hTurn⟩)
    clear hown3 hgrow3 hat3 hput hTurn c0
    have HC2 := hide (show ((L : Int) + 8 - 1) / 8 = (ds.length : Nat) by have := HCnt.out; omega)
    go_wp2_with fail
    rw [HC2.out]
    go_loopw [1, 31] (fun x i wr => ∃ k : Nat, k ≤ ds.length ∧ i = .int .i64 k ∧ x = .int .i64 (m / 256 ^ k : Nat) ∧ ∃ v', OutAt base g wr v' (l ++ hd :: ds.take k) ∧ OutTurn g (.slice A l.length cp) v' w wr) (fun _ i _ => ds.length - (intOf i).toNat)
    case atStart => exact ⟨0, Nat.zero_le _, rfl, by rw [Nat.pow_zero, Nat.div_one, HM.out], HS.out⟩
    case round =>
      obtain ⟨k, hk, rfl, rfl, v1, hv1, ht1⟩ := hrel
      by_cases hlk : k < ds.length
      · have HG := hide (HGet.out k hlk)
        have HQ := hide (show m / 256 ^ (k + 1) = m / 256 ^ k / 256 by rw [Nat.pow_succ, Nat.div_div_eq_div_mul])
        have hq : m / 256 ^ k < 9223372036854775808 := Nat.lt_of_le_of_lt (Nat.div_le_self _ _) hm
        generalize m / 256 ^ k = q at *
        have HV := hide hv1
        have HTn := hide ht1
        obtain ⟨A1, cp1, rfl, -⟩ := row_slice hv1.row
        have c1 : wr.cell? ⟨g, 0, none⟩ = some (.slice A1 (l ++ hd :: ds.take k).length cp1) := Lib.cell_of_heap hv1.box 0
        have hlt1 := hv1.lt
        have hll : (l ++ hd :: ds.take k).length ≤ 4294967200 := by simp; omega
        have HTk := hide (show (l ++ hd :: ds.take k) ++ [UInt8.ofNat q] = l ++ hd :: ds.take (k + 1) by rw [List.take_succ_eq_append_getElem hlk, ← HG.out, List.getD_eq_getElem?_getD, List.getElem?_eq_getElem hlk]; simp)
        clear hv1 ht1 HS
        generalize l ++ hd :: ds.take k = l1 at *
        have HU := hide (u8mod q)
        generalize UInt8.ofNat q = c at *
        go_wp2_with (at_builtin; go_must (refine append_bytes rfl _ _ rfl base (.slice A1 l1.length cp1) l1 [c] l1.length rfl (HV.out.below (HB1.out wr _)).row _ (some ⟨wr.heap.size, 0, none⟩) 1 1 rfl rfl (one_new wr _ _ ?hy) (fun e => by cases e) (by omega) (by simp; omega) ?_))
        case hy =>
          rw [HU.out]
          omega
        intro v' w4 hown4 hgrow4 hat4
        obtain ⟨A4, cp4, rfl, -⟩ := row_slice hown4
        obtain ⟨r0, rf, hs4, hput4, hTurn4⟩ := (HV.out.below (HB1.out wr _)).put (l1.length + 1) (by simp) hown4 hgrow4 (by rw [World.size_alloc]; exact hat4)
        have HS4 := hide (show ∃ v', OutAt base g (w4.setCell ⟨g, 0, none⟩ (.slice A4 (l1.length + 1) cp4)) v' (l ++ hd :: ds.take (k + 1)) ∧ OutTurn g (.slice A l.length cp) v' w (w4.setCell ⟨g, 0, none⟩ (.slice A4 (l1.length + 1) cp4)) from ⟨_, by rw [← HTk.out]; exact hput4, HTn.out.trans ((OutTurn.of_below (HB1.out wr _)).trans hTurn4)⟩)
        clear hown4 hgrow4 hat4 hput4 hTurn4 c1
        go_wp2_with fail
        go_roundw
        case rel => exact ⟨k + 1, by omega, by go_num, by rw [HQ.out]; go_num, HS4.out⟩
        case measure => simp [intOf]; omega
      · obtain rfl : k = ds.length := by omega
        rw [List.take_length] at hv1
        have HF := hide (show ∃ v', OutAt base g wr v' (l ++ ib) ∧ OutTurn g (.slice A l.length cp) v' w wr from ⟨v1, by rw [HI.out]; exact hv1, ht1⟩)
        clear hv1 ht1 HS
        go_wp2_with fail
        go_ret
        exact ⟨rfl, HF.out⟩
  · have hmi : ((magI n : Nat) : Int) = n := by unfold magI; rw [if_neg h0]; omega
    have HH := hide (headI_nat n)
    rw [if_neg h0] at HH
    have HI := hide (show intB n = headI n :: digs 8 (magI n) from rfl)
    have HLen := hide (fun w' => len_any (n) (magI n) w' hmi.symm hm)
    have HGet := hide (fun j h => digs_get 8 (magI n) j h)
    have HM := hide hmi
    clear hmi
    generalize intB n = ib at *
    generalize headI n = hd at *
    have HDl := hide (rfl : digs 8 (magI n) = digs 8 (magI n))
    generalize magI n = m at *
    generalize Lib.bitLen m = L at *
    generalize digs 8 m = ds at *
    have HB1 := hide (fun (w' : World) o => (Below.refl w'.heap.size w').alloc (Nat.le_refl _) o)
    go_enter Tryd.func51, Tryd.ntmps51
    go_wp2_with fail
    refine (HLen.out _).mono ?_
    rintro e w1 ⟨rfl, rfl⟩
    go_wp2_with (at_builtin; go_must (refine append_bytes rfl _ _ rfl base (.slice A l.length cp) l [hd] l.length rfl (HO.out.below (HB1.out w _)).row _ (some ⟨w.heap.size, 0, none⟩) 1 1 rfl rfl (one_new w _ _ ?hx) (fun e => by cases e) (by omega) (by simp; omega) ?_))
    case hx =>
      have h1 := HH.out
      have h2 := HCnt.out
      omega
    intro v' w3 hown3 hgrow3 hat3
    obtain ⟨A3, cp3, rfl, -⟩ := row_slice hown3
    obtain ⟨q0, qf, hs3, hput, hTurn⟩ := (HO.out.below (HB1.out w _)).put (l.length + 1) (by simp) hown3 hgrow3 (by rw [World.size_alloc]; exact hat3)
    have HS := hide (show ∃ v', OutAt base g (w3.setCell ⟨g, 0, none⟩ (.slice A3 (l.length + 1) cp3)) v' (l ++ hd :: ds.take 0) ∧ OutTurn g (.slice A l.length cp) v' w (w3.setCell ⟨g, 0, none⟩ (.slice A3 (l.length + 1) cp3)) from ⟨_, by simpa using hput, (OutTurn.of_below (HB1.out w _)).trans hTurn⟩)
    clear hown3 hgrow3 hat3 hput hTurn c0
    have HC2 := hide (show ((L : Int) + 8 - 1) / 8 = (ds.length : Nat) by have := HCnt.out; omega)
    go_wp2_with fail
    rw [HC2.out]
    go_loopw [1, 31] (fun x i wr => ∃ k : Nat, k ≤ ds.length ∧ i = .int .i64 k ∧ x = .int .i64 (m / 256 ^ k : Nat) ∧ ∃ v', OutAt base g wr v' (l ++ hd :: ds.take k) ∧ OutTurn g (.slice A l.length cp) v' w wr) (fun _ i _ => ds.length - (intOf i).toNat)
    case atStart => exact ⟨0, Nat.zero_le _, rfl, by rw [Nat.pow_zero, Nat.div_one, HM.out], HS.out⟩
    case round =>
      obtain ⟨k, hk, rfl, rfl, v1, hv1, ht1⟩ := hrel
      by_cases hlk : k < ds.length
      · have HG := hide (HGet.out k hlk)
        have HQ := hide (show m / 256 ^ (k + 1) = m / 256 ^ k / 256 by rw [Nat.pow_succ, Nat.div_div_eq_div_mul])
        have hq : m / 256 ^ k < 9223372036854775808 := Nat.lt_of_le_of_lt (Nat.div_le_self _ _) hm
        generalize m / 256 ^ k = q at *
        have HV := hide hv1
        have HTn := hide ht1
        obtain ⟨A1, cp1, rfl, -⟩ := row_slice hv1.row
        have c1 : wr.cell? ⟨g, 0, none⟩ = some (.slice A1 (l ++ hd :: ds.take k).length cp1) := Lib.cell_of_heap hv1.box 0
        have hlt1 := hv1.lt
        have hll : (l ++ hd :: ds.take k).length ≤ 4294967200 := by simp; omega
        have HTk := hide (show (l ++ hd :: ds.take k) ++ [UInt8.ofNat q] = l ++ hd :: ds.take (k + 1) by rw [List.take_succ_eq_append_getElem hlk, ← HG.out, List.getD_eq_getElem?_getD, List.getElem?_eq_getElem hlk]; simp)
        clear hv1 ht1 HS
        generalize l ++ hd :: ds.take k = l1 at *
        have HU := hide (u8mod q)
        generalize UInt8.ofNat q = c at *
        go_wp2_with (at_builtin; go_must (refine append_bytes rfl _ _ rfl base (.slice A1 l1.length cp1) l1 [c] l1.length rfl (HV.out.below (HB1.out wr _)).row _ (some ⟨wr.heap.size, 0, none⟩) 1 1 rfl rfl (one_new wr _ _ ?hy) (fun e => by cases e) (by omega) (by simp; omega) ?_))
        case hy =>
          rw [HU.out]
          omega
        intro v' w4 hown4 hgrow4 hat4
        obtain ⟨A4, cp4, rfl, -⟩ := row_slice hown4
        obtain ⟨r0, rf, hs4, hput4, hTurn4⟩ := (HV.out.below (HB1.out wr _)).put (l1.length + 1) (by simp) hown4 hgrow4 (by rw [World.size_alloc]; exact hat4)
        have HS4 := hide (show ∃ v', OutAt base g (w4.setCell ⟨g, 0, none⟩ (.slice A4 (l1.length + 1) cp4)) v' (l ++ hd :: ds.take (k + 1)) ∧ OutTurn g (.slice A l.length cp) v' w (w4.setCell ⟨g, 0, none⟩ (.slice A4 (l1.length + 1) cp4)) from ⟨_, by rw [← HTk.out]; exact hput4, HTn.out.trans ((OutTurn.of_below (HB1.out wr _)).trans hTurn4)⟩)
        clear hown4 hgrow4 hat4 hput4 hTurn4 c1
        go_wp2_with fail
        go_roundw
        case rel => exact ⟨k + 1, by omega, by go_num, by rw [HQ.out]; go_num, HS4.out⟩
        case measure => simp [intOf]; omega
      · obtain rfl : k = ds.length := by omega
        rw [List.take_length] at hv1
        have HF := hide (show ∃ v', OutAt base g wr v' (l ++ ib) ∧ OutTurn g (.slice A l.length cp) v' w wr from ⟨v1, by rw [HI.out]; exact hv1, ht1⟩)
        clear hv1 ht1 HS
        go_wp2_with fail
        go_ret
        exact ⟨rfl, HF.out⟩
end Go.Proofs.YtkdihekhdnnheaaDoor
