/-
  The reference's Lex: its walk.
-/
import Derived.Test.YtljoajjlkjjgeaaGreatDoorLRefL
namespace Go.Proofs.YtljoajjlkjjgeaaGreatDoor
open Go.RowKit Go.Sort LM

theorem rbox_cells {w w1 : World} {k q : Int} (hb : Below (w.alloc (.cells #[.int .i64 k, .string ⟨#[]⟩, .int .i64 0, .int .i64 q] 87)).heap.size (w.alloc (.cells #[.int .i64 k, .string ⟨#[]⟩, .int .i64 0, .int .i64 q] 87)) w1) :
  (w1.cell? ⟨w.heap.size, 0, none⟩ = some (.int .i64 k) ∧ w1.cell? ⟨w.heap.size, 1, none⟩ = some (.string ⟨#[]⟩) ∧ w1.cell? ⟨w.heap.size, 2, none⟩ = some (.int .i64 0) ∧ w1.cell? ⟨w.heap.size, 3, none⟩ = some (.int .i64 q)) ∧
   (w1.frozen? ⟨w.heap.size, 0, none⟩ = false ∧ w1.frozen? ⟨w.heap.size, 1, none⟩ = false ∧ w1.frozen? ⟨w.heap.size, 2, none⟩ = false ∧ w1.frozen? ⟨w.heap.size, 3, none⟩ = false) ∧ w.heap.size < w1.heap.size ∧ Below w.heap.size w w1 := by
 have hs : w.heap.size < (w.alloc (.cells #[.int .i64 k, .string ⟨#[]⟩, .int .i64 0, .int .i64 q] 87)).heap.size := by simp
 have hB : Below w.heap.size w (w.alloc (.cells #[.int .i64 k, .string ⟨#[]⟩, .int .i64 0, .int .i64 q] 87)) := (Below.refl _ _).alloc (Nat.le_refl _) _
 exact ⟨⟨(hb.cell (p := ⟨w.heap.size, 0, none⟩) hs).trans (by simp), (hb.cell (p := ⟨w.heap.size, 1, none⟩) hs).trans (by simp), (hb.cell (p := ⟨w.heap.size, 2, none⟩) hs).trans (by simp), (hb.cell (p := ⟨w.heap.size, 3, none⟩) hs).trans (by simp)⟩,
  ⟨(hb.frozen (p := ⟨w.heap.size, 0, none⟩) hs).trans (by simp), (hb.frozen (p := ⟨w.heap.size, 1, none⟩) hs).trans (by simp), (hb.frozen (p := ⟨w.heap.size, 2, none⟩) hs).trans (by simp), (hb.frozen (p := ⟨w.heap.size, 3, none⟩) hs).trans (by simp)⟩, Nat.lt_of_lt_of_le hs hb.size, hB.trans (hb.mono hB.size)⟩
set_option maxRecDepth 100000 in
set_option maxHeartbeats 20000000 in
theorem rlex_any (s : ByteArray) (w : World) (hs : s.size ≤ 20000) :
  Calls Tryz.prog 25 #[.string s] w (LexOut (lexA s.data.toList) w) := by
 obtain ⟨i0, hi, hz0, hz1, hz2⟩ := info_parts rtok_info
 have hlen : s.data.toList.length = s.size := Array.length_toList
 by_cases hbig : 16384 < s.size
 ·have HA : Hid (lexA s.data.toList = ([], 0, 31)) := hide (by unfold lexA; rw [hlen, if_pos hbig])
  rw [HA.out]
  clear HA hlen
  go_enter Tryz.func25, Tryz.ntmps25
  go_wp2_with fail
  go_ret3
  exact ⟨⟨none, 0, rfl, ToksAt.nil _ _ _⟩, Below.refl _ _⟩
 have HM0 : Hid (MidG s (lexA s.data.toList) [] 0) := hide (by
  refine ⟨s.size + 1, by omega, ?_⟩
  unfold lexA lexG
  rw [hlen, if_neg hbig, Nat.zero_add, joinT_nil _ (lexF_form _ _ _)]
  rfl)
 generalize lexA s.data.toList = X at *
 have HB0 := hide (Below.refl w.heap.size w)
 clear hlen
 go_enter Tryz.func25, Tryz.ntmps25
 go_wp2_with fail
 go_loopw [5, 6] (fun v p wr => ∃ (L : List Tk) (q : Nat), p = .int .i64 q ∧ q ≤ s.size ∧ L.length ≤ q ∧ Hid (MidG s X L q) ∧ wr.ownsRow w.heap.size 87 4 v L.length (tokCells L) ∧ Hid (Below w.heap.size w wr)) (fun _ p _ => s.size - (intOf p).toNat)
 case atStart => exact ⟨[], 0, rfl, Nat.zero_le _, Nat.zero_le _, HM0, World.ownsRow_nil _ _ _ _, HB0⟩
 case round =>
  obtain ⟨L, q, rfl, hq, hL, HM, hrow, HB⟩ := hrel
  clear HM0
  have hsz := HB.out.size
  by_cases hlt : q < s.size
  ·by_cases hbl : s[q] = 32 ∨ s[q] = 9 ∨ s[q] = 10
   ·have HM2 := hide (midG_blank HM.out hlt hbl)
    rcases hbl with h | h | h
    ·have t1 : ((s[q].toNat : Int) == 32) = true := byte_is s[q] 32 (by decide) h
     clear h HM
     go_wp2_with fail
     go_roundw
     case rel => exact ⟨L, q + 1, by go_num, by omega, by omega, HM2, hrow, HB⟩
     case measure => simp [intOf]; omega
    ·have t1 : ((s[q].toNat : Int) == 32) = false := byte_not s[q] 32 (by decide) (by rw [h]; decide)
     have t2 : ((s[q].toNat : Int) == 9) = true := byte_is s[q] 9 (by decide) h
     clear h HM
     go_wp2_with fail
     go_roundw
     case rel => exact ⟨L, q + 1, by go_num, by omega, by omega, HM2, hrow, HB⟩
     case measure => simp [intOf]; omega
    ·have t1 : ((s[q].toNat : Int) == 32) = false := byte_not s[q] 32 (by decide) (by rw [h]; decide)
     have t2 : ((s[q].toNat : Int) == 9) = false := byte_not s[q] 9 (by decide) (by rw [h]; decide)
     have t3 : ((s[q].toNat : Int) == 10) = true := byte_is s[q] 10 (by decide) h
     clear h HM
     go_wp2_with fail
     go_roundw
     case rel => exact ⟨L, q + 1, by go_num, by omega, by omega, HM2, hrow, HB⟩
     case measure => simp [intOf]; omega
   by_cases h35 : s[q] = 35
   ·have t1 : ((s[q].toNat : Int) == 32) = false := byte_not s[q] 32 (by decide) (by rw [h35]; decide)
    have t2 : ((s[q].toNat : Int) == 9) = false := byte_not s[q] 9 (by decide) (by rw [h35]; decide)
    have t3 : ((s[q].toNat : Int) == 10) = false := byte_not s[q] 10 (by decide) (by rw [h35]; decide)
    have t4 : ((s[q].toNat : Int) == 35) = true := byte_is s[q] 35 (by decide) h35
    have HR0 := hide (rem_start HM.out hlt h35)
    clear hbl h35 HM
    go_wp2_with fail
    go_loopw [6] (fun i W => ∃ k : Nat, i = .int .i64 k ∧ q ≤ k ∧ k ≤ s.size ∧ Hid (Rem s X L q k) ∧ W = wr) (fun i _ => s.size - (intOf i).toNat)
    case atStart => exact ⟨q, rfl, Nat.le_refl _, hq, HR0, rfl⟩
    case round =>
     obtain ⟨k, rfl, hk1, hk2, HRk, rfl⟩ := hrel
     clear HR0
     by_cases hkl : k < s.size
     ·by_cases h10 : s[k] = 10
      ·have t5 : ((s[k].toNat : Int) != 10) = false := byte_bne_no s[k] 10 (by decide) h10
       have HM2 := hide (rem_end HRk.out hk1 hk2 (Or.inr ⟨hkl, h10⟩))
       have hkq : k ≠ q := fun e => by subst e; rw [h10] at t4; revert t4; decide
       clear HRk h10
       go_wp2_with fail
       go_roundw
       case rel => exact ⟨L, k, by go_num, by omega, by omega, HM2, hrow, HB⟩
       case measure => simp [intOf]; omega
      ·have t5 : ((s[k].toNat : Int) != 10) = true := byte_bne_yes s[k] 10 (by decide) h10
       have HR2 := hide (rem_step HRk.out hkl hk1 h10)
       clear HRk h10
       go_wp2_with fail
       go_roundw
       case rel => exact ⟨k + 1, by go_num, by omega, by omega, HR2, by trivial⟩
       case measure => simp [intOf]; omega
     ·have HM2 := hide (rem_end HRk.out hk1 hk2 (Or.inl (by omega)))
      clear HRk
      go_wp2_with fail
      go_roundw
      case rel => exact ⟨L, k, by go_num, by omega, by omega, HM2, hrow, HB⟩
      case measure => simp [intOf]; omega
   have hsep : sepB s[q] = false := by
    unfold sepB
    simp only [not_or] at hbl
    simp [hbl.1, hbl.2.1, hbl.2.2, h35]
   have t1 : ((s[q].toNat : Int) == 32) = false := byte_not s[q] 32 (by decide) (fun h => hbl (Or.inl h))
   have t2 : ((s[q].toNat : Int) == 9) = false := byte_not s[q] 9 (by decide) (fun h => hbl (Or.inr (Or.inl h)))
   have t3 : ((s[q].toNat : Int) == 10) = false := byte_not s[q] 10 (by decide) (fun h => hbl (Or.inr (Or.inr h)))
   have t4 : ((s[q].toNat : Int) == 35) = false := byte_not s[q] 35 (by decide) h35
   have HOk := hide (fun k n t m ht => midG_ok (k := k) (n := n) (t := t) (m := m) HM.out hlt hsep ht)
   have HNo := hide (fun z ht => midG_no (z := z) HM.out hlt hsep ht)
   have HTok := hide (tok_at hlt)
   have HLe := hide (rletter_any s[q])
   have HDi := hide (rdigit_any s[q])
   clear hbl h35 hsep HM
   by_cases hlow : lowP s[q] = true
   ·have hpx := pre_in worP s q hq
    have HWr : Hid (tokL (rest s q) = if 16 < pre worP (rest s q) then .no 50 else .ok 1 ((rest s q).take (pre worP (rest s q))) 0 (pre worP (rest s q))) := hide (by rw [HTok.out, if_pos hlow]; rfl)
    have hp0 := pre_pos (r := rest s (q + 1)) (wor_low hlow)
    rw [← rest_at hlt] at hp0
    have HP0 : Hid (pre worP (rest s q) = (q - q) + pre worP (rest s q)) := hide (by omega)
    have HXt := hide (ext_rest s q)
    rw [hlow] at HLe
    clear HTok HDi hlow
    go_wp2_with fail
    refine (HLe.out _).mono ?_
    rintro e w1 ⟨rfl, rfl⟩
    go_wp2_with fail
    go_loopw [9] (fun i W => ∃ k : Nat, i = .int .i64 k ∧ q ≤ k ∧ k ≤ s.size ∧ Hid (pre worP (rest s q) = (k - q) + pre worP (rest s k)) ∧ W = wr.alloc (.cells #[.int .i64 0, .string ⟨#[]⟩, .int .i64 0, .int .i64 (q : Nat)] 87)) (fun i _ => s.size - (intOf i).toNat)
    case atStart => exact ⟨q, rfl, Nat.le_refl _, hq, HP0, rfl⟩
    case round =>
     obtain ⟨k, rfl, hk1, hk2, HPk, rfl⟩ := hrel
     clear HP0
     by_cases hgo : ∃ h : k < s.size, worP s[k] = true
     ·obtain ⟨hkl, hw⟩ := hgo
      have HP2 : Hid (pre worP (rest s q) = (k + 1 - q) + pre worP (rest s (k + 1))) := hide (by
       have h := HPk.out
       rw [rest_at hkl, pre, if_pos hw] at h
       omega)
      have HLk := hide (rletter_any s[k])
      have HDk := hide (rdigit_any s[k])
      clear HPk
      cases hl : lowP s[k]
      ·rw [hl] at HLk
       cases hd : digP s[k]
       ·rw [hd] at HDk
        have h95 : s[k] = 95 := by unfold worP at hw; rw [hl, hd] at hw; simpa using hw
        have t5 : ((s[k].toNat : Int) == 95) = true := byte_is s[k] 95 (by decide) h95
        clear hl hd hw h95
        go_wp2_with (first | (go_at_call 43; refine (HLk.out _).mono ?_; rintro e w1 ⟨rfl, rfl⟩) | (go_at_call 44; refine (HDk.out _).mono ?_; rintro e w1 ⟨rfl, rfl⟩))
        go_roundw
        case rel => exact ⟨k + 1, by go_num, by omega, by omega, HP2, by trivial⟩
        case measure => simp [intOf]; omega
       ·rw [hd] at HDk
        clear hl hd hw
        go_wp2_with (first | (go_at_call 43; refine (HLk.out _).mono ?_; rintro e w1 ⟨rfl, rfl⟩) | (go_at_call 44; refine (HDk.out _).mono ?_; rintro e w1 ⟨rfl, rfl⟩))
        go_roundw
        case rel => exact ⟨k + 1, by go_num, by omega, by omega, HP2, by trivial⟩
        case measure => simp [intOf]; omega
      ·rw [hl] at HLk
       clear hl hw HDk
       go_wp2_with (first | (go_at_call 43; refine (HLk.out _).mono ?_; rintro e w1 ⟨rfl, rfl⟩))
       go_roundw
       case rel => exact ⟨k + 1, by go_num, by omega, by omega, HP2, by trivial⟩
       case measure => simp [intOf]; omega
     ·have hpk : pre worP (rest s q) = k - q := by
       have h := HPk.out
       by_cases hkl : k < s.size
       ·have hw : worP s[k] = false := by
         cases hw : worP s[k]
         ·rfl
         ·exact absurd ⟨hkl, hw⟩ hgo
        rw [rest_at hkl, pre, hw] at h
        simpa using h
       ·rw [rest_end (s := s) (k := k) (by omega)] at h
        exact h
      obtain ⟨m, rfl⟩ : ∃ m, k = q + m := ⟨k - q, by omega⟩
      have hm : pre worP (rest s q) = m := by omega
      rw [hm] at HWr hp0
      have HXm := hide (HXt.out m)
      have hstop : (¬ q + m < s.size) ∨ ∃ h : q + m < s.size, lowP s[q + m] = false ∧ digP s[q + m] = false ∧ ((s[q + m].toNat : Int) == 95) = false := by
       by_cases hkl : q + m < s.size
       ·refine Or.inr ⟨hkl, ?_⟩
        have hw : worP s[q + m] = false := by
         cases hw : worP s[q + m]
         ·rfl
         ·exact absurd ⟨hkl, hw⟩ hgo
        unfold worP at hw
        simp only [Bool.or_eq_false_iff] at hw
        exact ⟨hw.1.1, hw.1.2, byte_not s[q + m] 95 (by decide) (by simpa using hw.2)⟩
       ·exact Or.inl hkl
      clear hgo hpk hm HPk HXt hpx
      by_cases h16 : 16 < m
      ·have HX := hide (HNo.out 50 (by rw [HWr.out, if_pos h16]))
       clear HWr HNo HOk HXm hp0
       rcases hstop with hst | ⟨hst, g1, g2, g3⟩
       ·go_wp2_with fail
        go_ret3
        rw [HX.out]
        exact ⟨⟨none, 0, rfl, ToksAt.nil _ _ _⟩, HB.out.alloc hsz _⟩
       ·have HLk := hide (rletter_any s[q + m])
        have HDk := hide (rdigit_any s[q + m])
        rw [g1] at HLk
        rw [g2] at HDk
        clear g1 g2
        go_wp2_with (first | (go_at_call 43; refine (HLk.out _).mono ?_; rintro e w1 ⟨rfl, rfl⟩) | (go_at_call 44; refine (HDk.out _).mono ?_; rintro e w1 ⟨rfl, rfl⟩))
        go_ret3
        rw [HX.out]
        exact ⟨⟨none, 0, rfl, ToksAt.nil _ _ _⟩, HB.out.alloc hsz _⟩
      ·have ht := HWr.out
       rw [if_neg h16] at ht
       generalize (rest s q).take m = t at *
       have HX := hide (HOk.out 1 0 t m ht)
       have HTC := hide (tokCells_snoc L ⟨1, t, 0, q⟩)
       clear ht HWr HNo HOk
       rcases hstop with hst | ⟨hst, g1, g2, g3⟩
       ·go_wp2_with (first | rw [HXm.out] | (at_builtin; go_must (refine wpList_append_own_at _ rfl _ _ 83 rfl w.heap.size 87 i0 (.agg #[.int .i64 0, .string ⟨#[]⟩, .int .i64 0, .int .i64 0]) 4 40 Tryz.underlying83 hi hz0 hz1 hz2 rfl (by decide) _ _ _ rfl ((hrow.alloc _).alloc _) ⟨wr.heap.size + 1, 0, none⟩ 1 1 [.int .i64 1, txt t, .int .i64 0, .int .i64 (q : Nat)] rfl rfl (tok_new _ _ _ _ _ _ _ (by simp)) (tok_one _ _ _ _) (by unfold maxLen; omega) (by omega) (by simp; omega) ?_)))
        intro v1 w3 hown3 hgrow3 _ hat3
        have hs3 := hgrow3.size
        simp at hs3
        have HB3 := hide (((HB.out.alloc hsz _).alloc (by first | omega | (simp; omega)) _).grown hgrow3 (by simp; omega) (fun j hj => (hrow.lt j hj).1))
        have HO3 := hide hown3
        clear hgrow3 hat3 hown3
        go_wp2_with fail
        go_roundw
        case rel =>
         refine ⟨L ++ [⟨1, t, 0, q⟩], q + m, by go_num, by omega, by simp; omega, HX, ?_, HB3⟩
         rw [HTC.out, List.length_append]
         exact HO3.out
        case measure => simp [intOf]; omega
       ·have HLk := hide (rletter_any s[q + m])
        have HDk := hide (rdigit_any s[q + m])
        rw [g1] at HLk
        rw [g2] at HDk
        clear g1 g2
        go_wp2_with (first | rw [HXm.out] | (go_at_call 43; refine (HLk.out _).mono ?_; rintro e w1 ⟨rfl, rfl⟩) | (go_at_call 44; refine (HDk.out _).mono ?_; rintro e w1 ⟨rfl, rfl⟩) | (at_builtin; go_must (refine wpList_append_own_at _ rfl _ _ 83 rfl w.heap.size 87 i0 (.agg #[.int .i64 0, .string ⟨#[]⟩, .int .i64 0, .int .i64 0]) 4 40 Tryz.underlying83 hi hz0 hz1 hz2 rfl (by decide) _ _ _ rfl ((hrow.alloc _).alloc _) ⟨wr.heap.size + 1, 0, none⟩ 1 1 [.int .i64 1, txt t, .int .i64 0, .int .i64 (q : Nat)] rfl rfl (tok_new _ _ _ _ _ _ _ (by simp)) (tok_one _ _ _ _) (by unfold maxLen; omega) (by omega) (by simp; omega) ?_)))
        intro v1 w3 hown3 hgrow3 _ hat3
        have hs3 := hgrow3.size
        simp at hs3
        have HB3 := hide (((HB.out.alloc hsz _).alloc (by first | omega | (simp; omega)) _).grown hgrow3 (by simp; omega) (fun j hj => (hrow.lt j hj).1))
        have HO3 := hide hown3
        clear hgrow3 hat3 hown3
        go_wp2_with fail
        go_roundw
        case rel =>
         refine ⟨L ++ [⟨1, t, 0, q⟩], q + m, by go_num, by omega, by simp; omega, HX, ?_, HB3⟩
         rw [HTC.out, List.length_append]
         exact HO3.out
        case measure => simp [intOf]; omega
   by_cases hdig : digP s[q] = true
   ·have h1' : lowP s[q] = false := by simpa using hlow
    have hpx := pre_in digP s q hq
    have HWr : Hid (tokL (rest s q) = if s[q] = 48 ∧ 1 < pre digP (rest s q) then .no 50 else if valN ((rest s q).take (pre digP (rest s q))) < 9223372036854775808 then .ok 2 [] (valN ((rest s q).take (pre digP (rest s q))) : Nat) (pre digP (rest s q)) else .no 10) := hide (by
     rw [HTok.out, if_neg hlow, if_pos hdig]
     unfold numR
     have : ((rest s q).head? = some 48) = (s[q] = 48) := by rw [rest_at hlt]; simp
     simp only [this])
    have hp0 := pre_pos (r := rest s (q + 1)) hdig
    rw [← rest_at hlt] at hp0
    have HP0 : Hid (pre digP (rest s q) = (q - q) + pre digP (rest s q)) := hide (by omega)
    have HD0 : Hid (DigI ((rest s q).take (q - q)) 0 false) := hide (by rw [Nat.sub_self, List.take_zero]; exact digI_nil)
    rw [h1'] at HLe
    rw [hdig] at HDi
    clear HTok hlow h1' hdig
    go_wp2_with fail
    refine (HLe.out _).mono ?_
    rintro e w1 ⟨rfl, rfl⟩
    go_wp2_with fail
    refine (HDi.out _).mono ?_
    rintro e w1 ⟨rfl, rfl⟩
    go_wp2_with fail
    go_loopw [9, 10] (fun i o W => ∃ (k : Nat) (b : Bool) (n : Int), i = .int .i64 k ∧ o = .bool b ∧ q ≤ k ∧ k ≤ s.size ∧ Hid (pre digP (rest s q) = (k - q) + pre digP (rest s k)) ∧ Hid (DigI ((rest s q).take (k - q)) n b) ∧ W = wr.alloc (.cells #[.int .i64 0, .string ⟨#[]⟩, .int .i64 n, .int .i64 (q : Nat)] 87)) (fun i _ _ => s.size - (intOf i).toNat)
    case atStart => exact ⟨q, false, 0, rfl, rfl, Nat.le_refl _, hq, HP0, HD0, rfl⟩
    case round =>
     obtain ⟨k, b, n, rfl, rfl, hk1, hk2, HPk, HDk, rfl⟩ := hrel
     clear HP0 HD0
     by_cases hgo : ∃ h : k < s.size, digP s[k] = true
     ·obtain ⟨hkl, hw⟩ := hgo
      have HP2 : Hid (pre digP (rest s q) = (k + 1 - q) + pre digP (rest s (k + 1))) := hide (by
       have h := HPk.out
       rw [rest_at hkl, pre, if_pos hw] at h
       omega)
      have hstep := digI_step HDk.out hw
      have etk : (rest s q).take (k - q) ++ [s[k]] = (rest s q).take (k + 1 - q) := by
       rw [show k + 1 - q = (k - q) + 1 by omega, List.take_succ_eq_append_getElem (by rw [rest_len]; omega)]
       congr 2
       unfold rest
       rw [List.getElem_drop]
       have : q + (k - q) = k := by omega
       simp only [this]; rfl
      rw [etk] at hstep
      obtain ⟨hst, hbd⟩ := hstep
      have hw' := hw
      unfold digP at hw'
      simp only [Bool.and_eq_true, decide_eq_true_eq] at hw'
      obtain ⟨hw1, hw2⟩ := hw'
      have HS := hide hst
      have HDg := hide (rdigit_any s[k])
      rw [hw] at HDg
      clear HPk HDk hst etk hw
      cases b
      ·obtain ⟨hn0, hn1⟩ := hbd rfl
       by_cases hT1 : (922337203685477580 : Int) < n
       ·have e1 : decide ((922337203685477580 : Int) < n) = true := by simpa using hT1
        have hov : overB n ((s[k].toNat : Int) - 48) = true := by unfold overB; rw [e1]; rfl
        rw [hov] at HS
        have HS : Hid (DigI ((rest s q).take (k + 1 - q)) (n) true) := HS
        go_wp2_with (first | (go_at_call 44; refine (HDg.out _).mono ?_; rintro e w1 ⟨rfl, rfl⟩))
        go_roundw
        case rel => exact ⟨k + 1, true, n, by go_num, rfl, by omega, by omega, HP2, HS, by first | trivial | rfl | (subst hT2; rfl)⟩
        case measure => simp [intOf]; omega
       by_cases hT2 : n = 922337203685477580
       ·by_cases hT3 : (7 : Int) < (s[k].toNat : Int) - 48
        ·have e1 : decide ((922337203685477580 : Int) < n) = false := by simpa using hT1
         have e2 : (n == 922337203685477580) = true := by simpa using hT2
         have e3 : decide ((7 : Int) < (s[k].toNat : Int) - 48) = true := by simpa using hT3
         have hov : overB n ((s[k].toNat : Int) - 48) = true := by unfold overB; rw [e1, e2, e3]; rfl
         rw [hov] at HS
         have HS : Hid (DigI ((rest s q).take (k + 1 - q)) (n) true) := HS
         go_wp2_with (first | (go_at_call 44; refine (HDg.out _).mono ?_; rintro e w1 ⟨rfl, rfl⟩))
         go_roundw
         case rel => exact ⟨k + 1, true, n, by go_num, rfl, by omega, by omega, HP2, HS, by first | trivial | rfl | (subst hT2; rfl)⟩
         case measure => simp [intOf]; omega
        ·have e1 : decide ((922337203685477580 : Int) < n) = false := by simpa using hT1
         have e2 : (n == 922337203685477580) = true := by simpa using hT2
         have e3 : decide ((7 : Int) < (s[k].toNat : Int) - 48) = false := by simpa using hT3
         have hov : overB n ((s[k].toNat : Int) - 48) = false := by unfold overB; rw [e1, e2, e3]; rfl
         rw [hov] at HS
         have HS : Hid (DigI ((rest s q).take (k + 1 - q)) (n * 10 + ((s[k].toNat : Int) - 48)) false) := HS
         go_wp2_with (first | (go_at_call 44; refine (HDg.out _).mono ?_; rintro e w1 ⟨rfl, rfl⟩))
         go_roundw
         case rel => exact ⟨k + 1, false, n * 10 + ((s[k].toNat : Int) - 48), by go_num, rfl, by omega, by omega, HP2, HS, by first | trivial | rfl | (subst hT2; rfl)⟩
         case measure => simp [intOf]; omega
       ·have e1 : decide ((922337203685477580 : Int) < n) = false := by simpa using hT1
        have e2 : (n == 922337203685477580) = false := by simpa using hT2
        have hov : overB n ((s[k].toNat : Int) - 48) = false := by unfold overB; rw [e1, e2]; rfl
        rw [hov] at HS
        have HS : Hid (DigI ((rest s q).take (k + 1 - q)) (n * 10 + ((s[k].toNat : Int) - 48)) false) := HS
        go_wp2_with (first | (go_at_call 44; refine (HDg.out _).mono ?_; rintro e w1 ⟨rfl, rfl⟩))
        go_roundw
        case rel => exact ⟨k + 1, false, n * 10 + ((s[k].toNat : Int) - 48), by go_num, rfl, by omega, by omega, HP2, HS, by first | trivial | rfl | (subst hT2; rfl)⟩
        case measure => simp [intOf]; omega
      ·clear hbd
       by_cases hT1 : (922337203685477580 : Int) < n
       ·have e1 : decide ((922337203685477580 : Int) < n) = true := by simpa using hT1
        have hov : overB n ((s[k].toNat : Int) - 48) = true := by unfold overB; rw [e1]; rfl
        rw [hov] at HS
        have HS : Hid (DigI ((rest s q).take (k + 1 - q)) (n) true) := HS
        go_wp2_with (first | (go_at_call 44; refine (HDg.out _).mono ?_; rintro e w1 ⟨rfl, rfl⟩))
        go_roundw
        case rel => exact ⟨k + 1, true, n, by go_num, rfl, by omega, by omega, HP2, HS, by first | trivial | rfl | (subst hT2; rfl)⟩
        case measure => simp [intOf]; omega
       by_cases hT2 : n = 922337203685477580
       ·by_cases hT3 : (7 : Int) < (s[k].toNat : Int) - 48
        ·have e1 : decide ((922337203685477580 : Int) < n) = false := by simpa using hT1
         have e2 : (n == 922337203685477580) = true := by simpa using hT2
         have e3 : decide ((7 : Int) < (s[k].toNat : Int) - 48) = true := by simpa using hT3
         have hov : overB n ((s[k].toNat : Int) - 48) = true := by unfold overB; rw [e1, e2, e3]; rfl
         rw [hov] at HS
         have HS : Hid (DigI ((rest s q).take (k + 1 - q)) (n) true) := HS
         go_wp2_with (first | (go_at_call 44; refine (HDg.out _).mono ?_; rintro e w1 ⟨rfl, rfl⟩))
         go_roundw
         case rel => exact ⟨k + 1, true, n, by go_num, rfl, by omega, by omega, HP2, HS, by first | trivial | rfl | (subst hT2; rfl)⟩
         case measure => simp [intOf]; omega
        ·have e1 : decide ((922337203685477580 : Int) < n) = false := by simpa using hT1
         have e2 : (n == 922337203685477580) = true := by simpa using hT2
         have e3 : decide ((7 : Int) < (s[k].toNat : Int) - 48) = false := by simpa using hT3
         have hov : overB n ((s[k].toNat : Int) - 48) = false := by unfold overB; rw [e1, e2, e3]; rfl
         rw [hov] at HS
         have HS : Hid (DigI ((rest s q).take (k + 1 - q)) (n) true) := HS
         go_wp2_with (first | (go_at_call 44; refine (HDg.out _).mono ?_; rintro e w1 ⟨rfl, rfl⟩))
         go_roundw
         case rel => exact ⟨k + 1, true, n, by go_num, rfl, by omega, by omega, HP2, HS, by first | trivial | rfl | (subst hT2; rfl)⟩
         case measure => simp [intOf]; omega
       ·have e1 : decide ((922337203685477580 : Int) < n) = false := by simpa using hT1
        have e2 : (n == 922337203685477580) = false := by simpa using hT2
        have hov : overB n ((s[k].toNat : Int) - 48) = false := by unfold overB; rw [e1, e2]; rfl
        rw [hov] at HS
        have HS : Hid (DigI ((rest s q).take (k + 1 - q)) (n) true) := HS
        go_wp2_with (first | (go_at_call 44; refine (HDg.out _).mono ?_; rintro e w1 ⟨rfl, rfl⟩))
        go_roundw
        case rel => exact ⟨k + 1, true, n, by go_num, rfl, by omega, by omega, HP2, HS, by first | trivial | rfl | (subst hT2; rfl)⟩
        case measure => simp [intOf]; omega
     ·have hpk : pre digP (rest s q) = k - q := by
       have h := HPk.out
       by_cases hkl : k < s.size
       ·have hw : digP s[k] = false := by
         cases hw : digP s[k]
         ·rfl
         ·exact absurd ⟨hkl, hw⟩ hgo
        rw [rest_at hkl, pre, hw] at h
        simpa using h
       ·rw [rest_end (s := s) (k := k) (by omega)] at h
        exact h
      obtain ⟨m, rfl⟩ : ∃ m, k = q + m := ⟨k - q, by omega⟩
      have hm : pre digP (rest s q) = m := by omega
      rw [hm] at HWr hp0
      rw [show q + m - q = m by omega] at HDk
      have hstop : (¬ q + m < s.size) ∨ ∃ h : q + m < s.size, digP s[q + m] = false := by
       by_cases hkl : q + m < s.size
       ·refine Or.inr ⟨hkl, ?_⟩
        cases hw : digP s[q + m]
        ·rfl
        ·exact absurd ⟨hkl, hw⟩ hgo
       ·exact Or.inl hkl
      clear hgo hpk hm HPk hpx
      have hD := HDk.out
      unfold DigI at hD
      by_cases hz : s[q] = 48 ∧ 1 < m
      ·have HX := hide (HNo.out 50 (by rw [HWr.out, if_pos hz]))
       have u1 : ((s[q].toNat : Int) == 48) = true := byte_is s[q] 48 (by decide) hz.1
       have hm1 := hz.2
       clear HWr HNo HOk HDk hD hz
       rcases hstop with hst | ⟨hst, g1⟩
       ·go_wp2_with fail
        go_ret3
        rw [HX.out]
        exact ⟨⟨none, 0, rfl, ToksAt.nil _ _ _⟩, HB.out.alloc hsz _⟩
       ·have HDm := hide (rdigit_any s[q + m])
        rw [g1] at HDm
        clear g1
        go_wp2_with (first | (go_at_call 44; refine (HDm.out _).mono ?_; rintro e w1 ⟨rfl, rfl⟩))
        go_ret3
        rw [HX.out]
        exact ⟨⟨none, 0, rfl, ToksAt.nil _ _ _⟩, HB.out.alloc hsz _⟩
      have hz' : ((s[q].toNat : Int) == 48) = false ∨ ((s[q].toNat : Int) == 48) = true ∧ ¬ 1 < m := by
       by_cases h : s[q] = 48
       ·exact Or.inr ⟨byte_is s[q] 48 (by decide) h, fun h2 => hz ⟨h, h2⟩⟩
       ·exact Or.inl (byte_not s[q] 48 (by decide) h)
      have hWr := HWr.out
      rw [if_neg hz] at hWr
      generalize (rest s q).take m = t at *
      clear HWr HDk hz
      by_cases hv : valN t < 9223372036854775808
      ·rw [if_pos hv] at hWr hD
       obtain ⟨rfl, rfl⟩ := hD
       have HX := hide (HOk.out 2 (valN t : Nat) [] m hWr)
       have HTC := hide (tokCells_snoc L ⟨2, [], (valN t : Nat), q⟩)
       clear hWr HNo HOk
       generalize valN t = v at *
       rcases hz' with u1 | ⟨u1, hm1⟩ <;> rcases hstop with hst | ⟨hst, g1⟩
       ·go_wp2_with (first | (at_builtin; go_must (refine wpList_append_own_at _ rfl _ _ 83 rfl w.heap.size 87 i0 (.agg #[.int .i64 0, .string ⟨#[]⟩, .int .i64 0, .int .i64 0]) 4 40 Tryz.underlying83 hi hz0 hz1 hz2 rfl (by decide) _ _ _ rfl ((hrow.alloc _).alloc _) ⟨wr.heap.size + 1, 0, none⟩ 1 1 [.int .i64 2, txt [], .int .i64 (v : Nat), .int .i64 (q : Nat)] rfl rfl (tok_new _ _ _ _ _ _ _ (by simp)) (tok_one _ _ _ _) (by unfold maxLen; omega) (by omega) (by simp; omega) ?_)))
        intro v1 w3 hown3 hgrow3 _ hat3
        have hs3 := hgrow3.size
        simp at hs3
        have HB3 := hide (((HB.out.alloc hsz _).alloc (by first | omega | (simp; omega)) _).grown hgrow3 (by simp; omega) (fun j hj => (hrow.lt j hj).1))
        have HO3 := hide hown3
        clear hgrow3 hat3 hown3
        go_wp2_with fail
        go_roundw
        case rel =>
         refine ⟨L ++ [⟨2, [], (v : Nat), q⟩], q + m, by go_num, by omega, by simp; omega, HX, ?_, HB3⟩
         rw [HTC.out, List.length_append]
         exact HO3.out
        case measure => simp [intOf]; omega
       ·have HDm := hide (rdigit_any s[q + m])
        rw [g1] at HDm
        clear g1
        go_wp2_with (first | (go_at_call 44; refine (HDm.out _).mono ?_; rintro e w1 ⟨rfl, rfl⟩) | (at_builtin; go_must (refine wpList_append_own_at _ rfl _ _ 83 rfl w.heap.size 87 i0 (.agg #[.int .i64 0, .string ⟨#[]⟩, .int .i64 0, .int .i64 0]) 4 40 Tryz.underlying83 hi hz0 hz1 hz2 rfl (by decide) _ _ _ rfl ((hrow.alloc _).alloc _) ⟨wr.heap.size + 1, 0, none⟩ 1 1 [.int .i64 2, txt [], .int .i64 (v : Nat), .int .i64 (q : Nat)] rfl rfl (tok_new _ _ _ _ _ _ _ (by simp)) (tok_one _ _ _ _) (by unfold maxLen; omega) (by omega) (by simp; omega) ?_)))
        intro v1 w3 hown3 hgrow3 _ hat3
        have hs3 := hgrow3.size
        simp at hs3
        have HB3 := hide (((HB.out.alloc hsz _).alloc (by first | omega | (simp; omega)) _).grown hgrow3 (by simp; omega) (fun j hj => (hrow.lt j hj).1))
        have HO3 := hide hown3
        clear hgrow3 hat3 hown3
        go_wp2_with fail
        go_roundw
        case rel =>
         refine ⟨L ++ [⟨2, [], (v : Nat), q⟩], q + m, by go_num, by omega, by simp; omega, HX, ?_, HB3⟩
         rw [HTC.out, List.length_append]
         exact HO3.out
        case measure => simp [intOf]; omega
       ·go_wp2_with (first | (at_builtin; go_must (refine wpList_append_own_at _ rfl _ _ 83 rfl w.heap.size 87 i0 (.agg #[.int .i64 0, .string ⟨#[]⟩, .int .i64 0, .int .i64 0]) 4 40 Tryz.underlying83 hi hz0 hz1 hz2 rfl (by decide) _ _ _ rfl ((hrow.alloc _).alloc _) ⟨wr.heap.size + 1, 0, none⟩ 1 1 [.int .i64 2, txt [], .int .i64 (v : Nat), .int .i64 (q : Nat)] rfl rfl (tok_new _ _ _ _ _ _ _ (by simp)) (tok_one _ _ _ _) (by unfold maxLen; omega) (by omega) (by simp; omega) ?_)))
        intro v1 w3 hown3 hgrow3 _ hat3
        have hs3 := hgrow3.size
        simp at hs3
        have HB3 := hide (((HB.out.alloc hsz _).alloc (by first | omega | (simp; omega)) _).grown hgrow3 (by simp; omega) (fun j hj => (hrow.lt j hj).1))
        have HO3 := hide hown3
        clear hgrow3 hat3 hown3
        go_wp2_with fail
        go_roundw
        case rel =>
         refine ⟨L ++ [⟨2, [], (v : Nat), q⟩], q + m, by go_num, by omega, by simp; omega, HX, ?_, HB3⟩
         rw [HTC.out, List.length_append]
         exact HO3.out
        case measure => simp [intOf]; omega
       ·have HDm := hide (rdigit_any s[q + m])
        rw [g1] at HDm
        clear g1
        go_wp2_with (first | (go_at_call 44; refine (HDm.out _).mono ?_; rintro e w1 ⟨rfl, rfl⟩) | (at_builtin; go_must (refine wpList_append_own_at _ rfl _ _ 83 rfl w.heap.size 87 i0 (.agg #[.int .i64 0, .string ⟨#[]⟩, .int .i64 0, .int .i64 0]) 4 40 Tryz.underlying83 hi hz0 hz1 hz2 rfl (by decide) _ _ _ rfl ((hrow.alloc _).alloc _) ⟨wr.heap.size + 1, 0, none⟩ 1 1 [.int .i64 2, txt [], .int .i64 (v : Nat), .int .i64 (q : Nat)] rfl rfl (tok_new _ _ _ _ _ _ _ (by simp)) (tok_one _ _ _ _) (by unfold maxLen; omega) (by omega) (by simp; omega) ?_)))
        intro v1 w3 hown3 hgrow3 _ hat3
        have hs3 := hgrow3.size
        simp at hs3
        have HB3 := hide (((HB.out.alloc hsz _).alloc (by first | omega | (simp; omega)) _).grown hgrow3 (by simp; omega) (fun j hj => (hrow.lt j hj).1))
        have HO3 := hide hown3
        clear hgrow3 hat3 hown3
        go_wp2_with fail
        go_roundw
        case rel =>
         refine ⟨L ++ [⟨2, [], (v : Nat), q⟩], q + m, by go_num, by omega, by simp; omega, HX, ?_, HB3⟩
         rw [HTC.out, List.length_append]
         exact HO3.out
        case measure => simp [intOf]; omega
      ·rw [if_neg hv] at hWr hD
       obtain rfl := hD
       have HX := hide (HNo.out 10 hWr)
       clear hWr HNo HOk hv
       rcases hz' with u1 | ⟨u1, hm1⟩ <;> rcases hstop with hst | ⟨hst, g1⟩
       ·go_wp2_with fail
        go_ret3
        rw [HX.out]
        exact ⟨⟨none, 0, rfl, ToksAt.nil _ _ _⟩, HB.out.alloc hsz _⟩
       ·have HDm := hide (rdigit_any s[q + m])
        rw [g1] at HDm
        clear g1
        go_wp2_with (first | (go_at_call 44; refine (HDm.out _).mono ?_; rintro e w1 ⟨rfl, rfl⟩))
        go_ret3
        rw [HX.out]
        exact ⟨⟨none, 0, rfl, ToksAt.nil _ _ _⟩, HB.out.alloc hsz _⟩
       ·go_wp2_with fail
        go_ret3
        rw [HX.out]
        exact ⟨⟨none, 0, rfl, ToksAt.nil _ _ _⟩, HB.out.alloc hsz _⟩
       ·have HDm := hide (rdigit_any s[q + m])
        rw [g1] at HDm
        clear g1
        go_wp2_with (first | (go_at_call 44; refine (HDm.out _).mono ?_; rintro e w1 ⟨rfl, rfl⟩))
        go_ret3
        rw [HX.out]
        exact ⟨⟨none, 0, rfl, ToksAt.nil _ _ _⟩, HB.out.alloc hsz _⟩
   by_cases h34 : s[q] = 34
   ·have h1' : lowP s[q] = false := by simpa using hlow
    have h2' : digP s[q] = false := by simpa using hdig
    have t5 : ((s[q].toNat : Int) == 34) = true := byte_is s[q] 34 (by decide) h34
    have HSg : Hid (tokL (rest s q) = litR (rest s q)) := hide (by rw [HTok.out, if_neg hlow, if_neg hdig, if_pos h34])
    have HRs := hide (fun w1 => rquoted_any s q w1 hs hlt)
    rw [h1'] at HLe
    rw [h2'] at HDi
    have hSr : litR (rest s q) = match litL (rest s (q + 1)) with | some (t, m) => .ok 3 t 0 (m + 1) | none => .no 50 := by unfold litR; rw [rest_at hlt, List.tail_cons]; rfl
    have hSt : quoE s q = match litL (rest s (q + 1)) with | some (t, m) => .returned (.tuple #[txt t, .int .i64 ((q + 1 + m : Nat) : Int)]) | none => .returned (.tuple #[txt [], .int .i64 (-1)]) := rfl
    clear HTok hlow hdig h34 h1' h2'
    cases hsg : litL (rest s (q + 1)) with
    | none =>
     rw [hsg] at hSt hSr
     simp only at hSt hSr
     have HX := hide (HNo.out 50 (by rw [HSg.out, hSr]))
     rw [hSt] at HRs
     clear hsg hSr hSt HSg HNo HOk hrow
     go_wp2_with fail
     refine (HLe.out _).mono ?_
     rintro e w1 ⟨rfl, rfl⟩
     go_wp2_with fail
     refine (HDi.out _).mono ?_
     rintro e w1 ⟨rfl, rfl⟩
     go_wp2_with fail
     refine (HRs.out _).mono ?_
     rintro e w2 ⟨rfl, rfl⟩
     go_wp2_with fail
     go_ret3
     rw [HX.out]
     exact ⟨⟨none, 0, rfl, ToksAt.nil _ _ _⟩, HB.out.alloc hsz _⟩
    | some x =>
     obtain ⟨t, m⟩ := x
     rw [hsg] at hSt hSr
     simp only at hSt hSr
     have htok : tokL (rest s q) = .ok 3 t 0 (m + 1) := by rw [HSg.out, hSr]
     have hend := (tok_some htok).2.1
     rw [rest_len] at hend
     have HX := hide (HOk.out 3 0 t (m + 1) htok)
     have HTC := hide (tokCells_snoc L ⟨3, t, 0, q⟩)
     rw [hSt] at HRs
     clear hsg hSr hSt HSg HNo HOk htok
     go_wp2_with fail
     refine (HLe.out _).mono ?_
     rintro e w1 ⟨rfl, rfl⟩
     go_wp2_with fail
     refine (HDi.out _).mono ?_
     rintro e w1 ⟨rfl, rfl⟩
     go_wp2_with fail
     refine (HRs.out _).mono ?_
     rintro e w2 ⟨rfl, rfl⟩
     go_wp2_with (first | (at_builtin; go_must (refine wpList_append_own_at _ rfl _ _ 83 rfl w.heap.size 87 i0 (.agg #[.int .i64 0, .string ⟨#[]⟩, .int .i64 0, .int .i64 0]) 4 40 Tryz.underlying83 hi hz0 hz1 hz2 rfl (by decide) _ _ _ rfl ((hrow.alloc _).alloc _) ⟨wr.heap.size + 1, 0, none⟩ 1 1 [.int .i64 3, txt t, .int .i64 0, .int .i64 (q : Nat)] rfl rfl (tok_new _ _ _ _ _ _ _ (by simp)) (tok_one _ _ _ _) (by unfold maxLen; omega) (by omega) (by simp; omega) ?_)))
     intro v1 w3 hown3 hgrow3 _ hat3
     have hs3 := hgrow3.size
     simp at hs3
     have HB3 := hide (((HB.out.alloc hsz _).alloc (by first | omega | (simp; omega)) _).grown hgrow3 (by simp; omega) (fun j hj => (hrow.lt j hj).1))
     have HO3 := hide hown3
     clear hgrow3 hat3 hown3
     go_wp2_with fail
     go_roundw
     case rel =>
      refine ⟨L ++ [⟨3, t, 0, q⟩], q + (m + 1), by go_num, by omega, by simp; omega, HX, ?_, HB3⟩
      rw [HTC.out, List.length_append]
      exact HO3.out
     case measure => simp [intOf]; omega
   ·have h1' : lowP s[q] = false := by simpa using hlow
    have h2' : digP s[q] = false := by simpa using hdig
    have t5 : ((s[q].toNat : Int) == 34) = false := byte_not s[q] 34 (by decide) h34
    have HSg : Hid (tokL (rest s q) = sgnR (rest s q)) := hide (by rw [HTok.out, if_neg hlow, if_neg hdig, if_neg h34])
    have HRs := hide (fun w1 => rsign_any s q w1 hs hlt)
    rw [h1'] at HLe
    rw [h2'] at HDi
    have hSt : sgnT (rest s q) = match sgnL (rest s q) with | some g => g | none => [] := rfl
    have hSr : sgnR (rest s q) = match sgnL (rest s q) with | some g => .ok 4 g 0 g.length | none => .no 50 := rfl
    clear HTok hlow hdig h34 h1' h2'
    cases hsg : sgnL (rest s q) with
    | none =>
     rw [hsg] at hSt hSr
     simp only at hSt hSr
     have HX := hide (HNo.out 50 (by rw [HSg.out, hSr]))
     rw [hSt] at HRs
     clear hsg hSr hSt HSg HNo HOk hrow
     go_wp2_with fail
     refine (HLe.out _).mono ?_
     rintro e w1 ⟨rfl, rfl⟩
     go_wp2_with fail
     refine (HDi.out _).mono ?_
     rintro e w1 ⟨rfl, rfl⟩
     go_wp2_with fail
     refine (HRs.out _).mono ?_
     rintro e w2 ⟨rfl, hb⟩
     obtain ⟨⟨c0, c1, c2, c3⟩, ⟨f0, f1, f2, f3⟩, hz, hbw⟩ := rbox_cells hb
     have HBz := hide (HB.out.trans (hbw.mono hsz))
     clear hb hbw
     go_wp2_with fail
     go_ret3
     rw [HX.out]
     exact ⟨⟨none, 0, rfl, ToksAt.nil _ _ _⟩, HBz.out.setCell hsz _⟩
    | some g =>
     rw [hsg] at hSt hSr
     simp only at hSt hSr
     obtain ⟨hgm, -⟩ := sgn_some hsg
     have hg0 : g ≠ [] := (sgn_facts g hgm).1
     have hgl : g.length ≤ 2 := by
      have : ∀ g ∈ signsL, g.length ≤ 2 := by decide
      exact this g hgm
     have hgl0 : 0 < g.length := List.length_pos_iff.2 hg0
     have htok : tokL (rest s q) = .ok 4 g 0 g.length := by rw [HSg.out, hSr]
     have hend := (tok_some htok).2.1
     rw [rest_len] at hend
     have HX := hide (HOk.out 4 0 g g.length htok)
     have HTC := hide (tokCells_snoc L ⟨4, g, 0, q⟩)
     rw [hSt] at HRs
     have hge : g.isEmpty = false := by
      cases g with
      | nil => exact absurd rfl hg0
      | cons a b => rfl
     clear hsg hSr hSt HSg HNo HOk htok hgm hg0
     go_wp2_with fail
     refine (HLe.out _).mono ?_
     rintro e w1 ⟨rfl, rfl⟩
     go_wp2_with fail
     refine (HDi.out _).mono ?_
     rintro e w1 ⟨rfl, rfl⟩
     go_wp2_with fail
     refine (HRs.out _).mono ?_
     rintro e w2 ⟨rfl, hb⟩
     obtain ⟨⟨c0, c1, c2, c3⟩, ⟨f0, f1, f2, f3⟩, hz, hbw⟩ := rbox_cells hb
     obtain ⟨w5, e5⟩ : ∃ w5, w2.setCell ⟨wr.heap.size, 1, none⟩ (.string ⟨g.toArray⟩) = w5 := ⟨_, rfl⟩
     have h5 : At4 w5 wr.heap.size (.int .i64 4) (txt g) (.int .i64 0) (.int .i64 (q : Nat)) := by
      rw [← e5]
      exact At4.set1 ⟨⟨c0, c1, c2, c3⟩, f0, f1, f2, f3⟩ _
     have hb5 : Below wr.heap.size wr w5 := by rw [← e5]; exact hbw.setCell (Nat.le_refl _) _
     obtain ⟨⟨d0, d1, d2, d3⟩, k0, k1, k2, k3⟩ := h5
     have hz5 : wr.heap.size < w5.heap.size := lt_of_cell d0
     have HB5 := hide (HB.out.trans (hb5.mono hsz))
     have hs5 := hb5.size
     have r5 := hrow.kept (only_of_below hb5 none) (by cases hv : u5.ownBlock <;> simp)
     clear hb hbw hb5
     go_wp2_with (first | (rw [e5]; clear e5 c0 c1 c2 c3 f0 f1 f2 f3 hz) | (at_builtin; go_must (refine wpList_append_own_at _ rfl _ _ 83 rfl w.heap.size 87 i0 (.agg #[.int .i64 0, .string ⟨#[]⟩, .int .i64 0, .int .i64 0]) 4 40 Tryz.underlying83 hi hz0 hz1 hz2 rfl (by decide) _ _ _ rfl (r5.alloc _) ⟨w5.heap.size, 0, none⟩ 1 1 [.int .i64 4, txt g, .int .i64 0, .int .i64 (q : Nat)] rfl rfl (tok_new _ _ _ _ _ _ _ (by simp)) (tok_one _ _ _ _) (by unfold maxLen; omega) (by omega) (by simp; omega) ?_)))
     intro v1 w3 hown3 hgrow3 _ hat3
     have hs3 := hgrow3.size
     simp at hs3
     have HB3 := hide ((HB5.out.alloc (by first | omega | (simp; omega)) _).grown hgrow3 (by simp; omega) (fun j hj => (r5.lt j hj).1))
     have HO3 := hide hown3
     clear hgrow3 hat3 hown3
     go_wp2_with fail
     go_roundw
     case rel =>
      refine ⟨L ++ [⟨4, g, 0, q⟩], q + g.length, by go_num, by omega, by simp; omega, HX, ?_, HB3⟩
      rw [HTC.out, List.length_append]
      exact HO3.out
     case measure => simp [intOf]; omega
  ·have HX := hide (midG_end HM.out (by omega))
   clear HM
   obtain ⟨A, c, rfl, hA⟩ := toks_of_row hrow
   have HA := hide hA
   clear hrow hA
   go_wp2_with fail
   go_ret3
   rw [HX.out]
   exact ⟨⟨A, c, rfl, HA.out⟩, HB.out⟩
end Go.Proofs.YtljoajjlkjjgeaaGreatDoor
