/-
  The walk of DiskKeeps.
-/
import Derived.Test.YtohdjhhaceeahabKKeep
import Derived.Lib.QuietBelow
namespace Go.Proofs.Ytohdjhhaceeahab
open Go.RowKit

set_option maxHeartbeats 3200000 in
set_option maxRecDepth 100000 in
theorem diskKeeps_walk (A1 : Option Addr) (c1 : Nat) (h1 : List BH) (A2 : Option Addr) (c2 : Nat) (h2 : List BH) (keep : Int) (w : World) (hH1 : HeadsAt w.heap.size w A1 h1 ∧ (A1 = none → c1 = 0)) (hw1 : WfHs h1) (hH2 : HeadsAt w.heap.size w A2 h2 ∧ (A2 = none → c2 = 0)) (hw2 : WfHs h2) (b0 : -9223372036854775808 ≤ keep) (b1 : keep ≤ 9223372036854775807) :
    Calls Try.prog 4 #[.slice A1 h1.length c1, .slice A2 h2.length c2, .int .i64 keep] w fun e w' => e = .returned (.bool true) ∧ Below w.heap.size w w' := by
  have HAw := hide (fun w' => awake_any w')
  have HNew := hide (new_yes 1048576 w rfl)
  have hl1 := hw1.1
  have hl2 := hw2.1
  unfold maxLen at hl1 hl2
  by_cases q1 : 30 < h1.length
  · have q1' : (30 : Int) < (h1.length : Int) := by omega
    clear hH1 hH2 hw1 hw2 q1
    go_enter Try.func4, Try.ntmps4
    go_wp2_with fail
    refine HNew.out.mono ?_
    rintro e w1 ⟨⟨g, rfl, hD0⟩, hb1⟩
    have HB1 := hide hb1
    have HD0 := hide hD0
    clear hb1 hD0 HNew
    go_wp2_with fail
    refine (HAw.out _).mono ?_
    rintro e wa ⟨rfl, hba⟩
    have HBA := hide (HB1.out.trans (hba.mono HB1.out.size))
    clear hba
    go_wp2_with fail
    go_ret
    exact ⟨rfl, HBA.out⟩
  have q1' : ¬ (30 : Int) < (h1.length : Int) := by omega
  by_cases q2 : 30 < h2.length
  · have q2' : (30 : Int) < (h2.length : Int) := by omega
    clear hH1 hH2 hw1 hw2 q1 q2
    go_enter Try.func4, Try.ntmps4
    go_wp2_with fail
    refine HNew.out.mono ?_
    rintro e w1 ⟨⟨g, rfl, hD0⟩, hb1⟩
    have HB1 := hide hb1
    have HD0 := hide hD0
    clear hb1 hD0 HNew
    go_wp2_with fail
    refine (HAw.out _).mono ?_
    rintro e wa ⟨rfl, hba⟩
    have HBA := hide (HB1.out.trans (hba.mono HB1.out.size))
    clear hba
    go_wp2_with fail
    go_ret
    exact ⟨rfl, HBA.out⟩
  have q2' : ¬ (30 : Int) < (h2.length : Int) := by omega
  have HH1 := hide hH1
  have HH2 := hide hH2
  have HEl := hide (fun j (hj : j < (h1 ++ h2).length) => (by
    by_cases e : j < h1.length
    · obtain ⟨_, _, _, _, _, h⟩ := hH1.1 j e
      rw [getD_left e]
      exact ⟨h, hw1.2 j e⟩
    · have e' : j - h1.length < h2.length := by rw [List.length_append] at hj; omega
      obtain ⟨_, _, _, _, _, h⟩ := hH2.1 _ e'
      rw [getD_right (by omega)]
      exact ⟨h, hw2.2 _ e'⟩ : BytesAt w.heap.size w ((h1 ++ h2).getD j dH).A ((h1 ++ h2).getD j dH).l ∧ WfH ((h1 ++ h2).getD j dH)))
  have hlen1 : h1.length ≤ 30 := by omega
  have hlen2 : h2.length ≤ 30 := by omega
  clear hH1 hH2 hw1 hw2 q1 q2
  go_enter Try.func4, Try.ntmps4
  go_wp2_with fail
  refine HNew.out.mono ?_
  rintro e w1 ⟨⟨g, rfl, hD0⟩, hb1⟩
  have HB1 := hide hb1
  have HD0 := hide hD0
  clear hb1 hD0 HNew
  have HO := hide (World.ownsRow_made (base := w1.heap.size) (e := 28) (size := 1) w1 #[] 0 (Nat.le_refl _) (Nat.zero_le _) rfl)
  have HAl := hide (Joins.below_alloc1 w1 (.cells #[] 28))
  go_wp2_with (at_builtin; go_must (refine append_heads rfl _ _ rfl w1.heap.size (.slice (some ⟨w1.heap.size, 0, none⟩) 0 0) [] h1 0 rfl HO.out _ A1 c1 rfl ((HH1.out.1.below HB1.out).below (HAl.out.mono HB1.out.size)) HH1.out.2 (by omega) (by simp) ?_))
  intro v2 w2 hown2 hgrow2
  have HB2 := hide (show Below w1.heap.size w1 w2 from HAl.out.grown hgrow2 (by simp) (fun k e => by simp [Value.ownBlock] at e; omega))
  have HO2 := hide hown2
  clear hown2 hgrow2 HO HAl
  go_wp2_with (at_builtin; go_must (refine append_heads rfl _ _ rfl w1.heap.size v2 ([] ++ h1) h2 _ rfl HO2.out _ A2 c2 rfl ((HH2.out.1.below HB1.out).below (HB2.out.mono HB1.out.size)) HH2.out.2 (by omega) HB2.out.size ?_))
  intro v3 w3 hown3 hgrow3
  have HB3 := hide (show Below w1.heap.size w1 w3 from HB2.out.grown hgrow3 HB2.out.size (fun k e => (HO2.out.lt k e).1))
  obtain ⟨N, hN⟩ : ∃ N, N = h1.length + h2.length := ⟨_, rfl⟩
  rw [← hN] at hown3
  obtain ⟨-, A3, c3, rfl, hA3, hcl⟩ := heads_of_row (hs := h1 ++ h2) (by rw [List.map_append]; exact hown3)
  have HCell := hide hcl
  have HNn := hide hN
  have hN60 : N ≤ 60 := by omega
  have hLN : (h1 ++ h2).length = N := by rw [List.length_append, hN]
  have HLN := hide hLN
  have HSt := hide (show ∃ D : DS, Kp D.p [] 0 ∧ D.p.done ≤ 0 ∧ DiskAt w.heap.size g w3 D ∧ Seen A3 g D w3 w3 ∧ Below w.heap.size w w3 from ⟨_, kp_new, Int.le_refl _, HD0.out.below HB3.out, ⟨Nat.le_refl _, (fun _ _ => rfl), (fun a e => (hA3 a e).2), (fun a e => ⟨(by have := HD0.out.lt; have := (hA3 a e).1; omega), (fun i _ e2 => by cases e2)⟩)⟩, HB1.out.trans (HB3.out.mono HB1.out.size)⟩)
  clear hown3 hgrow3 hA3 hcl hN hLN HB2 HB3 HO2 HD0 HB1 HH1 HH2
  go_wp2_with fail
  go_loopw [8, 9, 39] (fun us ua i wr => ∃ (k : Nat) (D : DS), k ≤ N ∧ i = .int .i64 k ∧ us = .string ⟨(catH (h1.take k)).toArray⟩ ∧ ua = .string ⟨(catH ((h1 ++ h2).take k)).toArray⟩ ∧ Kp D.p (catH ((h1 ++ h2).take k)) (if k ≤ h1.length then 0 else (catH h1).length) ∧ D.p.done ≤ 2 * k ∧ DiskAt w.heap.size g wr D ∧ Seen A3 g D w3 wr ∧ Below w.heap.size w wr ∧ (catH ((h1 ++ h2).take k)).length ≤ 500 * k) (fun _ _ i _ => N - (intOf i).toNat)
  case atStart =>
    obtain ⟨D, a1, a2, a3, a4, a5⟩ := HSt.out
    exact ⟨0, D, Nat.zero_le _, rfl, rfl, rfl, (by rw [if_pos (Nat.zero_le _)]; exact a1), a2, a3, a4, a5, Nat.zero_le _⟩
  case round =>
    obtain ⟨k, D, hk, rfl, rfl, rfl, hKp, hdn, hD, hSn, hbw, hXl⟩ := hrel
    have HKp := hide hKp
    have HD := hide hD
    have HSn := hide hSn
    have HB := hide hbw
    have HXl := hide hXl
    clear HSt hKp hD hbw
    by_cases hlt : k < N
    · have HK := hide hlt
      have hlt' : k < (h1 ++ h2).length := by rw [HLN.out]; exact hlt
      obtain ⟨b, rfl, hc0⟩ := HCell.out k hlt'
      obtain ⟨hcc, hbw'⟩ := hSn.cell rfl hc0
      obtain ⟨hby, hwf⟩ := HEl.out k hlt'
      have HXA := hide (catH_take hlt')
      have HXS := hide (fun (e : k < h1.length) => (by rw [catH_take e, getD_left e] : catH (h1.take (k + 1)) = catH (h1.take k) ++ ((h1 ++ h2).getD k dH).l))
      have HXT := hide (fun (e : ¬ k < h1.length) => (by rw [List.take_of_length_le (by omega), List.take_of_length_le (by omega)] : catH (h1.take (k + 1)) = catH (h1.take k)))
      have HXn := hide (fun (e : k = h1.length) => (by rw [e, List.take_left] : catH ((h1 ++ h2).take k) = catH h1))
      generalize (h1 ++ h2).getD k dH = o at *
      unfold hdr at hcc
      have hwl := hwf.l
      unfold maxLen at hwl
      have HBy := hide hby
      have HWf := hide hwf
      clear hc0 hby hwf hSn
      by_cases h5 : 500 < o.l.length
      · have h5' : (500 : Int) < (o.l.length : Int) := by omega
        go_wp2_with fail
        refine (HAw.out _).mono ?_
        rintro e wa ⟨rfl, hba⟩
        have HBA := hide (HB.out.trans (hba.mono HB.out.size))
        clear hba
        go_wp2_with fail
        go_ret
        exact ⟨rfl, HBA.out⟩
      have h5' : ¬ (500 : Int) < (o.l.length : Int) := by omega
      have HLen := hide (show (catH ((h1 ++ h2).take k) ++ o.l).length ≤ 500 * (k + 1) by rw [List.length_append]; omega)
      rw [← HXA.out] at HLen
      clear h5
      rcases (by omega : k < h1.length ∨ k = h1.length ∨ h1.length < k) with e | e | e
      · have hce : ((k : Int) == (h1.length : Int)) = false := by rw [beq_eq_false_iff_ne]; omega
        have hce2 : (k : Int) < (h1.length : Int) := by omega
        rw [if_pos (by omega)] at HKp
        have HC := hide (kApp HD.out HKp.out (by omega) (by omega) ((HBy.out.below HB.out).mono HB.out.size) HWf.out.n)
        have HXS2 := hide (HXS.out e)
        have hXs : (catH (h1.take k)).length ≤ 30000 := by
          rw [← List.take_append_of_le_length (l₂ := h2) (Nat.le_of_lt e)]
          omega
        have HEk := hide e
        clear e HXS HXT HXn
        go_wp2_with fail
        refine HC.out.mono ?_
        rintro e w5 ⟨rfl, D5, hk5, hd5, hD5, hT5⟩
        have HB5 := hide (HB.out.trans (hT5.below HD.out))
        have HSn5 := hide (HSn.out.turn hT5)
        have HKp5 := hide (show Kp D5.p (catH ((h1 ++ h2).take (k + 1))) (if k + 1 ≤ h1.length then 0 else (catH h1).length) by
          rw [HXA.out, if_pos (by have := HEk.out; omega)]; exact hk5)
        have HDn5 := hide (show D5.p.done ≤ 2 * ((k + 1 : Nat) : Int) by rw [hd5]; omega)
        have HD5 := hide hD5
        have hcv := conv_bytes o.A o.c o.l w5 (fun j hj => by
          obtain ⟨b, off, e, hlt, h0⟩ := (HBy.out.below HB5.out) j hj
          exact ⟨b, off, e, Nat.lt_of_lt_of_le hlt HB5.out.size, h0⟩)
        clear hk5 hd5 hD5 hT5
        go_wp2_with fail
        go_roundw
        case rel => exact ⟨k + 1, D5, HK.out, by go_num, by rw [str_add, HXS2.out], by rw [str_add, HXA.out], HKp5.out, HDn5.out, HD5.out, HSn5.out, HB5.out, HLen.out⟩
        case measure => have := HK.out; simp only [intOf]; omega
      · have HXn2 := hide (HXn.out e)
        have HXT2 := hide (HXT.out (by omega))
        have hce : ((k : Int) == (h1.length : Int)) = true := by rw [beq_iff_eq]; omega
        have hce2 : ¬ (k : Int) < (h1.length : Int) := by omega
        rw [if_pos (by omega)] at HKp
        have HS := hide (kSyn HD.out HKp.out (by omega))
        have HC := hide (fun (D4 : DS) w4 (hT : Below w.heap.size w w4) (x1 : Kp D4.p (catH ((h1 ++ h2).take k)) (catH ((h1 ++ h2).take k)).length) (x2 : D4.p.done = D.p.done + 1) (x3 : DiskAt w.heap.size g w4 D4) => kApp x3 x1 (by omega) (by omega) ((HBy.out.below hT).mono hT.size) HWf.out.n)
        have HEk := hide e
        clear e HXS HXT HXn
        go_wp2_with fail
        refine HS.out.mono ?_
        rintro e w4 ⟨rfl, D4, hk4, hd4, hD4, hT4⟩
        have HB4 := hide (HB.out.trans (hT4.below HD.out))
        have HT4 := hide hT4
        have HC4 := hide (HC.out D4 w4 HB4.out hk4 hd4 hD4)
        have HD4 := hide hD4
        have HDn4 := hide hd4
        clear hk4 hd4 hD4 hT4 HS HC
        go_wp2_with fail
        refine HC4.out.mono ?_
        rintro e w5 ⟨rfl, D5, hk5, hd5, hD5, hT5⟩
        have HB5 := hide (HB4.out.trans (hT5.below HD4.out))
        have HSn5 := hide (HSn.out.turn (HT4.out.trans hT5))
        have HKp5 := hide (show Kp D5.p (catH ((h1 ++ h2).take (k + 1))) (if k + 1 ≤ h1.length then 0 else (catH h1).length) by
          rw [HXA.out, if_neg (by have := HEk.out; omega), ← HXn2.out]; exact hk5)
        have HDn5 := hide (show D5.p.done ≤ 2 * ((k + 1 : Nat) : Int) by rw [hd5, HDn4.out]; omega)
        have HD5 := hide hD5
        have hcv := conv_bytes o.A o.c o.l w5 (fun j hj => by
          obtain ⟨b, off, e, hlt, h0⟩ := (HBy.out.below HB5.out) j hj
          exact ⟨b, off, e, Nat.lt_of_lt_of_le hlt HB5.out.size, h0⟩)
        clear hk5 hd5 hD5 hT5
        go_wp2_with fail
        go_roundw
        case rel => exact ⟨k + 1, D5, HK.out, by go_num, by rw [HXT2.out], by rw [str_add, HXA.out], HKp5.out, HDn5.out, HD5.out, HSn5.out, HB5.out, HLen.out⟩
        case measure => have := HK.out; simp only [intOf]; omega
      · have HXT2 := hide (HXT.out (by omega))
        have hce : ((k : Int) == (h1.length : Int)) = false := by rw [beq_eq_false_iff_ne]; omega
        have hce2 : ¬ (k : Int) < (h1.length : Int) := by omega
        rw [if_neg (by omega)] at HKp
        have HC := hide (kApp HD.out HKp.out (by omega) (by omega) ((HBy.out.below HB.out).mono HB.out.size) HWf.out.n)
        have HEk := hide e
        clear e HXS HXT HXn
        go_wp2_with fail
        refine HC.out.mono ?_
        rintro e w5 ⟨rfl, D5, hk5, hd5, hD5, hT5⟩
        have HB5 := hide (HB.out.trans (hT5.below HD.out))
        have HSn5 := hide (HSn.out.turn hT5)
        have HKp5 := hide (show Kp D5.p (catH ((h1 ++ h2).take (k + 1))) (if k + 1 ≤ h1.length then 0 else (catH h1).length) by
          rw [HXA.out, if_neg (by have := HEk.out; omega)]; exact hk5)
        have HDn5 := hide (show D5.p.done ≤ 2 * ((k + 1 : Nat) : Int) by rw [hd5]; omega)
        have HD5 := hide hD5
        have hcv := conv_bytes o.A o.c o.l w5 (fun j hj => by
          obtain ⟨b, off, e, hlt, h0⟩ := (HBy.out.below HB5.out) j hj
          exact ⟨b, off, e, Nat.lt_of_lt_of_le hlt HB5.out.size, h0⟩)
        clear hk5 hd5 hD5 hT5
        go_wp2_with fail
        go_roundw
        case rel => exact ⟨k + 1, D5, HK.out, by go_num, by rw [HXT2.out], by rw [str_add, HXA.out], HKp5.out, HDn5.out, HD5.out, HSn5.out, HB5.out, HLen.out⟩
        case measure => have := HK.out; simp only [intOf]; omega
    · obtain rfl : k = N := by omega
      have hL : (h1 ++ h2).take k = h1 ++ h2 := List.take_of_length_le (Nat.le_of_eq HLN.out)
      have hL1 : h1.take k = h1 := List.take_of_length_le (by have := HNn.out; omega)
      have hYX : (catH h1).length ≤ (catH (h1 ++ h2)).length := by
        unfold catH
        rw [List.flatMap_append, List.length_append]
        omega
      have hX30 : (catH (h1 ++ h2)).length ≤ 30000 := by rw [hL] at hXl; omega
      have hXY : h2.length = 0 → catH (h1 ++ h2) = catH h1 := fun e => by
        have e2 : h2 = [] := List.eq_nil_of_length_eq_zero e
        rw [e2, List.append_nil]
      rw [hL] at HKp ⊢
      rw [hL1]
      have HXY := hide hXY
      have hkn := HNn.out
      clear hXl HXl hL hL1 hlt hXY HSn HEl HCell hSn HLN HNn
      generalize catH (h1 ++ h2) = X at *
      generalize catH h1 = Y at *
      have HF := hide (fun (Df : DS) (wf : World) (s : Nat) (x1 : Kp Df.p X s) (x2 : DiskAt w.heap.size g wf Df) => crash_any (some ⟨wf.heap.size, 0, none⟩) 3 [9, 9, keep] _ (x2.below (Joins.below_alloc1 wf (.cells (([9, 9, keep] : List Int).map (Value.int .i64)).toArray 3))) x1.calm.ok (keep_new x2 [9, 9, keep]) (by simp) (fun j hj => by
        have hj' : j < 3 := hj
        rcases (by omega : j = 0 ∨ j = 1 ∨ j = 2) with rfl | rfl | rfl
        · exact ⟨(by show (-9223372036854775808 : Int) ≤ 9; decide), (by show (9 : Int) ≤ 9223372036854775807; decide)⟩
        · exact ⟨(by show (-9223372036854775808 : Int) ≤ 9; decide), (by show (9 : Int) ≤ 9223372036854775807; decide)⟩
        · exact ⟨b0, b1⟩))
      by_cases hz : h2.length = 0
      · have hz' : ((h2.length : Int) == 0) = true := by rw [beq_iff_eq]; omega
        obtain rfl := HXY.out hz
        have HS := hide (kSyn HD.out HKp.out (by omega))
        clear hz HXY HKp hkn
        go_wp2_with fail
        refine HS.out.mono ?_
        rintro e w4 ⟨rfl, D4, hk4, hd4, hD4, hT4⟩
        have HB4 := hide (HB.out.trans (hT4.below HD.out))
        have HK4 := hide hk4
        have HD4 := hide hD4
        clear hk4 hd4 hD4 hT4 HS
        have HCr := hide (HF.out _ _ _ HK4.out HD4.out)
        have HKc := hide (kp_crash HK4.out keep (Nat.le_refl _))
        have hv : (X.length : Int) + min (max keep 0) 0 = ((kN X.length X.length keep : Nat) : Int) := by unfold kN; omega
        have HNl := hide (kN_le (s := X.length) (n := X.length) (Nat.le_refl _) keep)
        have HOk := hide HK4.out.calm.ok
        clear HF
        go_wp2_with fail
        refine HCr.out.mono ?_
        rintro e wc ⟨rfl, Dc, ec, hDc, hTc⟩
        have HBc := hide (HB4.out.trans (((Joins.below_alloc1 _ (.cells (([9, 9, keep] : List Int).map (Value.int .i64)).toArray 3)).mono HB4.out.size).trans (hTc.below (HD4.out.below (Joins.below_alloc1 _ _)))))
        have HKd := hide (show checkE Dc.p 2 = 0 ∧ rdL Dc.p 2 = X.take (kN X.length X.length keep) ∧ safeD Dc.p 2 = kN X.length X.length keep ∧ Dc.p.used = kN X.length X.length keep by rw [ec]; exact HKc.out)
        have HOc := hide (show Dc.p.Ok by rw [ec]; exact crash_ok HOk.out _)
        have HRd := hide (read_any 2 wc hDc HOc.out)
        rw [HKd.out.1, HKd.out.2.1] at HRd
        have HDc := hide hDc
        clear ec hDc hTc HCr HKc HOk
        go_wp2_with fail
        refine HRd.out.mono ?_
        rintro e wr2 ⟨⟨Ar, cr, rfl, hby, -, -⟩, hbr⟩
        have HBr := hide (HBc.out.trans (hbr.mono HBc.out.size))
        have HDr := hide (HDc.out.below hbr)
        have HSf := hide (fun w' (h : Below wr2.heap.size wr2 w') => safe_any 2 w' (HDr.out.below h))
        have HUs := hide (fun w' (h : Below wr2.heap.size wr2 w') => used_any w' (HDr.out.below h) HOc.out)
        rw [HKd.out.2.2.1] at HSf
        rw [HKd.out.2.2.2] at HUs
        have hln : (X.take (kN X.length X.length keep)).length = kN X.length X.length keep := by rw [List.length_take]; have := HNl.out; omega
        have HBy2 := hide hby
        have hcv := fun d os => conv_bytes Ar cr (X.take (kN X.length X.length keep)) (Go.Sort.grow (redrawn wr2 d) os) (fun j hj => by
          obtain ⟨b, off, e, hlt, h0⟩ := (HBy2.out.below (below_regrown wr2 d os)) j hj
          exact ⟨b, off, e, Nat.lt_of_lt_of_le hlt (below_regrown wr2 d os).size, h0⟩)
        rw [hln] at hcv ⊢
        clear hby hbr HRd HKd hln
        generalize kN X.length X.length keep = nn at *
        have hnl := HNl.out
        have n0 : (0 : Int) ≤ (nn : Int) := by omega
        have n1 : (nn : Int) ≤ (X.length : Int) := by omega
        have hex : (⟨X.toArray⟩ : ByteArray).extract 0 nn = ⟨(X.take nn).toArray⟩ := by
          apply ByteArray.ext
          simp
        go_wp2_with fail
        refine wp_region_quiet_below (by kernel_rfl) (by kernel_rfl) ?_
        repeat (go_big_quiet_step (first
          | (go_at_call 17; exact Calls.regrown_of (HSf.out _ (below_regrown _ _ _)))
          | (go_at_call 13; exact Calls.regrown_of (HUs.out _ (below_regrown _ _ _)))
          | (go_at_call 8; exact Calls.regrown_of (HAw.out _))))
        refine wpQuiet_nil ?_
        intro _ hw'
        obtain ⟨⟨dq, osq⟩, hw''⟩ := hw'
        subst hw''
        have HBe := hide (HBr.out.trans ((below_regrown wr2 dq osq).mono HBr.out.size))
        go_wp2_with fail
        go_ret
        exact ⟨rfl, HBe.out⟩
      · have hz' : ((h2.length : Int) == 0) = false := by rw [beq_eq_false_iff_ne]; omega
        rw [if_neg (by omega)] at HKp
        clear hz HXY hkn
        have HB4 := HB
        have HK4 := HKp
        have HD4 := HD
        clear HB HKp HD
        have HCr := hide (HF.out _ _ _ HK4.out HD4.out)
        have HKc := hide (kp_crash HK4.out keep hYX)
        have hv : (Y.length : Int) + min (max keep 0) ((X.length : Int) - (Y.length : Int)) = ((kN Y.length X.length keep : Nat) : Int) := by unfold kN; omega
        have HNl := hide (kN_le (s := Y.length) (n := X.length) hYX keep)
        have HOk := hide HK4.out.calm.ok
        clear HF
        go_wp2_with fail
        refine HCr.out.mono ?_
        rintro e wc ⟨rfl, Dc, ec, hDc, hTc⟩
        have HBc := hide (HB4.out.trans (((Joins.below_alloc1 _ (.cells (([9, 9, keep] : List Int).map (Value.int .i64)).toArray 3)).mono HB4.out.size).trans (hTc.below (HD4.out.below (Joins.below_alloc1 _ _)))))
        have HKd := hide (show checkE Dc.p 2 = 0 ∧ rdL Dc.p 2 = X.take (kN Y.length X.length keep) ∧ safeD Dc.p 2 = kN Y.length X.length keep ∧ Dc.p.used = kN Y.length X.length keep by rw [ec]; exact HKc.out)
        have HOc := hide (show Dc.p.Ok by rw [ec]; exact crash_ok HOk.out _)
        have HRd := hide (read_any 2 wc hDc HOc.out)
        rw [HKd.out.1, HKd.out.2.1] at HRd
        have HDc := hide hDc
        clear ec hDc hTc HCr HKc HOk
        go_wp2_with fail
        refine HRd.out.mono ?_
        rintro e wr2 ⟨⟨Ar, cr, rfl, hby, -, -⟩, hbr⟩
        have HBr := hide (HBc.out.trans (hbr.mono HBc.out.size))
        have HDr := hide (HDc.out.below hbr)
        have HSf := hide (fun w' (h : Below wr2.heap.size wr2 w') => safe_any 2 w' (HDr.out.below h))
        have HUs := hide (fun w' (h : Below wr2.heap.size wr2 w') => used_any w' (HDr.out.below h) HOc.out)
        rw [HKd.out.2.2.1] at HSf
        rw [HKd.out.2.2.2] at HUs
        have hln : (X.take (kN Y.length X.length keep)).length = kN Y.length X.length keep := by rw [List.length_take]; have := HNl.out; omega
        have HBy2 := hide hby
        have hcv := fun d os => conv_bytes Ar cr (X.take (kN Y.length X.length keep)) (Go.Sort.grow (redrawn wr2 d) os) (fun j hj => by
          obtain ⟨b, off, e, hlt, h0⟩ := (HBy2.out.below (below_regrown wr2 d os)) j hj
          exact ⟨b, off, e, Nat.lt_of_lt_of_le hlt (below_regrown wr2 d os).size, h0⟩)
        rw [hln] at hcv ⊢
        clear hby hbr HRd HKd hln
        generalize kN Y.length X.length keep = nn at *
        have hnl := HNl.out
        have n0 : (0 : Int) ≤ (nn : Int) := by omega
        have n1 : (nn : Int) ≤ (X.length : Int) := by omega
        have hex : (⟨X.toArray⟩ : ByteArray).extract 0 nn = ⟨(X.take nn).toArray⟩ := by
          apply ByteArray.ext
          simp
        go_wp2_with fail
        refine wp_region_quiet_below (by kernel_rfl) (by kernel_rfl) ?_
        repeat (go_big_quiet_step (first
          | (go_at_call 17; exact Calls.regrown_of (HSf.out _ (below_regrown _ _ _)))
          | (go_at_call 13; exact Calls.regrown_of (HUs.out _ (below_regrown _ _ _)))
          | (go_at_call 8; exact Calls.regrown_of (HAw.out _))))
        refine wpQuiet_nil ?_
        intro _ hw'
        obtain ⟨⟨dq, osq⟩, hw''⟩ := hw'
        subst hw''
        have HBe := hide (HBr.out.trans ((below_regrown wr2 dq osq).mono HBr.out.size))
        go_wp2_with fail
        go_ret
        exact ⟨rfl, HBe.out⟩
end Go.Proofs.Ytohdjhhaceeahab
