/-
  CronBetween, walked.
-/
import Derived.Test.YtldbmkmicaihhaaDoorHPartsW
import Derived.Test.YtldbmkmicaihhaaDoorHRight
import Derived.Test.YtldbmkmicaihhaaDoorHRefT
namespace Go.Proofs.YtldbmkmicaihhaaDoor
open Go.RowKit CM HM

theorem mins_self (c : Sp) (m : Int) : mins c m m = if matB c m = true then [m] else [] := by
  unfold mins
  rw [show (m + 1 - m).toNat = 0 + 1 by omega, minsN_succ]
  try rfl
theorem mins_on (c : Sp) {f m : Int} (h : f + 1 ≤ m) : mins c (f + 1) m = mins c (f + 1) (m - 1) ++ (if matB c m = true then [m] else []) := by
  have h1 := mins_split (c := c) (a := f + 1) (m := m - 1) (z := m) (by omega) (by omega)
  rw [show m - 1 + 1 = m by omega, mins_self] at h1
  exact h1
theorem mins_no {c : Sp} {f m : Int} (h : f + 1 ≤ m) (hm : matB c m = false) : (mins c (f + 1) m).length = (mins c (f + 1) (m - 1)).length := by
  rw [mins_on c h, hm]; simp
theorem mins_yes {c : Sp} {f m t : Int} (h : f + 1 ≤ m) (ht : m ≤ t) (hm : matB c m = true) :
    (mins c (f + 1) (m - 1)).length < (mins c (f + 1) t).length ∧ (mins c (f + 1) t).getD (mins c (f + 1) (m - 1)).length 0 = m ∧ (mins c (f + 1) m).length = (mins c (f + 1) (m - 1)).length + 1 := by
  have h1 : mins c (f + 1) t = mins c (f + 1) m ++ mins c (m + 1) t := mins_split (by omega) ht
  have h2 := mins_on c h
  rw [hm, if_pos rfl] at h2
  refine ⟨?_, ?_, by rw [h2]; simp⟩
  · rw [h1, h2]; simp
  · rw [h1, h2, List.append_assoc, List.getD_eq_getElem?_getD, List.getElem?_append_right (Nat.le_refl _)]
    simp
theorem mins_first (c : Sp) (f : Int) : (mins c (f + 1) f).length = 0 := by
  have := mins_len c (f + 1) f
  omega
set_option maxRecDepth 100000 in
set_option maxHeartbeats 4000000 in
theorem cronBetween_walk (c : Sp) (f t : Int) (w : World) (hc : c.wf) (_ : -9223372036854775808 ≤ f) (_ : f ≤ 9223372036854775807) (_ : -9223372036854775808 ≤ t) (_ : t ≤ 9223372036854775807) (hR : Rd w) : Calls Tryd.prog 7 #[vC c, .int .i64 f, .int .i64 t] w fun e w' => e = .returned (.bool true) ∧ Below w.heap.size w w' := by
  have HBt := hide (fun w hR => bet_any c f t w hc hR)
  have HRt := hide (fun w => right_any c w hc)
  have HRf := hide (fun w => ref_any c w hc)
  have HRm := hide (fun n w h0 h1 => rmatch_any c n w h0 h1)
  have HAw := hide awake_any
  have HR := hide hR
  have HB0 : Hid (Below w.heap.size w (boxC w c)) := hide ((Below.refl _ _).alloc (Nat.le_refl _) _)
  have HA0 := hide (AtC.box w c)
  clear hR hc
  go_enter Tryd.func7, Tryd.ntmps7
  go_wp2_with fail
  refine (HBt.out _ (HR.out.on HB0.out)).mono ?_
  rintro e w1 ⟨ho, hb1⟩
  have HB1 := hide (HB0.out.trans (Below.mono hb1 HB0.out.size))
  have HA1 := hide (HA0.out.on hb1)
  clear hb1
  rcases ho with ⟨hg, hlen, v, rfl, ho⟩ | ⟨hno, rfl⟩
  · obtain ⟨A, cap, rfl, hin⟩ := ints_of_row ho
    have HIN := hide hin
    have HLen := hide hlen
    obtain ⟨hv, g1, g2, g3, g4⟩ := hg
    have HV := hide hv
    clear ho hin hv hlen
    have HS1 : Hid (∀ m : Int, f + 1 ≤ m → matB c m = false → (mins c (f + 1) m).length = (mins c (f + 1) (m - 1)).length) := hide (fun m h hm => mins_no h hm)
    have HS2 : Hid (∀ m : Int, f + 1 ≤ m → m ≤ t → matB c m = true → (mins c (f + 1) (m - 1)).length < (mins c (f + 1) t).length ∧ (mins c (f + 1) t).getD (mins c (f + 1) (m - 1)).length 0 = m ∧ (mins c (f + 1) m).length = (mins c (f + 1) (m - 1)).length + 1) := hide (fun m h ht hm => mins_yes h ht hm)
    have HS3 : Hid ((mins c (f + 1) f).length = 0) := hide (mins_first c f)
    have HS4 : Hid (∀ i : Nat, i = (mins c (f + 1) t).length → ((i : Int) == (((mins c (f + 1) t).length : Nat) : Int)) = true) := hide (fun i h => by rw [h]; simp)
    obtain ⟨z9, d0, d1, d2, d3, d4, d5, d6, d7, d8, d9⟩ := HA1.out
    go_wp2_with fail
    refine (HRt.out _).mono ?_
    rintro e w2 ⟨rfl, hb2⟩
    have HB2 := hide (HB1.out.trans (Below.mono hb2 HB1.out.size))
    have HA2 := hide (HA1.out.on hb2)
    have hin2 := (HIN.out.below hb2).mono hb2.size
    have HIN2 := hide hin2
    clear z9 d0 d1 d2 d3 d4 d5 d6 d7 d8 d9 hb2 hin2 HIN
    rw [HV.out]
    by_cases hbig : 9000 < t - f
    · go_wp2_with fail
      refine (HAw.out _ (HR.out.on HB2.out)).mono ?_
      rintro e wz ⟨rfl, hbz⟩
      have HBz := hide (HB2.out.trans (Below.mono hbz HB2.out.size))
      clear hbz
      go_wp2_with fail
      go_ret
      exact ⟨rfl, HBz.out⟩
    · obtain ⟨z9, d0, d1, d2, d3, d4, d5, d6, d7, d8, d9⟩ := HA2.out
      go_wp2_with fail
      refine (HRf.out _).mono ?_
      rintro e w5 ⟨rfl, hb5⟩
      have hi : (Tryd.prog.info? tF).map (·.size) = some (fCells c).size := by rw [fCells_size]; exact row_size
      have hsc := run_storeCells_new (P := Tryd.prog) w5 tF zCells (fCells c) hi (by rw [fCells_size, zCells_size]) (fCells_one c)
      have hsz := fCells_size c
      have hz := row_zero
      have HB5 : Hid (∀ o : Obj, Below w.heap.size w (w5.alloc o)) := hide (fun o => by
        have := HB2.out.trans (Below.mono hb5 HB2.out.size)
        exact this.alloc this.size o)
      have HIN5 : Hid (∀ o : Obj, IntsAt (w5.heap.size + 1) (w5.alloc o) A (mins c (f + 1) t)) := hide (fun o => by
        have h := (HIN2.out.below hb5).mono hb5.size
        exact (h.below ((Below.refl _ _).alloc (Nat.le_refl _) o)).mono (by omega))
      clear z9 d0 d1 d2 d3 d4 d5 d6 d7 d8 d9 hb5 hi
      go_wp2_with fail
      obtain ⟨W, hW⟩ : ∃ W, W = w5.alloc (.cells (fCells c) tF) := ⟨_, rfl⟩
      have HWB : Hid (Below w.heap.size w W) := hide (by rw [hW]; exact HB5.out _)
      have HWH : Hid (W.heap[w5.heap.size]? = some (.cells (fCells c) tF (0, 0))) := hide (by rw [hW]; exact heap_alloc_last w5 _)
      have HWN : Hid (W.heap.size = w5.heap.size + 1) := hide (by rw [hW]; simp)
      have HWI : Hid (IntsAt W.heap.size W A (mins c (f + 1) t)) := hide (by rw [HWN.out, hW]; exact HIN5.out _)
      rw [← hW]
      have hi : (Tryd.prog.info? tF).map (·.size) = some (fCells c).size := by rw [fCells_size]; exact row_size
      have hu := row_under
      clear hW hsc hsz hz HIN5 HIN2
      go_loopw [10, 11] (fun u v wr => ∃ m : Int, ∃ i : Nat, f + 1 ≤ m ∧ m ≤ t + 1 ∧ i = (mins c (f + 1) (m - 1)).length ∧ u = .int .i64 (i : Nat) ∧ v = .int .i64 m ∧ Below W.heap.size W wr) (fun _ v _ => (t + 1 - intOf v).toNat)
      case atStart => exact ⟨f + 1, 0, by omega, by omega, by rw [show f + 1 - 1 = f by omega]; exact HS3.out.symm, by first | rfl | simp, by first | rfl | simp, Below.refl _ _⟩
      case round =>
        obtain ⟨m, i, hm0, hm1, hil, rfl, rfl, hb⟩ := hrel
        have HIL := hide hil
        have HBr := hide hb
        have HBw := hide (HWB.out.trans (Below.mono hb HWB.out.size))
        have hall0 := (hb.block w5.heap.size (by have := HWN.out; omega)).trans HWH.out
        clear hb hil
        by_cases h1 : m ≤ t
        · have hall := hall0
          clear hall0
          go_wp2_with (refine wpList_load_row rfl tF (.tmp 9) rfl w5.heap.size rfl tF (fCells c) (0, 0) _ hall hu rfl hi ?_)
          refine (HRm.out m _ (by omega) (by omega)).mono ?_
          rintro e w6 ⟨rfl, hb6⟩
          have HB6 := hide (HBr.out.trans (Below.mono hb6 HBr.out.size))
          clear hb6 hall
          cases hq : matB c m
          · have HQ := hide (HS1.out m hm0 hq)
            clear hq
            go_wp2_with fail
            go_round
            case rel => exact ⟨m + 1, i, by omega, by omega, by rw [show m + 1 - 1 = m by omega, HQ.out]; exact HIL.out, by first | rfl | simp, by first | rfl | simp, HB6.out⟩
            case measure => simp [intOf]; omega
          · obtain ⟨q1, q2, q3⟩ := HS2.out m hm0 h1 hq
            rw [← HIL.out] at q1 q2 q3
            obtain ⟨b, off, rfl, hblt, hcell⟩ := HWI.out i q1
            rw [q2] at hcell
            have HQ3 := hide q3
            have hcell6 := (HB6.out.cell (p := ⟨b, off + i, none⟩) hblt).trans hcell
            clear hq q2 q3 hcell hblt
            have hib : (i : Int) + 1 ≤ 10000 := by have := HLen.out; omega
            have hib0 : (0 : Int) ≤ (i : Int) := by omega
            have q1' : ¬ ((((mins c (f + 1) t).length : Nat) : Int) ≤ (i : Int)) := by omega
            go_wp2_with fail
            go_round
            case rel => exact ⟨m + 1, i + 1, by omega, by omega, by rw [show m + 1 - 1 = m by omega, HQ3.out], by first | rfl | go_num | simp, by first | rfl | simp, HB6.out⟩
            case measure => simp [intOf]; omega
        · clear hall0
          obtain rfl : m = t + 1 := by omega
          have HE := hide (HS4.out i (by rw [HIL.out, show t + 1 - 1 = t by omega]))
          have hie : i = (mins c (f + 1) t).length := by rw [HIL.out, show t + 1 - 1 = t by omega]
          generalize (mins c (f + 1) t).length = n at *
          subst hie
          go_wp2_with fail
          refine (HAw.out _ (HR.out.on HBw.out)).mono ?_
          rintro e wz ⟨rfl, hbz⟩
          have HBz := hide (HBw.out.trans (Below.mono hbz HBw.out.size))
          clear hbz
          go_wp2_with fail
          go_ret
          exact ⟨rfl, HBz.out⟩
  · by_cases hg : BetGood c f t
    · have hlong : 9000 < t - f := by
        rcases Int.lt_or_le 9000 (t - f) with h | h
        · exact h
        · exfalso
          have := mins_len c (f + 1) t
          exact hno ⟨hg, by omega⟩
      obtain ⟨hv, g1, g2, g3, g4⟩ := hg
      have HV := hide hv
      clear hno hv
      obtain ⟨z9, d0, d1, d2, d3, d4, d5, d6, d7, d8, d9⟩ := HA1.out
      go_wp2_with fail
      refine (HRt.out _).mono ?_
      rintro e w2 ⟨rfl, hb2⟩
      have HB2 := hide (HB1.out.trans (Below.mono hb2 HB1.out.size))
      have HA2 := hide (HA1.out.on hb2)
      clear z9 d0 d1 d2 d3 d4 d5 d6 d7 d8 d9 hb2
      rw [HV.out]
      go_wp2_with fail
      refine (HAw.out _ (HR.out.on HB2.out)).mono ?_
      rintro e wz ⟨rfl, hbz⟩
      have HBz := hide (HB2.out.trans (Below.mono hbz HB2.out.size))
      clear hbz
      go_wp2_with fail
      go_ret
      exact ⟨rfl, HBz.out⟩
    · have HG := hide hg
      clear hno hg
      obtain ⟨z9, d0, d1, d2, d3, d4, d5, d6, d7, d8, d9⟩ := HA1.out
      go_wp2_with fail
      refine (HRt.out _).mono ?_
      rintro e w2 ⟨rfl, hb2⟩
      have HB2 := hide (HB1.out.trans (Below.mono hb2 HB1.out.size))
      have HA2 := hide (HA1.out.on hb2)
      clear z9 d0 d1 d2 d3 d4 d5 d6 d7 d8 d9 hb2
      cases hv : validB c
      · clear hv
        go_wp2_with fail
        refine (HAw.out _ (HR.out.on HB2.out)).mono ?_
        rintro e wz ⟨rfl, hbz⟩
        have HBz := hide (HB2.out.trans (Below.mono hbz HB2.out.size))
        clear hbz
        go_wp2_with fail
        go_ret
        exact ⟨rfl, HBz.out⟩
      · by_cases e1 : t < f
        · clear hv
          go_wp2_with fail
          refine (HAw.out _ (HR.out.on HB2.out)).mono ?_
          rintro e wz ⟨rfl, hbz⟩
          have HBz := hide (HB2.out.trans (Below.mono hbz HB2.out.size))
          clear hbz
          go_wp2_with fail
          go_ret
          exact ⟨rfl, HBz.out⟩
        · by_cases e2 : f < -1
          · clear hv
            go_wp2_with fail
            refine (HAw.out _ (HR.out.on HB2.out)).mono ?_
            rintro e wz ⟨rfl, hbz⟩
            have HBz := hide (HB2.out.trans (Below.mono hbz HB2.out.size))
            clear hbz
            go_wp2_with fail
            go_ret
            exact ⟨rfl, HBz.out⟩
          · by_cases e3 : t < 0
            · clear hv
              go_wp2_with fail
              refine (HAw.out _ (HR.out.on HB2.out)).mono ?_
              rintro e wz ⟨rfl, hbz⟩
              have HBz := hide (HB2.out.trans (Below.mono hbz HB2.out.size))
              clear hbz
              go_wp2_with fail
              go_ret
              exact ⟨rfl, HBz.out⟩
            · by_cases e4 : 2147483648 ≤ t
              · clear hv
                go_wp2_with fail
                refine (HAw.out _ (HR.out.on HB2.out)).mono ?_
                rintro e wz ⟨rfl, hbz⟩
                have HBz := hide (HB2.out.trans (Below.mono hbz HB2.out.size))
                clear hbz
                go_wp2_with fail
                go_ret
                exact ⟨rfl, HBz.out⟩
              · exact absurd ⟨hv, by omega, by omega, by omega, by omega⟩ HG.out
end Go.Proofs.YtldbmkmicaihhaaDoor
