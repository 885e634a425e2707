/-
  CronNext, walked.
-/
import Derived.Test.YtldbmkmicaihhaaDoorHAwake
import Derived.Test.YtldbmkmicaihhaaDoorHRight
import Derived.Test.YtldbmkmicaihhaaDoorHRefT
namespace Go.Proofs.YtldbmkmicaihhaaDoor
open Go.RowKit CM HM

set_option maxRecDepth 100000 in
set_option maxHeartbeats 4000000 in
theorem cronNext_walk (c : Sp) (a : Int) (w : World) (hc : c.wf) (hlo : -9223372036854775808 ≤ a) (_ : a ≤ 9223372036854775807) (hR : Rd w) : Calls Tryd.prog 6 #[vC c, .int .i64 a] w fun e w' => e = .returned (.bool true) ∧ Below w.heap.size w w' := by
  have HN : Hid (∀ w, Rd w → Calls Tryd.prog 19 #[vC c, .int .i64 a] w (NextOut c a w)) := hide (fun w hR => next_any c a w hc hlo hR.1 hR.2.1 hR.2.2)
  have HRt := hide (fun w => right_any c w hc)
  have HRf := hide (fun w => ref_any c w hc)
  have HRm := hide (fun n w h0 h1 => rmatch_any c n w h0 h1)
  have HAw := hide awake_any
  have HR := hide hR
  have HB0 : Hid (Below w.heap.size w (boxC w c)) := hide ((Below.refl _ _).alloc (Nat.le_refl _) _)
  have HA0 := hide (AtC.box w c)
  have HLo := hide hlo
  clear hR hc hlo
  go_enter Tryd.func6, Tryd.ntmps6
  go_wp2_with fail
  refine (HN.out _ (HR.out.on HB0.out)).mono ?_
  rintro e w1 ⟨⟨r, hr, rfl⟩, hb1⟩
  have HB1 := hide (HB0.out.trans (Below.mono hb1 HB0.out.size))
  have HA1 := hide (HA0.out.on hb1)
  have HX := hide hr
  clear hb1 hr
  obtain ⟨z9, d0, d1, d2, d3, d4, d5, d6, d7, d8, d9⟩ := HA1.out
  cases r with
  | none =>
    go_wp2_with fail
    refine (HRt.out _).mono ?_
    rintro e w2 ⟨rfl, hb2⟩
    have HB2 := hide (HB1.out.trans (Below.mono hb2 HB1.out.size))
    have HA2 := hide (HA1.out.on hb2)
    clear z9 d0 d1 d2 d3 d4 d5 d6 d7 d8 d9 hb2
    cases hv : validB c
    · clear hv
      go_wp2_with fail
      refine (HAw.out _ (HR.out.on HB2.out)).mono ?_
      rintro e w3 ⟨rfl, hb3⟩
      have HB3 := hide (HB2.out.trans (Below.mono hb3 HB2.out.size))
      clear hb3
      go_wp2_with fail
      go_ret
      exact ⟨rfl, HB3.out⟩
    · have HM : Hid (∀ m : Int, 0 ≤ m → a < m → m ≤ 2147483647 → matB c m = false) := hide (fun m h0 h1 h2 => (HX.out.1 ⟨hv, by omega⟩) m (by omega) h2)
      clear hv
      go_wp2_with fail
      go_loopw [8] (fun u wr => ∃ m : Int, 2147480647 ≤ m ∧ m ≤ 2147483647 ∧ u = .int .i64 m ∧ Below w2.heap.size w2 wr) (fun u _ => (intOf u - 2147480000).toNat)
      case atStart => exact ⟨2147483647, by omega, by omega, rfl, Below.refl _ _⟩
      case round =>
        obtain ⟨m, hm0, hm1, rfl, hb⟩ := hrel
        have HBr := hide hb
        have HBw := hide (HB2.out.trans (Below.mono hb HB2.out.size))
        have HAr := hide (HA2.out.on hb)
        clear hb
        by_cases h1 : 2147480647 < m
        · by_cases h2 : a < m
          · obtain ⟨z9, d0, d1, d2, d3, d4, d5, d6, d7, d8, d9⟩ := HAr.out
            have HF := hide (HM.out m (by omega) h2 hm1)
            go_wp2_with fail
            refine (HRf.out _).mono ?_
            rintro e w3 ⟨rfl, hb3⟩
            have HB3 := hide (HBr.out.trans (Below.mono hb3 HBr.out.size))
            clear z9 d0 d1 d2 d3 d4 d5 d6 d7 d8 d9 hb3
            go_wp2_with fail
            refine (HRm.out m _ (by omega) (by omega)).mono ?_
            rintro e w4 ⟨rfl, hb4⟩
            rw [HF.out]
            have HB4 := hide (HB3.out.trans (Below.mono hb4 HB3.out.size))
            clear hb4
            go_wp2_with fail
            go_round
            case rel => exact ⟨m - 1, by omega, by omega, by first | rfl | simp, HB4.out⟩
            case measure => simp [intOf]; omega
          · go_wp2_with fail
            refine (HAw.out _ (HR.out.on HBw.out)).mono ?_
            rintro e w3 ⟨rfl, hb3⟩
            have HB3 := hide (HBw.out.trans (Below.mono hb3 HBw.out.size))
            clear hb3
            go_wp2_with fail
            go_ret
            exact ⟨rfl, HB3.out⟩
        · go_wp2_with fail
          refine (HAw.out _ (HR.out.on HBw.out)).mono ?_
          rintro e w3 ⟨rfl, hb3⟩
          have HB3 := hide (HBw.out.trans (Below.mono hb3 HBw.out.size))
          clear hb3
          go_wp2_with fail
          go_ret
          exact ⟨rfl, HB3.out⟩
  | some x =>
    have hg : validB c = true ∧ a < 2147483647 := Classical.byContradiction fun h => by
      have := HX.out.2 h
      cases this
    obtain ⟨hv, ha⟩ := hg
    have hfir := HX.out.1 ⟨hv, ha⟩
    obtain ⟨x0, x1, x2, x3⟩ := hfir
    have HV := hide hv
    have HX2 := hide x2
    have HX3 : Hid (∀ m : Int, 0 ≤ m → a < m → m < x → matB c m = false) := hide (fun m h0 h1 h2 => x3 m (by omega) h2)
    have hx0 : 0 ≤ x := by omega
    have hx1 : a < x := by omega
    clear hv x0 x2 x3
    go_wp2_with fail
    refine (HRt.out _).mono ?_
    rintro e w2 ⟨rfl, hb2⟩
    rw [HV.out]
    have HB2 := hide (HB1.out.trans (Below.mono hb2 HB1.out.size))
    have HA2 := hide (HA1.out.on hb2)
    clear z9 d0 d1 d2 d3 d4 d5 d6 d7 d8 d9 hb2
    obtain ⟨z9, d0, d1, d2, d3, d4, d5, d6, d7, d8, d9⟩ := HA2.out
    go_wp2_with fail
    refine (HRf.out _).mono ?_
    rintro e w3 ⟨rfl, hb3⟩
    have HB3 := hide (HB2.out.trans (Below.mono hb3 HB2.out.size))
    have HA3 := hide (HA2.out.on hb3)
    clear z9 d0 d1 d2 d3 d4 d5 d6 d7 d8 d9 hb3
    go_wp2_with fail
    refine (HRm.out x _ (by omega) (by omega)).mono ?_
    rintro e w4 ⟨rfl, hb4⟩
    rw [HX2.out]
    have HB4 := hide (HB3.out.trans (Below.mono hb4 HB3.out.size))
    have HA4 := hide (HA3.out.on hb4)
    clear hb4
    obtain ⟨z9, d0, d1, d2, d3, d4, d5, d6, d7, d8, d9⟩ := HA4.out
    go_wp2_with fail
    refine (HRf.out _).mono ?_
    rintro e w5 ⟨rfl, hb5⟩
    clear z9 d0 d1 d2 d3 d4 d5 d6 d7 d8 d9
    have hi : (Tryd.prog.info? tF).map (·.size) = some (fCells c).size := by rw [fCells_size]; exact row_size
    have hsc := run_storeCells_new (P := Tryd.prog) w5 tF zCells (fCells c) hi (by rw [fCells_size, zCells_size]) (fCells_one c)
    have hsz := fCells_size c
    have hz := row_zero
    have HB5 : Hid (∀ o : Obj, Below w.heap.size w (w5.alloc o)) := hide (fun o => by
      have := HB4.out.trans (Below.mono hb5 HB4.out.size)
      exact this.alloc this.size o)
    clear hb5 hi
    go_wp2_with fail
    obtain ⟨W, hW⟩ : ∃ W, W = w5.alloc (.cells (fCells c) tF) := ⟨_, rfl⟩
    have HWB : Hid (Below w.heap.size w W) := hide (by rw [hW]; exact HB5.out _)
    have HWH : Hid (W.heap[w5.heap.size]? = some (.cells (fCells c) tF (0, 0))) := hide (by rw [hW]; exact heap_alloc_last w5 _)
    have HWN : Hid (W.heap.size = w5.heap.size + 1) := hide (by rw [hW]; simp)
    obtain ⟨fr, hfr⟩ : ∃ fr : Int, fr = max a (-1) + 1 := ⟨_, rfl⟩
    rw [← hW, ← hfr]
    have hi : (Tryd.prog.info? tF).map (·.size) = some (fCells c).size := by rw [fCells_size]; exact row_size
    have hu := row_under
    have hf0 : 0 ≤ fr := by omega
    have hf1 : a < fr := by omega
    have hf2 : fr ≤ x := by omega
    clear hW hsc hsz hz hfr
    go_loopw [11] (fun u wr => ∃ m : Int, fr ≤ m ∧ m ≤ x ∧ u = .int .i64 m ∧ Below W.heap.size W wr) (fun u _ => (x - intOf u).toNat)
    case atStart => exact ⟨fr, by omega, by omega, rfl, Below.refl _ _⟩
    case round =>
      obtain ⟨m, hm0, hm1, rfl, hb⟩ := hrel
      have HBr := hide hb
      have HBw := hide (HWB.out.trans (Below.mono hb HWB.out.size))
      have hall0 := (hb.block w5.heap.size (by have := HWN.out; omega)).trans HWH.out
      clear hb
      by_cases h1 : m < x
      · by_cases h2 : m < fr + 3000
        · skip
          have HF := hide (HX3.out m (by omega) (by omega) (by omega))
          have hall := hall0
          clear hall0
          go_wp2_with (refine wpList_load_row rfl tF (.tmp 9) rfl w5.heap.size rfl tF (fCells c) (0, 0) _ hall hu rfl hi ?_)
          refine (HRm.out m _ (by omega) (by omega)).mono ?_
          rintro e w6 ⟨rfl, hb6⟩
          rw [HF.out]
          have HB6 := hide (HBr.out.trans (Below.mono hb6 HBr.out.size))
          clear hb6 hall
          go_wp2_with fail
          go_round
          case rel => exact ⟨m + 1, by omega, by omega, by first | rfl | simp, HB6.out⟩
          case measure => simp [intOf]; omega
        · clear hall0
          go_wp2_with fail
          go_loopw [12] (fun u wr => ∃ m : Int, fr - 1 ≤ m ∧ m ≤ x - 1 ∧ u = .int .i64 m ∧ Below W.heap.size W wr) (fun u _ => (intOf u + 1 - fr).toNat)
          case atStart => exact ⟨x - 1, by omega, by omega, rfl, HBr.out⟩
          case round =>
            clear HBr HBw hm0 hm1
            obtain ⟨m, hm0, hm1, rfl, hb⟩ := hrel
            have HBr := hide hb
            have HBw := hide (HWB.out.trans (Below.mono hb HWB.out.size))
            have hall0 := (hb.block w5.heap.size (by have := HWN.out; omega)).trans HWH.out
            clear hb
            by_cases h1 : fr ≤ m
            · by_cases h2 : x - 3000 < m
              · skip
                have HF := hide (HX3.out m (by omega) (by omega) (by omega))
                have hall := hall0
                clear hall0
                go_wp2_with (refine wpList_load_row rfl tF (.tmp 9) rfl w5.heap.size rfl tF (fCells c) (0, 0) _ hall hu rfl hi ?_)
                refine (HRm.out m _ (by omega) (by omega)).mono ?_
                rintro e w6 ⟨rfl, hb6⟩
                rw [HF.out]
                have HB6 := hide (HBr.out.trans (Below.mono hb6 HBr.out.size))
                clear hb6 hall
                go_wp2_with fail
                go_round
                case rel => exact ⟨m - 1, by omega, by omega, by first | rfl | simp, HB6.out⟩
                case measure => simp [intOf]; omega
              · clear hall0
                go_wp2_with fail
                refine (HAw.out _ (HR.out.on HBw.out)).mono ?_
                rintro e w7 ⟨rfl, hb7⟩
                have HB7 := hide (HBw.out.trans (Below.mono hb7 HBw.out.size))
                clear hb7
                go_wp2_with fail
                go_ret
                exact ⟨rfl, HB7.out⟩
            · clear hall0
              go_wp2_with fail
              refine (HAw.out _ (HR.out.on HBw.out)).mono ?_
              rintro e w7 ⟨rfl, hb7⟩
              have HB7 := hide (HBw.out.trans (Below.mono hb7 HBw.out.size))
              clear hb7
              go_wp2_with fail
              go_ret
              exact ⟨rfl, HB7.out⟩
      · clear hall0
        go_wp2_with fail
        go_loopw [12] (fun u wr => ∃ m : Int, fr - 1 ≤ m ∧ m ≤ x - 1 ∧ u = .int .i64 m ∧ Below W.heap.size W wr) (fun u _ => (intOf u + 1 - fr).toNat)
        case atStart => exact ⟨x - 1, by omega, by omega, rfl, HBr.out⟩
        case round =>
          clear HBr HBw hm0 hm1
          obtain ⟨m, hm0, hm1, rfl, hb⟩ := hrel
          have HBr := hide hb
          have HBw := hide (HWB.out.trans (Below.mono hb HWB.out.size))
          have hall0 := (hb.block w5.heap.size (by have := HWN.out; omega)).trans HWH.out
          clear hb
          by_cases h1 : fr ≤ m
          · by_cases h2 : x - 3000 < m
            · skip
              have HF := hide (HX3.out m (by omega) (by omega) (by omega))
              have hall := hall0
              clear hall0
              go_wp2_with (refine wpList_load_row rfl tF (.tmp 9) rfl w5.heap.size rfl tF (fCells c) (0, 0) _ hall hu rfl hi ?_)
              refine (HRm.out m _ (by omega) (by omega)).mono ?_
              rintro e w6 ⟨rfl, hb6⟩
              rw [HF.out]
              have HB6 := hide (HBr.out.trans (Below.mono hb6 HBr.out.size))
              clear hb6 hall
              go_wp2_with fail
              go_round
              case rel => exact ⟨m - 1, by omega, by omega, by first | rfl | simp, HB6.out⟩
              case measure => simp [intOf]; omega
            · clear hall0
              go_wp2_with fail
              refine (HAw.out _ (HR.out.on HBw.out)).mono ?_
              rintro e w7 ⟨rfl, hb7⟩
              have HB7 := hide (HBw.out.trans (Below.mono hb7 HBw.out.size))
              clear hb7
              go_wp2_with fail
              go_ret
              exact ⟨rfl, HB7.out⟩
          · clear hall0
            go_wp2_with fail
            refine (HAw.out _ (HR.out.on HBw.out)).mono ?_
            rintro e w7 ⟨rfl, hb7⟩
            have HB7 := hide (HBw.out.trans (Below.mono hb7 HBw.out.size))
            clear hb7
            go_wp2_with fail
            go_ret
            exact ⟨rfl, HB7.out⟩
end Go.Proofs.YtldbmkmicaihhaaDoor
