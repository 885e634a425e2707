/-
  The walk of CalendarMinutes: dates whose numbers are right one by one, and that are no minute's.
-/
import Derived.Test.YtnopejobefkflaaDoorCAwake
import Derived.Test.YtnopejobefkflaaDoorCRef
import Derived.Lib.QuietBelow
namespace Go.Proofs.YtnopejobefkflaaDoor
open Go.RowKit Go.Sort CM

set_option maxHeartbeats 16000000 in
set_option maxRecDepth 100000 in
theorem mins_in (y d h mi wd : Int) (k : Nat) (w : World) (y0 : 2000 ≤ y) (y1 : y ≤ 6083) (hk : k ≤ 11) (g0 : 1 ≤ d) (g1 : d ≤ dm y (k + 1)) (h0 : 0 ≤ h) (h1 : h ≤ 23) (i0 : 0 ≤ mi) (i1 : mi ≤ 59)
    (hfin : 2147483648 ≤ (d - 1 + ys y + cum y k) * 1440 + h * 60 + mi ∨ ((d - 1 + ys y + cum y k) * 1440 + h * 60 + mi < 2147483648 ∧ wd ≠ (d - 1 + ys y + cum y k + 6) % 7))
    (hM : (∀ w', Below w.heap.size w w' → Calls Tryd.prog 12 #[vD y ((k : Int) + 1) d h mi wd] w' fun e w2 => e = .returned (.tuple #[.int .i64 0, .int .i64 30]) ∧ Below w'.heap.size w' w2))
    (hA : (∀ w', Below w.heap.size w w' → Calls Tryd.prog 11 #[] w' fun e w2 => e = .returned (.bool true) ∧ Below w'.heap.size w' w2)) : Calls Tryd.prog 4 #[vD y ((k : Int) + 1) d h mi wd] w fun e w' => e = .returned (.bool true) ∧ Below w.heap.size w w' := by
  have HM := hide hM; have HA := hide hA
  have HD : Hid (∀ w', Below w.heap.size w w' → Calls Tryd.prog 15 #[.int .i64 y, .int .i64 ((k : Int) + 1)] w' fun e w2 => e = .returned (.int .i64 (dm y (k + 1))) ∧ Below w'.heap.size w' w2) := hide (fun w' _ => (rdays_any y k w' hk).mono fun e w2 hh => ⟨hh.1, hh.2 ▸ Below.refl _ _⟩)
  have hd31 := (dm_bd y (k + 1)).2
  have hya := ys_hi y y0
  have hyb := ys_lo y y0
  have hyc : ys y ≤ 1500000 := by omega
  have HFIN := hide hfin
  have HG1 := hide g1
  clear hfin hya hM hA
  have HB0 := hide ((Below.refl w.heap.size w).alloc (Nat.le_refl _) (.cells #[.int .i64 y, .int .i64 ((k : Int) + 1), .int .i64 d, .int .i64 h, .int .i64 mi, .int .i64 wd] 23))
  have k0 : decide (y < 2000) = false := by simp; omega
  have k1 : decide (6083 < y) = false := by simp; omega
  have k2 : decide (((k : Int) + 1) < 1) = false := by simp; omega
  have k3 : decide (12 < ((k : Int) + 1)) = false := by simp; omega
  have k4 : decide (d < 1) = false := by simp; omega
  have k5 : decide (dm y (k + 1) < d) = false := by simp; omega
  have k6 : decide (h < 0) = false := by simp; omega
  have k7 : decide (23 < h) = false := by simp; omega
  have k8 : decide (mi < 0) = false := by simp; omega
  have k9 : decide (59 < mi) = false := by simp; omega
  go_enter Tryd.func4, Tryd.ntmps4
  go_wp2_with fail
  refine (HM.out _ HB0.out).mono ?_
  rintro e w1 ⟨rfl, hb⟩
  obtain ⟨d0, d1, d2, d3, d4, d5⟩ := box_kept hb
  have z1 : w.heap.size < w1.heap.size := by have := hb.size; simp at this; omega
  have HB1 := hide (HB0.out.trans (hb.mono HB0.out.size))
  clear hb
  go_wp2_with fail
  have r0 := fun dn os => cell_regrown d0 dn os
  have r1 := fun dn os => cell_regrown d1 dn os
  have r2 := fun dn os => cell_regrown d2 dn os
  have r3 := fun dn os => cell_regrown d3 dn os
  have r4 := fun dn os => cell_regrown d4 dn os
  have r5 := fun dn os => cell_regrown d5 dn os
  have HG : Hid (∀ dn os, Below w.heap.size w (grow (redrawn w1 dn) os)) := hide fun dn os => HB1.out.trans ((below_regrown w1 dn os).mono HB1.out.size)
  refine wp_region_quiet_below (by kernel_rfl) (by kernel_rfl) ?_
  repeat (go_big_quiet_step (first
      | (go_at_call 15; with_reducible exact Calls.regrown_of (HD.out _ (HG.out _ _)))))
  refine wpQuiet_nil ?_
  intro _ hw'
  obtain ⟨⟨dq, osq⟩, hw''⟩ := hw'
  subst hw''
  obtain ⟨w2, hw2⟩ : ∃ w2, w2 = grow (redrawn w1 dq) osq := ⟨_, rfl⟩
  have HF : Hid (Below w.heap.size w w2) := hide (by rw [hw2]; exact HG.out dq osq)
  have c0 : w2.cell? ⟨w.heap.size, 0, none⟩ = some (.int .i64 y) := by rw [hw2]; exact r0 dq osq
  have c1 : w2.cell? ⟨w.heap.size, 1, none⟩ = some (.int .i64 ((k : Int) + 1)) := by rw [hw2]; exact r1 dq osq
  have c2 : w2.cell? ⟨w.heap.size, 2, none⟩ = some (.int .i64 d) := by rw [hw2]; exact r2 dq osq
  have c3 : w2.cell? ⟨w.heap.size, 3, none⟩ = some (.int .i64 h) := by rw [hw2]; exact r3 dq osq
  have c4 : w2.cell? ⟨w.heap.size, 4, none⟩ = some (.int .i64 mi) := by rw [hw2]; exact r4 dq osq
  have c5 : w2.cell? ⟨w.heap.size, 5, none⟩ = some (.int .i64 wd) := by rw [hw2]; exact r5 dq osq
  clear r0 r1 r2 r3 r4 r5 d0 d1 d2 d3 d4 d5 k0 k1 k2 k3 k4 k5 k6 k7 k8 k9 HG
  rw [← hw2]
  clear hw2
  go_wp2_with fail
  go_loop [5, 6] (fun t u => ∃ z : Int, 2000 ≤ z ∧ z ≤ y ∧ 0 ≤ ys z ∧ ys z ≤ 1500000 ∧ u = .int .i64 z ∧ t = .int .i64 (d - 1 + ys z)) (fun _ u => (7000 - intOf u).toNat)
  case atStart => exact ⟨2000, by omega, by omega, by rw [ys_0]; omega, by rw [ys_0]; omega, rfl, by rw [ys_0]; simp⟩
  case round =>
    obtain ⟨z, hz0, hz1, hz2, hz3, rfl, rfl⟩ := hrel
    by_cases hz : z < y
    · have HL := hide (rleap_any z)
      have HS := hide (ys_succ z hz0)
      have hh : ys (z + 1) ≤ 1500000 := by have := ys_mono (z + 1) y (by omega) (by omega); omega
      have HH := hide hh
      clear hh
      cases hl : leapB z
      · rw [hl] at HL
        have HP : Hid (lp z = 0) := hide (by unfold lp; rw [hl]; rfl)
        clear hl
        go_wp2_with (go_at_call 16; refine (HL.out _).mono ?_; rintro e w' ⟨rfl, rfl⟩)
        go_round
        case rel => exact ⟨z + 1, by omega, by omega, by rw [HS.out, HP.out]; omega, HH.out, rfl, by rw [HS.out, HP.out]; congr 1; omega⟩
        case measure => simp [intOf]; omega
      · rw [hl] at HL
        have HP : Hid (lp z = 1) := hide (by unfold lp; rw [hl]; rfl)
        clear hl
        go_wp2_with (go_at_call 16; refine (HL.out _).mono ?_; rintro e w' ⟨rfl, rfl⟩)
        go_round
        case rel => exact ⟨z + 1, by omega, by omega, by rw [HS.out, HP.out]; omega, HH.out, rfl, by rw [HS.out, HP.out]; congr 1; omega⟩
        case measure => simp [intOf]; omega
    · obtain rfl : z = y := by omega
      clear hz1
      go_wp2_with fail
      go_loop [5, 7] (fun t u => ∃ j : Nat, j ≤ k ∧ 0 ≤ cum z j ∧ cum z j ≤ 400 ∧ u = .int .i64 ((j : Int) + 1) ∧ t = .int .i64 (d - 1 + ys z + cum z j)) (fun _ u => (20 - intOf u).toNat)
      case atStart => exact ⟨0, by omega, by simp [cum], by simp [cum], rfl, by simp [cum]⟩
      case round =>
        obtain ⟨j, hj, hj0, hj1, rfl, rfl⟩ := hrel
        by_cases hjk : j < k
        · have HDj := hide (fun w => rdays_any z j w (by omega))
          have HS := hide (cum_succ z j)
          have hb := dm_bd z (j + 1)
          have hh := cum_hi z (j + 1)
          rw [cum_succ] at hh
          have hh' : cum z j + dm z (j + 1) ≤ 400 := by omega
          clear hh
          go_wp2_with (go_at_call 15; refine (HDj.out _).mono ?_; rintro e w' ⟨rfl, rfl⟩)
          go_round
          case rel => exact ⟨j + 1, by omega, by rw [HS.out]; omega, by rw [HS.out]; omega, by go_num, by rw [HS.out]; congr 1; omega⟩
          case measure => simp [intOf]; omega
        · obtain rfl : j = k := by omega
          rcases HFIN.out with hf | ⟨hf, hw⟩
          · go_wp2_with fail
            refine (HA.out _ HF.out).mono ?_
            rintro e w3 ⟨rfl, hb⟩
            have HB3 := hide (HF.out.trans (hb.mono HF.out.size))
            clear hb
            go_wp2_with fail
            go_ret
            exact ⟨rfl, HB3.out⟩
          · have hw' : (wd != (d - 1 + ys z + cum z j + 6) % 7) = true := by simpa using hw
            clear hw
            go_wp2_with fail
            refine (HA.out _ HF.out).mono ?_
            rintro e w3 ⟨rfl, hb⟩
            have HB3 := hide (HF.out.trans (hb.mono HF.out.size))
            clear hb
            go_wp2_with fail
            go_ret
            exact ⟨rfl, HB3.out⟩
end Go.Proofs.YtnopejobefkflaaDoor
