/-
  The first day that matches, from one on.
-/
import Derived.Test.YtggaflihblhapaaDoorHTim
namespace Go.Proofs.YtggaflihblhapaaDoor
open Go.RowKit CM HM

/-- A spec in its box. -/
def AtC (w : World) (b : Nat) (c : Sp) : Prop := b < w.heap.size ∧ w.cell? ⟨b, 0, none⟩ = some (.int .u64 (c.S 0 : Nat)) ∧ w.cell? ⟨b, 1, none⟩ = some (.int .u64 (c.S 1 : Nat)) ∧ w.cell? ⟨b, 2, none⟩ = some (.int .u64 (c.S 2 : Nat)) ∧ w.cell? ⟨b, 3, none⟩ = some (.int .u64 (c.S 3 : Nat)) ∧ w.cell? ⟨b, 4, none⟩ = some (.int .u64 (c.S 4 : Nat)) ∧
  w.cell? ⟨b, 5, none⟩ = some (.bool (c.A 0)) ∧ w.cell? ⟨b, 6, none⟩ = some (.bool (c.A 1)) ∧ w.cell? ⟨b, 7, none⟩ = some (.bool (c.A 2)) ∧ w.cell? ⟨b, 8, none⟩ = some (.bool (c.A 3)) ∧ w.cell? ⟨b, 9, none⟩ = some (.bool (c.A 4))
theorem AtC.below {w w' : World} {b B : Nat} {c : Sp} (h : AtC w b c) (hb : Below B w w') (hB : b < B) : AtC w' b c := by
  obtain ⟨z, h0, h1, h2, h3, h4, h5, h6, h7, h8, h9⟩ := h
  refine ⟨Nat.lt_of_lt_of_le z hb.size, ?_, ?_, ?_, ?_, ?_, ?_, ?_, ?_, ?_, ?_⟩
  all_goals
    rw [hb.cell (p := ⟨b, _, none⟩) hB]
    assumption
theorem AtC.on {w w' : World} {b : Nat} {c : Sp} (h : AtC w b c) (hb : Below w.heap.size w w') : AtC w' b c := h.below hb h.1
theorem AtC.box (w : World) (c : Sp) : AtC (boxC w c) w.heap.size c := by
  unfold AtC
  simp
/-- A date in its box. -/
def AtD (w : World) (b : Nat) (x0 x1 x2 x3 x4 x5 : Int) : Prop := b < w.heap.size ∧ w.cell? ⟨b, 0, none⟩ = some (.int .i64 x0) ∧ w.cell? ⟨b, 1, none⟩ = some (.int .i64 x1) ∧ w.cell? ⟨b, 2, none⟩ = some (.int .i64 x2) ∧ w.cell? ⟨b, 3, none⟩ = some (.int .i64 x3) ∧ w.cell? ⟨b, 4, none⟩ = some (.int .i64 x4) ∧ w.cell? ⟨b, 5, none⟩ = some (.int .i64 x5)
theorem AtD.below {w w' : World} {b B : Nat} {x0 x1 x2 x3 x4 x5 : Int} (h : AtD w b x0 x1 x2 x3 x4 x5) (hb : Below B w w') (hB : b < B) : AtD w' b x0 x1 x2 x3 x4 x5 := by
  obtain ⟨z, h0, h1, h2, h3, h4, h5⟩ := h
  refine ⟨Nat.lt_of_lt_of_le z hb.size, ?_, ?_, ?_, ?_, ?_, ?_⟩
  all_goals
    rw [hb.cell (p := ⟨b, _, none⟩) hB]
    assumption
theorem AtD.on {w w' : World} {b : Nat} {x0 x1 x2 x3 x4 x5 : Int} (h : AtD w b x0 x1 x2 x3 x4 x5) (hb : Below w.heap.size w w') : AtD w' b x0 x1 x2 x3 x4 x5 := h.below hb h.1
theorem AtD.box (w : World) (x0 x1 x2 x3 x4 x5 : Int) : AtD (boxD w x0 x1 x2 x3 x4 x5) w.heap.size x0 x1 x2 x3 x4 x5 := by
  unfold AtD
  simp
/-- The first day from a on that matches; none up to z does. -/
def DayIs (c : Sp) (a z : Int) (r : Option Int) : Prop := match r with
  | some x => a ≤ x ∧ x ≤ z + 31 ∧ dayB c x = true ∧ ∀ y, a ≤ y → y < x → dayB c y = false
  | none => ∀ y, a ≤ y → y ≤ z → dayB c y = false
def DayOut (c : Sp) (a z : Int) (w : World) (e : Ending) (w' : World) : Prop := (∃ r, DayIs c a z r ∧ e = .returned (.tuple (match r with | some x => #[.int .i64 x, .bool true] | none => #[.int .i64 0, .bool false]))) ∧ Below w.heap.size w w'
/-- What Of tells of a day's first minute, and what the days behind it are in the same month. -/
theorem day_look (c : Sp) {d : Int} (h0 : 0 ≤ d) (h1 : d ≤ 1491308) : ∃ (y dd hh mm : Int) (k : Nat), k ≤ 11 ∧ 1 ≤ dd ∧ dd ≤ dm y (k + 1) ∧ dd ≤ 31 ∧
    (∀ w, Mon w → Calls Tryd.prog 60 #[.int .i64 (d * 1440)] w fun e w' => e = .returned (.tuple #[vD y ((k : Int) + 1) dd hh mm ((6 + d) % 7), .int .i64 0]) ∧ Below w.heap.size w w') ∧
    ∀ i, 0 ≤ i → i < dm y (k + 1) - dd + 1 → dayB c (d + i) = ((c.S 3).testBit (k + 1) && mdB c (dd + i) ((6 + d + i) % 7)) := by
  have hk := K_spec (n := d * 1440) (by omega)
  have hd := D_bd (n := d * 1440) (by omega)
  refine ⟨Y (d * 1440), D (d * 1440), d * 1440 / 60 % 24, d * 1440 % 60, K (d * 1440), hk.1, hd.1, hd.2.1, hd.2.2, fun w hM => ?_, fun i hi hl => ?_⟩
  · have := of_yes (d * 1440) w (by omega) (by omega) hM
    have e5 : (6 + d * 1440 / 1440) % 7 = (6 + d) % 7 := by omega
    simpa only [vDate, e5] using this
  · obtain ⟨e1, e2, e3⟩ := day_add h0 hi hl
    unfold dayB
    rw [e2, e3, show (6 + (d + i)) % 7 = (6 + d + i) % 7 by omega]
set_option maxHeartbeats 4000000 in
theorem day_any' (c : Sp) (a z : Int) (w : World) (hc : c.wf) (h0 : 0 ≤ a) (ha : a ≤ 1500000) (h1 : z ≤ 1491308) (hM : Mon w) : Calls Tryd.prog 81 #[vC c, .int .i64 a, .int .i64 z] w (DayOut c a z w) := by
  have HC := hide hc
  have HM := hide hM
  clear hc hM
  have HA0 := hide (AtC.box w c)
  have HB0 : Hid (Below w.heap.size w (boxC w c)) := hide ((Below.refl _ _).alloc (Nat.le_refl _) _)
  have HLK := hide (fun d h0 h1 => day_look c (d := d) h0 h1)
  go_enter Tryd.func81, Tryd.ntmps81
  go_wp2_with fail
  obtain ⟨W0, hW0⟩ : ∃ W0, W0 = boxC w c := ⟨_, rfl⟩
  rw [← hW0] at HA0 HB0
  have hW0' := hW0.symm
  simp only [boxC] at hW0'
  rw [hW0']
  clear hW0 hW0'
  have HR := hide (Below.refl W0.heap.size W0)
  go_loopw [8] (fun t wr => ∃ d : Int, a ≤ d ∧ d ≤ 1500000 ∧ (∀ y, a ≤ y → y < d → dayB c y = false) ∧ t = .int .i64 d ∧ Below W0.heap.size W0 wr) (fun t _ => (z + 1 - intOf t).toNat)
  case atStart => exact ⟨a, by omega, ha, fun y h1 h2 => by omega, rfl, HR.out⟩
  case round =>
    obtain ⟨d, hd0, hd1, hno, rfl, hb⟩ := hrel
    have HN := hide hno
    have HBr := hide hb
    have HAr := hide (HA0.out.on hb)
    clear hno hb
    by_cases hle : d ≤ z
    · obtain ⟨y, dd, hh, mm, k, hk, g0, g1, g2, hO, hI⟩ := HLK.out d (by omega) (by omega)
      have HO := hide hO
      have HI := hide hI
      clear hO hI
      go_wp2_with fail
      refine (HO.out _ (HM.out.on (HB0.out.trans (HBr.out.mono HB0.out.size)))).mono ?_
      rintro e w1 ⟨rfl, hb1⟩
      obtain ⟨W2, hW2⟩ : ∃ W2, W2 = boxD w1 y ((k : Int) + 1) dd hh mm ((6 + d) % 7) := ⟨_, rfl⟩
      have HB1 : Hid (Below W0.heap.size W0 W2) := hide (by rw [hW2]; exact Below.alloc (HBr.out.trans (hb1.mono HBr.out.size)) (HBr.out.trans (hb1.mono HBr.out.size)).size _)
      have HAd : Hid (AtD W2 w1.heap.size y ((k : Int) + 1) dd hh mm ((6 + d) % 7)) := hide (by rw [hW2]; exact AtD.box _ _ _ _ _ _ _)
      have HAc := hide (HA0.out.on HB1.out)
      have HM2 := hide (HM.out.on (HB0.out.trans (HB1.out.mono HB0.out.size)))
      clear hb1
      simp only [boxD] at hW2
      have HWE := hide hW2
      clear hW2
      have HDy := hide (fun w hM => (days_any y k w hk hM).mono fun _ _ h => (⟨h.1, h.2.symm⟩ : _ ∧ _))
      have HH := hide (fun w => has_any (c.S 3) ((k : Int) + 1) w (HC.out 3 (by omega)) (by omega) (by omega))
      have hdm := dm_bd y (k + 1)
      obtain ⟨z0, c0, c1, c2, c3, c4, c5, c6, c7, c8, c9⟩ := HAc.out
      obtain ⟨z1, d0, d1, d2, d3, d4, d5⟩ := HAd.out
      have HMd : Hid (∀ n, Mon (W2.drewN n)) := hide (fun n => HM2.out.on (Joins.below_draws _ _ _))
      have e1 : IntKind.i64.wrap (dm y ((k : Int) + 1) - dd) = dm y ((k : Int) + 1) - dd := IntWalk.i64_in _ (by omega)
      have e2 : IntKind.i64.wrap (dm y ((k : Int) + 1) - dd + 1) = dm y ((k : Int) + 1) - dd + 1 := IntWalk.i64_in _ (by omega)
      go_wp2_with fail
      rw [← HWE.out]
      go_quiet ((go_at_call 91; (with_reducible exact Calls.quiet_of_same (HDy.out _ (HMd.out _)))))
      clear e1 e2
      have HBd : Hid (∀ n, Below W0.heap.size W0 (W2.drewN n)) := hide (fun n => HB1.out.trans ((Joins.below_draws _ _ _).mono HB1.out.size))
      cases hb3 : (c.S 3).testBit (k + 1)
      · have HE : Hid (∀ y', a ≤ y' → y' < d + (dm y ((k : Int) + 1) - dd + 1) → dayB c y' = false) := hide (fun y' h1 h2 => by
          by_cases e : y' < d
          · exact HN.out y' h1 e
          · have := HI.out (y' - d) (by omega) (by omega)
            rw [hb3, show d + (y' - d) = y' by omega] at this
            rw [this]; rfl)
        have hH := HH.out
        rw [show ((k : Int) + 1).toNat = k + 1 by omega, hb3] at hH
        have HH' := hide hH
        clear hH HH hb3 HI
        go_wp2_with (go_at_call 51; refine (HH'.out _).mono ?_; rintro e w' ⟨rfl, rfl⟩)
        go_roundw
        case rel => exact ⟨d + (dm y ((k : Int) + 1) - dd + 1), by omega, by omega, HE.out, rfl, HBd.out _⟩
        case measure => simp [intOf]; omega
      · have hH := HH.out
        rw [show ((k : Int) + 1).toNat = k + 1 by omega, hb3] at hH
        have HH' := hide hH
        have HI' : Hid (∀ i, 0 ≤ i → i < dm y ((k : Int) + 1) - dd + 1 → dayB c (d + i) = mdB c (dd + i) ((6 + d + i) % 7)) := hide (fun i h1 h2 => by rw [HI.out i h1 h2, hb3]; simp)
        clear hH HH hb3 HI
        go_wp2_with (go_at_call 51; refine (HH'.out _).mono ?_; rintro e w' ⟨rfl, rfl⟩)
        have HBs : Hid (∀ n, Below W2.heap.size W2 (W2.drewN n)) := hide (fun n => Joins.below_draws _ _ _)
        clear c0 c1 c2 c3 c4 c5 c6 c7 c8 c9 d0 d1 d2 d3 d4 d5
        generalize dm y ((k : Int) + 1) = m at *
        have HMd := hide (fun w d wd h0 h1 h2 h3 => md_any c d wd w HC.out h0 h1 h2 h3)
        go_loopw [39] (fun t wr => ∃ i : Int, 0 ≤ i ∧ i ≤ m - dd + 1 ∧ (∀ j, 0 ≤ j → j < i → dayB c (d + j) = false) ∧ t = .int .i64 i ∧ Below W2.heap.size W2 wr) (fun t _ => (40 - intOf t).toNat)
        case atStart => exact ⟨0, by omega, by omega, fun j h1 h2 => by omega, rfl, HBs.out _⟩
        case round =>
          obtain ⟨i, hi0, hi1, hni, rfl, hb⟩ := hrel
          have HNi := hide hni
          have HBi := hide hb
          clear hni hb
          by_cases hlt : i < m - dd + 1
          · obtain ⟨z2, c0, c1, c2, c3, c4, c5, c6, c7, c8, c9⟩ := HAc.out.below HBi.out z0
            obtain ⟨z3, d0, d1, d2, d3, d4, d5⟩ := HAd.out.below HBi.out z1
            have HX := hide (HI'.out i hi0 hlt)
            have HMi := hide (fun w => HMd.out w (dd + i) ((6 + d + i) % 7) (by omega) (by omega) (by omega) (by omega))
            cases hq : mdB c (dd + i) ((6 + d + i) % 7)
            · rw [hq] at HX HMi
              clear hq
              have HE : Hid (∀ j, 0 ≤ j → j < i + 1 → dayB c (d + j) = false) := hide (fun j h1 h2 => by
                by_cases e : j = i
                · subst e; exact HX.out
                · exact HNi.out j h1 (by omega))
              go_wp2_with fail
              refine (HMi.out _).mono ?_
              rintro e w3 ⟨rfl, hb3⟩
              have HB3 := hide (HBi.out.trans (hb3.mono HBi.out.size))
              clear hb3
              go_wp2_with fail
              go_roundw
              case rel => exact ⟨i + 1, by omega, by omega, HE.out, rfl, HB3.out⟩
              case measure => simp [intOf]; omega
            · rw [hq] at HX HMi
              clear hq
              have HE : Hid (DayIs c a z (some (d + i))) := hide ⟨by omega, by omega, HX.out, fun y' h1 h2 => by
                by_cases e : y' < d
                · exact HN.out y' h1 e
                · have := HNi.out (y' - d) (by omega) (by omega)
                  rw [show d + (y' - d) = y' by omega] at this
                  exact this⟩
              go_wp2_with fail
              refine (HMi.out _).mono ?_
              rintro e w3 ⟨rfl, hb3⟩
              have HB3 := hide (HBi.out.trans (hb3.mono HBi.out.size))
              clear hb3
              go_wp2_with fail
              go_ret2
              exact ⟨⟨_, HE.out, rfl⟩, HB0.out.trans ((HB1.out.trans (HB3.out.mono HB1.out.size)).mono HB0.out.size)⟩
          · have HE : Hid (∀ y', a ≤ y' → y' < d + (m - dd + 1) → dayB c y' = false) := hide (fun y' h1 h2 => by
              by_cases e : y' < d
              · exact HN.out y' h1 e
              · have := HNi.out (y' - d) (by omega) (by omega)
                rw [show d + (y' - d) = y' by omega] at this
                exact this)
            go_wp2_with fail
            go_roundw
            case rel => exact ⟨d + (m - dd + 1), by omega, by omega, HE.out, rfl, HB1.out.trans (HBi.out.mono HB1.out.size)⟩
            case measure => simp [intOf]; omega
    · clear HLK
      have HE : Hid (DayIs c a z none) := hide (fun y h1 h2 => HN.out y h1 (by omega))
      go_wp2_with fail
      go_ret2
      exact ⟨⟨none, HE.out, rfl⟩, HB0.out.trans (HBr.out.mono HB0.out.size)⟩
end Go.Proofs.YtggaflihblhapaaDoor
