/-
  The first time of a day that matches, from one on.
-/
import Derived.Test.YtggaflihblhapaaDoorHTime
namespace Go.Proofs.YtggaflihblhapaaDoor
open Go.RowKit CM HM

/-- The first time from t on that matches, or none does. -/
def TimIs (c : Sp) (t : Int) (r : Option Int) : Prop := match r with
  | some x => t ≤ x ∧ x < 1440 ∧ timB c x = true ∧ ∀ y, t ≤ y → y < x → timB c y = false
  | none => ∀ y, t ≤ y → y < 1440 → timB c y = false
theorem up_bits {S n : Nat} (h : upN S n ≠ 0) (hS : S < 18446744073709551616) : n ≤ lst (upN S n) ∧ S.testBit (lst (upN S n)) = true ∧ ∀ m, n ≤ m → m < lst (upN S n) → S.testBit m = false := by
  obtain ⟨h1, _, h2⟩ := lst_spec h (Nat.lt_of_le_of_lt (upN_le S n) hS)
  rw [bit_up] at h1
  simp at h1
  refine ⟨h1.1, h1.2, fun m hm hl => ?_⟩
  have h3 := h2 m hl
  rw [bit_up] at h3
  simp [hm] at h3
  exact h3
theorem tim_here {c : Sp} (hc : c.wf) (hv : validB c = true) {t : Int} (h0 : 0 ≤ t) (h1 : t < 1440) (hu : upN (c.S 0) (t % 60).toNat ≠ 0) (hh : (c.S 1).testBit (t / 60).toNat = true) : TimIs c t (some (t / 60 * 60 + lst (upN (c.S 0) (t % 60).toNat))) := by
  obtain ⟨a1, a2, a3⟩ := up_bits hu (hc 0 (by omega))
  have a4 := (valid_bits hv (f := 0) (by omega)).2.1 _ a2
  have a5 : lst (upN (c.S 0) (t % 60).toNat) ≤ 59 := a4.2
  generalize lst (upN (c.S 0) (t % 60).toNat) = l at *
  refine ⟨by omega, by omega, ?_, fun y hy hl => ?_⟩
  · unfold timB
    rw [show (t / 60 * 60 + (l : Int)) % 60 = l by omega, show (t / 60 * 60 + (l : Int)) / 60 = t / 60 by omega, hh, Int.toNat_natCast, a2]; rfl
  · unfold timB
    rw [show (y % 60).toNat = (y - t / 60 * 60).toNat by omega, a3 _ (by omega) (by omega)]; rfl
theorem tim_next {c : Sp} (hc : c.wf) (hv : validB c = true) {t : Int} (h0 : 0 ≤ t) (h1 : t < 1440) (hn : upN (c.S 0) (t % 60).toNat = 0 ∨ (c.S 1).testBit (t / 60).toNat = false) (hu : upN (c.S 1) (t / 60 + 1).toNat ≠ 0) : TimIs c t (some ((lst (upN (c.S 1) (t / 60 + 1).toNat) : Int) * 60 + lst (c.S 0))) := by
  obtain ⟨a1, a2, a3⟩ := up_bits hu (hc 1 (by omega))
  have a4 := (valid_bits hv (f := 1) (by omega)).2.1 _ a2
  have a5 : lst (upN (c.S 1) (t / 60 + 1).toNat) ≤ 23 := a4.2
  obtain ⟨b1, _, b3⟩ := lst_spec (valid_bits hv (f := 0) (by omega)).1 (hc 0 (by omega))
  have b4 := (valid_bits hv (f := 0) (by omega)).2.1 _ b1
  have b5 : lst (c.S 0) ≤ 59 := b4.2
  generalize lst (upN (c.S 1) (t / 60 + 1).toNat) = l at *
  generalize lst (c.S 0) = k at *
  refine ⟨by omega, by omega, ?_, fun y hy hl => ?_⟩
  · unfold timB
    rw [show ((l : Int) * 60 + (k : Int)) % 60 = k by omega, show ((l : Int) * 60 + (k : Int)) / 60 = l by omega, Int.toNat_natCast, Int.toNat_natCast, a2, b1]; rfl
  · unfold timB
    by_cases e : y / 60 = t / 60
    · rcases hn with hn | hn
      · rw [up_zero hn (by omega)]; rfl
      · rw [e, hn]; simp
    · by_cases e2 : y / 60 = l
      · rw [b3 _ (by omega)]; rfl
      · rw [a3 (y / 60).toNat (by omega) (by omega)]; simp
theorem tim_none {c : Sp} {t : Int} (hn : upN (c.S 0) (t % 60).toNat = 0 ∨ (c.S 1).testBit (t / 60).toNat = false) (hu : upN (c.S 1) (t / 60 + 1).toNat = 0) : TimIs c t none := by
  intro y hy hl
  unfold timB
  by_cases e : y / 60 = t / 60
  · rcases hn with hn | hn
    · rw [up_zero hn (by omega)]; rfl
    · rw [e, hn]; simp
  · rw [up_zero hu (m := (y / 60).toNat) (by omega)]; simp
/-- What timeFrom tells. -/
def TimOut (c : Sp) (t : Int) (w : World) (e : Ending) (w' : World) : Prop := (∃ r, TimIs c t r ∧ e = .returned (.tuple (match r with | some x => #[.int .i64 x, .bool true] | none => #[.int .i64 0, .bool false]))) ∧ Below w.heap.size w w'
set_option maxHeartbeats 2000000 in
theorem time_any (c : Sp) (t : Int) (w : World) (hc : c.wf) (hv : validB c = true) (h0 : 0 ≤ t) (h1 : t < 1440) (hT : Bru w) : Calls Tryd.prog 80 #[vC c, .int .i64 t] w (TimOut c t w) := by
  have HU := hide (fun w => up_any (c.S 0) (t % 60) w (hc 0 (by omega)) (by omega) (by omega))
  have HH := hide (fun w => has_any (c.S 1) (t / 60) w (hc 1 (by omega)) (by omega) (by omega))
  have HU1 := hide (fun w => up_any (c.S 1) (t / 60 + 1) w (hc 1 (by omega)) (by omega) (by omega))
  have HT0 := hide hT
  clear hT
  have HW : Hid (∀ o, Below w.heap.size w (w.alloc o)) := hide (fun o => (Below.refl _ _).alloc (Nat.le_refl _) _)
  have ENEXT : upN (c.S 0) (t % 60).toNat = 0 ∨ (c.S 1).testBit (t / 60).toNat = false → upN (c.S 1) (t / 60 + 1).toNat ≠ 0 → Hid (TimIs c t (some ((lst (upN (c.S 1) (t / 60 + 1).toNat) : Int) * 60 + lst (c.S 0)))) := fun a b => hide (tim_next hc hv h0 h1 a b)
  have ENONE : upN (c.S 0) (t % 60).toNat = 0 ∨ (c.S 1).testBit (t / 60).toNat = false → upN (c.S 1) (t / 60 + 1).toNat = 0 → Hid (TimIs c t none) := fun a b => hide (tim_none a b)
  have HL1 : upN (c.S 1) (t / 60 + 1).toNat ≠ 0 → Hid ((∀ w, Bru w → Calls Tryd.prog 98 #[.int .u64 (upN (c.S 1) (t / 60 + 1).toNat : Nat)] w fun e w' => e = .returned (.int .i64 (lst (upN (c.S 1) (t / 60 + 1).toNat) : Nat)) ∧ w' = w) ∧ lst (upN (c.S 1) (t / 60 + 1).toNat) < 64) := fun h => hide ⟨fun w hT => (least_any _ w h (Nat.lt_of_le_of_lt (upN_le _ _) (hc 1 (by omega))) hT).mono fun _ _ h => ⟨h.1, h.2.symm⟩, (lst_spec h (Nat.lt_of_le_of_lt (upN_le _ _) (hc 1 (by omega)))).2.1⟩
  have HL0 : Hid ((∀ w, Bru w → Calls Tryd.prog 98 #[.int .u64 (c.S 0 : Nat)] w fun e w' => e = .returned (.int .i64 (lst (c.S 0) : Nat)) ∧ w' = w) ∧ lst (c.S 0) < 64) := hide ⟨fun w hT => (least_any _ w (valid_bits hv (f := 0) (by omega)).1 (hc 0 (by omega)) hT).mono fun _ _ h => ⟨h.1, h.2.symm⟩, (lst_spec (valid_bits hv (f := 0) (by omega)).1 (hc 0 (by omega))).2.1⟩
  by_cases hu : upN (c.S 0) (t % 60).toNat = 0
  · have hu' : (((upN (c.S 0) (t % 60).toNat : Nat) : Int) != 0) = false := by simp [hu]
    have HX := hide (ENEXT (.inl hu)); have HY := hide (ENONE (.inl hu))
    clear ENEXT ENONE hu
    generalize upN (c.S 0) (t % 60).toNat = u0 at *
    by_cases hv1 : upN (c.S 1) (t / 60 + 1).toNat = 0
    · have hv' : (((upN (c.S 1) (t / 60 + 1).toNat : Nat) : Int) == 0) = true := by simp [hv1]
      have HZ := hide (HY.out hv1).out
      clear hv1 HL1
      go_enter Tryd.func80, Tryd.ntmps80
      go_wp2_with fail
      refine (HU.out _).mono ?_
      rintro e w' ⟨rfl, rfl⟩
      go_wp2_with fail
      refine (HU1.out _).mono ?_
      rintro e w' ⟨rfl, rfl⟩
      go_wp2_with fail
      go_ret2
      exact ⟨⟨none, HZ.out, rfl⟩, HW.out _⟩
    · have hv' : (((upN (c.S 1) (t / 60 + 1).toNat : Nat) : Int) == 0) = false := by simp; omega
      have HZ := hide (HX.out hv1).out
      have HL := HL1 hv1
      clear hv1 HL1
      go_enter Tryd.func80, Tryd.ntmps80
      go_wp2_with fail
      refine (HU.out _).mono ?_
      rintro e w' ⟨rfl, rfl⟩
      go_wp2_with fail
      refine (HU1.out _).mono ?_
      rintro e w' ⟨rfl, rfl⟩
      obtain ⟨HLa, hl1⟩ := HL.out
      obtain ⟨HLb, hl0⟩ := HL0.out
      have HA1 := hide HLa; have HA0 := hide HLb
      clear HLa HLb HL HL0
      generalize lst (upN (c.S 1) (t / 60 + 1).toNat) = lv at *
      generalize lst (c.S 0) = lk at *
      generalize upN (c.S 1) (t / 60 + 1).toNat = uv at *
      have e1 : IntKind.i64.wrap ((lv : Int) * 60) = (lv : Int) * 60 := IntWalk.i64_in _ (by omega)
      have e2 : IntKind.i64.wrap ((lv : Int) * 60 + (lk : Int)) = (lv : Int) * 60 + (lk : Int) := IntWalk.i64_in _ (by omega)
      have HTd : Hid (∀ a n, Bru (World.drewN (w.alloc a) n)) := hide (fun a n => HT0.out.on (then_below (HW.out a) (Joins.below_draws _ _ _)))
      go_wp2_with fail
      go_quiet ((go_at_call 98; first | (with_reducible exact Calls.quiet_of_same (HA1.out _ (HTd.out _ _))) | (with_reducible exact Calls.quiet_of_same (HA0.out _ (HTd.out _ _)))))
      go_wp2_with fail
      go_ret2
      exact ⟨⟨_, HZ.out, rfl⟩, then_below (HW.out _) (Joins.below_draws _ _ _)⟩
  · have hu' : (((upN (c.S 0) (t % 60).toNat : Nat) : Int) != 0) = true := by simp; omega
    have EHERE : (c.S 1).testBit (t / 60).toNat = true → Hid (TimIs c t (some (t / 60 * 60 + lst (upN (c.S 0) (t % 60).toNat)))) := fun h => hide (tim_here hc hv h0 h1 hu h)
    have HLU : Hid ((∀ w, Bru w → Calls Tryd.prog 98 #[.int .u64 (upN (c.S 0) (t % 60).toNat : Nat)] w fun e w' => e = .returned (.int .i64 (lst (upN (c.S 0) (t % 60).toNat) : Nat)) ∧ w' = w) ∧ lst (upN (c.S 0) (t % 60).toNat) < 64) := hide ⟨fun w hT => (least_any _ w hu (Nat.lt_of_le_of_lt (upN_le _ _) (hc 0 (by omega))) hT).mono fun _ _ h => ⟨h.1, h.2.symm⟩, (lst_spec hu (Nat.lt_of_le_of_lt (upN_le _ _) (hc 0 (by omega)))).2.1⟩
    have HX0 := hide (fun h => ENEXT (.inr h)); have HY0 := hide (fun h => ENONE (.inr h))
    clear ENEXT ENONE hu
    cases hb : (c.S 1).testBit (t / 60).toNat
    · rw [hb] at HH
      have HX := hide (HX0.out hb); have HY := hide (HY0.out hb)
      clear HX0 HY0 EHERE hb HLU
      generalize upN (c.S 0) (t % 60).toNat = u0 at *
      by_cases hv1 : upN (c.S 1) (t / 60 + 1).toNat = 0
      · have hv' : (((upN (c.S 1) (t / 60 + 1).toNat : Nat) : Int) == 0) = true := by simp [hv1]
        have HZ := hide (HY.out hv1).out
        clear hv1 HL1
        go_enter Tryd.func80, Tryd.ntmps80
        go_wp2_with fail
        refine (HU.out _).mono ?_
        rintro e w' ⟨rfl, rfl⟩
        go_wp2_with (go_at_call 51; refine (HH.out _).mono ?_; rintro e w' ⟨rfl, rfl⟩)
        go_wp2_with fail
        refine (HU1.out _).mono ?_
        rintro e w' ⟨rfl, rfl⟩
        go_wp2_with fail
        go_ret2
        exact ⟨⟨none, HZ.out, rfl⟩, HW.out _⟩
      · have hv' : (((upN (c.S 1) (t / 60 + 1).toNat : Nat) : Int) == 0) = false := by simp; omega
        have HZ := hide (HX.out hv1).out
        have HL := HL1 hv1
        clear hv1 HL1
        go_enter Tryd.func80, Tryd.ntmps80
        go_wp2_with fail
        refine (HU.out _).mono ?_
        rintro e w' ⟨rfl, rfl⟩
        go_wp2_with (go_at_call 51; refine (HH.out _).mono ?_; rintro e w' ⟨rfl, rfl⟩)
        go_wp2_with fail
        refine (HU1.out _).mono ?_
        rintro e w' ⟨rfl, rfl⟩
        obtain ⟨HLa, hl1⟩ := HL.out
        obtain ⟨HLb, hl0⟩ := HL0.out
        have HA1 := hide HLa; have HA0 := hide HLb
        clear HLa HLb HL HL0
        generalize lst (upN (c.S 1) (t / 60 + 1).toNat) = lv at *
        generalize lst (c.S 0) = lk at *
        generalize upN (c.S 1) (t / 60 + 1).toNat = uv at *
        have e1 : IntKind.i64.wrap ((lv : Int) * 60) = (lv : Int) * 60 := IntWalk.i64_in _ (by omega)
        have e2 : IntKind.i64.wrap ((lv : Int) * 60 + (lk : Int)) = (lv : Int) * 60 + (lk : Int) := IntWalk.i64_in _ (by omega)
        have HTd : Hid (∀ a n, Bru (World.drewN (w.alloc a) n)) := hide (fun a n => HT0.out.on (then_below (HW.out a) (Joins.below_draws _ _ _)))
        go_wp2_with fail
        go_quiet ((go_at_call 98; first | (with_reducible exact Calls.quiet_of_same (HA1.out _ (HTd.out _ _))) | (with_reducible exact Calls.quiet_of_same (HA0.out _ (HTd.out _ _)))))
        go_wp2_with fail
        go_ret2
        exact ⟨⟨_, HZ.out, rfl⟩, then_below (HW.out _) (Joins.below_draws _ _ _)⟩
    · rw [hb] at HH
      have HZ := hide (EHERE hb).out
      clear HX0 HY0 EHERE hb HL0 HL1
      obtain ⟨HLa, hl1⟩ := HLU.out
      have HA1 := hide HLa
      clear HLa HLU
      generalize lst (upN (c.S 0) (t % 60).toNat) = lv at *
      generalize upN (c.S 0) (t % 60).toNat = uv at *
      go_enter Tryd.func80, Tryd.ntmps80
      go_wp2_with fail
      refine (HU.out _).mono ?_
      rintro e w' ⟨rfl, rfl⟩
      go_wp2_with (go_at_call 51; refine (HH.out _).mono ?_; rintro e w' ⟨rfl, rfl⟩)
      refine (HA1.out _ (HT0.out.on (HW.out _))).mono ?_
      rintro e w' ⟨rfl, hw'⟩
      rw [hw']
      clear hw'
      go_wp2_with fail
      go_ret2
      exact ⟨⟨_, HZ.out, rfl⟩, HW.out _⟩
end Go.Proofs.YtggaflihblhapaaDoor
