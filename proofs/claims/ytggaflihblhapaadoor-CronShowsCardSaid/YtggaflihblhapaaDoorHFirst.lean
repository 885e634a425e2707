/-
  The first minute that matches, from one up to another one; Next.
-/
import Derived.Test.YtggaflihblhapaaDoorHDays
import Derived.Deep.RegionHeld
namespace Go.Proofs.YtggaflihblhapaaDoor
open Go.RowKit CM HM

/-- The first minute from a on up to z that matches, or none does. -/
def FirIs (c : Sp) (a z : Int) (r : Option Int) : Prop := match r with
  | some x => a ≤ x ∧ x ≤ z ∧ matB c x = true ∧ ∀ y, a ≤ y → y < x → matB c y = false
  | none => ∀ y, a ≤ y → y ≤ z → matB c y = false
def FirOut (c : Sp) (a z : Int) (w : World) (e : Ending) (w' : World) : Prop := (∃ r, FirIs c a z r ∧ e = .returned (.tuple (match r with | some x => #[.int .i64 x, .bool true] | none => #[.int .i64 0, .bool false]))) ∧ Below w.heap.size w w'
theorem mat_no_tim {c : Sp} {y : Int} (h : timB c (y % 1440) = false) : matB c y = false := by unfold matB; rw [h]; rfl
theorem mat_no_day {c : Sp} {y : Int} (h : dayB c (y / 1440) = false) : matB c y = false := by unfold matB; rw [h]; simp
theorem mat_at {c : Sp} {x t : Int} (h0 : 0 ≤ t) (h1 : t < 1440) (hd : dayB c x = true) (ht : timB c t = true) : matB c (x * 1440 + t) = true := by
  unfold matB
  rw [show (x * 1440 + t) % 1440 = t by omega, show (x * 1440 + t) / 1440 = x by omega, hd, ht]; rfl
/-- What is found, held against the end. -/
theorem fir_end {c : Sp} {a z m : Int} (h0 : a ≤ m) (h1 : matB c m = true) (h2 : ∀ y, a ≤ y → y < m → matB c y = false) : (m ≤ z → FirIs c a z (some m)) ∧ (z < m → FirIs c a z none) :=
  ⟨fun h => ⟨h0, h, h1, h2⟩, fun h y ha hz => h2 y ha (by omega)⟩
/-- Today: the time that is left matches. -/
theorem fir_today {c : Sp} {a t : Int} (ht : TimIs c (a % 1440) (some t)) (hd : dayB c (a / 1440) = true) : a ≤ a / 1440 * 1440 + t ∧ matB c (a / 1440 * 1440 + t) = true ∧ ∀ y, a ≤ y → y < a / 1440 * 1440 + t → matB c y = false := by
  obtain ⟨h1, h2, h3, h4⟩ := ht
  refine ⟨by omega, mat_at (by omega) h2 hd h3, fun y hy hl => mat_no_tim (h4 _ (by omega) (by omega))⟩
/-- A later day. -/
theorem fir_later {c : Sp} {a x t : Int} (ht : TimIs c 0 (some t)) (hx : a / 1440 < x) (hd : dayB c x = true) (hn : ∀ y, a / 1440 < y → y < x → dayB c y = false) (h0 : dayB c (a / 1440) = false ∨ TimIs c (a % 1440) none) :
    a ≤ x * 1440 + t ∧ matB c (x * 1440 + t) = true ∧ ∀ y, a ≤ y → y < x * 1440 + t → matB c y = false := by
  obtain ⟨h1, h2, h3, h4⟩ := ht
  refine ⟨by omega, mat_at h1 h2 hd h3, fun y hy hl => ?_⟩
  by_cases e1 : y / 1440 = a / 1440
  · rcases h0 with h0 | h0
    · exact mat_no_day (by rw [e1]; exact h0)
    · exact mat_no_tim (h0 _ (by omega) (by omega))
  · by_cases e2 : y / 1440 = x
    · exact mat_no_tim (h4 _ (by omega) (by omega))
    · exact mat_no_day (hn _ (by omega) (by omega))
theorem tim_zero {c : Sp} (hc : c.wf) (hv : validB c = true) : ¬ TimIs c 0 none := by
  intro h
  obtain ⟨b1, _, _⟩ := lst_spec (valid_bits hv (f := 0) (by omega)).1 (hc 0 (by omega))
  obtain ⟨d1, _, _⟩ := lst_spec (valid_bits hv (f := 1) (by omega)).1 (hc 1 (by omega))
  have b2 : lst (c.S 0) ≤ 59 := ((valid_bits hv (f := 0) (by omega)).2.1 _ b1).2
  have d2 : lst (c.S 1) ≤ 23 := ((valid_bits hv (f := 1) (by omega)).2.1 _ d1).2
  have := h ((lst (c.S 1) : Int) * 60 + lst (c.S 0)) (by omega) (by omega)
  unfold timB at this
  rw [show ((lst (c.S 1) : Int) * 60 + lst (c.S 0)) % 60 = (lst (c.S 0) : Nat) by omega, show ((lst (c.S 1) : Int) * 60 + lst (c.S 0)) / 60 = (lst (c.S 1) : Nat) by omega, Int.toNat_natCast, Int.toNat_natCast, b1, d1] at this
  cases this
set_option maxHeartbeats 4000000 in
theorem first_any (c : Sp) (a z : Int) (w : World) (hc : c.wf) (hv : validB c = true) (h0 : 0 ≤ a) (ha : a ≤ 2147483648) (hz : z < 2147483648) (hM : Mon w) (hT : Bru w) : Calls Tryd.prog 59 #[vC c, .int .i64 a, .int .i64 z] w (FirOut c a z w) := by
  have HA0 := hide (AtC.box w c)
  have HB0 : Hid (Below w.heap.size w (boxC w c)) := hide ((Below.refl _ _).alloc (Nat.le_refl _) _)
  by_cases hle : a ≤ z
  · have HT := hide hT
    have HDa := hide (fun w => day_yes a w h0 (by omega))
    have HTa := hide (fun w hT => time_any c (a % 1440) w hc hv (by omega) (by omega) hT)
    have HT0 := hide (fun w hT => time_any c 0 w hc hv (by omega) (by omega) hT)
    have HTn := hide (tim_zero hc hv)
    have HDl := hide (fun w => day_yes z w (by omega) hz)
    have HDy := hide (fun b w h0 h1 hM => day_any' c b (z / 1440) w hc h0 h1 (by omega) hM)
    have HM := hide hM
    have hq : a / 1440 ≤ 1491308 := by omega
    have hq0 : 0 ≤ a / 1440 := by omega
    clear hc hv hM hT
    go_enter Tryd.func59, Tryd.ntmps59
    go_wp2_with fail
    refine (HDa.out _).mono ?_
    rintro e w' ⟨rfl, rfl⟩
    go_wp2_with fail
    refine (HTa.out _ (HT.out.on HB0.out)).mono ?_
    rintro e w1 ⟨⟨rt, hrt, rfl⟩, hb1⟩
    have HB1 := hide (HB0.out.trans (Below.mono hb1 HB0.out.size))
    have HAw := hide (HA0.out.on hb1)
    have HTw := hide (HT.out.on HB1.out)
    have HMw := hide (HM.out.on HB1.out)
    have HRt := hide hrt
    clear hb1 hrt
    cases rt with
    | some tm =>
      have htm0 : 0 ≤ tm := by have := HRt.out.1; omega
      have htm1 : tm < 1440 := HRt.out.2.1
      have HDF := hide (fun w' (hS : Below w1.heap.size w1 w') => HDy.out (a / 1440) w' hq0 (by omega) (HMw.out.on hS))
      clear HDy
      go_wp2_with fail
      refine wp_region_held_drew (S := fun w' => Below w1.heap.size w1 w') (by kernel_rfl) ((Below.refl _ _).drew) (fun hS => ?_)
      refine wpAnyH_take (i := 0) (oi := ⟨some 32, _, _, _, _, _⟩) (v := ?_) rfl (by kernel_rfl) (by kernel_rfl) (by kernel_rfl) (fun _ _ _ h => h) (Or.inl ⟨by rfl, ?_⟩) hS ?_
      rotate_left 1
      · intro w' hw'
        obtain ⟨z9, c0, c1, c2, c3, c4, c5, c6, c7, c8, c9⟩ := HAw.out.on hw'
        go_simp
        all_goals with_reducible rfl
      try simp only [Act.put, List.setIfInBounds_toArray, List.set_cons_zero, List.set_cons_succ]
      refine wpAnyH_take (i := 1) (oi := ⟨some 33, _, _, _, _, _⟩) (v := ?_) rfl (by kernel_rfl) (by kernel_rfl) (by kernel_rfl) (fun _ _ _ h => h) (Or.inl ⟨by rfl, ?_⟩) hS ?_
      rotate_left 1
      · intro w' hw'
        obtain ⟨z9, c0, c1, c2, c3, c4, c5, c6, c7, c8, c9⟩ := HAw.out.on hw'
        go_simp
        all_goals with_reducible rfl
      try simp only [Act.put, List.setIfInBounds_toArray, List.set_cons_zero, List.set_cons_succ]
      refine wpAnyH_take (i := 2) (oi := ⟨some 34, _, _, _, _, _⟩) (v := ?_) rfl (by kernel_rfl) (by kernel_rfl) (by kernel_rfl) (fun _ _ _ h => h) (Or.inl ⟨by rfl, ?_⟩) hS ?_
      rotate_left 1
      · intro w' hw'
        obtain ⟨z9, c0, c1, c2, c3, c4, c5, c6, c7, c8, c9⟩ := HAw.out.on hw'
        go_simp
        all_goals with_reducible rfl
      try simp only [Act.put, List.setIfInBounds_toArray, List.set_cons_zero, List.set_cons_succ]
      refine wpAnyH_ready (rs := [3]) (by kernel_rfl) (by simp) ?_
      refine AllReadyH.cons (o := ⟨some 35, _, _, _, _, _⟩) rfl (fun K hK => ?_) AllReadyH.nil
      go_simp
      go_at_call 79
      refine (HDl.out _).mono ?_
      rintro e w' ⟨rfl, rfl⟩
      refine hK.out _ _ (hS) (fun hS => ?_)
      clear hK K
      try simp only [Act.put, List.setIfInBounds_toArray, List.set_cons_zero, List.set_cons_succ]
      refine wpAnyH_ready (rs := [4]) (by kernel_rfl) (by simp) ?_
      refine AllReadyH.cons (o := ⟨some 36, _, _, _, _, _⟩) rfl (fun K hK => ?_) AllReadyH.nil
      go_simp
      go_at_call 81
      refine (HDF.out _ hS).mono ?_
      rintro e w2 ⟨⟨rd, hrd, rfl⟩, hb2⟩
      have HD := hide hrd
      have hb2 := hS.trans (hb2.mono hS.size)
      clear hrd
      refine hK.out _ _ (hb2) (fun hS => ?_)
      clear hK K
      try simp only [Act.put, List.setIfInBounds_toArray, List.set_cons_zero, List.set_cons_succ]
      have HBw := hide (HB1.out.trans (Below.mono hS HB1.out.size))
      have HAw2 := hide (HAw.out.on hS)
      have HT2 := hide (HTw.out.on hS)
      clear hb2
      cases rd with
      | none =>
        refine wpAnyH_take (i := 5) (oi := ⟨some 31, _, _, _, _, _⟩) (v := ?_) rfl (by kernel_rfl) (by kernel_rfl) (by kernel_rfl) (fun _ _ _ h => h) (Or.inl ⟨by rfl, ?_⟩) hS ?_
        rotate_left 1
        · intro w' hw'
          skip
          go_simp
          all_goals with_reducible rfl
        try simp only [Act.put, List.setIfInBounds_toArray, List.set_cons_zero, List.set_cons_succ]
        refine wpAnyH_take (i := 6) (oi := ⟨some 37, _, _, _, _, _⟩) (v := ?_) rfl (by kernel_rfl) (by kernel_rfl) (by kernel_rfl) (fun _ _ _ h => h) (Or.inl ⟨by rfl, ?_⟩) hS ?_
        rotate_left 1
        · intro w' hw'
          skip
          go_simp
          all_goals with_reducible rfl
        try simp only [Act.put, List.setIfInBounds_toArray, List.set_cons_zero, List.set_cons_succ]
        refine wpAnyH_take (i := 7) (oi := ⟨some 38, _, _, _, _, _⟩) (v := ?_) rfl (by kernel_rfl) (by kernel_rfl) (by kernel_rfl) (fun _ _ _ h => h) (Or.inl ⟨by rfl, ?_⟩) hS ?_
        rotate_left 1
        · intro w' hw'
          skip
          go_simp
          all_goals with_reducible rfl
        try simp only [Act.put, List.setIfInBounds_toArray, List.set_cons_zero, List.set_cons_succ]
        refine wpAnyH_take (i := 8) (oi := ⟨some 12, _, _, _, _, _⟩) (v := ?_) rfl (by kernel_rfl) (by kernel_rfl) (by kernel_rfl) (fun _ _ _ h => h) (Or.inl ⟨by rfl, ?_⟩) hS ?_
        rotate_left 1
        · intro w' hw'
          skip
          go_simp
          all_goals with_reducible rfl
        try simp only [Act.put, List.setIfInBounds_toArray, List.set_cons_zero, List.set_cons_succ]
        refine wpAnyH_take (i := 9) (oi := ⟨some 11, _, _, _, _, _⟩) (v := ?_) rfl (by kernel_rfl) (by kernel_rfl) (by kernel_rfl) (fun _ _ _ h => h) (Or.inl ⟨by rfl, ?_⟩) hS ?_
        rotate_left 1
        · intro w' hw'
          skip
          go_simp
          all_goals with_reducible rfl
        try simp only [Act.put, List.setIfInBounds_toArray, List.set_cons_zero, List.set_cons_succ]
        refine wpAnyH_done (by kernel_rfl) ?_ _
        have HE : Hid (FirIs c a z none) := hide (fun y h1 h2 => mat_no_day (HD.out (y / 1440) (by omega) (by omega)))
        go_wp2_with fail
        go_ret2
        exact ⟨⟨none, HE.out, rfl⟩, HBw.out⟩
      | some x =>
        refine wpAnyH_take (i := 5) (oi := ⟨some 31, _, _, _, _, _⟩) (v := ?_) rfl (by kernel_rfl) (by kernel_rfl) (by kernel_rfl) (fun _ _ _ h => h) (Or.inl ⟨by rfl, ?_⟩) hS ?_
        rotate_left 1
        · intro w' hw'
          skip
          go_simp
          all_goals with_reducible rfl
        try simp only [Act.put, List.setIfInBounds_toArray, List.set_cons_zero, List.set_cons_succ]
        refine wpAnyH_take (i := 6) (oi := ⟨some 37, _, _, _, _, _⟩) (v := ?_) rfl (by kernel_rfl) (by kernel_rfl) (by kernel_rfl) (fun _ _ _ h => h) (Or.inl ⟨by rfl, ?_⟩) hS ?_
        rotate_left 1
        · intro w' hw'
          skip
          go_simp
          all_goals with_reducible rfl
        try simp only [Act.put, List.setIfInBounds_toArray, List.set_cons_zero, List.set_cons_succ]
        refine wpAnyH_take (i := 7) (oi := ⟨some 38, _, _, _, _, _⟩) (v := ?_) rfl (by kernel_rfl) (by kernel_rfl) (by kernel_rfl) (fun _ _ _ h => h) (Or.inl ⟨by rfl, ?_⟩) hS ?_
        rotate_left 1
        · intro w' hw'
          skip
          go_simp
          all_goals with_reducible rfl
        try simp only [Act.put, List.setIfInBounds_toArray, List.set_cons_zero, List.set_cons_succ]
        refine wpAnyH_take (i := 8) (oi := ⟨some 12, _, _, _, _, _⟩) (v := ?_) rfl (by kernel_rfl) (by kernel_rfl) (by kernel_rfl) (fun _ _ _ h => h) (Or.inl ⟨by rfl, ?_⟩) hS ?_
        rotate_left 1
        · intro w' hw'
          skip
          go_simp
          all_goals with_reducible rfl
        try simp only [Act.put, List.setIfInBounds_toArray, List.set_cons_zero, List.set_cons_succ]
        refine wpAnyH_take (i := 9) (oi := ⟨some 11, _, _, _, _, _⟩) (v := ?_) rfl (by kernel_rfl) (by kernel_rfl) (by kernel_rfl) (fun _ _ _ h => h) (Or.inl ⟨by rfl, ?_⟩) hS ?_
        rotate_left 1
        · intro w' hw'
          skip
          go_simp
          all_goals with_reducible rfl
        try simp only [Act.put, List.setIfInBounds_toArray, List.set_cons_zero, List.set_cons_succ]
        refine wpAnyH_done (by kernel_rfl) ?_ _
        obtain ⟨x0, x1, hxd, hxn⟩ := HD.out
        by_cases hx : a / 1440 < x
        · have hxx : ∀ t, TimIs c 0 (some t) → Hid (_) := fun t ht => hide (fir_later ht hx hxd (fun y h1 h2 => hxn y (by omega) h2) (.inl (hxn _ (by omega) hx)))
          have HXX := hide hxx
          clear hxd hxn hxx
          obtain ⟨z9, c0, c1, c2, c3, c4, c5, c6, c7, c8, c9⟩ := HAw2.out
          go_wp2_with fail
          refine (HT0.out _ HT2.out).mono ?_
          rintro e w3 ⟨⟨r0, hr0, rfl⟩, hb3⟩
          have HB3 := hide (HBw.out.trans (Below.mono hb3 HBw.out.size))
          clear hb3 c0 c1 c2 c3 c4 c5 c6 c7 c8 c9
          cases r0 with
          | none => exact absurd hr0 HTn.out
          | some t0 =>
            have ht0 := hr0.1
            have ht1 := hr0.2.1
            have HF := hide (HXX.out t0 hr0).out
            have HE := hide (fir_end (z := z) HF.out.1 HF.out.2.1 HF.out.2.2)
            clear hr0 HXX HF
            by_cases hmz : z < x * 1440 + t0
            · have HE' := hide (HE.out.2 hmz)
              clear HE
              go_wp2_with fail
              go_ret2
              exact ⟨⟨none, HE'.out, rfl⟩, HB3.out⟩
            · have HE' := hide (HE.out.1 (by omega))
              clear HE
              go_wp2_with fail
              go_ret2
              exact ⟨⟨_, HE'.out, rfl⟩, HB3.out⟩
        · obtain rfl : x = a / 1440 := by omega
          have HF := hide (fir_today HRt.out hxd)
          have HE := hide (fir_end (z := z) HF.out.1 HF.out.2.1 HF.out.2.2)
          have HB3 := HBw
          clear hxd hxn HF
          by_cases hmz : z < a / 1440 * 1440 + tm
          · have HE' := hide (HE.out.2 hmz)
            clear HE
            go_wp2_with fail
            go_ret2
            exact ⟨⟨none, HE'.out, rfl⟩, HB3.out⟩
          · have HE' := hide (HE.out.1 (by omega))
            clear HE
            go_wp2_with fail
            go_ret2
            exact ⟨⟨_, HE'.out, rfl⟩, HB3.out⟩
    | none =>
      have HDF := hide (fun w' (hS : Below w1.heap.size w1 w') => HDy.out (a / 1440 + 1) w' (by omega) (by omega) (HMw.out.on hS))
      clear HDy
      go_wp2_with fail
      refine wp_region_held_drew (S := fun w' => Below w1.heap.size w1 w') (by kernel_rfl) ((Below.refl _ _).drew) (fun hS => ?_)
      refine wpAnyH_take (i := 0) (oi := ⟨some 32, _, _, _, _, _⟩) (v := ?_) rfl (by kernel_rfl) (by kernel_rfl) (by kernel_rfl) (fun _ _ _ h => h) (Or.inl ⟨by rfl, ?_⟩) hS ?_
      rotate_left 1
      · intro w' hw'
        obtain ⟨z9, c0, c1, c2, c3, c4, c5, c6, c7, c8, c9⟩ := HAw.out.on hw'
        go_simp
        all_goals with_reducible rfl
      try simp only [Act.put, List.setIfInBounds_toArray, List.set_cons_zero, List.set_cons_succ]
      refine wpAnyH_take (i := 1) (oi := ⟨some 33, _, _, _, _, _⟩) (v := ?_) rfl (by kernel_rfl) (by kernel_rfl) (by kernel_rfl) (fun _ _ _ h => h) (Or.inl ⟨by rfl, ?_⟩) hS ?_
      rotate_left 1
      · intro w' hw'
        obtain ⟨z9, c0, c1, c2, c3, c4, c5, c6, c7, c8, c9⟩ := HAw.out.on hw'
        go_simp
        all_goals with_reducible rfl
      try simp only [Act.put, List.setIfInBounds_toArray, List.set_cons_zero, List.set_cons_succ]
      refine wpAnyH_take (i := 2) (oi := ⟨some 34, _, _, _, _, _⟩) (v := ?_) rfl (by kernel_rfl) (by kernel_rfl) (by kernel_rfl) (fun _ _ _ h => h) (Or.inl ⟨by rfl, ?_⟩) hS ?_
      rotate_left 1
      · intro w' hw'
        obtain ⟨z9, c0, c1, c2, c3, c4, c5, c6, c7, c8, c9⟩ := HAw.out.on hw'
        go_simp
        all_goals with_reducible rfl
      try simp only [Act.put, List.setIfInBounds_toArray, List.set_cons_zero, List.set_cons_succ]
      refine wpAnyH_ready (rs := [3]) (by kernel_rfl) (by simp) ?_
      refine AllReadyH.cons (o := ⟨some 35, _, _, _, _, _⟩) rfl (fun K hK => ?_) AllReadyH.nil
      go_simp
      go_at_call 79
      refine (HDl.out _).mono ?_
      rintro e w' ⟨rfl, rfl⟩
      refine hK.out _ _ (hS) (fun hS => ?_)
      clear hK K
      try simp only [Act.put, List.setIfInBounds_toArray, List.set_cons_zero, List.set_cons_succ]
      refine wpAnyH_ready (rs := [4]) (by kernel_rfl) (by simp) ?_
      refine AllReadyH.cons (o := ⟨some 36, _, _, _, _, _⟩) rfl (fun K hK => ?_) AllReadyH.nil
      go_simp
      go_at_call 81
      refine (HDF.out _ hS).mono ?_
      rintro e w2 ⟨⟨rd, hrd, rfl⟩, hb2⟩
      have HD := hide hrd
      have hb2 := hS.trans (hb2.mono hS.size)
      clear hrd
      refine hK.out _ _ (hb2) (fun hS => ?_)
      clear hK K
      try simp only [Act.put, List.setIfInBounds_toArray, List.set_cons_zero, List.set_cons_succ]
      have HBw := hide (HB1.out.trans (Below.mono hS HB1.out.size))
      have HAw2 := hide (HAw.out.on hS)
      have HT2 := hide (HTw.out.on hS)
      clear hb2
      cases rd with
      | none =>
        refine wpAnyH_take (i := 5) (oi := ⟨some 31, _, _, _, _, _⟩) (v := ?_) rfl (by kernel_rfl) (by kernel_rfl) (by kernel_rfl) (fun _ _ _ h => h) (Or.inl ⟨by rfl, ?_⟩) hS ?_
        rotate_left 1
        · intro w' hw'
          skip
          go_simp
          all_goals with_reducible rfl
        try simp only [Act.put, List.setIfInBounds_toArray, List.set_cons_zero, List.set_cons_succ]
        refine wpAnyH_take (i := 6) (oi := ⟨some 37, _, _, _, _, _⟩) (v := ?_) rfl (by kernel_rfl) (by kernel_rfl) (by kernel_rfl) (fun _ _ _ h => h) (Or.inl ⟨by rfl, ?_⟩) hS ?_
        rotate_left 1
        · intro w' hw'
          skip
          go_simp
          all_goals with_reducible rfl
        try simp only [Act.put, List.setIfInBounds_toArray, List.set_cons_zero, List.set_cons_succ]
        refine wpAnyH_take (i := 7) (oi := ⟨some 38, _, _, _, _, _⟩) (v := ?_) rfl (by kernel_rfl) (by kernel_rfl) (by kernel_rfl) (fun _ _ _ h => h) (Or.inl ⟨by rfl, ?_⟩) hS ?_
        rotate_left 1
        · intro w' hw'
          skip
          go_simp
          all_goals with_reducible rfl
        try simp only [Act.put, List.setIfInBounds_toArray, List.set_cons_zero, List.set_cons_succ]
        refine wpAnyH_take (i := 8) (oi := ⟨some 12, _, _, _, _, _⟩) (v := ?_) rfl (by kernel_rfl) (by kernel_rfl) (by kernel_rfl) (fun _ _ _ h => h) (Or.inl ⟨by rfl, ?_⟩) hS ?_
        rotate_left 1
        · intro w' hw'
          skip
          go_simp
          all_goals with_reducible rfl
        try simp only [Act.put, List.setIfInBounds_toArray, List.set_cons_zero, List.set_cons_succ]
        refine wpAnyH_take (i := 9) (oi := ⟨some 11, _, _, _, _, _⟩) (v := ?_) rfl (by kernel_rfl) (by kernel_rfl) (by kernel_rfl) (fun _ _ _ h => h) (Or.inl ⟨by rfl, ?_⟩) hS ?_
        rotate_left 1
        · intro w' hw'
          skip
          go_simp
          all_goals with_reducible rfl
        try simp only [Act.put, List.setIfInBounds_toArray, List.set_cons_zero, List.set_cons_succ]
        refine wpAnyH_done (by kernel_rfl) ?_ _
        have HE : Hid (FirIs c a z none) := hide (fun y h1 h2 => by
          by_cases e : y / 1440 = a / 1440
          · exact mat_no_tim (HRt.out _ (by omega) (by omega))
          · exact mat_no_day (HD.out (y / 1440) (by omega) (by omega)))
        go_wp2_with fail
        go_ret2
        exact ⟨⟨none, HE.out, rfl⟩, HBw.out⟩
      | some x =>
        refine wpAnyH_take (i := 5) (oi := ⟨some 31, _, _, _, _, _⟩) (v := ?_) rfl (by kernel_rfl) (by kernel_rfl) (by kernel_rfl) (fun _ _ _ h => h) (Or.inl ⟨by rfl, ?_⟩) hS ?_
        rotate_left 1
        · intro w' hw'
          skip
          go_simp
          all_goals with_reducible rfl
        try simp only [Act.put, List.setIfInBounds_toArray, List.set_cons_zero, List.set_cons_succ]
        refine wpAnyH_take (i := 6) (oi := ⟨some 37, _, _, _, _, _⟩) (v := ?_) rfl (by kernel_rfl) (by kernel_rfl) (by kernel_rfl) (fun _ _ _ h => h) (Or.inl ⟨by rfl, ?_⟩) hS ?_
        rotate_left 1
        · intro w' hw'
          skip
          go_simp
          all_goals with_reducible rfl
        try simp only [Act.put, List.setIfInBounds_toArray, List.set_cons_zero, List.set_cons_succ]
        refine wpAnyH_take (i := 7) (oi := ⟨some 38, _, _, _, _, _⟩) (v := ?_) rfl (by kernel_rfl) (by kernel_rfl) (by kernel_rfl) (fun _ _ _ h => h) (Or.inl ⟨by rfl, ?_⟩) hS ?_
        rotate_left 1
        · intro w' hw'
          skip
          go_simp
          all_goals with_reducible rfl
        try simp only [Act.put, List.setIfInBounds_toArray, List.set_cons_zero, List.set_cons_succ]
        refine wpAnyH_take (i := 8) (oi := ⟨some 12, _, _, _, _, _⟩) (v := ?_) rfl (by kernel_rfl) (by kernel_rfl) (by kernel_rfl) (fun _ _ _ h => h) (Or.inl ⟨by rfl, ?_⟩) hS ?_
        rotate_left 1
        · intro w' hw'
          skip
          go_simp
          all_goals with_reducible rfl
        try simp only [Act.put, List.setIfInBounds_toArray, List.set_cons_zero, List.set_cons_succ]
        refine wpAnyH_take (i := 9) (oi := ⟨some 11, _, _, _, _, _⟩) (v := ?_) rfl (by kernel_rfl) (by kernel_rfl) (by kernel_rfl) (fun _ _ _ h => h) (Or.inl ⟨by rfl, ?_⟩) hS ?_
        rotate_left 1
        · intro w' hw'
          skip
          go_simp
          all_goals with_reducible rfl
        try simp only [Act.put, List.setIfInBounds_toArray, List.set_cons_zero, List.set_cons_succ]
        refine wpAnyH_done (by kernel_rfl) ?_ _
        obtain ⟨x0, x1, hxd, hxn⟩ := HD.out
        have hx : a / 1440 < x := by omega
        have hxx : ∀ t, TimIs c 0 (some t) → Hid (_) := fun t ht => hide (fir_later ht hx hxd (fun y h1 h2 => hxn y (by omega) h2) (.inr HRt.out))
        have HXX := hide hxx
        clear hxd hxn hxx
        obtain ⟨z9, c0, c1, c2, c3, c4, c5, c6, c7, c8, c9⟩ := HAw2.out
        go_wp2_with fail
        refine (HT0.out _ HT2.out).mono ?_
        rintro e w3 ⟨⟨r0, hr0, rfl⟩, hb3⟩
        have HB3 := hide (HBw.out.trans (Below.mono hb3 HBw.out.size))
        clear hb3 c0 c1 c2 c3 c4 c5 c6 c7 c8 c9
        cases r0 with
        | none => exact absurd hr0 HTn.out
        | some t0 =>
          have ht0 := hr0.1
          have ht1 := hr0.2.1
          have HF := hide (HXX.out t0 hr0).out
          have HE := hide (fir_end (z := z) HF.out.1 HF.out.2.1 HF.out.2.2)
          clear hr0 HXX HF
          by_cases hmz : z < x * 1440 + t0
          · have HE' := hide (HE.out.2 hmz)
            clear HE
            go_wp2_with fail
            go_ret2
            exact ⟨⟨none, HE'.out, rfl⟩, HB3.out⟩
          · have HE' := hide (HE.out.1 (by omega))
            clear HE
            go_wp2_with fail
            go_ret2
            exact ⟨⟨_, HE'.out, rfl⟩, HB3.out⟩
  · have HE : Hid (FirIs c a z none) := hide (fun y h1 h2 => by omega)
    clear hM hT hc hv
    go_enter Tryd.func59, Tryd.ntmps59
    go_wp2_with fail
    go_ret2
    exact ⟨⟨none, HE.out, rfl⟩, HB0.out⟩
end Go.Proofs.YtggaflihblhapaaDoor
