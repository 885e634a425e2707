/-
  The walk of DiskPower.
-/
import Derived.Test.YtohdjhhaceeahabKPow
namespace Go.Proofs.Ytohdjhhaceeahab
open Go.RowKit

theorem oBox_at {w w' : World} {o : OpR} (h : Below (w.alloc (.cells (oCells o) 37)).heap.size (w.alloc (.cells (oCells o) 37)) w') :
    w'.cell? ⟨w.heap.size, 0, none⟩ = some (.int .i64 o.k) ∧ w'.cell? ⟨w.heap.size, 1, none⟩ = some (.int .i64 o.f) ∧ w'.cell? ⟨w.heap.size, 2, none⟩ = some (.int .i64 o.n) ∧ w'.cell? ⟨w.heap.size, 3, none⟩ = some (.slice o.dA o.dl.length o.dc) ∧ w'.cell? ⟨w.heap.size, 4, none⟩ = some (.slice o.kA o.kl.length o.kc) := by
  have hz : (w.alloc (.cells (oCells o) 37)).heap.size = w.heap.size + 1 := by simp
  have k := (h.block w.heap.size (by omega)).trans (heap_alloc_new w _)
  exact ⟨Lib.cell_of_heap k 0, Lib.cell_of_heap k 1, Lib.cell_of_heap k 2, Lib.cell_of_heap k 3, Lib.cell_of_heap k 4⟩
set_option maxHeartbeats 3200000 in
set_option maxRecDepth 100000 in
theorem diskPower_walk (A : Option Addr) (c : Nat) (l : List OpR) (arm : Int) (w : World) (hO : OpsAt w.heap.size w A l) (hw : WfOs l) (a0 : -9223372036854775808 ≤ arm) (a1 : arm ≤ 9223372036854775807) :
    Calls Try.prog 6 #[.slice A l.length c, .int .i64 arm] w fun e w' => e = .returned (.bool true) ∧ Below w.heap.size w w' := by
  have HAw := hide (fun w' => awake_any w')
  have HNew := hide (new_yes 1048576 w rfl)
  have HO := hide hO
  have HW := hide hw
  have hl := hw.1
  unfold maxLen at hl
  have HSm := hide (fun w' (h : Below w.heap.size w w') => small_any A c l 60 w' (fun j hj => by
    obtain ⟨b, off, e, hlt, h0⟩ := (HO.out.below h) j hj
    exact ⟨b, off, e, Nat.lt_of_lt_of_le hlt h.size, h0.c0, h0.c1, h0.c2, h0.c3, h0.c4, h0.d.mono h.size, h0.k.mono h.size⟩) HW.out)
  clear hO hw
  cases hs : smallO l 60
  · rw [hs] at HSm
    clear hs
    go_enter Try.func6, Try.ntmps6
    go_wp2_with fail
    refine HNew.out.mono ?_
    rintro e w1 ⟨⟨g, rfl, hD0⟩, hb1⟩
    have HB1 := hide hb1
    clear hD0 hb1 HNew
    go_wp2_with fail
    refine (HSm.out _ HB1.out).mono ?_
    rintro e w2 ⟨rfl, hb2⟩
    have HB2 := hide (HB1.out.trans (hb2.mono HB1.out.size))
    clear hb2
    go_wp2_with fail
    refine (HAw.out _).mono ?_
    rintro e wa ⟨rfl, hba⟩
    have HBA := hide (HB2.out.trans (hba.mono HB2.out.size))
    clear hba
    go_wp2_with fail
    go_ret
    exact ⟨rfl, HBA.out⟩
  obtain ⟨hlen, hsz⟩ := smallO_at hs
  rw [hs] at HSm
  have HSz := hide hsz
  clear hs hsz
  go_enter Try.func6, Try.ntmps6
  go_wp2_with fail
  refine HNew.out.mono ?_
  rintro e w1 ⟨⟨g, rfl, hD0⟩, hb1⟩
  have HB1 := hide hb1
  have HD0 := hide hD0
  clear hD0 hb1 HNew
  go_wp2_with fail
  refine (HSm.out _ HB1.out).mono ?_
  rintro e w2 ⟨rfl, hb2⟩
  have HB2 := hide (HB1.out.trans (hb2.mono HB1.out.size))
  have HArm := hide (arm_any arm w2 (HD0.out.below hb2))
  have HD2 := hide (HD0.out.below hb2)
  clear hb2 HSm
  go_wp2_with fail
  refine HArm.out.mono ?_
  rintro e w3 ⟨rfl, D3, e3, -, hD3, hT3⟩
  have HSt := hide (show ∃ D : DS, Pow arm D.p ∧ D.p.done ≤ 0 ∧ DiskAt w.heap.size g w3 D ∧ Below w.heap.size w w3 from ⟨D3, by rw [e3]; exact pow_new rfl a0 a1, by rw [e3]; exact Int.le_refl _, hD3, HB2.out.trans (hT3.below HD2.out)⟩)
  clear e3 hD3 hT3 HArm HD2 HD0 HB1 HB2
  go_wp2_with fail
  go_loopw [28] (fun i wr => ∃ (k : Nat) (D : DS), k ≤ l.length ∧ i = .int .i64 k ∧ Pow arm D.p ∧ D.p.done ≤ k ∧ DiskAt w.heap.size g wr D ∧ Below w.heap.size w wr) (fun i _ => l.length - (intOf i).toNat)
  case atStart =>
    obtain ⟨D, h1, h2, h3, h4⟩ := HSt.out
    exact ⟨0, D, Nat.zero_le _, rfl, h1, h2, h3, h4⟩
  case round =>
    obtain ⟨k, D, hk, rfl, hP, hdn, hD, hbw⟩ := hrel
    have HP := hide hP
    have HD := hide hD
    have HB := hide hbw
    clear HSt hP hD
    by_cases hlt : k < l.length
    · have HK := hide hlt
      obtain ⟨b, off, rfl, hbb, hx⟩ := (HO.out.below hbw) k hlt
      have hsm := (HSz.out k hlt).1
      have hwk := HW.out.2 k hlt
      have hs1 := hbw.size
      generalize l.getD k dO = o at *
      have g0 := hx.c0; have g1 := hx.c1; have g2 := hx.c2; have g3 := hx.c3; have g4 := hx.c4
      have hb' : b < wr.heap.size := Nat.lt_of_lt_of_le hbb hs1
      have hal := Joins.below_alloc1 wr (.cells (oCells o) 37)
      have HAl := hide hal
      have HDt := hide ((hx.d.mono hs1).on hal)
      have HWk := hide hwk
      have HDn0 := hide (down_any _ (HD.out.below hal))
      have HBox := hide (fun w' => oBox_at (w := wr) (o := o) (w' := w'))
      obtain ⟨dd, hdd⟩ : ∃ x, x = D.p.down := ⟨_, rfl⟩
      rw [← hdd] at HDn0
      have HDD := hide hdd
      clear hdd
      clear hx hwk hbw hal
      go_wp2_with fail
      refine HDn0.out.mono ?_
      rintro e w3 ⟨rfl, hb3⟩
      have HBx := hide (HBox.out _ hb3)
      have HD3 := hide ((HD.out.below HAl.out).below hb3)
      have HB3 := hide ((HB.out.trans (HAl.out.mono HB.out.size)).trans (hb3.mono (Nat.le_trans HB.out.size HAl.out.size)))
      have HDt3 := hide (HDt.out.on hb3)
      obtain ⟨b0, b1, b2, b3, b4⟩ := HBx.out
      have hbs3 : wr.heap.size < w3.heap.size := by have := hb3.size; simp at this; omega
      clear hb3 HDn0 HDt g0 g1 g2 g3 g4 HBox HAl
      by_cases k1 : o.k = 1
      · have q1 : (o.k == 1) = true := by rw [beq_iff_eq]; exact k1
        clear k1
        have HCl := hide (pApp (A := o.dA) (c := o.dc) (ys := o.dl) (n := o.f) HD3.out HP.out (by omega) HDt3.out HWk.out.dn (by omega))
        clear b0 b1 b2 b3 b4
        obtain ⟨b0, b1, b2, b3, b4⟩ := HBx.out
        go_wp2_with fail
        refine HCl.out.mono ?_
        rintro e w4 ⟨r, D4, rfl, hT, hD4, hT4⟩
        clear HCl b0 b1 b2 b3 b4
        have HP4 := hide hT.pow
        have hi4 := hT.iff
        have hwas := hT.was
        have HDn4 := hide (show D4.p.done ≤ ((k + 1 : Nat) : Int) by have := hT.done; omega)
        have HD4 := hide hD4
        have HB4 := hide (HB3.out.trans (hT4.below HD3.out))
        have HDn := hide (fun w' (h : Below w4.heap.size w4 w') => down_any w' (HD4.out.below h))
        have HDo := hide (fun w' (h : Below w4.heap.size w4 w') => done_any w' (HD4.out.below h))
        have hpos := HP4.out.pos
        have hneg := HP4.out.neg
        rw [← HDD.out] at hwas
        obtain ⟨dd4, hdd4⟩ : ∃ b, b = D4.p.down := ⟨_, rfl⟩
        rw [← hdd4] at HDn hi4 hpos hneg
        clear hT hD4 hT4 hdd4
        by_cases ha : 0 ≤ arm
        · have hpa := (hpos ha).2.2
          have ha2 : ¬ arm < 0 := by omega
          have hpa2 : ¬ arm < D4.p.done := by omega
          clear hpos hneg hpa
          cases dd
          · cases dd4
            · have hr : (r == 40) = false := by rw [beq_eq_false_iff_ne]; intro e; have := hi4.2 e; cases this
              clear hi4 hwas
              go_wp2_with fail
              refine (HDo.out _ (Below.refl _ _)).mono ?_
              rintro e w5 ⟨rfl, hb5⟩
              have HB5 := hide hb5
              clear hb5
              go_wp2_with fail
              refine (HDn.out _ HB5.out).mono ?_
              rintro e w6 ⟨rfl, hb6⟩
              have HB56 := hide (then_below HB5.out hb6)
              have HB6 := hide (HB4.out.trans (HB56.out.mono HB4.out.size))
              have HD6 := hide (HD4.out.below HB56.out)
              clear hb6
              go_wp2_with fail
              go_roundw
              case rel => exact ⟨k + 1, D4, HK.out, by go_num, HP4.out, HDn4.out, HD6.out, HB6.out⟩
              case measure => have := HK.out; simp only [intOf]; omega
            · obtain rfl := hi4.1 rfl
              clear hi4 hwas
              go_wp2_with fail
              refine (HDo.out _ (Below.refl _ _)).mono ?_
              rintro e w5 ⟨rfl, hb5⟩
              have HB5 := hide hb5
              clear hb5
              go_wp2_with fail
              refine (HDn.out _ HB5.out).mono ?_
              rintro e w6 ⟨rfl, hb6⟩
              have HB56 := hide (then_below HB5.out hb6)
              have HB6 := hide (HB4.out.trans (HB56.out.mono HB4.out.size))
              have HD6 := hide (HD4.out.below HB56.out)
              clear hb6
              go_wp2_with fail
              go_roundw
              case rel => exact ⟨k + 1, D4, HK.out, by go_num, HP4.out, HDn4.out, HD6.out, HB6.out⟩
              case measure => have := HK.out; simp only [intOf]; omega
          · obtain rfl := hwas rfl
            obtain rfl := hi4.2 rfl
            clear hi4 hwas
            go_wp2_with fail
            refine (HDo.out _ (Below.refl _ _)).mono ?_
            rintro e w5 ⟨rfl, hb5⟩
            have HB5 := hide hb5
            clear hb5
            go_wp2_with fail
            refine (HDn.out _ HB5.out).mono ?_
            rintro e w6 ⟨rfl, hb6⟩
            have HB56 := hide (then_below HB5.out hb6)
            have HB6 := hide (HB4.out.trans (HB56.out.mono HB4.out.size))
            have HD6 := hide (HD4.out.below HB56.out)
            clear hb6
            go_wp2_with fail
            go_roundw
            case rel => exact ⟨k + 1, D4, HK.out, by go_num, HP4.out, HDn4.out, HD6.out, HB6.out⟩
            case measure => have := HK.out; simp only [intOf]; omega
        · have ha2 : arm < 0 := by omega
          have hdf := (hneg ha2).1
          subst hdf
          have hr : (r == 40) = false := by rw [beq_eq_false_iff_ne]; intro e; have := hi4.2 e; cases this
          clear hpos hneg hi4
          cases dd
          · clear hwas
            go_wp2_with fail
            refine (HDn.out _ (Below.refl _ _)).mono ?_
            rintro e w5 ⟨rfl, hb5⟩
            have HB5 := hide hb5
            clear hb5
            go_wp2_with fail
            refine (HDn.out _ HB5.out).mono ?_
            rintro e w6 ⟨rfl, hb6⟩
            have HB56 := hide (then_below HB5.out hb6)
            have HB6 := hide (HB4.out.trans (HB56.out.mono HB4.out.size))
            have HD6 := hide (HD4.out.below HB56.out)
            clear hb6
            go_wp2_with fail
            go_roundw
            case rel => exact ⟨k + 1, D4, HK.out, by go_num, HP4.out, HDn4.out, HD6.out, HB6.out⟩
            case measure => have := HK.out; simp only [intOf]; omega
          · exfalso
            have := hwas rfl
            rw [beq_eq_false_iff_ne] at hr
            exact hr this
      have q1 : (o.k == 1) = false := by rw [beq_eq_false_iff_ne]; exact k1
      by_cases k2 : o.k = 2
      · have q2 : (o.k == 2) = true := by rw [beq_iff_eq]; exact k2
        clear k1 k2
        have HCl := hide (pSyn (n := o.f) HD3.out HP.out (by omega))
        clear b0 b1 b2 b3 b4
        obtain ⟨b0, b1, b2, b3, b4⟩ := HBx.out
        go_wp2_with fail
        refine HCl.out.mono ?_
        rintro e w4 ⟨r, D4, rfl, hT, hD4, hT4⟩
        clear HCl b0 b1 b2 b3 b4
        have HP4 := hide hT.pow
        have hi4 := hT.iff
        have hwas := hT.was
        have HDn4 := hide (show D4.p.done ≤ ((k + 1 : Nat) : Int) by have := hT.done; omega)
        have HD4 := hide hD4
        have HB4 := hide (HB3.out.trans (hT4.below HD3.out))
        have HDn := hide (fun w' (h : Below w4.heap.size w4 w') => down_any w' (HD4.out.below h))
        have HDo := hide (fun w' (h : Below w4.heap.size w4 w') => done_any w' (HD4.out.below h))
        have hpos := HP4.out.pos
        have hneg := HP4.out.neg
        rw [← HDD.out] at hwas
        obtain ⟨dd4, hdd4⟩ : ∃ b, b = D4.p.down := ⟨_, rfl⟩
        rw [← hdd4] at HDn hi4 hpos hneg
        clear hT hD4 hT4 hdd4
        by_cases ha : 0 ≤ arm
        · have hpa := (hpos ha).2.2
          have ha2 : ¬ arm < 0 := by omega
          have hpa2 : ¬ arm < D4.p.done := by omega
          clear hpos hneg hpa
          cases dd
          · cases dd4
            · have hr : (r == 40) = false := by rw [beq_eq_false_iff_ne]; intro e; have := hi4.2 e; cases this
              clear hi4 hwas
              go_wp2_with fail
              refine (HDo.out _ (Below.refl _ _)).mono ?_
              rintro e w5 ⟨rfl, hb5⟩
              have HB5 := hide hb5
              clear hb5
              go_wp2_with fail
              refine (HDn.out _ HB5.out).mono ?_
              rintro e w6 ⟨rfl, hb6⟩
              have HB56 := hide (then_below HB5.out hb6)
              have HB6 := hide (HB4.out.trans (HB56.out.mono HB4.out.size))
              have HD6 := hide (HD4.out.below HB56.out)
              clear hb6
              go_wp2_with fail
              go_roundw
              case rel => exact ⟨k + 1, D4, HK.out, by go_num, HP4.out, HDn4.out, HD6.out, HB6.out⟩
              case measure => have := HK.out; simp only [intOf]; omega
            · obtain rfl := hi4.1 rfl
              clear hi4 hwas
              go_wp2_with fail
              refine (HDo.out _ (Below.refl _ _)).mono ?_
              rintro e w5 ⟨rfl, hb5⟩
              have HB5 := hide hb5
              clear hb5
              go_wp2_with fail
              refine (HDn.out _ HB5.out).mono ?_
              rintro e w6 ⟨rfl, hb6⟩
              have HB56 := hide (then_below HB5.out hb6)
              have HB6 := hide (HB4.out.trans (HB56.out.mono HB4.out.size))
              have HD6 := hide (HD4.out.below HB56.out)
              clear hb6
              go_wp2_with fail
              go_roundw
              case rel => exact ⟨k + 1, D4, HK.out, by go_num, HP4.out, HDn4.out, HD6.out, HB6.out⟩
              case measure => have := HK.out; simp only [intOf]; omega
          · obtain rfl := hwas rfl
            obtain rfl := hi4.2 rfl
            clear hi4 hwas
            go_wp2_with fail
            refine (HDo.out _ (Below.refl _ _)).mono ?_
            rintro e w5 ⟨rfl, hb5⟩
            have HB5 := hide hb5
            clear hb5
            go_wp2_with fail
            refine (HDn.out _ HB5.out).mono ?_
            rintro e w6 ⟨rfl, hb6⟩
            have HB56 := hide (then_below HB5.out hb6)
            have HB6 := hide (HB4.out.trans (HB56.out.mono HB4.out.size))
            have HD6 := hide (HD4.out.below HB56.out)
            clear hb6
            go_wp2_with fail
            go_roundw
            case rel => exact ⟨k + 1, D4, HK.out, by go_num, HP4.out, HDn4.out, HD6.out, HB6.out⟩
            case measure => have := HK.out; simp only [intOf]; omega
        · have ha2 : arm < 0 := by omega
          have hdf := (hneg ha2).1
          subst hdf
          have hr : (r == 40) = false := by rw [beq_eq_false_iff_ne]; intro e; have := hi4.2 e; cases this
          clear hpos hneg hi4
          cases dd
          · clear hwas
            go_wp2_with fail
            refine (HDn.out _ (Below.refl _ _)).mono ?_
            rintro e w5 ⟨rfl, hb5⟩
            have HB5 := hide hb5
            clear hb5
            go_wp2_with fail
            refine (HDn.out _ HB5.out).mono ?_
            rintro e w6 ⟨rfl, hb6⟩
            have HB56 := hide (then_below HB5.out hb6)
            have HB6 := hide (HB4.out.trans (HB56.out.mono HB4.out.size))
            have HD6 := hide (HD4.out.below HB56.out)
            clear hb6
            go_wp2_with fail
            go_roundw
            case rel => exact ⟨k + 1, D4, HK.out, by go_num, HP4.out, HDn4.out, HD6.out, HB6.out⟩
            case measure => have := HK.out; simp only [intOf]; omega
          · exfalso
            have := hwas rfl
            rw [beq_eq_false_iff_ne] at hr
            exact hr this
      have q2 : (o.k == 2) = false := by rw [beq_eq_false_iff_ne]; exact k2
      by_cases k3 : o.k = 3
      · have q3 : (o.k == 3) = true := by rw [beq_iff_eq]; exact k3
        clear k1 k2 k3
        have HCl := hide (pCut (n := o.f) (m := o.n) HD3.out HP.out (by omega))
        clear b0 b1 b2 b3 b4
        obtain ⟨b0, b1, b2, b3, b4⟩ := HBx.out
        go_wp2_with fail
        refine HCl.out.mono ?_
        rintro e w4 ⟨r, D4, rfl, hT, hD4, hT4⟩
        clear HCl b0 b1 b2 b3 b4
        have HP4 := hide hT.pow
        have hi4 := hT.iff
        have hwas := hT.was
        have HDn4 := hide (show D4.p.done ≤ ((k + 1 : Nat) : Int) by have := hT.done; omega)
        have HD4 := hide hD4
        have HB4 := hide (HB3.out.trans (hT4.below HD3.out))
        have HDn := hide (fun w' (h : Below w4.heap.size w4 w') => down_any w' (HD4.out.below h))
        have HDo := hide (fun w' (h : Below w4.heap.size w4 w') => done_any w' (HD4.out.below h))
        have hpos := HP4.out.pos
        have hneg := HP4.out.neg
        rw [← HDD.out] at hwas
        obtain ⟨dd4, hdd4⟩ : ∃ b, b = D4.p.down := ⟨_, rfl⟩
        rw [← hdd4] at HDn hi4 hpos hneg
        clear hT hD4 hT4 hdd4
        by_cases ha : 0 ≤ arm
        · have hpa := (hpos ha).2.2
          have ha2 : ¬ arm < 0 := by omega
          have hpa2 : ¬ arm < D4.p.done := by omega
          clear hpos hneg hpa
          cases dd
          · cases dd4
            · have hr : (r == 40) = false := by rw [beq_eq_false_iff_ne]; intro e; have := hi4.2 e; cases this
              clear hi4 hwas
              go_wp2_with fail
              refine (HDo.out _ (Below.refl _ _)).mono ?_
              rintro e w5 ⟨rfl, hb5⟩
              have HB5 := hide hb5
              clear hb5
              go_wp2_with fail
              refine (HDn.out _ HB5.out).mono ?_
              rintro e w6 ⟨rfl, hb6⟩
              have HB56 := hide (then_below HB5.out hb6)
              have HB6 := hide (HB4.out.trans (HB56.out.mono HB4.out.size))
              have HD6 := hide (HD4.out.below HB56.out)
              clear hb6
              go_wp2_with fail
              go_roundw
              case rel => exact ⟨k + 1, D4, HK.out, by go_num, HP4.out, HDn4.out, HD6.out, HB6.out⟩
              case measure => have := HK.out; simp only [intOf]; omega
            · obtain rfl := hi4.1 rfl
              clear hi4 hwas
              go_wp2_with fail
              refine (HDo.out _ (Below.refl _ _)).mono ?_
              rintro e w5 ⟨rfl, hb5⟩
              have HB5 := hide hb5
              clear hb5
              go_wp2_with fail
              refine (HDn.out _ HB5.out).mono ?_
              rintro e w6 ⟨rfl, hb6⟩
              have HB56 := hide (then_below HB5.out hb6)
              have HB6 := hide (HB4.out.trans (HB56.out.mono HB4.out.size))
              have HD6 := hide (HD4.out.below HB56.out)
              clear hb6
              go_wp2_with fail
              go_roundw
              case rel => exact ⟨k + 1, D4, HK.out, by go_num, HP4.out, HDn4.out, HD6.out, HB6.out⟩
              case measure => have := HK.out; simp only [intOf]; omega
          · obtain rfl := hwas rfl
            obtain rfl := hi4.2 rfl
            clear hi4 hwas
            go_wp2_with fail
            refine (HDo.out _ (Below.refl _ _)).mono ?_
            rintro e w5 ⟨rfl, hb5⟩
            have HB5 := hide hb5
            clear hb5
            go_wp2_with fail
            refine (HDn.out _ HB5.out).mono ?_
            rintro e w6 ⟨rfl, hb6⟩
            have HB56 := hide (then_below HB5.out hb6)
            have HB6 := hide (HB4.out.trans (HB56.out.mono HB4.out.size))
            have HD6 := hide (HD4.out.below HB56.out)
            clear hb6
            go_wp2_with fail
            go_roundw
            case rel => exact ⟨k + 1, D4, HK.out, by go_num, HP4.out, HDn4.out, HD6.out, HB6.out⟩
            case measure => have := HK.out; simp only [intOf]; omega
        · have ha2 : arm < 0 := by omega
          have hdf := (hneg ha2).1
          subst hdf
          have hr : (r == 40) = false := by rw [beq_eq_false_iff_ne]; intro e; have := hi4.2 e; cases this
          clear hpos hneg hi4
          cases dd
          · clear hwas
            go_wp2_with fail
            refine (HDn.out _ (Below.refl _ _)).mono ?_
            rintro e w5 ⟨rfl, hb5⟩
            have HB5 := hide hb5
            clear hb5
            go_wp2_with fail
            refine (HDn.out _ HB5.out).mono ?_
            rintro e w6 ⟨rfl, hb6⟩
            have HB56 := hide (then_below HB5.out hb6)
            have HB6 := hide (HB4.out.trans (HB56.out.mono HB4.out.size))
            have HD6 := hide (HD4.out.below HB56.out)
            clear hb6
            go_wp2_with fail
            go_roundw
            case rel => exact ⟨k + 1, D4, HK.out, by go_num, HP4.out, HDn4.out, HD6.out, HB6.out⟩
            case measure => have := HK.out; simp only [intOf]; omega
          · exfalso
            have := hwas rfl
            rw [beq_eq_false_iff_ne] at hr
            exact hr this
      have q3 : (o.k == 3) = false := by rw [beq_eq_false_iff_ne]; exact k3
      by_cases k4 : o.k = 4
      · have q4 : (o.k == 4) = true := by rw [beq_iff_eq]; exact k4
        clear k1 k2 k3 k4
        have HCl := hide (pRead (n := o.f) HD3.out HP.out)
        clear b0 b1 b2 b3 b4
        obtain ⟨b0, b1, b2, b3, b4⟩ := HBx.out
        go_wp2_with fail
        refine HCl.out.mono ?_
        rintro e w4 ⟨r, D4, ⟨u, rfl⟩, hT, hD4, hT4⟩
        clear HCl b0 b1 b2 b3 b4
        have HP4 := hide hT.pow
        have hi4 := hT.iff
        have hwas := hT.was
        have HDn4 := hide (show D4.p.done ≤ ((k + 1 : Nat) : Int) by have := hT.done; omega)
        have HD4 := hide hD4
        have HB4 := hide (HB3.out.trans (hT4.below HD3.out))
        have HDn := hide (fun w' (h : Below w4.heap.size w4 w') => down_any w' (HD4.out.below h))
        have HDo := hide (fun w' (h : Below w4.heap.size w4 w') => done_any w' (HD4.out.below h))
        have hpos := HP4.out.pos
        have hneg := HP4.out.neg
        rw [← HDD.out] at hwas
        obtain ⟨dd4, hdd4⟩ : ∃ b, b = D4.p.down := ⟨_, rfl⟩
        rw [← hdd4] at HDn hi4 hpos hneg
        clear hT hD4 hT4 hdd4
        by_cases ha : 0 ≤ arm
        · have hpa := (hpos ha).2.2
          have ha2 : ¬ arm < 0 := by omega
          have hpa2 : ¬ arm < D4.p.done := by omega
          clear hpos hneg hpa
          cases dd
          · cases dd4
            · have hr : (r == 40) = false := by rw [beq_eq_false_iff_ne]; intro e; have := hi4.2 e; cases this
              clear hi4 hwas
              go_wp2_with fail
              refine (HDo.out _ (Below.refl _ _)).mono ?_
              rintro e w5 ⟨rfl, hb5⟩
              have HB5 := hide hb5
              clear hb5
              go_wp2_with fail
              refine (HDn.out _ HB5.out).mono ?_
              rintro e w6 ⟨rfl, hb6⟩
              have HB56 := hide (then_below HB5.out hb6)
              have HB6 := hide (HB4.out.trans (HB56.out.mono HB4.out.size))
              have HD6 := hide (HD4.out.below HB56.out)
              clear hb6
              go_wp2_with fail
              go_roundw
              case rel => exact ⟨k + 1, D4, HK.out, by go_num, HP4.out, HDn4.out, HD6.out, HB6.out⟩
              case measure => have := HK.out; simp only [intOf]; omega
            · obtain rfl := hi4.1 rfl
              clear hi4 hwas
              go_wp2_with fail
              refine (HDo.out _ (Below.refl _ _)).mono ?_
              rintro e w5 ⟨rfl, hb5⟩
              have HB5 := hide hb5
              clear hb5
              go_wp2_with fail
              refine (HDn.out _ HB5.out).mono ?_
              rintro e w6 ⟨rfl, hb6⟩
              have HB56 := hide (then_below HB5.out hb6)
              have HB6 := hide (HB4.out.trans (HB56.out.mono HB4.out.size))
              have HD6 := hide (HD4.out.below HB56.out)
              clear hb6
              go_wp2_with fail
              go_roundw
              case rel => exact ⟨k + 1, D4, HK.out, by go_num, HP4.out, HDn4.out, HD6.out, HB6.out⟩
              case measure => have := HK.out; simp only [intOf]; omega
          · obtain rfl := hwas rfl
            obtain rfl := hi4.2 rfl
            clear hi4 hwas
            go_wp2_with fail
            refine (HDo.out _ (Below.refl _ _)).mono ?_
            rintro e w5 ⟨rfl, hb5⟩
            have HB5 := hide hb5
            clear hb5
            go_wp2_with fail
            refine (HDn.out _ HB5.out).mono ?_
            rintro e w6 ⟨rfl, hb6⟩
            have HB56 := hide (then_below HB5.out hb6)
            have HB6 := hide (HB4.out.trans (HB56.out.mono HB4.out.size))
            have HD6 := hide (HD4.out.below HB56.out)
            clear hb6
            go_wp2_with fail
            go_roundw
            case rel => exact ⟨k + 1, D4, HK.out, by go_num, HP4.out, HDn4.out, HD6.out, HB6.out⟩
            case measure => have := HK.out; simp only [intOf]; omega
        · have ha2 : arm < 0 := by omega
          have hdf := (hneg ha2).1
          subst hdf
          have hr : (r == 40) = false := by rw [beq_eq_false_iff_ne]; intro e; have := hi4.2 e; cases this
          clear hpos hneg hi4
          cases dd
          · clear hwas
            go_wp2_with fail
            refine (HDn.out _ (Below.refl _ _)).mono ?_
            rintro e w5 ⟨rfl, hb5⟩
            have HB5 := hide hb5
            clear hb5
            go_wp2_with fail
            refine (HDn.out _ HB5.out).mono ?_
            rintro e w6 ⟨rfl, hb6⟩
            have HB56 := hide (then_below HB5.out hb6)
            have HB6 := hide (HB4.out.trans (HB56.out.mono HB4.out.size))
            have HD6 := hide (HD4.out.below HB56.out)
            clear hb6
            go_wp2_with fail
            go_roundw
            case rel => exact ⟨k + 1, D4, HK.out, by go_num, HP4.out, HDn4.out, HD6.out, HB6.out⟩
            case measure => have := HK.out; simp only [intOf]; omega
          · exfalso
            have := hwas rfl
            rw [beq_eq_false_iff_ne] at hr
            exact hr this
      have q4 : (o.k == 4) = false := by rw [beq_eq_false_iff_ne]; exact k4
      clear k1 k2 k3 k4
      go_wp2_with fail
      go_roundw
      case rel => exact ⟨k + 1, D, HK.out, by go_num, HP.out, by omega, HD3.out, HB3.out⟩
      case measure => have := HK.out; simp only [intOf]; omega
    · obtain rfl : k = l.length := by omega
      have HDn := hide (fun w' (h : Below wr.heap.size wr w') => down_any w' (HD.out.below h))
      have HDo := hide (fun w' (h : Below wr.heap.size wr w') => done_any w' (HD.out.below h))
      have hd1000 : D.p.done ≤ 60 := by omega
      have HCr := hide (fun w' (h : Below wr.heap.size wr w') => crash_any none 0 [] w' (HD.out.below h) HP.out.ok (fun j hj => by simp at hj) (by simp) (fun j hj => by simp at hj))
      have hpos := HP.out.pos
      have hneg := HP.out.neg
      obtain ⟨dd, hdd⟩ : ∃ x, x = D.p.down := ⟨_, rfl⟩
      rw [← hdd] at HDn hpos hneg
      have hda : dd = true → D.p.done = arm := fun e => by
        by_cases ha : 0 ≤ arm
        · exact (hpos ha).1 e
        · have := (hneg (by omega)).1
          rw [e] at this
          cases this
      clear hpos hneg hbw hdd hdn
      cases dd
      · clear hda
        go_wp2_with fail
        refine (HDn.out _ (Below.refl _ _)).mono ?_
        rintro e w4 ⟨rfl, hb4⟩
        have HB4 := hide hb4
        clear hb4
        go_wp2_with fail
        refine (HCr.out _ HB4.out).mono ?_
        rintro e w5 ⟨rfl, D5, e5, hD5, hT5⟩
        have hf := crash_syn (p := D.p) []
        rw [← e5] at hf
        have HB5 := hide ((HB.out.trans (HB4.out.mono HB.out.size)).trans (hT5.below (HD.out.below HB4.out)))
        have HD5 := hide hD5
        have hok5 : D5.p.Ok := by rw [e5]; exact crash_ok HP.out.ok []
        have HDn5 := hide (down_any w5 hD5)
        have HSy5 := hide (fun w' (h : Below w5.heap.size w5 w') => sync_any 0 w' (HD5.out.below h) hok5 (by rw [hf.2.2]; omega))
        rw [hf.1] at HDn5
        rw [hf.2.1] at HSy5
        clear hf hok5 e5 hD5 hT5
        go_wp2_with fail
        refine HDn5.out.mono ?_
        rintro e w6 ⟨rfl, hb6⟩
        have HB6 := hide hb6
        clear hb6
        go_wp2_with fail
        refine (HSy5.out _ HB6.out).mono ?_
        rintro e w7 ⟨rfl, D7, e7, hD7, hT7⟩
        have HB7 := hide ((HB5.out.trans (HB6.out.mono HB5.out.size)).trans (hT7.below (HD5.out.below HB6.out)))
        clear e7 hD7 hT7
        go_wp2_with fail
        refine (HAw.out _).mono ?_
        rintro e wa ⟨rfl, hba⟩
        have HBA := hide (HB7.out.trans (hba.mono HB7.out.size))
        clear hba
        go_wp2_with fail
        go_ret
        exact ⟨rfl, HBA.out⟩
      · have hda2 : (D.p.done != arm) = false := by rw [bne_eq_false_iff_eq]; exact hda rfl
        clear hda
        go_wp2_with fail
        refine (HDn.out _ (Below.refl _ _)).mono ?_
        rintro e w3 ⟨rfl, hb3⟩
        have HB3 := hide hb3
        clear hb3
        go_wp2_with fail
        refine (HDo.out _ HB3.out).mono ?_
        rintro e w4 ⟨rfl, hb4⟩
        have HB4 := hide (then_below HB3.out hb4)
        clear hb4
        go_wp2_with fail
        refine (HCr.out _ HB4.out).mono ?_
        rintro e w5 ⟨rfl, D5, e5, hD5, hT5⟩
        have hf := crash_syn (p := D.p) []
        rw [← e5] at hf
        have HB5 := hide ((HB.out.trans (HB4.out.mono HB.out.size)).trans (hT5.below (HD.out.below HB4.out)))
        have HD5 := hide hD5
        have hok5 : D5.p.Ok := by rw [e5]; exact crash_ok HP.out.ok []
        have HDn5 := hide (down_any w5 hD5)
        have HSy5 := hide (fun w' (h : Below w5.heap.size w5 w') => sync_any 0 w' (HD5.out.below h) hok5 (by rw [hf.2.2]; omega))
        rw [hf.1] at HDn5
        rw [hf.2.1] at HSy5
        clear hf hok5 e5 hD5 hT5
        go_wp2_with fail
        refine HDn5.out.mono ?_
        rintro e w6 ⟨rfl, hb6⟩
        have HB6 := hide hb6
        clear hb6
        go_wp2_with fail
        refine (HSy5.out _ HB6.out).mono ?_
        rintro e w7 ⟨rfl, D7, e7, hD7, hT7⟩
        have HB7 := hide ((HB5.out.trans (HB6.out.mono HB5.out.size)).trans (hT7.below (HD5.out.below HB6.out)))
        clear e7 hD7 hT7
        go_wp2_with fail
        refine (HAw.out _).mono ?_
        rintro e wa ⟨rfl, hba⟩
        have HBA := hide (HB7.out.trans (hba.mono HB7.out.size))
        clear hba
        go_wp2_with fail
        go_ret
        exact ⟨rfl, HBA.out⟩
end Go.Proofs.Ytohdjhhaceeahab
