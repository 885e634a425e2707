/-
  The walk of WindowBack.
-/
import Derived.Test.YtomhiganfmoceaaDoorWLaw
import Derived.Test.YtomhiganfmoceaaDoorWAwake
namespace Go.Proofs.YtomhiganfmoceaaDoor
open Go.RowKit Go.Sort CM JM WM

set_option maxHeartbeats 4000000 in
set_option maxRecDepth 100000 in
theorem back_no20 (k n lk la lz uk ua uz : Int) (i : Int) (w : World)
    (hf : Gv (w.alloc (.cells #[.int .i64 k, .int .i64 n, .int .i64 lk, .int .i64 la, .int .i64 lz, .int .i64 uk, .int .i64 ua, .int .i64 uz] 27)) 10 #[vC k n lk la lz uk ua uz] (.int .i64 20))
    (ha : Gv (w.alloc (.cells #[.int .i64 k, .int .i64 n, .int .i64 lk, .int .i64 la, .int .i64 lz, .int .i64 uk, .int .i64 ua, .int .i64 uz] 27)) 11 #[] (.bool true)) : Calls Tryd.prog 5 #[vC k n lk la lz uk ua uz, .int .i64 i] w fun e w' => e = .returned (.bool true) ∧ Below w.heap.size w w' := by
  have Hhf := hide hf
  have Hha := hide ha
  have HO := hide (C8_below w k n lk la lz uk ua uz)
  have HB0 := hide (Below.refl (w.alloc (.cells #[.int .i64 k, .int .i64 n, .int .i64 lk, .int .i64 la, .int .i64 lz, .int .i64 uk, .int .i64 ua, .int .i64 uz] 27)).heap.size (w.alloc (.cells #[.int .i64 k, .int .i64 n, .int .i64 lk, .int .i64 la, .int .i64 lz, .int .i64 uk, .int .i64 ua, .int .i64 uz] 27)))
  have HX0 := hide (C8_box w k n lk la lz uk ua uz)
  clear hf ha
  go_enter Tryd.func5, Tryd.ntmps5
  go_wp2_with fail
  refine (Hhf.out _ HB0.out).mono ?_
  rintro e w1 ⟨rfl, hb⟩
  have HB1 := hide (HB0.out.trans (hb.mono HB0.out.size))
  have HX1 := hide (HX0.out.on hb)
  clear hb
  obtain ⟨⟨k0, k1, k2, k3, k4, k5, k6, k7⟩, hs⟩ := HX1.out
  go_wp2_with fail
  refine (Hha.out _ HB1.out).mono ?_
  rintro e w2 ⟨rfl, hb⟩
  have HB2 := hide (HB1.out.trans (hb.mono HB1.out.size))
  have HX2 := hide (HX1.out.on hb)
  clear k0 k1 k2 k3 k4 k5 k6 k7 hs hb
  obtain ⟨⟨k0, k1, k2, k3, k4, k5, k6, k7⟩, hs⟩ := HX2.out
  go_wp2_with fail
  go_ret
  exact ⟨rfl, HO.out.trans (HB2.out.mono HO.out.size)⟩

set_option maxHeartbeats 4000000 in
set_option maxRecDepth 100000 in
theorem back_no54 (k n lk la lz uk ua uz : Int) (i : Int) (w : World)
    (hf : Gv (w.alloc (.cells #[.int .i64 k, .int .i64 n, .int .i64 lk, .int .i64 la, .int .i64 lz, .int .i64 uk, .int .i64 ua, .int .i64 uz] 27)) 10 #[vC k n lk la lz uk ua uz] (.int .i64 54))
    (ha : Gv (w.alloc (.cells #[.int .i64 k, .int .i64 n, .int .i64 lk, .int .i64 la, .int .i64 lz, .int .i64 uk, .int .i64 ua, .int .i64 uz] 27)) 11 #[] (.bool true)) : Calls Tryd.prog 5 #[vC k n lk la lz uk ua uz, .int .i64 i] w fun e w' => e = .returned (.bool true) ∧ Below w.heap.size w w' := by
  have Hhf := hide hf
  have Hha := hide ha
  have HO := hide (C8_below w k n lk la lz uk ua uz)
  have HB0 := hide (Below.refl (w.alloc (.cells #[.int .i64 k, .int .i64 n, .int .i64 lk, .int .i64 la, .int .i64 lz, .int .i64 uk, .int .i64 ua, .int .i64 uz] 27)).heap.size (w.alloc (.cells #[.int .i64 k, .int .i64 n, .int .i64 lk, .int .i64 la, .int .i64 lz, .int .i64 uk, .int .i64 ua, .int .i64 uz] 27)))
  have HX0 := hide (C8_box w k n lk la lz uk ua uz)
  clear hf ha
  go_enter Tryd.func5, Tryd.ntmps5
  go_wp2_with fail
  refine (Hhf.out _ HB0.out).mono ?_
  rintro e w1 ⟨rfl, hb⟩
  have HB1 := hide (HB0.out.trans (hb.mono HB0.out.size))
  have HX1 := hide (HX0.out.on hb)
  clear hb
  obtain ⟨⟨k0, k1, k2, k3, k4, k5, k6, k7⟩, hs⟩ := HX1.out
  go_wp2_with fail
  refine (Hha.out _ HB1.out).mono ?_
  rintro e w2 ⟨rfl, hb⟩
  have HB2 := hide (HB1.out.trans (hb.mono HB1.out.size))
  have HX2 := hide (HX1.out.on hb)
  clear k0 k1 k2 k3 k4 k5 k6 k7 hs hb
  obtain ⟨⟨k0, k1, k2, k3, k4, k5, k6, k7⟩, hs⟩ := HX2.out
  go_wp2_with fail
  go_ret
  exact ⟨rfl, HO.out.trans (HB2.out.mono HO.out.size)⟩

set_option maxHeartbeats 4000000 in
set_option maxRecDepth 100000 in
theorem back_far (k n lk la lz uk ua uz : Int) (i : Int) (w : World)
    (hf : Gv (w.alloc (.cells #[.int .i64 k, .int .i64 n, .int .i64 lk, .int .i64 la, .int .i64 lz, .int .i64 uk, .int .i64 ua, .int .i64 uz] 27)) 10 #[vC k n lk la lz uk ua uz] (.int .i64 0))
    (hv : Gv (w.alloc (.cells #[.int .i64 k, .int .i64 n, .int .i64 lk, .int .i64 la, .int .i64 lz, .int .i64 uk, .int .i64 ua, .int .i64 uz] 27)) 12 #[vC k n lk la lz uk ua uz] (.bool true))
    (ha : Gv (w.alloc (.cells #[.int .i64 k, .int .i64 n, .int .i64 lk, .int .i64 la, .int .i64 lz, .int .i64 uk, .int .i64 ua, .int .i64 uz] 27)) 11 #[] (.bool true)) : Calls Tryd.prog 5 #[vC k n lk la lz uk ua uz, .int .i64 i] w fun e w' => e = .returned (.bool true) ∧ Below w.heap.size w w' := by
  have Hhf := hide hf
  have Hhv := hide hv
  have Hha := hide ha
  have HO := hide (C8_below w k n lk la lz uk ua uz)
  have HB0 := hide (Below.refl (w.alloc (.cells #[.int .i64 k, .int .i64 n, .int .i64 lk, .int .i64 la, .int .i64 lz, .int .i64 uk, .int .i64 ua, .int .i64 uz] 27)).heap.size (w.alloc (.cells #[.int .i64 k, .int .i64 n, .int .i64 lk, .int .i64 la, .int .i64 lz, .int .i64 uk, .int .i64 ua, .int .i64 uz] 27)))
  have HX0 := hide (C8_box w k n lk la lz uk ua uz)
  clear hf hv ha
  go_enter Tryd.func5, Tryd.ntmps5
  go_wp2_with fail
  refine (Hhf.out _ HB0.out).mono ?_
  rintro e w1 ⟨rfl, hb⟩
  have HB1 := hide (HB0.out.trans (hb.mono HB0.out.size))
  have HX1 := hide (HX0.out.on hb)
  clear hb
  obtain ⟨⟨k0, k1, k2, k3, k4, k5, k6, k7⟩, hs⟩ := HX1.out
  go_wp2_with fail
  refine (Hhv.out _ HB1.out).mono ?_
  rintro e w2 ⟨rfl, hb⟩
  have HB2 := hide (HB1.out.trans (hb.mono HB1.out.size))
  have HX2 := hide (HX1.out.on hb)
  clear k0 k1 k2 k3 k4 k5 k6 k7 hs hb
  obtain ⟨⟨k0, k1, k2, k3, k4, k5, k6, k7⟩, hs⟩ := HX2.out
  go_wp2_with fail
  refine (Hha.out _ HB2.out).mono ?_
  rintro e w3 ⟨rfl, hb⟩
  have HB3 := hide (HB2.out.trans (hb.mono HB2.out.size))
  have HX3 := hide (HX2.out.on hb)
  clear k0 k1 k2 k3 k4 k5 k6 k7 hs hb
  obtain ⟨⟨k0, k1, k2, k3, k4, k5, k6, k7⟩, hs⟩ := HX3.out
  go_wp2_with fail
  go_ret
  exact ⟨rfl, HO.out.trans (HB3.out.mono HO.out.size)⟩

set_option maxHeartbeats 4000000 in
set_option maxRecDepth 100000 in
theorem back_main (k n lk la lz uk ua uz : Int) (i : Int) (p : Int → Bool) (N : Nat) (w : World)
    (_ : 0 ≤ la)
    (_ : la ≤ 40000000)
    (_ : N ≤ 512)
    (hf : Gv (w.alloc (.cells #[.int .i64 k, .int .i64 n, .int .i64 lk, .int .i64 la, .int .i64 lz, .int .i64 uk, .int .i64 ua, .int .i64 uz] 27)) 10 #[vC k n lk la lz uk ua uz] (.int .i64 0))
    (hv : Gv (w.alloc (.cells #[.int .i64 k, .int .i64 n, .int .i64 lk, .int .i64 la, .int .i64 lz, .int .i64 uk, .int .i64 ua, .int .i64 uz] 27)) 12 #[vC k n lk la lz uk ua uz] (.bool false))
    (hl : ∀ w1, Below (w.alloc (.cells #[.int .i64 k, .int .i64 n, .int .i64 lk, .int .i64 la, .int .i64 lz, .int .i64 uk, .int .i64 ua, .int .i64 uz] 27)).heap.size (w.alloc (.cells #[.int .i64 k, .int .i64 n, .int .i64 lk, .int .i64 la, .int .i64 lz, .int .i64 uk, .int .i64 ua, .int .i64 uz] 27)) w1 → Calls Tryd.prog 16 #[vM k n, vS lk la lz, vS uk ua uz, .int .i64 i] w1 (RunOut p la N w1))
    (hp : ∀ w1, Below (w.alloc (.cells #[.int .i64 k, .int .i64 n, .int .i64 lk, .int .i64 la, .int .i64 lz, .int .i64 uk, .int .i64 ua, .int .i64 uz] 27)).heap.size (w.alloc (.cells #[.int .i64 k, .int .i64 n, .int .i64 lk, .int .i64 la, .int .i64 lz, .int .i64 uk, .int .i64 ua, .int .i64 uz] 27)) w1 → Calls Tryd.prog 14 #[vS lk la lz] w1 (NumOut la N w1))
    (hn : ∀ j : Int, Gv (w.alloc (.cells #[.int .i64 k, .int .i64 n, .int .i64 lk, .int .i64 la, .int .i64 lz, .int .i64 uk, .int .i64 ua, .int .i64 uz] 27)) 15 #[vC k n lk la lz uk ua uz, .int .i64 j, .int .i64 i] (.bool (p j)))
    (ha : Gv (w.alloc (.cells #[.int .i64 k, .int .i64 n, .int .i64 lk, .int .i64 la, .int .i64 lz, .int .i64 uk, .int .i64 ua, .int .i64 uz] 27)) 11 #[] (.bool true)) : Calls Tryd.prog 5 #[vC k n lk la lz uk ua uz, .int .i64 i] w fun e w' => e = .returned (.bool true) ∧ Below w.heap.size w w' := by
  have Hhf := hide hf
  have Hhv := hide hv
  have Hhl := hide hl
  have Hhp := hide hp
  have Hhn := hide hn
  have Hha := hide ha
  have HO := hide (C8_below w k n lk la lz uk ua uz)
  have HB0 := hide (Below.refl (w.alloc (.cells #[.int .i64 k, .int .i64 n, .int .i64 lk, .int .i64 la, .int .i64 lz, .int .i64 uk, .int .i64 ua, .int .i64 uz] 27)).heap.size (w.alloc (.cells #[.int .i64 k, .int .i64 n, .int .i64 lk, .int .i64 la, .int .i64 lz, .int .i64 uk, .int .i64 ua, .int .i64 uz] 27)))
  have HX0 := hide (C8_box w k n lk la lz uk ua uz)
  clear hf hv hl hp hn ha
  go_enter Tryd.func5, Tryd.ntmps5
  go_wp2_with fail
  refine (Hhf.out _ HB0.out).mono ?_
  rintro e w1 ⟨rfl, hb⟩
  have HB1 := hide (HB0.out.trans (hb.mono HB0.out.size))
  have HX1 := hide (HX0.out.on hb)
  clear hb
  obtain ⟨⟨k0, k1, k2, k3, k4, k5, k6, k7⟩, hs⟩ := HX1.out
  go_wp2_with fail
  refine (Hhv.out _ HB1.out).mono ?_
  rintro e w2 ⟨rfl, hb⟩
  have HB2 := hide (HB1.out.trans (hb.mono HB1.out.size))
  have HX2 := hide (HX1.out.on hb)
  clear k0 k1 k2 k3 k4 k5 k6 k7 hs hb
  obtain ⟨⟨k0, k1, k2, k3, k4, k5, k6, k7⟩, hs⟩ := HX2.out
  go_wp2_with fail
  refine (Hhl.out _ HB2.out).mono ?_
  rintro e w3 ⟨⟨D, dcap, x, y, hI, rfl, hD⟩, hb⟩
  have HB3 := hide (HB2.out.trans (hb.mono HB2.out.size))
  have HX3 := hide (HX2.out.on hb)
  have HNd := hide hD
  have HI : Hid (∀ i, i < N → (p (la + (i : Int)) = true ↔ x ≤ i ∧ i < y)) := hide hI.2.2
  have hxy := hI.1
  have hyn := hI.2.1
  obtain ⟨Ln, hLn⟩ : ∃ m, m = y - x := ⟨_, rfl⟩
  rw [← hLn] at HNd ⊢
  have HL := hide hLn
  have hLb : Ln ≤ 512 := by omega
  clear hLn hI hD
  clear k0 k1 k2 k3 k4 k5 k6 k7 hs hb
  obtain ⟨⟨k0, k1, k2, k3, k4, k5, k6, k7⟩, hs⟩ := HX3.out
  go_wp2_with fail
  refine (Hhp.out _ HB3.out).mono ?_
  rintro e w4 ⟨⟨A, cap, rfl, hA⟩, hb⟩
  have HB4 := hide (HB3.out.trans (hb.mono HB3.out.size))
  have HX4 := hide (HX3.out.on hb)
  have HNu := hide hA
  have HNd4 := hide (HNd.out.on hb)
  clear hA
  clear k0 k1 k2 k3 k4 k5 k6 k7 hs hb
  obtain ⟨⟨k0, k1, k2, k3, k4, k5, k6, k7⟩, hs⟩ := HX4.out
  go_wp2_with fail
  clear k0 k1 k2 k3 k4 k5 k6 k7 hs HNd
  go_loopw [6, 29] (fun u j wr => ∃ t c : Nat, t ≤ N ∧ c ≤ t ∧ Hid (c = cntR x y t) ∧ u = .int .i64 c ∧ j = .int .i64 t ∧ Below w4.heap.size w4 wr) (fun _ j _ => N - (intOf j).toNat)
  case atStart => exact ⟨0, 0, Nat.zero_le _, Nat.zero_le _, hide (by unfold cntR; omega), rfl, rfl, Below.refl _ _⟩
  case round =>
    obtain ⟨t, c, ht, hct, HC, rfl, rfl, hbw⟩ := hrel
    have HBr := hide (HB4.out.trans (hbw.mono HB4.out.size))
    have HXr := hide (HX4.out.on hbw)
    have HBw := hide hbw
    by_cases hlt : t < N
    · obtain ⟨b, rfl, hbl, hcell⟩ := (HNu.out.on hbw) t hlt
      have HNdr := hide (HNd4.out.on hbw)
      have HNi := hide (Hhn.out (la + (t : Int)) _ HBr.out)
      have HIt := hide (HI.out t hlt)
      clear hbw
      obtain ⟨⟨k0, k1, k2, k3, k4, k5, k6, k7⟩, hs⟩ := HXr.out
      generalize p (la + (t : Int)) = B at *
      cases B
      · have hx1 : t < x ∨ y ≤ t := by
          have := HIt.out
          rcases Nat.lt_or_ge t x with h | h
          · exact .inl h
          · rcases Nat.lt_or_ge t y with h' | h'
            · exact absurd (this.2 ⟨h, h'⟩) (by simp)
            · exact .inr h'
        have HC2 : Hid (c = cntR x y (t + 1)) := hide (by have := HC.out; unfold cntR at *; omega)
        clear hx1
        go_wp2_with fail
        refine HNi.out.mono ?_
        rintro e w6 ⟨rfl, hb⟩
        have HBx := hide (HBw.out.trans (hb.mono HBw.out.size))
        clear hb k0 k1 k2 k3 k4 k5 k6 k7 hs
        go_wp2_with fail
        go_roundw
        case rel => exact ⟨t + 1, c, by omega, by omega, HC2.out, rfl, by go_num, HBx.out⟩
        case measure => simp [intOf]; omega
      · obtain ⟨hx1, hy1⟩ := HIt.out.1 rfl
        have hcl : c < Ln := by have := HC.out; have := HL.out; unfold cntR at *; omega
        have HC2 : Hid (c + 1 = cntR x y (t + 1)) := hide (by have := HC.out; unfold cntR at *; omega)
        have q : ((la + (x : Int) + (c : Int)) != la + (t : Int)) = false := by
          have := HC.out
          unfold cntR at this
          simp
          omega
        go_wp2_with fail
        refine HNi.out.mono ?_
        rintro e w6 ⟨rfl, hb⟩
        have HBx := hide (HBw.out.trans (hb.mono HBw.out.size))
        have HNw6 := hide (HNdr.out.on hb)
        clear hb k0 k1 k2 k3 k4 k5 k6 k7 hs
        obtain ⟨b2, rfl, hbl2, hcell2⟩ := HNw6.out c hcl
        go_wp2_with fail
        go_roundw
        case rel => exact ⟨t + 1, c + 1, by omega, by omega, HC2.out, by go_num, by go_num, HBx.out⟩
        case measure => simp [intOf]; omega
    · clear hbw
      have hend : c = Ln := by have := HC.out; have := HL.out; unfold cntR at *; omega
      have qe : ((c : Int) == (Ln : Int)) = true := by simp; omega
      go_wp2_with fail
      refine (Hha.out _ HBr.out).mono ?_
      rintro e w5 ⟨rfl, hb⟩
      have HB5 := hide (HBr.out.trans (hb.mono HBr.out.size))
      clear hb
      go_wp2_with fail
      go_ret
      exact ⟨rfl, HO.out.trans (HB5.out.mono HO.out.size)⟩

theorem windowBack_walk (k n lk la lz uk ua uz : Int) (i : Int) (w : World) (h1 : lz ≤ 9223372036854775807) (h2 : uz ≤ 9223372036854775807) (_ : -9223372036854775808 ≤ i) (_ : i ≤ 9223372036854775807) (hR : Ra w) : Calls Tryd.prog 5 #[vC k n lk la lz uk ua uz, .int .i64 i] w fun e w' => e = .returned (.bool true) ∧ Below w.heap.size w w' := by
  have hO := C8_below w k n lk la lz uk ua uz
  have hR1 : ∀ w1, Below (w.alloc (.cells #[.int .i64 k, .int .i64 n, .int .i64 lk, .int .i64 la, .int .i64 lz, .int .i64 uk, .int .i64 ua, .int .i64 uz] 27)).heap.size (w.alloc (.cells #[.int .i64 k, .int .i64 n, .int .i64 lk, .int .i64 la, .int .i64 lz, .int .i64 uk, .int .i64 ua, .int .i64 uz] 27)) w1 → Ra w1 := fun w1 hb => hR.on (hO.trans (hb.mono hO.size))
  have hf : Gv (w.alloc (.cells #[.int .i64 k, .int .i64 n, .int .i64 lk, .int .i64 la, .int .i64 lz, .int .i64 uk, .int .i64 ua, .int .i64 uz] 27)) 10 #[vC k n lk la lz uk ua uz] (.int .i64 (fitE (cA k n lk la lz uk ua uz))) := fun w1 _ => fits_any k n lk la lz uk ua uz w1 h1 h2
  have ha : Gv (w.alloc (.cells #[.int .i64 k, .int .i64 n, .int .i64 lk, .int .i64 la, .int .i64 lz, .int .i64 uk, .int .i64 ua, .int .i64 uz] 27)) 11 #[] (.bool true) := fun w1 hb => mawake_any w1 (hR1 w1 hb)
  have hv : Gv (w.alloc (.cells #[.int .i64 k, .int .i64 n, .int .i64 lk, .int .i64 la, .int .i64 lz, .int .i64 uk, .int .i64 ua, .int .i64 uz] 27)) 12 #[vC k n lk la lz uk ua uz] (.bool (farB (cA k n lk la lz uk ua uz))) := fun w1 _ => far_any k n lk la lz uk ua uz w1
  rcases fitE_some (cA k n lk la lz uk ua uz) with hq | hq | hq
  · rw [hq] at hf
    cases hb : farB (cA k n lk la lz uk ua uz)
    · rw [hb] at hv
      obtain ⟨_, ho, hp, _⟩ : formB k n = true ∧ okS lk la lz = true ∧ okS uk ua uz = true ∧ relB k lk uk = true := fitE_0 hq
      have hbd := ok_bd ho
      obtain ⟨N, n1, n2, n3, n4⟩ := cnt_nat ho
      exact back_main k n lk la lz uk ua uz i (fun j => needB (cA k n lk la lz uk ua uz) j i) N w (by omega) (by omega) n2 hf hv (fun w1 hb => back_any k n lk la lz uk ua uz i N w1 (hR1 w1 hb).mon h1 h2 hq n1)
        (fun w1 hb => parts_any lk la lz N w1 (hR1 w1 hb).mon ho n1) (fun j w1 _ => needs_any k n lk la lz uk ua uz j i w1 hq) ha
    · rw [hb] at hv
      exact back_far k n lk la lz uk ua uz i w hf hv ha
  · rw [hq] at hf
    exact back_no20 k n lk la lz uk ua uz i w hf ha
  · rw [hq] at hf
    exact back_no54 k n lk la lz uk ua uz i w hf ha
end Go.Proofs.YtomhiganfmoceaaDoor
