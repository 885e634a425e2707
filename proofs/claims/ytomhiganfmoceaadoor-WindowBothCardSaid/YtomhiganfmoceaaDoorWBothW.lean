/-
  The walk of WindowBoth.
-/
import Derived.Test.YtomhiganfmoceaaDoorWLaw
import Derived.Test.YtomhiganfmoceaaDoorWAwake
namespace Go.Proofs.YtomhiganfmoceaaDoor
open Go.RowKit Go.Sort CM JM WM

set_option maxHeartbeats 4000000 in
set_option maxRecDepth 100000 in
theorem both_no20 (k n lk la lz uk ua uz : Int) (i j : Int) (w : World)
    (hf : Gv (w.alloc (.cells #[.int .i64 k, .int .i64 n, .int .i64 lk, .int .i64 la, .int .i64 lz, .int .i64 uk, .int .i64 ua, .int .i64 uz] 27)) 10 #[vC k n lk la lz uk ua uz] (.int .i64 20))
    (ha : Gv (w.alloc (.cells #[.int .i64 k, .int .i64 n, .int .i64 lk, .int .i64 la, .int .i64 lz, .int .i64 uk, .int .i64 ua, .int .i64 uz] 27)) 11 #[] (.bool true)) : Calls Tryd.prog 6 #[vC k n lk la lz uk ua uz, .int .i64 i, .int .i64 j] w fun e w' => e = .returned (.bool true) ∧ Below w.heap.size w w' := by
  have Hhf := hide hf
  have Hha := hide ha
  have HO := hide (C8_below w k n lk la lz uk ua uz)
  have HB0 := hide (Below.refl (w.alloc (.cells #[.int .i64 k, .int .i64 n, .int .i64 lk, .int .i64 la, .int .i64 lz, .int .i64 uk, .int .i64 ua, .int .i64 uz] 27)).heap.size (w.alloc (.cells #[.int .i64 k, .int .i64 n, .int .i64 lk, .int .i64 la, .int .i64 lz, .int .i64 uk, .int .i64 ua, .int .i64 uz] 27)))
  have HX0 := hide (C8_box w k n lk la lz uk ua uz)
  clear hf ha
  go_enter Tryd.func6, Tryd.ntmps6
  go_wp2_with fail
  refine (Hhf.out _ HB0.out).mono ?_
  rintro e w1 ⟨rfl, hb⟩
  have HB1 := hide (HB0.out.trans (hb.mono HB0.out.size))
  have HX1 := hide (HX0.out.on hb)
  clear hb
  obtain ⟨⟨k0, k1, k2, k3, k4, k5, k6, k7⟩, hs⟩ := HX1.out
  go_wp2_with fail
  refine (Hha.out _ HB1.out).mono ?_
  rintro e w2 ⟨rfl, hb⟩
  have HB2 := hide (HB1.out.trans (hb.mono HB1.out.size))
  have HX2 := hide (HX1.out.on hb)
  clear k0 k1 k2 k3 k4 k5 k6 k7 hs hb
  obtain ⟨⟨k0, k1, k2, k3, k4, k5, k6, k7⟩, hs⟩ := HX2.out
  go_wp2_with fail
  go_ret
  exact ⟨rfl, HO.out.trans (HB2.out.mono HO.out.size)⟩

set_option maxHeartbeats 4000000 in
set_option maxRecDepth 100000 in
theorem both_no54 (k n lk la lz uk ua uz : Int) (i j : Int) (w : World)
    (hf : Gv (w.alloc (.cells #[.int .i64 k, .int .i64 n, .int .i64 lk, .int .i64 la, .int .i64 lz, .int .i64 uk, .int .i64 ua, .int .i64 uz] 27)) 10 #[vC k n lk la lz uk ua uz] (.int .i64 54))
    (ha : Gv (w.alloc (.cells #[.int .i64 k, .int .i64 n, .int .i64 lk, .int .i64 la, .int .i64 lz, .int .i64 uk, .int .i64 ua, .int .i64 uz] 27)) 11 #[] (.bool true)) : Calls Tryd.prog 6 #[vC k n lk la lz uk ua uz, .int .i64 i, .int .i64 j] w fun e w' => e = .returned (.bool true) ∧ Below w.heap.size w w' := by
  have Hhf := hide hf
  have Hha := hide ha
  have HO := hide (C8_below w k n lk la lz uk ua uz)
  have HB0 := hide (Below.refl (w.alloc (.cells #[.int .i64 k, .int .i64 n, .int .i64 lk, .int .i64 la, .int .i64 lz, .int .i64 uk, .int .i64 ua, .int .i64 uz] 27)).heap.size (w.alloc (.cells #[.int .i64 k, .int .i64 n, .int .i64 lk, .int .i64 la, .int .i64 lz, .int .i64 uk, .int .i64 ua, .int .i64 uz] 27)))
  have HX0 := hide (C8_box w k n lk la lz uk ua uz)
  clear hf ha
  go_enter Tryd.func6, Tryd.ntmps6
  go_wp2_with fail
  refine (Hhf.out _ HB0.out).mono ?_
  rintro e w1 ⟨rfl, hb⟩
  have HB1 := hide (HB0.out.trans (hb.mono HB0.out.size))
  have HX1 := hide (HX0.out.on hb)
  clear hb
  obtain ⟨⟨k0, k1, k2, k3, k4, k5, k6, k7⟩, hs⟩ := HX1.out
  go_wp2_with fail
  refine (Hha.out _ HB1.out).mono ?_
  rintro e w2 ⟨rfl, hb⟩
  have HB2 := hide (HB1.out.trans (hb.mono HB1.out.size))
  have HX2 := hide (HX1.out.on hb)
  clear k0 k1 k2 k3 k4 k5 k6 k7 hs hb
  obtain ⟨⟨k0, k1, k2, k3, k4, k5, k6, k7⟩, hs⟩ := HX2.out
  go_wp2_with fail
  go_ret
  exact ⟨rfl, HO.out.trans (HB2.out.mono HO.out.size)⟩

set_option maxHeartbeats 4000000 in
set_option maxRecDepth 100000 in
theorem both_main (k n lk la lz uk ua uz : Int) (i j : Int) (p q : Int → Bool) (N M : Nat) (w : World)
    (_ : 0 ≤ la)
    (_ : la ≤ 40000000)
    (_ : M ≤ 512)
    (_ : 0 ≤ ua)
    (_ : ua ≤ 40000000)
    (_ : N ≤ 512)
    (hu : ∀ t : Nat, t < N → hasB uk ua uz (ua + (t : Int)) = true)
    (hl : ∀ t : Nat, t < M → hasB lk la lz (la + (t : Int)) = true)
    (hp : ∀ j : Int, p j = true → ua ≤ j ∧ j < ua + (N : Int))
    (hq : ∀ i : Int, q i = true → la ≤ i ∧ i < la + (M : Int))
    (hpq : p j = q i)
    (hf : Gv (w.alloc (.cells #[.int .i64 k, .int .i64 n, .int .i64 lk, .int .i64 la, .int .i64 lz, .int .i64 uk, .int .i64 ua, .int .i64 uz] 27)) 10 #[vC k n lk la lz uk ua uz] (.int .i64 0))
    (ho : ∀ w1, Below (w.alloc (.cells #[.int .i64 k, .int .i64 n, .int .i64 lk, .int .i64 la, .int .i64 lz, .int .i64 uk, .int .i64 ua, .int .i64 uz] 27)).heap.size (w.alloc (.cells #[.int .i64 k, .int .i64 n, .int .i64 lk, .int .i64 la, .int .i64 lz, .int .i64 uk, .int .i64 ua, .int .i64 uz] 27)) w1 → Calls Tryd.prog 13 #[vM k n, vS lk la lz, vS uk ua uz, .int .i64 i] w1 (RunOut p ua N w1))
    (hb : ∀ w1, Below (w.alloc (.cells #[.int .i64 k, .int .i64 n, .int .i64 lk, .int .i64 la, .int .i64 lz, .int .i64 uk, .int .i64 ua, .int .i64 uz] 27)).heap.size (w.alloc (.cells #[.int .i64 k, .int .i64 n, .int .i64 lk, .int .i64 la, .int .i64 lz, .int .i64 uk, .int .i64 ua, .int .i64 uz] 27)) w1 → Calls Tryd.prog 16 #[vM k n, vS lk la lz, vS uk ua uz, .int .i64 j] w1 (RunOut q la M w1))
    (hU : ∀ x : Int, Gv (w.alloc (.cells #[.int .i64 k, .int .i64 n, .int .i64 lk, .int .i64 la, .int .i64 lz, .int .i64 uk, .int .i64 ua, .int .i64 uz] 27)) 17 #[vS uk ua uz, .int .i64 x] (.bool (hasB uk ua uz x)))
    (hL : ∀ x : Int, Gv (w.alloc (.cells #[.int .i64 k, .int .i64 n, .int .i64 lk, .int .i64 la, .int .i64 lz, .int .i64 uk, .int .i64 ua, .int .i64 uz] 27)) 17 #[vS lk la lz, .int .i64 x] (.bool (hasB lk la lz x)))
    (ha : Gv (w.alloc (.cells #[.int .i64 k, .int .i64 n, .int .i64 lk, .int .i64 la, .int .i64 lz, .int .i64 uk, .int .i64 ua, .int .i64 uz] 27)) 11 #[] (.bool true)) : Calls Tryd.prog 6 #[vC k n lk la lz uk ua uz, .int .i64 i, .int .i64 j] w fun e w' => e = .returned (.bool true) ∧ Below w.heap.size w w' := by
  have Hhu := hide hu
  have Hhl := hide hl
  have Hhp := hide hp
  have Hhq := hide hq
  have Hhpq := hide hpq
  have Hhf := hide hf
  have Hho := hide ho
  have Hhb := hide hb
  have HhU := hide hU
  have HhL := hide hL
  have Hha := hide ha
  have HO := hide (C8_below w k n lk la lz uk ua uz)
  have HB0 := hide (Below.refl (w.alloc (.cells #[.int .i64 k, .int .i64 n, .int .i64 lk, .int .i64 la, .int .i64 lz, .int .i64 uk, .int .i64 ua, .int .i64 uz] 27)).heap.size (w.alloc (.cells #[.int .i64 k, .int .i64 n, .int .i64 lk, .int .i64 la, .int .i64 lz, .int .i64 uk, .int .i64 ua, .int .i64 uz] 27)))
  have HX0 := hide (C8_box w k n lk la lz uk ua uz)
  clear hu hl hp hq hpq hf ho hb hU hL ha
  go_enter Tryd.func6, Tryd.ntmps6
  go_wp2_with fail
  refine (Hhf.out _ HB0.out).mono ?_
  rintro e w1 ⟨rfl, hb⟩
  have HB1 := hide (HB0.out.trans (hb.mono HB0.out.size))
  have HX1 := hide (HX0.out.on hb)
  clear hb
  obtain ⟨⟨k0, k1, k2, k3, k4, k5, k6, k7⟩, hs⟩ := HX1.out
  go_wp2_with fail
  refine (Hho.out _ HB1.out).mono ?_
  rintro e w2 ⟨⟨Dp, dcapp, xp, yp, hI, rfl, hD⟩, hb⟩
  have HB2 := hide (HB1.out.trans (hb.mono HB1.out.size))
  have HX2 := hide (HX1.out.on hb)
  have HNdp := hide hD
  obtain ⟨Lnp, hLn⟩ : ∃ m, m = yp - xp := ⟨_, rfl⟩
  have HpE : Hid (ua + (xp : Int) ≤ j ∧ j < ua + (xp : Int) + (Lnp : Int) ↔ p j = true) := hide (by
    obtain ⟨hI1, hI2, hI3⟩ := hI
    constructor
    · intro h
      have := (hI3 (j - ua).toNat (by omega)).2 (by omega)
      rw [show ua + ((j - ua).toNat : Int) = j by omega] at this
      exact this
    · intro h
      have hr := Hhp.out _ h
      have := (hI3 (j - ua).toNat (by omega)).1 (by rw [show ua + ((j - ua).toNat : Int) = j by omega]; exact h)
      omega)
  have hLbp : Lnp + xp ≤ N ∨ Lnp = 0 := by have := hI.1; have := hI.2.1; omega
  have hLcp : xp ≤ N := by have := hI.1; have := hI.2.1; omega
  rw [← hLn] at HNdp ⊢
  clear hLn hI hD
  clear k0 k1 k2 k3 k4 k5 k6 k7 hs hb
  obtain ⟨⟨k0, k1, k2, k3, k4, k5, k6, k7⟩, hs⟩ := HX2.out
  go_wp2_with fail
  clear k0 k1 k2 k3 k4 k5 k6 k7 hs
  go_loopw [7, 26] (fun u z wr => ∃ (t : Nat) (b : Bool), t ≤ Lnp ∧ Hid (b = true ↔ ua + (xp : Int) ≤ j ∧ j < ua + (xp : Int) + (t : Int)) ∧ u = .bool b ∧ z = .int .i64 t ∧ Below w2.heap.size w2 wr) (fun _ z _ => Lnp - (intOf z).toNat)
  case atStart => exact ⟨0, false, Nat.zero_le _, hide ⟨fun h => (by cases h), fun h => (by omega)⟩, rfl, rfl, Below.refl _ _⟩
  case round =>
    obtain ⟨t, b, ht, HB, rfl, rfl, hbw⟩ := hrel
    have HBrp := hide (HB2.out.trans (hbw.mono HB2.out.size))
    have HXrp := hide (HX2.out.on hbw)
    have HBwp := hide hbw
    by_cases hlt : t < Lnp
    · obtain ⟨b9, rfl, hbl, hcell⟩ := (HNdp.out.on hbw) t hlt
      have hhas := Hhu.out (xp + t) (by omega)
      rw [show ua + ((xp + t : Nat) : Int) = ua + (xp : Int) + (t : Int) by omega] at hhas
      have HNi := hide (HhU.out (ua + (xp : Int) + (t : Int)) _ HBrp.out)
      rw [hhas] at HNi
      clear hbw hhas
      obtain ⟨⟨k0, k1, k2, k3, k4, k5, k6, k7⟩, hs⟩ := HXrp.out
      have HB2 : Hid ((b || (ua + (xp : Int) + (t : Int) == j)) = true ↔ ua + (xp : Int) ≤ j ∧ j < ua + (xp : Int) + ((t + 1 : Nat) : Int)) := hide (by
        have := HB.out
        rw [Bool.or_eq_true, this, beq_iff_eq]
        omega)
      cases b
      all_goals (
        go_wp2_with fail
        refine HNi.out.mono ?_
        rintro e w6 ⟨rfl, hb⟩
        have HBx := hide (HBwp.out.trans (hb.mono HBwp.out.size))
        clear hb k0 k1 k2 k3 k4 k5 k6 k7 hs
        go_wp2_with fail
        go_roundw
        case rel => exact ⟨t + 1, _, by omega, HB2.out, by simp, by go_num, HBx.out⟩
        case measure => simp [intOf]; omega)
    · obtain rfl : t = Lnp := by omega
      have HEp : Hid (b = p j) := hide (by
        rw [Bool.eq_iff_iff, HB.out]
        exact HpE.out)
      clear hbw HB
      obtain ⟨⟨k0, k1, k2, k3, k4, k5, k6, k7⟩, hs⟩ := HXrp.out
      go_wp2_with fail
      refine (Hhb.out _ HBrp.out).mono ?_
      rintro e w4 ⟨⟨Dq, dcapq, xq, yq, hI, rfl, hD⟩, hb⟩
      have HB4 := hide (HBrp.out.trans (hb.mono HBrp.out.size))
      have HX4 := hide (HXrp.out.on hb)
      have HNdq := hide hD
      obtain ⟨Lnq, hLn⟩ : ∃ m, m = yq - xq := ⟨_, rfl⟩
      have HqE : Hid (la + (xq : Int) ≤ i ∧ i < la + (xq : Int) + (Lnq : Int) ↔ q i = true) := hide (by
        obtain ⟨hI1, hI2, hI3⟩ := hI
        constructor
        · intro h
          have := (hI3 (i - la).toNat (by omega)).2 (by omega)
          rw [show la + ((i - la).toNat : Int) = i by omega] at this
          exact this
        · intro h
          have hr := Hhq.out _ h
          have := (hI3 (i - la).toNat (by omega)).1 (by rw [show la + ((i - la).toNat : Int) = i by omega]; exact h)
          omega)
      have hLbq : Lnq + xq ≤ M ∨ Lnq = 0 := by have := hI.1; have := hI.2.1; omega
      have hLcq : xq ≤ M := by have := hI.1; have := hI.2.1; omega
      rw [← hLn] at HNdq ⊢
      clear hLn hI hD
      clear k0 k1 k2 k3 k4 k5 k6 k7 hs hb
      obtain ⟨⟨k0, k1, k2, k3, k4, k5, k6, k7⟩, hs⟩ := HX4.out
      go_wp2_with fail
      clear k0 k1 k2 k3 k4 k5 k6 k7 hs
      obtain ⟨b8, hb8⟩ : ∃ b8, b8 = b := ⟨_, rfl⟩
      rw [← hb8] at HEp ⊢
      clear hb8
      go_loopw [8, 51] (fun u z wr => ∃ (t : Nat) (b : Bool), t ≤ Lnq ∧ Hid (b = true ↔ la + (xq : Int) ≤ i ∧ i < la + (xq : Int) + (t : Int)) ∧ u = .bool b ∧ z = .int .i64 t ∧ Below w4.heap.size w4 wr) (fun _ z _ => Lnq - (intOf z).toNat)
      case atStart => exact ⟨0, false, Nat.zero_le _, hide ⟨fun h => (by cases h), fun h => (by omega)⟩, rfl, rfl, Below.refl _ _⟩
      case round =>
        obtain ⟨t, b, ht, HB, rfl, rfl, hbw⟩ := hrel
        have HBrq := hide (HB4.out.trans (hbw.mono HB4.out.size))
        have HXrq := hide (HX4.out.on hbw)
        have HBwq := hide hbw
        by_cases hlt : t < Lnq
        · obtain ⟨b9, rfl, hbl, hcell⟩ := (HNdq.out.on hbw) t hlt
          have hhas := Hhl.out (xq + t) (by omega)
          rw [show la + ((xq + t : Nat) : Int) = la + (xq : Int) + (t : Int) by omega] at hhas
          have HNi := hide (HhL.out (la + (xq : Int) + (t : Int)) _ HBrq.out)
          rw [hhas] at HNi
          clear hbw hhas
          obtain ⟨⟨k0, k1, k2, k3, k4, k5, k6, k7⟩, hs⟩ := HXrq.out
          have HB2 : Hid ((b || (la + (xq : Int) + (t : Int) == i)) = true ↔ la + (xq : Int) ≤ i ∧ i < la + (xq : Int) + ((t + 1 : Nat) : Int)) := hide (by
            have := HB.out
            rw [Bool.or_eq_true, this, beq_iff_eq]
            omega)
          cases b
          all_goals (
            go_wp2_with fail
            refine HNi.out.mono ?_
            rintro e w6 ⟨rfl, hb⟩
            have HBx := hide (HBwq.out.trans (hb.mono HBwq.out.size))
            clear hb k0 k1 k2 k3 k4 k5 k6 k7 hs
            go_wp2_with fail
            go_roundw
            case rel => exact ⟨t + 1, _, by omega, HB2.out, by simp, by go_num, HBx.out⟩
            case measure => simp [intOf]; omega)
        · obtain rfl : t = Lnq := by omega
          have HEq : Hid (b = q i) := hide (by
            rw [Bool.eq_iff_iff, HB.out]
            exact HqE.out)
          clear hbw HB
          have HEE : Hid (b8 = b) := hide (by rw [HEp.out, HEq.out, Hhpq.out])
          obtain rfl : b8 = b := HEE.out
          cases b8
          all_goals (
            go_wp2_with fail
            refine (Hha.out _ HBrq.out).mono ?_
            rintro e w5 ⟨rfl, hb⟩
            have HB5 := hide (HBrq.out.trans (hb.mono HBrq.out.size))
            clear hb
            go_wp2_with fail
            go_ret
            exact ⟨rfl, HO.out.trans (HB5.out.mono HO.out.size)⟩)

theorem windowBoth_walk (k n lk la lz uk ua uz : Int) (i j : Int) (w : World) (h1 : lz ≤ 9223372036854775807) (h2 : uz ≤ 9223372036854775807) (_ : -9223372036854775808 ≤ i) (_ : i ≤ 9223372036854775807) (_ : -9223372036854775808 ≤ j) (_ : j ≤ 9223372036854775807) (hR : Ra w) : Calls Tryd.prog 6 #[vC k n lk la lz uk ua uz, .int .i64 i, .int .i64 j] w fun e w' => e = .returned (.bool true) ∧ Below w.heap.size w w' := by
  have hO := C8_below w k n lk la lz uk ua uz
  have hR1 : ∀ w1, Below (w.alloc (.cells #[.int .i64 k, .int .i64 n, .int .i64 lk, .int .i64 la, .int .i64 lz, .int .i64 uk, .int .i64 ua, .int .i64 uz] 27)).heap.size (w.alloc (.cells #[.int .i64 k, .int .i64 n, .int .i64 lk, .int .i64 la, .int .i64 lz, .int .i64 uk, .int .i64 ua, .int .i64 uz] 27)) w1 → Ra w1 := fun w1 hb => hR.on (hO.trans (hb.mono hO.size))
  have hf : Gv (w.alloc (.cells #[.int .i64 k, .int .i64 n, .int .i64 lk, .int .i64 la, .int .i64 lz, .int .i64 uk, .int .i64 ua, .int .i64 uz] 27)) 10 #[vC k n lk la lz uk ua uz] (.int .i64 (fitE (cA k n lk la lz uk ua uz))) := fun w1 _ => fits_any k n lk la lz uk ua uz w1 h1 h2
  have ha : Gv (w.alloc (.cells #[.int .i64 k, .int .i64 n, .int .i64 lk, .int .i64 la, .int .i64 lz, .int .i64 uk, .int .i64 ua, .int .i64 uz] 27)) 11 #[] (.bool true) := fun w1 hb => mawake_any w1 (hR1 w1 hb)
  rcases fitE_some (cA k n lk la lz uk ua uz) with hq | hq | hq
  · rw [hq] at hf
    obtain ⟨_, ho, hp, _⟩ : formB k n = true ∧ okS lk la lz = true ∧ okS uk ua uz = true ∧ relB k lk uk = true := fitE_0 hq
    have hbo := ok_bd ho
    have hbp := ok_bd hp
    obtain ⟨M, m1, m2, m3, m4⟩ := cnt_nat ho
    obtain ⟨N, n1, n2, n3, n4⟩ := cnt_nat hp
    exact both_main k n lk la lz uk ua uz i j (needB (cA k n lk la lz uk ua uz) i) (fun x => needB (cA k n lk la lz uk ua uz) x j) N M w (by omega) (by omega) m2 (by omega) (by omega) n2
      (fun t ht => hasB_iff.2 ⟨hp, by omega, by omega⟩) (fun t ht => hasB_iff.2 ⟨ho, by omega, by omega⟩)
      (fun x hx => by have := (needB_iff.1 hx).2.1; have e : ua ≤ x ∧ x ≤ uz := this; omega) (fun x hx => by have := (needB_iff.1 hx).1; have e : la ≤ x ∧ x ≤ lz := this; omega) rfl hf
      (fun w1 hb => of_any k n lk la lz uk ua uz i N w1 (hR1 w1 hb).mon h1 h2 hq n1) (fun w1 hb => back_any k n lk la lz uk ua uz j M w1 (hR1 w1 hb).mon h1 h2 hq m1)
      (fun x w1 hb => has_any' uk ua uz x w1 (hR1 w1 hb).mon h2) (fun x w1 hb => has_any' lk la lz x w1 (hR1 w1 hb).mon h1) ha
  · rw [hq] at hf
    exact both_no20 k n lk la lz uk ua uz i j w hf ha
  · rw [hq] at hf
    exact both_no54 k n lk la lz uk ua uz i j w hf ha
end Go.Proofs.YtomhiganfmoceaaDoor
