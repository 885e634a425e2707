/-
  The walk of SchemeWithin.
-/
import Derived.Test.YtggaflihblhapaaDoorJLaw
namespace Go.Proofs.YtggaflihblhapaaDoor
open Go.RowKit Go.Sort CM JM

set_option maxHeartbeats 4000000 in
set_option maxRecDepth 100000 in
theorem wit_no (k a z f t : Int) (w : World)
    (hr : Gv (w.alloc (.cells #[.int .i64 k, .int .i64 a, .int .i64 z] 41)) 18 #[vS k a z] (vS k a z))
    (hn : Gv (w.alloc (.cells #[.int .i64 k, .int .i64 a, .int .i64 z] 41)) 17 #[vS k a z] (.bool false))
    (ha : Gv (w.alloc (.cells #[.int .i64 k, .int .i64 a, .int .i64 z] 41)) 20 #[] (.bool true)) : Calls Tryd.prog 7 #[vS k a z, .int .i64 f, .int .i64 t] w fun e w' => e = .returned (.bool true) ∧ Below w.heap.size w w' := by
  have HR := hide hr
  have HN := hide hn
  have HA := hide ha
  have HO := hide (box_below w k a z)
  have HB0 := hide (Below.refl (w.alloc (.cells #[.int .i64 k, .int .i64 a, .int .i64 z] 41)).heap.size (w.alloc (.cells #[.int .i64 k, .int .i64 a, .int .i64 z] 41)))
  clear hr hn ha
  go_enter Tryd.func7, Tryd.ntmps7
  go_wp2_with fail
  refine (HR.out _ HB0.out).mono ?_
  rintro e w1 ⟨rfl, hb⟩
  have HB1 := hide (HB0.out.trans (hb.mono HB0.out.size))
  clear hb
  obtain ⟨⟨c0, c1, c2⟩, hs⟩ := box_stays HB1.out
  go_wp2_with fail
  refine (HN.out _ HB1.out).mono ?_
  rintro e w2 ⟨rfl, hb⟩
  have HB2 := hide (HB1.out.trans (hb.mono HB1.out.size))
  clear c0 c1 c2 hs hb
  obtain ⟨⟨c0, c1, c2⟩, hs⟩ := box_stays HB2.out
  go_wp2_with fail
  refine (HA.out _ HB2.out).mono ?_
  rintro e w3 ⟨rfl, hb⟩
  have HB3 := hide (HB2.out.trans (hb.mono HB2.out.size))
  clear c0 c1 c2 hs hb
  obtain ⟨⟨c0, c1, c2⟩, hs⟩ := box_stays HB3.out
  go_wp2_with fail
  go_ret
  exact ⟨rfl, HO.out.trans (HB3.out.mono HO.out.size)⟩
set_option maxHeartbeats 4000000 in
set_option maxRecDepth 100000 in
theorem wit_5 (a z f t : Int) (n : Nat) (w : World) (_ : 0 ≤ a) (_ : a ≤ 40000000) (_ : n ≤ 512)
    (hr : Gv (w.alloc (.cells #[.int .i64 5, .int .i64 a, .int .i64 z] 41)) 18 #[vS 5 a z] (vS 5 a z))
    (hn : Gv (w.alloc (.cells #[.int .i64 5, .int .i64 a, .int .i64 z] 41)) 17 #[vS 5 a z] (.bool true))
    (hw : Gv (w.alloc (.cells #[.int .i64 5, .int .i64 a, .int .i64 z] 41)) 27 #[vS 5 a z, .int .i64 f, .int .i64 t] (.slice none 0 0))
    (hp : ∀ w1, Below (w.alloc (.cells #[.int .i64 5, .int .i64 a, .int .i64 z] 41)).heap.size (w.alloc (.cells #[.int .i64 5, .int .i64 a, .int .i64 z] 41)) w1 → Calls Tryd.prog 21 #[vS 5 a z] w1 (NumOut a n w1))
    (hv : ∀ j : Nat, j < n → Gv (w.alloc (.cells #[.int .i64 5, .int .i64 a, .int .i64 z] 41)) 24 #[vS 5 a z, .int .i64 (a + (j : Int))] (.tuple #[.int .i64 0, .int .i64 0, .int .i64 54]))
    (ha : Gv (w.alloc (.cells #[.int .i64 5, .int .i64 a, .int .i64 z] 41)) 20 #[] (.bool true)) : Calls Tryd.prog 7 #[vS 5 a z, .int .i64 f, .int .i64 t] w fun e w' => e = .returned (.bool true) ∧ Below w.heap.size w w' := by
  have HR := hide hr
  have HN := hide hn
  have HW := hide hw
  have HP := hide hp
  have HV := hide hv
  have HA := hide ha
  have HO := hide (box_below w 5 a z)
  have HB0 := hide (Below.refl (w.alloc (.cells #[.int .i64 5, .int .i64 a, .int .i64 z] 41)).heap.size (w.alloc (.cells #[.int .i64 5, .int .i64 a, .int .i64 z] 41)))
  clear hr hn hw hp hv ha
  go_enter Tryd.func7, Tryd.ntmps7
  go_wp2_with fail
  refine (HR.out _ HB0.out).mono ?_
  rintro e w1 ⟨rfl, hb⟩
  have HB1 := hide (HB0.out.trans (hb.mono HB0.out.size))
  clear hb
  obtain ⟨⟨c0, c1, c2⟩, hs⟩ := box_stays HB1.out
  go_wp2_with fail
  refine (HN.out _ HB1.out).mono ?_
  rintro e w2 ⟨rfl, hb⟩
  have HB2 := hide (HB1.out.trans (hb.mono HB1.out.size))
  clear c0 c1 c2 hs hb
  obtain ⟨⟨c0, c1, c2⟩, hs⟩ := box_stays HB2.out
  go_wp2_with fail
  refine (HW.out _ HB2.out).mono ?_
  rintro e w3 ⟨rfl, hb⟩
  have HB3 := hide (HB2.out.trans (hb.mono HB2.out.size))
  clear c0 c1 c2 hs hb
  obtain ⟨⟨c0, c1, c2⟩, hs⟩ := box_stays HB3.out
  go_wp2_with fail
  refine (HP.out _ HB3.out).mono ?_
  rintro e w4 ⟨⟨A, cap, rfl, hA⟩, hb⟩
  have HNu := hide hA
  have HB4 := hide (HB3.out.trans (hb.mono HB3.out.size))
  clear c0 c1 c2 hs hA
  clear hb
  obtain ⟨⟨c0, c1, c2⟩, hs⟩ := box_stays HB4.out
  go_wp2_with fail
  clear c0 c1 c2 hs
  go_loopw [8, 26] (fun u j wr => ∃ i : Nat, i ≤ n ∧ u = .int .i64 0 ∧ j = .int .i64 i ∧ Below w4.heap.size w4 wr) (fun _ j _ => n - (intOf j).toNat)
  case atStart => exact ⟨0, Nat.zero_le _, rfl, rfl, Below.refl _ _⟩
  case round =>
    obtain ⟨i, hi, rfl, rfl, hbw⟩ := hrel
    have HBr := hide (HB4.out.trans (hbw.mono HB4.out.size))
    have HBw := hide hbw
    by_cases hlt : i < n
    · obtain ⟨b, rfl, hbl, hcell⟩ := (HNu.out.on hbw) i hlt
      clear hbw
      obtain ⟨⟨c0, c1, c2⟩, hs⟩ := box_stays HBr.out
      go_wp2_with fail
      refine (HV.out i hlt _ HBr.out).mono ?_
      rintro e w5 ⟨rfl, hb⟩
      have HBx := hide (HBw.out.trans (hb.mono HBw.out.size))
      clear hb c0 c1 c2 hs
      go_wp2_with fail
      go_roundw
      case rel => exact ⟨i + 1, by omega, rfl, by go_num, HBx.out⟩
      case measure => simp [intOf]; omega
    · clear hbw
      go_wp2_with fail
      refine (HA.out _ HBr.out).mono ?_
      rintro e w5 ⟨rfl, hb⟩
      have HB5 := hide (HBr.out.trans (hb.mono HBr.out.size))
      clear hb
      go_wp2_with fail
      go_ret
      exact ⟨rfl, HO.out.trans (HB5.out.mono HO.out.size)⟩
set_option maxHeartbeats 4000000 in
set_option maxRecDepth 100000 in
theorem wit_main (k a z f t : Int) (n : Nat) (w : World) (_ : 0 ≤ a) (_ : a ≤ 40000000) (_ : n ≤ 512)
    (hr : Gv (w.alloc (.cells #[.int .i64 k, .int .i64 a, .int .i64 z] 41)) 18 #[vS k a z] (vS k a z))
    (hn : Gv (w.alloc (.cells #[.int .i64 k, .int .i64 a, .int .i64 z] 41)) 17 #[vS k a z] (.bool true))
    (hw : ∀ w1, Below (w.alloc (.cells #[.int .i64 k, .int .i64 a, .int .i64 z] 41)).heap.size (w.alloc (.cells #[.int .i64 k, .int .i64 a, .int .i64 z] 41)) w1 → Calls Tryd.prog 27 #[vS k a z, .int .i64 f, .int .i64 t] w1 (WithOut k a f t n w1))
    (hp : ∀ w1, Below (w.alloc (.cells #[.int .i64 k, .int .i64 a, .int .i64 z] 41)).heap.size (w.alloc (.cells #[.int .i64 k, .int .i64 a, .int .i64 z] 41)) w1 → Calls Tryd.prog 21 #[vS k a z] w1 (NumOut a n w1))
    (hv : ∀ j : Nat, j < n → Gv (w.alloc (.cells #[.int .i64 k, .int .i64 a, .int .i64 z] 41)) 24 #[vS k a z, .int .i64 (a + (j : Int))] (.tuple #[.int .i64 (bg k (a + (j : Int))), .int .i64 (bg k (a + (j : Int) + 1)), .int .i64 0]))
    (ha : Gv (w.alloc (.cells #[.int .i64 k, .int .i64 a, .int .i64 z] 41)) 20 #[] (.bool true)) : Calls Tryd.prog 7 #[vS k a z, .int .i64 f, .int .i64 t] w fun e w' => e = .returned (.bool true) ∧ Below w.heap.size w w' := by
  have HR := hide hr
  have HN := hide hn
  have HW := hide hw
  have HP := hide hp
  have HV := hide hv
  have HA := hide ha
  have HO := hide (box_below w k a z)
  have HB0 := hide (Below.refl (w.alloc (.cells #[.int .i64 k, .int .i64 a, .int .i64 z] 41)).heap.size (w.alloc (.cells #[.int .i64 k, .int .i64 a, .int .i64 z] 41)))
  clear hr hn hw hp hv ha
  go_enter Tryd.func7, Tryd.ntmps7
  go_wp2_with fail
  refine (HR.out _ HB0.out).mono ?_
  rintro e w1 ⟨rfl, hb⟩
  have HB1 := hide (HB0.out.trans (hb.mono HB0.out.size))
  clear hb
  obtain ⟨⟨c0, c1, c2⟩, hs⟩ := box_stays HB1.out
  go_wp2_with fail
  refine (HN.out _ HB1.out).mono ?_
  rintro e w2 ⟨rfl, hb⟩
  have HB2 := hide (HB1.out.trans (hb.mono HB1.out.size))
  clear c0 c1 c2 hs hb
  obtain ⟨⟨c0, c1, c2⟩, hs⟩ := box_stays HB2.out
  go_wp2_with fail
  refine (HW.out _ HB2.out).mono ?_
  rintro e w3 ⟨⟨D, dcap, x, y, hx, hy, rfl, hD⟩, hb⟩
  have HNd := hide hD
  have HI : Hid (∀ i, i < n → (f ≤ bg k (a + (i : Int)) ↔ x ≤ i) ∧ (bg k (a + (i : Int) + 1) ≤ t ↔ i < y)) := hide fun i hi => within_iff hx hy hi
  have hyn := hy.1
  have hxn := hx.1
  have HB3 := hide (HB2.out.trans (hb.mono HB2.out.size))
  obtain ⟨Ln, hLn⟩ : ∃ m, m = y - x := ⟨_, rfl⟩
  rw [← hLn] at HNd ⊢
  have HL := hide hLn
  clear c0 c1 c2 hs hb hD hx hy
  have hLb : Ln ≤ 512 := by omega
  clear hLn
  obtain ⟨⟨c0, c1, c2⟩, hs⟩ := box_stays HB3.out
  go_wp2_with fail
  refine (HP.out _ HB3.out).mono ?_
  rintro e w4 ⟨⟨A, cap, rfl, hA⟩, hb⟩
  have HNu := hide hA
  have HB4 := hide (HB3.out.trans (hb.mono HB3.out.size))
  clear c0 c1 c2 hs hA
  have HNd4 := hide (HNd.out.on hb)
  clear hb
  obtain ⟨⟨c0, c1, c2⟩, hs⟩ := box_stays HB4.out
  go_wp2_with fail
  clear c0 c1 c2 hs HNd
  go_loopw [8, 26] (fun u j wr => ∃ i c : Nat, i ≤ n ∧ c ≤ i ∧ Hid (c = cntW x y i) ∧ u = .int .i64 c ∧ j = .int .i64 i ∧ Below w4.heap.size w4 wr) (fun _ j _ => n - (intOf j).toNat)
  case atStart => exact ⟨0, 0, Nat.zero_le _, Nat.zero_le _, hide (by unfold cntW; omega), rfl, rfl, Below.refl _ _⟩
  case round =>
    obtain ⟨i, c, hi, hci, HC, rfl, rfl, hbw⟩ := hrel
    have HBr := hide (HB4.out.trans (hbw.mono HB4.out.size))
    have HBw := hide hbw
    by_cases hlt : i < n
    · obtain ⟨b, rfl, hbl, hcell⟩ := (HNu.out.on hbw) i hlt
      have HNdr := hide (HNd4.out.on hbw)
      have HVi := hide (HV.out i hlt _ HBr.out)
      obtain ⟨g1, g2⟩ := HI.out i hlt
      clear hbw
      generalize bg k (a + (i : Int)) = P at *
      generalize bg k (a + (i : Int) + 1) = Q at *
      have HG1 := hide g1
      have HG2 := hide g2
      clear g1 g2
      obtain ⟨⟨c0, c1, c2⟩, hs⟩ := box_stays HBr.out
      by_cases gf : P < f
      · go_wp2_with fail
        refine HVi.out.mono ?_
        rintro e w6 ⟨rfl, hb⟩
        have HBx := hide (HBw.out.trans (hb.mono HBw.out.size))
        have HNw6 := hide (HNdr.out.on hb)
        clear hb c0 c1 c2 hs
        have hx1 : i < x := by have := HG1.out; omega
        go_wp2_with fail
        go_roundw
        case rel => exact ⟨i + 1, c, by omega, by omega, hide (by have := HC.out; unfold cntW at *; omega), rfl, by go_num, HBx.out⟩
        case measure => simp [intOf]; omega
      by_cases gt : t < Q
      · go_wp2_with fail
        refine HVi.out.mono ?_
        rintro e w6 ⟨rfl, hb⟩
        have HBx := hide (HBw.out.trans (hb.mono HBw.out.size))
        have HNw6 := hide (HNdr.out.on hb)
        clear hb c0 c1 c2 hs
        have hy1 : y ≤ i := by have := HG2.out; omega
        go_wp2_with fail
        go_roundw
        case rel => exact ⟨i + 1, c, by omega, by omega, hide (by have := HC.out; unfold cntW at *; omega), rfl, by go_num, HBx.out⟩
        case measure => simp [intOf]; omega
      · have hx1 : x ≤ i := HG1.out.1 (by omega)
        have hy1 : i < y := HG2.out.1 (by omega)
        go_wp2_with fail
        refine HVi.out.mono ?_
        rintro e w6 ⟨rfl, hb⟩
        have HBx := hide (HBw.out.trans (hb.mono HBw.out.size))
        have HNw6 := hide (HNdr.out.on hb)
        clear hb c0 c1 c2 hs
        have hcl : c < Ln := by have := HC.out; have := HL.out; unfold cntW at *; omega
        obtain ⟨b2, rfl, hbl2, hcell2⟩ := HNw6.out c hcl
        have q : ((a + (x : Int) + (c : Int)) != a + (i : Int)) = false := by
          have := HC.out
          unfold cntW at this
          simp
          omega
        go_wp2_with fail
        go_roundw
        case rel => exact ⟨i + 1, c + 1, by omega, by omega, hide (by have := HC.out; unfold cntW at *; omega), by go_num, by go_num, HBx.out⟩
        case measure => simp [intOf]; omega
    · clear hbw
      have hend : c = Ln := by have := HC.out; have := HL.out; unfold cntW at *; omega
      have qe : ((c : Int) == (Ln : Int)) = true := by simp; omega
      go_wp2_with fail
      refine (HA.out _ HBr.out).mono ?_
      rintro e w5 ⟨rfl, hb⟩
      have HB5 := hide (HBr.out.trans (hb.mono HBr.out.size))
      clear hb
      go_wp2_with fail
      go_ret
      exact ⟨rfl, HO.out.trans (HB5.out.mono HO.out.size)⟩
theorem schemeWithin_walk (k a z f t : Int) (w : World) (hz : z ≤ 9223372036854775807) (_ : -9223372036854775808 ≤ f) (_ : f ≤ 9223372036854775807) (_ : -9223372036854775808 ≤ t) (_ : t ≤ 9223372036854775807) (hR : Rs w) : Calls Tryd.prog 7 #[vS k a z, .int .i64 f, .int .i64 t] w fun e w' => e = .returned (.bool true) ∧ Below w.heap.size w w' := by
  have hO := box_below w k a z
  have hR1 : ∀ w1, Below (w.alloc (.cells #[.int .i64 k, .int .i64 a, .int .i64 z] 41)).heap.size (w.alloc (.cells #[.int .i64 k, .int .i64 a, .int .i64 z] 41)) w1 → Rs w1 := fun w1 hb => hR.on (hO.trans (hb.mono hO.size))
  have hr : Gv (w.alloc (.cells #[.int .i64 k, .int .i64 a, .int .i64 z] 41)) 18 #[vS k a z] (vS k a z) := fun w1 _ => ref_any' k a z w1
  have hn : Gv (w.alloc (.cells #[.int .i64 k, .int .i64 a, .int .i64 z] 41)) 17 #[vS k a z] (.bool (okS k a z)) := fun w1 _ => right_any' k a z w1 hz
  have ha : Gv (w.alloc (.cells #[.int .i64 k, .int .i64 a, .int .i64 z] 41)) 20 #[] (.bool true) := fun w1 hb => awake_any w1 (hR1 w1 hb)
  cases hq : okS k a z
  · rw [hq] at hn
    exact wit_no k a z f t w hr hn ha
  · rw [hq] at hn
    have hbd := ok_bd hq
    obtain ⟨n, n1, n2, n3, n4⟩ := cnt_nat hq
    have hp := fun w1 hb => parts_any k a z n w1 (hR1 w1 hb).mon hq n1
    have hw9 := fun j => (fun w1 hb => window_any k a z j w1 (hR1 w1 hb).mon hz : Gv (w.alloc (.cells #[.int .i64 k, .int .i64 a, .int .i64 z] 41)) 24 #[vS k a z, .int .i64 j] (winV k a z j))
    by_cases g5 : k = 5
    · subst g5
      exact wit_5 a z f t n w (by omega) (by omega) n2 hr hn (fun w1 _ => within_5 a z f t w1) hp (fun j hj => by
        have := hw9 (a + (j : Int))
        rw [winV_5 (hasB_iff.2 ⟨hq, by omega, by omega⟩) rfl] at this
        exact this) ha
    · exact wit_main k a z f t n w (by omega) (by omega) n2 hr hn (fun w1 hb => within_any k a z f t n w1 (hR1 w1 hb).mon hq g5 n1) hp (fun j hj => by
        have := hw9 (a + (j : Int))
        rw [winV_yes (hasB_iff.2 ⟨hq, by omega, by omega⟩) g5] at this
        exact this) ha
end Go.Proofs.YtggaflihblhapaaDoor
