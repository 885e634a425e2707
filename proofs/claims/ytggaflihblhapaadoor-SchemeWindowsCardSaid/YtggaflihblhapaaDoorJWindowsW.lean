/-
  The walk of SchemeWindows.
-/
import Derived.Test.YtggaflihblhapaaDoorJLaw
namespace Go.Proofs.YtggaflihblhapaaDoor
open Go.RowKit Go.Sort CM JM

set_option maxHeartbeats 4000000 in
set_option maxRecDepth 100000 in
theorem win_no (k a z i : Int) (w : World)
    (hr : Gv (w.alloc (.cells #[.int .i64 k, .int .i64 a, .int .i64 z] 41)) 18 #[vS k a z] (vS k a z))
    (hn : Gv (w.alloc (.cells #[.int .i64 k, .int .i64 a, .int .i64 z] 41)) 17 #[vS k a z] (.bool false))
    (ha : Gv (w.alloc (.cells #[.int .i64 k, .int .i64 a, .int .i64 z] 41)) 20 #[] (.bool true)) : Calls Tryd.prog 5 #[vS k a z, .int .i64 i] w fun e w' => e = .returned (.bool true) ∧ Below w.heap.size w w' := by
  have HR := hide hr
  have HN := hide hn
  have HA := hide ha
  have HO := hide (box_below w k a z)
  have HB0 := hide (Below.refl (w.alloc (.cells #[.int .i64 k, .int .i64 a, .int .i64 z] 41)).heap.size (w.alloc (.cells #[.int .i64 k, .int .i64 a, .int .i64 z] 41)))
  clear hr hn ha
  go_enter Tryd.func5, Tryd.ntmps5
  go_wp2_with fail
  refine (HR.out _ HB0.out).mono ?_
  rintro e w1 ⟨rfl, hb⟩
  have HB1 := hide (HB0.out.trans (hb.mono HB0.out.size))
  clear hb
  obtain ⟨⟨c0, c1, c2⟩, hs⟩ := box_stays HB1.out
  go_wp2_with fail
  refine (HN.out _ HB1.out).mono ?_
  rintro e w2 ⟨rfl, hb⟩
  have HB2 := hide (HB1.out.trans (hb.mono HB1.out.size))
  clear c0 c1 c2 hs hb
  obtain ⟨⟨c0, c1, c2⟩, hs⟩ := box_stays HB2.out
  go_wp2_with fail
  refine (HA.out _ HB2.out).mono ?_
  rintro e w3 ⟨rfl, hb⟩
  have HB3 := hide (HB2.out.trans (hb.mono HB2.out.size))
  clear c0 c1 c2 hs hb
  obtain ⟨⟨c0, c1, c2⟩, hs⟩ := box_stays HB3.out
  go_wp2_with fail
  go_ret
  exact ⟨rfl, HO.out.trans (HB3.out.mono HO.out.size)⟩
set_option maxHeartbeats 4000000 in
set_option maxRecDepth 100000 in
theorem win_lo (k a z i : Int) (w : World) (_ : i < a)
    (hr : Gv (w.alloc (.cells #[.int .i64 k, .int .i64 a, .int .i64 z] 41)) 18 #[vS k a z] (vS k a z))
    (hn : Gv (w.alloc (.cells #[.int .i64 k, .int .i64 a, .int .i64 z] 41)) 17 #[vS k a z] (.bool true))
    (hw : Gv (w.alloc (.cells #[.int .i64 k, .int .i64 a, .int .i64 z] 41)) 24 #[vS k a z, .int .i64 i] (.tuple #[.int .i64 0, .int .i64 0, .int .i64 30]))
    (ha : Gv (w.alloc (.cells #[.int .i64 k, .int .i64 a, .int .i64 z] 41)) 20 #[] (.bool true)) : Calls Tryd.prog 5 #[vS k a z, .int .i64 i] w fun e w' => e = .returned (.bool true) ∧ Below w.heap.size w w' := by
  have HR := hide hr
  have HN := hide hn
  have HW := hide hw
  have HA := hide ha
  have HO := hide (box_below w k a z)
  have HB0 := hide (Below.refl (w.alloc (.cells #[.int .i64 k, .int .i64 a, .int .i64 z] 41)).heap.size (w.alloc (.cells #[.int .i64 k, .int .i64 a, .int .i64 z] 41)))
  clear hr hn hw ha
  go_enter Tryd.func5, Tryd.ntmps5
  go_wp2_with fail
  refine (HR.out _ HB0.out).mono ?_
  rintro e w1 ⟨rfl, hb⟩
  have HB1 := hide (HB0.out.trans (hb.mono HB0.out.size))
  clear hb
  obtain ⟨⟨c0, c1, c2⟩, hs⟩ := box_stays HB1.out
  go_wp2_with fail
  refine (HN.out _ HB1.out).mono ?_
  rintro e w2 ⟨rfl, hb⟩
  have HB2 := hide (HB1.out.trans (hb.mono HB1.out.size))
  clear c0 c1 c2 hs hb
  obtain ⟨⟨c0, c1, c2⟩, hs⟩ := box_stays HB2.out
  go_wp2_with fail
  refine (HW.out _ HB2.out).mono ?_
  rintro e w3 ⟨rfl, hb⟩
  have HB3 := hide (HB2.out.trans (hb.mono HB2.out.size))
  clear c0 c1 c2 hs hb
  obtain ⟨⟨c0, c1, c2⟩, hs⟩ := box_stays HB3.out
  go_wp2_with fail
  refine (HA.out _ HB3.out).mono ?_
  rintro e w4 ⟨rfl, hb⟩
  have HB4 := hide (HB3.out.trans (hb.mono HB3.out.size))
  clear c0 c1 c2 hs hb
  obtain ⟨⟨c0, c1, c2⟩, hs⟩ := box_stays HB4.out
  go_wp2_with fail
  go_ret
  exact ⟨rfl, HO.out.trans (HB4.out.mono HO.out.size)⟩
set_option maxHeartbeats 4000000 in
set_option maxRecDepth 100000 in
theorem win_hi (k a z i : Int) (w : World) (_ : a ≤ i) (_ : z < i)
    (hr : Gv (w.alloc (.cells #[.int .i64 k, .int .i64 a, .int .i64 z] 41)) 18 #[vS k a z] (vS k a z))
    (hn : Gv (w.alloc (.cells #[.int .i64 k, .int .i64 a, .int .i64 z] 41)) 17 #[vS k a z] (.bool true))
    (hw : Gv (w.alloc (.cells #[.int .i64 k, .int .i64 a, .int .i64 z] 41)) 24 #[vS k a z, .int .i64 i] (.tuple #[.int .i64 0, .int .i64 0, .int .i64 30]))
    (ha : Gv (w.alloc (.cells #[.int .i64 k, .int .i64 a, .int .i64 z] 41)) 20 #[] (.bool true)) : Calls Tryd.prog 5 #[vS k a z, .int .i64 i] w fun e w' => e = .returned (.bool true) ∧ Below w.heap.size w w' := by
  have HR := hide hr
  have HN := hide hn
  have HW := hide hw
  have HA := hide ha
  have HO := hide (box_below w k a z)
  have HB0 := hide (Below.refl (w.alloc (.cells #[.int .i64 k, .int .i64 a, .int .i64 z] 41)).heap.size (w.alloc (.cells #[.int .i64 k, .int .i64 a, .int .i64 z] 41)))
  clear hr hn hw ha
  go_enter Tryd.func5, Tryd.ntmps5
  go_wp2_with fail
  refine (HR.out _ HB0.out).mono ?_
  rintro e w1 ⟨rfl, hb⟩
  have HB1 := hide (HB0.out.trans (hb.mono HB0.out.size))
  clear hb
  obtain ⟨⟨c0, c1, c2⟩, hs⟩ := box_stays HB1.out
  go_wp2_with fail
  refine (HN.out _ HB1.out).mono ?_
  rintro e w2 ⟨rfl, hb⟩
  have HB2 := hide (HB1.out.trans (hb.mono HB1.out.size))
  clear c0 c1 c2 hs hb
  obtain ⟨⟨c0, c1, c2⟩, hs⟩ := box_stays HB2.out
  go_wp2_with fail
  refine (HW.out _ HB2.out).mono ?_
  rintro e w3 ⟨rfl, hb⟩
  have HB3 := hide (HB2.out.trans (hb.mono HB2.out.size))
  clear c0 c1 c2 hs hb
  obtain ⟨⟨c0, c1, c2⟩, hs⟩ := box_stays HB3.out
  go_wp2_with fail
  refine (HA.out _ HB3.out).mono ?_
  rintro e w4 ⟨rfl, hb⟩
  have HB4 := hide (HB3.out.trans (hb.mono HB3.out.size))
  clear c0 c1 c2 hs hb
  obtain ⟨⟨c0, c1, c2⟩, hs⟩ := box_stays HB4.out
  go_wp2_with fail
  go_ret
  exact ⟨rfl, HO.out.trans (HB4.out.mono HO.out.size)⟩
set_option maxHeartbeats 4000000 in
set_option maxRecDepth 100000 in
theorem win_5 (a z i : Int) (w : World) (_ : a ≤ i) (_ : i ≤ z)
    (hr : Gv (w.alloc (.cells #[.int .i64 5, .int .i64 a, .int .i64 z] 41)) 18 #[vS 5 a z] (vS 5 a z))
    (hn : Gv (w.alloc (.cells #[.int .i64 5, .int .i64 a, .int .i64 z] 41)) 17 #[vS 5 a z] (.bool true))
    (hw : Gv (w.alloc (.cells #[.int .i64 5, .int .i64 a, .int .i64 z] 41)) 24 #[vS 5 a z, .int .i64 i] (.tuple #[.int .i64 0, .int .i64 0, .int .i64 54]))
    (ha : Gv (w.alloc (.cells #[.int .i64 5, .int .i64 a, .int .i64 z] 41)) 20 #[] (.bool true)) : Calls Tryd.prog 5 #[vS 5 a z, .int .i64 i] w fun e w' => e = .returned (.bool true) ∧ Below w.heap.size w w' := by
  have HR := hide hr
  have HN := hide hn
  have HW := hide hw
  have HA := hide ha
  have HO := hide (box_below w 5 a z)
  have HB0 := hide (Below.refl (w.alloc (.cells #[.int .i64 5, .int .i64 a, .int .i64 z] 41)).heap.size (w.alloc (.cells #[.int .i64 5, .int .i64 a, .int .i64 z] 41)))
  clear hr hn hw ha
  go_enter Tryd.func5, Tryd.ntmps5
  go_wp2_with fail
  refine (HR.out _ HB0.out).mono ?_
  rintro e w1 ⟨rfl, hb⟩
  have HB1 := hide (HB0.out.trans (hb.mono HB0.out.size))
  clear hb
  obtain ⟨⟨c0, c1, c2⟩, hs⟩ := box_stays HB1.out
  go_wp2_with fail
  refine (HN.out _ HB1.out).mono ?_
  rintro e w2 ⟨rfl, hb⟩
  have HB2 := hide (HB1.out.trans (hb.mono HB1.out.size))
  clear c0 c1 c2 hs hb
  obtain ⟨⟨c0, c1, c2⟩, hs⟩ := box_stays HB2.out
  go_wp2_with fail
  refine (HW.out _ HB2.out).mono ?_
  rintro e w3 ⟨rfl, hb⟩
  have HB3 := hide (HB2.out.trans (hb.mono HB2.out.size))
  clear c0 c1 c2 hs hb
  obtain ⟨⟨c0, c1, c2⟩, hs⟩ := box_stays HB3.out
  go_wp2_with fail
  refine (HA.out _ HB3.out).mono ?_
  rintro e w4 ⟨rfl, hb⟩
  have HB4 := hide (HB3.out.trans (hb.mono HB3.out.size))
  clear c0 c1 c2 hs hb
  obtain ⟨⟨c0, c1, c2⟩, hs⟩ := box_stays HB4.out
  go_wp2_with fail
  go_ret
  exact ⟨rfl, HO.out.trans (HB4.out.mono HO.out.size)⟩
set_option maxHeartbeats 4000000 in
set_option maxRecDepth 100000 in
theorem win_in (k a z i X Y : Int) (w : World) (_ : a ≤ i) (_ : i ≤ z) (_ : 0 ≤ i) (_ : i ≤ 40000000) (h5 : (k == 5) = false) (_ : X < Y)
    (hr : Gv (w.alloc (.cells #[.int .i64 k, .int .i64 a, .int .i64 z] 41)) 18 #[vS k a z] (vS k a z))
    (hn : Gv (w.alloc (.cells #[.int .i64 k, .int .i64 a, .int .i64 z] 41)) 17 #[vS k a z] (.bool true))
    (hw : Gv (w.alloc (.cells #[.int .i64 k, .int .i64 a, .int .i64 z] 41)) 24 #[vS k a z, .int .i64 i] (.tuple #[.int .i64 X, .int .i64 Y, .int .i64 0]))
    (hs : Gv (w.alloc (.cells #[.int .i64 k, .int .i64 a, .int .i64 z] 41)) 25 #[.int .i64 k, .int .i64 i] (.int .i64 X))
    (ht : Gv (w.alloc (.cells #[.int .i64 k, .int .i64 a, .int .i64 z] 41)) 25 #[.int .i64 k, .int .i64 (i + 1)] (.int .i64 Y))
    (ha : Gv (w.alloc (.cells #[.int .i64 k, .int .i64 a, .int .i64 z] 41)) 20 #[] (.bool true)) : Calls Tryd.prog 5 #[vS k a z, .int .i64 i] w fun e w' => e = .returned (.bool true) ∧ Below w.heap.size w w' := by
  have HR := hide hr
  have HN := hide hn
  have HW := hide hw
  have HS := hide hs
  have HT := hide ht
  have HA := hide ha
  have HO := hide (box_below w k a z)
  have HB0 := hide (Below.refl (w.alloc (.cells #[.int .i64 k, .int .i64 a, .int .i64 z] 41)).heap.size (w.alloc (.cells #[.int .i64 k, .int .i64 a, .int .i64 z] 41)))
  clear hr hn hw hs ht ha
  go_enter Tryd.func5, Tryd.ntmps5
  go_wp2_with fail
  refine (HR.out _ HB0.out).mono ?_
  rintro e w1 ⟨rfl, hb⟩
  have HB1 := hide (HB0.out.trans (hb.mono HB0.out.size))
  clear hb
  obtain ⟨⟨c0, c1, c2⟩, hs⟩ := box_stays HB1.out
  go_wp2_with fail
  refine (HN.out _ HB1.out).mono ?_
  rintro e w2 ⟨rfl, hb⟩
  have HB2 := hide (HB1.out.trans (hb.mono HB1.out.size))
  clear c0 c1 c2 hs hb
  obtain ⟨⟨c0, c1, c2⟩, hs⟩ := box_stays HB2.out
  go_wp2_with fail
  refine (HW.out _ HB2.out).mono ?_
  rintro e w3 ⟨rfl, hb⟩
  have HB3 := hide (HB2.out.trans (hb.mono HB2.out.size))
  clear c0 c1 c2 hs hb
  obtain ⟨⟨c0, c1, c2⟩, hs⟩ := box_stays HB3.out
  go_wp2_with fail
  refine (HS.out _ HB3.out).mono ?_
  rintro e w4 ⟨rfl, hb⟩
  have HB4 := hide (HB3.out.trans (hb.mono HB3.out.size))
  clear c0 c1 c2 hs hb
  obtain ⟨⟨c0, c1, c2⟩, hs⟩ := box_stays HB4.out
  go_wp2_with fail
  refine (HT.out _ HB4.out).mono ?_
  rintro e w5 ⟨rfl, hb⟩
  have HB5 := hide (HB4.out.trans (hb.mono HB4.out.size))
  clear c0 c1 c2 hs hb
  obtain ⟨⟨c0, c1, c2⟩, hs⟩ := box_stays HB5.out
  go_wp2_with fail
  refine (HA.out _ HB5.out).mono ?_
  rintro e w6 ⟨rfl, hb⟩
  have HB6 := hide (HB5.out.trans (hb.mono HB5.out.size))
  clear c0 c1 c2 hs hb
  obtain ⟨⟨c0, c1, c2⟩, hs⟩ := box_stays HB6.out
  go_wp2_with fail
  go_ret
  exact ⟨rfl, HO.out.trans (HB6.out.mono HO.out.size)⟩
theorem schemeWindows_walk (k a z i : Int) (w : World) (hz : z ≤ 9223372036854775807) (_ : -9223372036854775808 ≤ i) (_ : i ≤ 9223372036854775807) (hR : Rs w) : Calls Tryd.prog 5 #[vS k a z, .int .i64 i] w fun e w' => e = .returned (.bool true) ∧ Below w.heap.size w w' := by
  have hO := box_below w k a z
  have hR1 : ∀ w1, Below (w.alloc (.cells #[.int .i64 k, .int .i64 a, .int .i64 z] 41)).heap.size (w.alloc (.cells #[.int .i64 k, .int .i64 a, .int .i64 z] 41)) w1 → Rs w1 := fun w1 hb => hR.on (hO.trans (hb.mono hO.size))
  have hr : Gv (w.alloc (.cells #[.int .i64 k, .int .i64 a, .int .i64 z] 41)) 18 #[vS k a z] (vS k a z) := fun w1 _ => ref_any' k a z w1
  have hn : Gv (w.alloc (.cells #[.int .i64 k, .int .i64 a, .int .i64 z] 41)) 17 #[vS k a z] (.bool (okS k a z)) := fun w1 _ => right_any' k a z w1 hz
  have ha : Gv (w.alloc (.cells #[.int .i64 k, .int .i64 a, .int .i64 z] 41)) 20 #[] (.bool true) := fun w1 hb => awake_any w1 (hR1 w1 hb)
  have hw : Gv (w.alloc (.cells #[.int .i64 k, .int .i64 a, .int .i64 z] 41)) 24 #[vS k a z, .int .i64 i] (winV k a z i) := fun w1 hb => window_any k a z i w1 (hR1 w1 hb).mon hz
  cases hq : okS k a z
  · rw [hq] at hn
    exact win_no k a z i w hr hn ha
  · rw [hq] at hn
    have hbd := ok_bd hq
    have hgr := (okS_iff.1 hq).2.2.2
    by_cases g1 : i < a
    · rw [winV_no (by unfold hasB; rw [decide_eq_false (Int.not_le.2 g1)]; simp)] at hw
      exact win_lo k a z i w g1 hr hn hw ha
    by_cases g2 : z < i
    · rw [winV_no (by unfold hasB; rw [decide_eq_false (Int.not_le.2 g2)]; simp)] at hw
      exact win_hi k a z i w (by omega) g2 hr hn hw ha
    have hh : hasB k a z i = true := hasB_iff.2 ⟨hq, by omega, by omega⟩
    by_cases g5 : k = 5
    · rw [winV_5 hh g5] at hw
      subst g5
      exact win_5 a z i w (by omega) (by omega) hr hn hw ha
    · have hk : k = 1 ∨ k = 2 ∨ k = 3 ∨ k = 4 := by have := ok_kind hq; omega
      rw [winV_yes hh g5] at hw
      have hs : Gv (w.alloc (.cells #[.int .i64 k, .int .i64 a, .int .i64 z] 41)) 25 #[.int .i64 k, .int .i64 i] (.int .i64 (stV k i)) := fun w1 _ => start_any' k i w1 hk (by omega) (by omega)
      have ht : Gv (w.alloc (.cells #[.int .i64 k, .int .i64 a, .int .i64 z] 41)) 25 #[.int .i64 k, .int .i64 (i + 1)] (.int .i64 (stV k (i + 1))) := fun w1 _ => start_any' k (i + 1) w1 hk (by omega) (by omega)
      rw [stV_in (by omega) (by omega)] at hs ht
      exact win_in k a z i _ _ w (by omega) (by omega) (by omega) (by omega) (by simpa using g5) (bg_lt hk (by omega)) hr hn hw hs ht ha
end Go.Proofs.YtggaflihblhapaaDoor
