/-
  The walk of SchemeTiles.
-/
import Derived.Test.YtggaflihblhapaaDoorJLaw
namespace Go.Proofs.YtggaflihblhapaaDoor
open Go.RowKit Go.Sort CM JM

set_option maxHeartbeats 4000000 in
set_option maxRecDepth 100000 in
theorem til_no (k a z m : Int) (w : World)
    (hr : Gv (w.alloc (.cells #[.int .i64 k, .int .i64 a, .int .i64 z] 41)) 18 #[vS k a z] (vS k a z))
    (hn : Gv (w.alloc (.cells #[.int .i64 k, .int .i64 a, .int .i64 z] 41)) 17 #[vS k a z] (.bool false))
    (ha : Gv (w.alloc (.cells #[.int .i64 k, .int .i64 a, .int .i64 z] 41)) 20 #[] (.bool true)) : Calls Tryd.prog 6 #[vS k a z, .int .i64 m] w fun e w' => e = .returned (.bool true) ∧ Below w.heap.size w w' := by
  have HR := hide hr
  have HN := hide hn
  have HA := hide ha
  have HO := hide (box_below w k a z)
  have HB0 := hide (Below.refl (w.alloc (.cells #[.int .i64 k, .int .i64 a, .int .i64 z] 41)).heap.size (w.alloc (.cells #[.int .i64 k, .int .i64 a, .int .i64 z] 41)))
  clear hr hn ha
  go_enter Tryd.func6, Tryd.ntmps6
  go_wp2_with fail
  refine (HR.out _ HB0.out).mono ?_
  rintro e w1 ⟨rfl, hb⟩
  have HB1 := hide (HB0.out.trans (hb.mono HB0.out.size))
  clear hb
  obtain ⟨⟨c0, c1, c2⟩, hs⟩ := box_stays HB1.out
  go_wp2_with fail
  refine (HN.out _ HB1.out).mono ?_
  rintro e w2 ⟨rfl, hb⟩
  have HB2 := hide (HB1.out.trans (hb.mono HB1.out.size))
  clear c0 c1 c2 hs hb
  obtain ⟨⟨c0, c1, c2⟩, hs⟩ := box_stays HB2.out
  go_wp2_with fail
  refine (HA.out _ HB2.out).mono ?_
  rintro e w3 ⟨rfl, hb⟩
  have HB3 := hide (HB2.out.trans (hb.mono HB2.out.size))
  clear c0 c1 c2 hs hb
  obtain ⟨⟨c0, c1, c2⟩, hs⟩ := box_stays HB3.out
  go_wp2_with fail
  go_ret
  exact ⟨rfl, HO.out.trans (HB3.out.mono HO.out.size)⟩
set_option maxHeartbeats 4000000 in
set_option maxRecDepth 100000 in
theorem til_5 (a z m : Int) (w : World)
    (hr : Gv (w.alloc (.cells #[.int .i64 5, .int .i64 a, .int .i64 z] 41)) 18 #[vS 5 a z] (vS 5 a z))
    (hn : Gv (w.alloc (.cells #[.int .i64 5, .int .i64 a, .int .i64 z] 41)) 17 #[vS 5 a z] (.bool true))
    (hat : Gv (w.alloc (.cells #[.int .i64 5, .int .i64 a, .int .i64 z] 41)) 26 #[vS 5 a z, .int .i64 m] (.tuple #[.int .i64 0, .bool false]))
    (ha : Gv (w.alloc (.cells #[.int .i64 5, .int .i64 a, .int .i64 z] 41)) 20 #[] (.bool true)) : Calls Tryd.prog 6 #[vS 5 a z, .int .i64 m] w fun e w' => e = .returned (.bool true) ∧ Below w.heap.size w w' := by
  have HR := hide hr
  have HN := hide hn
  have HAT := hide hat
  have HA := hide ha
  have HO := hide (box_below w 5 a z)
  have HB0 := hide (Below.refl (w.alloc (.cells #[.int .i64 5, .int .i64 a, .int .i64 z] 41)).heap.size (w.alloc (.cells #[.int .i64 5, .int .i64 a, .int .i64 z] 41)))
  clear hr hn hat ha
  go_enter Tryd.func6, Tryd.ntmps6
  go_wp2_with fail
  refine (HR.out _ HB0.out).mono ?_
  rintro e w1 ⟨rfl, hb⟩
  have HB1 := hide (HB0.out.trans (hb.mono HB0.out.size))
  clear hb
  obtain ⟨⟨c0, c1, c2⟩, hs⟩ := box_stays HB1.out
  go_wp2_with fail
  refine (HN.out _ HB1.out).mono ?_
  rintro e w2 ⟨rfl, hb⟩
  have HB2 := hide (HB1.out.trans (hb.mono HB1.out.size))
  clear c0 c1 c2 hs hb
  obtain ⟨⟨c0, c1, c2⟩, hs⟩ := box_stays HB2.out
  go_wp2_with fail
  refine (HAT.out _ HB2.out).mono ?_
  rintro e w3 ⟨rfl, hb⟩
  have HB3 := hide (HB2.out.trans (hb.mono HB2.out.size))
  clear c0 c1 c2 hs hb
  obtain ⟨⟨c0, c1, c2⟩, hs⟩ := box_stays HB3.out
  go_wp2_with fail
  refine (HA.out _ HB3.out).mono ?_
  rintro e w4 ⟨rfl, hb⟩
  have HB4 := hide (HB3.out.trans (hb.mono HB3.out.size))
  clear c0 c1 c2 hs hb
  obtain ⟨⟨c0, c1, c2⟩, hs⟩ := box_stays HB4.out
  go_wp2_with fail
  go_ret
  exact ⟨rfl, HO.out.trans (HB4.out.mono HO.out.size)⟩
set_option maxHeartbeats 4000000 in
set_option maxRecDepth 100000 in
theorem til_lo0 (k a z m X X1 Z Z1 : Int) (w : World) (h5 : (k == 5) = false) (_ : 0 ≤ a) (_ : a ≤ 40000000) (_ : ¬ a < z) (_ : m < X)
    (hr : Gv (w.alloc (.cells #[.int .i64 k, .int .i64 a, .int .i64 z] 41)) 18 #[vS k a z] (vS k a z))
    (hn : Gv (w.alloc (.cells #[.int .i64 k, .int .i64 a, .int .i64 z] 41)) 17 #[vS k a z] (.bool true))
    (hat : Gv (w.alloc (.cells #[.int .i64 k, .int .i64 a, .int .i64 z] 41)) 26 #[vS k a z, .int .i64 m] (.tuple #[.int .i64 0, .bool false]))
    (hv : Gv (w.alloc (.cells #[.int .i64 k, .int .i64 a, .int .i64 z] 41)) 24 #[vS k a z, .int .i64 a] (.tuple #[.int .i64 X, .int .i64 X1, .int .i64 0]))
    (hw : Gv (w.alloc (.cells #[.int .i64 k, .int .i64 a, .int .i64 z] 41)) 24 #[vS k a z, .int .i64 z] (.tuple #[.int .i64 Z, .int .i64 Z1, .int .i64 0]))
    (ha : Gv (w.alloc (.cells #[.int .i64 k, .int .i64 a, .int .i64 z] 41)) 20 #[] (.bool true)) : Calls Tryd.prog 6 #[vS k a z, .int .i64 m] w fun e w' => e = .returned (.bool true) ∧ Below w.heap.size w w' := by
  have HR := hide hr
  have HN := hide hn
  have HAT := hide hat
  have HV := hide hv
  have HW := hide hw
  have HA := hide ha
  have HO := hide (box_below w k a z)
  have HB0 := hide (Below.refl (w.alloc (.cells #[.int .i64 k, .int .i64 a, .int .i64 z] 41)).heap.size (w.alloc (.cells #[.int .i64 k, .int .i64 a, .int .i64 z] 41)))
  clear hr hn hat hv hw ha
  go_enter Tryd.func6, Tryd.ntmps6
  go_wp2_with fail
  refine (HR.out _ HB0.out).mono ?_
  rintro e w1 ⟨rfl, hb⟩
  have HB1 := hide (HB0.out.trans (hb.mono HB0.out.size))
  clear hb
  obtain ⟨⟨c0, c1, c2⟩, hs⟩ := box_stays HB1.out
  go_wp2_with fail
  refine (HN.out _ HB1.out).mono ?_
  rintro e w2 ⟨rfl, hb⟩
  have HB2 := hide (HB1.out.trans (hb.mono HB1.out.size))
  clear c0 c1 c2 hs hb
  obtain ⟨⟨c0, c1, c2⟩, hs⟩ := box_stays HB2.out
  go_wp2_with fail
  refine (HAT.out _ HB2.out).mono ?_
  rintro e w3 ⟨rfl, hb⟩
  have HB3 := hide (HB2.out.trans (hb.mono HB2.out.size))
  clear c0 c1 c2 hs hb
  obtain ⟨⟨c0, c1, c2⟩, hs⟩ := box_stays HB3.out
  go_wp2_with fail
  refine (HV.out _ HB3.out).mono ?_
  rintro e w4 ⟨rfl, hb⟩
  have HB4 := hide (HB3.out.trans (hb.mono HB3.out.size))
  clear c0 c1 c2 hs hb
  obtain ⟨⟨c0, c1, c2⟩, hs⟩ := box_stays HB4.out
  go_wp2_with fail
  refine (HW.out _ HB4.out).mono ?_
  rintro e w5 ⟨rfl, hb⟩
  have HB5 := hide (HB4.out.trans (hb.mono HB4.out.size))
  clear c0 c1 c2 hs hb
  obtain ⟨⟨c0, c1, c2⟩, hs⟩ := box_stays HB5.out
  go_wp2_with fail
  refine (HA.out _ HB5.out).mono ?_
  rintro e w6 ⟨rfl, hb⟩
  have HB6 := hide (HB5.out.trans (hb.mono HB5.out.size))
  clear c0 c1 c2 hs hb
  obtain ⟨⟨c0, c1, c2⟩, hs⟩ := box_stays HB6.out
  go_wp2_with fail
  go_ret
  exact ⟨rfl, HO.out.trans (HB6.out.mono HO.out.size)⟩
set_option maxHeartbeats 4000000 in
set_option maxRecDepth 100000 in
theorem til_hi0 (k a z m X X1 Z Z1 : Int) (w : World) (h5 : (k == 5) = false) (_ : 0 ≤ a) (_ : a ≤ 40000000) (_ : ¬ a < z) (_ : X ≤ m) (_ : Z1 ≤ m)
    (hr : Gv (w.alloc (.cells #[.int .i64 k, .int .i64 a, .int .i64 z] 41)) 18 #[vS k a z] (vS k a z))
    (hn : Gv (w.alloc (.cells #[.int .i64 k, .int .i64 a, .int .i64 z] 41)) 17 #[vS k a z] (.bool true))
    (hat : Gv (w.alloc (.cells #[.int .i64 k, .int .i64 a, .int .i64 z] 41)) 26 #[vS k a z, .int .i64 m] (.tuple #[.int .i64 0, .bool false]))
    (hv : Gv (w.alloc (.cells #[.int .i64 k, .int .i64 a, .int .i64 z] 41)) 24 #[vS k a z, .int .i64 a] (.tuple #[.int .i64 X, .int .i64 X1, .int .i64 0]))
    (hw : Gv (w.alloc (.cells #[.int .i64 k, .int .i64 a, .int .i64 z] 41)) 24 #[vS k a z, .int .i64 z] (.tuple #[.int .i64 Z, .int .i64 Z1, .int .i64 0]))
    (ha : Gv (w.alloc (.cells #[.int .i64 k, .int .i64 a, .int .i64 z] 41)) 20 #[] (.bool true)) : Calls Tryd.prog 6 #[vS k a z, .int .i64 m] w fun e w' => e = .returned (.bool true) ∧ Below w.heap.size w w' := by
  have HR := hide hr
  have HN := hide hn
  have HAT := hide hat
  have HV := hide hv
  have HW := hide hw
  have HA := hide ha
  have HO := hide (box_below w k a z)
  have HB0 := hide (Below.refl (w.alloc (.cells #[.int .i64 k, .int .i64 a, .int .i64 z] 41)).heap.size (w.alloc (.cells #[.int .i64 k, .int .i64 a, .int .i64 z] 41)))
  clear hr hn hat hv hw ha
  go_enter Tryd.func6, Tryd.ntmps6
  go_wp2_with fail
  refine (HR.out _ HB0.out).mono ?_
  rintro e w1 ⟨rfl, hb⟩
  have HB1 := hide (HB0.out.trans (hb.mono HB0.out.size))
  clear hb
  obtain ⟨⟨c0, c1, c2⟩, hs⟩ := box_stays HB1.out
  go_wp2_with fail
  refine (HN.out _ HB1.out).mono ?_
  rintro e w2 ⟨rfl, hb⟩
  have HB2 := hide (HB1.out.trans (hb.mono HB1.out.size))
  clear c0 c1 c2 hs hb
  obtain ⟨⟨c0, c1, c2⟩, hs⟩ := box_stays HB2.out
  go_wp2_with fail
  refine (HAT.out _ HB2.out).mono ?_
  rintro e w3 ⟨rfl, hb⟩
  have HB3 := hide (HB2.out.trans (hb.mono HB2.out.size))
  clear c0 c1 c2 hs hb
  obtain ⟨⟨c0, c1, c2⟩, hs⟩ := box_stays HB3.out
  go_wp2_with fail
  refine (HV.out _ HB3.out).mono ?_
  rintro e w4 ⟨rfl, hb⟩
  have HB4 := hide (HB3.out.trans (hb.mono HB3.out.size))
  clear c0 c1 c2 hs hb
  obtain ⟨⟨c0, c1, c2⟩, hs⟩ := box_stays HB4.out
  go_wp2_with fail
  refine (HW.out _ HB4.out).mono ?_
  rintro e w5 ⟨rfl, hb⟩
  have HB5 := hide (HB4.out.trans (hb.mono HB4.out.size))
  clear c0 c1 c2 hs hb
  obtain ⟨⟨c0, c1, c2⟩, hs⟩ := box_stays HB5.out
  go_wp2_with fail
  refine (HA.out _ HB5.out).mono ?_
  rintro e w6 ⟨rfl, hb⟩
  have HB6 := hide (HB5.out.trans (hb.mono HB5.out.size))
  clear c0 c1 c2 hs hb
  obtain ⟨⟨c0, c1, c2⟩, hs⟩ := box_stays HB6.out
  go_wp2_with fail
  go_ret
  exact ⟨rfl, HO.out.trans (HB6.out.mono HO.out.size)⟩
set_option maxHeartbeats 4000000 in
set_option maxRecDepth 100000 in
theorem til_in0 (k a z m i X X1 Z Z1 P P1 : Int) (w : World) (h5 : (k == 5) = false) (_ : 0 ≤ a) (_ : a ≤ 40000000) (_ : ¬ a < z) (_ : X ≤ m) (_ : m < Z1) (_ : P ≤ m) (_ : m < P1)
    (hr : Gv (w.alloc (.cells #[.int .i64 k, .int .i64 a, .int .i64 z] 41)) 18 #[vS k a z] (vS k a z))
    (hn : Gv (w.alloc (.cells #[.int .i64 k, .int .i64 a, .int .i64 z] 41)) 17 #[vS k a z] (.bool true))
    (hat : Gv (w.alloc (.cells #[.int .i64 k, .int .i64 a, .int .i64 z] 41)) 26 #[vS k a z, .int .i64 m] (.tuple #[.int .i64 i, .bool true]))
    (hv : Gv (w.alloc (.cells #[.int .i64 k, .int .i64 a, .int .i64 z] 41)) 24 #[vS k a z, .int .i64 a] (.tuple #[.int .i64 X, .int .i64 X1, .int .i64 0]))
    (hw : Gv (w.alloc (.cells #[.int .i64 k, .int .i64 a, .int .i64 z] 41)) 24 #[vS k a z, .int .i64 z] (.tuple #[.int .i64 Z, .int .i64 Z1, .int .i64 0]))
    (hi : Gv (w.alloc (.cells #[.int .i64 k, .int .i64 a, .int .i64 z] 41)) 24 #[vS k a z, .int .i64 i] (.tuple #[.int .i64 P, .int .i64 P1, .int .i64 0]))
    (ha : Gv (w.alloc (.cells #[.int .i64 k, .int .i64 a, .int .i64 z] 41)) 20 #[] (.bool true)) : Calls Tryd.prog 6 #[vS k a z, .int .i64 m] w fun e w' => e = .returned (.bool true) ∧ Below w.heap.size w w' := by
  have HR := hide hr
  have HN := hide hn
  have HAT := hide hat
  have HV := hide hv
  have HW := hide hw
  have HI := hide hi
  have HA := hide ha
  have HO := hide (box_below w k a z)
  have HB0 := hide (Below.refl (w.alloc (.cells #[.int .i64 k, .int .i64 a, .int .i64 z] 41)).heap.size (w.alloc (.cells #[.int .i64 k, .int .i64 a, .int .i64 z] 41)))
  clear hr hn hat hv hw hi ha
  go_enter Tryd.func6, Tryd.ntmps6
  go_wp2_with fail
  refine (HR.out _ HB0.out).mono ?_
  rintro e w1 ⟨rfl, hb⟩
  have HB1 := hide (HB0.out.trans (hb.mono HB0.out.size))
  clear hb
  obtain ⟨⟨c0, c1, c2⟩, hs⟩ := box_stays HB1.out
  go_wp2_with fail
  refine (HN.out _ HB1.out).mono ?_
  rintro e w2 ⟨rfl, hb⟩
  have HB2 := hide (HB1.out.trans (hb.mono HB1.out.size))
  clear c0 c1 c2 hs hb
  obtain ⟨⟨c0, c1, c2⟩, hs⟩ := box_stays HB2.out
  go_wp2_with fail
  refine (HAT.out _ HB2.out).mono ?_
  rintro e w3 ⟨rfl, hb⟩
  have HB3 := hide (HB2.out.trans (hb.mono HB2.out.size))
  clear c0 c1 c2 hs hb
  obtain ⟨⟨c0, c1, c2⟩, hs⟩ := box_stays HB3.out
  go_wp2_with fail
  refine (HV.out _ HB3.out).mono ?_
  rintro e w4 ⟨rfl, hb⟩
  have HB4 := hide (HB3.out.trans (hb.mono HB3.out.size))
  clear c0 c1 c2 hs hb
  obtain ⟨⟨c0, c1, c2⟩, hs⟩ := box_stays HB4.out
  go_wp2_with fail
  refine (HW.out _ HB4.out).mono ?_
  rintro e w5 ⟨rfl, hb⟩
  have HB5 := hide (HB4.out.trans (hb.mono HB4.out.size))
  clear c0 c1 c2 hs hb
  obtain ⟨⟨c0, c1, c2⟩, hs⟩ := box_stays HB5.out
  go_wp2_with fail
  refine (HI.out _ HB5.out).mono ?_
  rintro e w6 ⟨rfl, hb⟩
  have HB6 := hide (HB5.out.trans (hb.mono HB5.out.size))
  clear c0 c1 c2 hs hb
  obtain ⟨⟨c0, c1, c2⟩, hs⟩ := box_stays HB6.out
  go_wp2_with fail
  refine (HA.out _ HB6.out).mono ?_
  rintro e w7 ⟨rfl, hb⟩
  have HB7 := hide (HB6.out.trans (hb.mono HB6.out.size))
  clear c0 c1 c2 hs hb
  obtain ⟨⟨c0, c1, c2⟩, hs⟩ := box_stays HB7.out
  go_wp2_with fail
  go_ret
  exact ⟨rfl, HO.out.trans (HB7.out.mono HO.out.size)⟩
set_option maxHeartbeats 4000000 in
set_option maxRecDepth 100000 in
theorem til_lo1 (k a z m X X1 X2 Z Z1 : Int) (w : World) (h5 : (k == 5) = false) (_ : 0 ≤ a) (_ : a ≤ 40000000) (_ : a < z) (_ : m < X)
    (hr : Gv (w.alloc (.cells #[.int .i64 k, .int .i64 a, .int .i64 z] 41)) 18 #[vS k a z] (vS k a z))
    (hn : Gv (w.alloc (.cells #[.int .i64 k, .int .i64 a, .int .i64 z] 41)) 17 #[vS k a z] (.bool true))
    (hat : Gv (w.alloc (.cells #[.int .i64 k, .int .i64 a, .int .i64 z] 41)) 26 #[vS k a z, .int .i64 m] (.tuple #[.int .i64 0, .bool false]))
    (hv : Gv (w.alloc (.cells #[.int .i64 k, .int .i64 a, .int .i64 z] 41)) 24 #[vS k a z, .int .i64 a] (.tuple #[.int .i64 X, .int .i64 X1, .int .i64 0]))
    (hw : Gv (w.alloc (.cells #[.int .i64 k, .int .i64 a, .int .i64 z] 41)) 24 #[vS k a z, .int .i64 z] (.tuple #[.int .i64 Z, .int .i64 Z1, .int .i64 0]))
    (hu : Gv (w.alloc (.cells #[.int .i64 k, .int .i64 a, .int .i64 z] 41)) 24 #[vS k a z, .int .i64 (a + 1)] (.tuple #[.int .i64 X1, .int .i64 X2, .int .i64 0]))
    (ha : Gv (w.alloc (.cells #[.int .i64 k, .int .i64 a, .int .i64 z] 41)) 20 #[] (.bool true)) : Calls Tryd.prog 6 #[vS k a z, .int .i64 m] w fun e w' => e = .returned (.bool true) ∧ Below w.heap.size w w' := by
  have HR := hide hr
  have HN := hide hn
  have HAT := hide hat
  have HV := hide hv
  have HW := hide hw
  have HU := hide hu
  have HA := hide ha
  have HO := hide (box_below w k a z)
  have HB0 := hide (Below.refl (w.alloc (.cells #[.int .i64 k, .int .i64 a, .int .i64 z] 41)).heap.size (w.alloc (.cells #[.int .i64 k, .int .i64 a, .int .i64 z] 41)))
  clear hr hn hat hv hw hu ha
  go_enter Tryd.func6, Tryd.ntmps6
  go_wp2_with fail
  refine (HR.out _ HB0.out).mono ?_
  rintro e w1 ⟨rfl, hb⟩
  have HB1 := hide (HB0.out.trans (hb.mono HB0.out.size))
  clear hb
  obtain ⟨⟨c0, c1, c2⟩, hs⟩ := box_stays HB1.out
  go_wp2_with fail
  refine (HN.out _ HB1.out).mono ?_
  rintro e w2 ⟨rfl, hb⟩
  have HB2 := hide (HB1.out.trans (hb.mono HB1.out.size))
  clear c0 c1 c2 hs hb
  obtain ⟨⟨c0, c1, c2⟩, hs⟩ := box_stays HB2.out
  go_wp2_with fail
  refine (HAT.out _ HB2.out).mono ?_
  rintro e w3 ⟨rfl, hb⟩
  have HB3 := hide (HB2.out.trans (hb.mono HB2.out.size))
  clear c0 c1 c2 hs hb
  obtain ⟨⟨c0, c1, c2⟩, hs⟩ := box_stays HB3.out
  go_wp2_with fail
  refine (HV.out _ HB3.out).mono ?_
  rintro e w4 ⟨rfl, hb⟩
  have HB4 := hide (HB3.out.trans (hb.mono HB3.out.size))
  clear c0 c1 c2 hs hb
  obtain ⟨⟨c0, c1, c2⟩, hs⟩ := box_stays HB4.out
  go_wp2_with fail
  refine (HW.out _ HB4.out).mono ?_
  rintro e w5 ⟨rfl, hb⟩
  have HB5 := hide (HB4.out.trans (hb.mono HB4.out.size))
  clear c0 c1 c2 hs hb
  obtain ⟨⟨c0, c1, c2⟩, hs⟩ := box_stays HB5.out
  go_wp2_with fail
  refine (HV.out _ HB5.out).mono ?_
  rintro e w6 ⟨rfl, hb⟩
  have HB6 := hide (HB5.out.trans (hb.mono HB5.out.size))
  clear c0 c1 c2 hs hb
  obtain ⟨⟨c0, c1, c2⟩, hs⟩ := box_stays HB6.out
  go_wp2_with fail
  refine (HU.out _ HB6.out).mono ?_
  rintro e w7 ⟨rfl, hb⟩
  have HB7 := hide (HB6.out.trans (hb.mono HB6.out.size))
  clear c0 c1 c2 hs hb
  obtain ⟨⟨c0, c1, c2⟩, hs⟩ := box_stays HB7.out
  go_wp2_with fail
  refine (HA.out _ HB7.out).mono ?_
  rintro e w8 ⟨rfl, hb⟩
  have HB8 := hide (HB7.out.trans (hb.mono HB7.out.size))
  clear c0 c1 c2 hs hb
  obtain ⟨⟨c0, c1, c2⟩, hs⟩ := box_stays HB8.out
  go_wp2_with fail
  go_ret
  exact ⟨rfl, HO.out.trans (HB8.out.mono HO.out.size)⟩
set_option maxHeartbeats 4000000 in
set_option maxRecDepth 100000 in
theorem til_hi1 (k a z m X X1 X2 Z Z1 : Int) (w : World) (h5 : (k == 5) = false) (_ : 0 ≤ a) (_ : a ≤ 40000000) (_ : a < z) (_ : X ≤ m) (_ : Z1 ≤ m)
    (hr : Gv (w.alloc (.cells #[.int .i64 k, .int .i64 a, .int .i64 z] 41)) 18 #[vS k a z] (vS k a z))
    (hn : Gv (w.alloc (.cells #[.int .i64 k, .int .i64 a, .int .i64 z] 41)) 17 #[vS k a z] (.bool true))
    (hat : Gv (w.alloc (.cells #[.int .i64 k, .int .i64 a, .int .i64 z] 41)) 26 #[vS k a z, .int .i64 m] (.tuple #[.int .i64 0, .bool false]))
    (hv : Gv (w.alloc (.cells #[.int .i64 k, .int .i64 a, .int .i64 z] 41)) 24 #[vS k a z, .int .i64 a] (.tuple #[.int .i64 X, .int .i64 X1, .int .i64 0]))
    (hw : Gv (w.alloc (.cells #[.int .i64 k, .int .i64 a, .int .i64 z] 41)) 24 #[vS k a z, .int .i64 z] (.tuple #[.int .i64 Z, .int .i64 Z1, .int .i64 0]))
    (hu : Gv (w.alloc (.cells #[.int .i64 k, .int .i64 a, .int .i64 z] 41)) 24 #[vS k a z, .int .i64 (a + 1)] (.tuple #[.int .i64 X1, .int .i64 X2, .int .i64 0]))
    (ha : Gv (w.alloc (.cells #[.int .i64 k, .int .i64 a, .int .i64 z] 41)) 20 #[] (.bool true)) : Calls Tryd.prog 6 #[vS k a z, .int .i64 m] w fun e w' => e = .returned (.bool true) ∧ Below w.heap.size w w' := by
  have HR := hide hr
  have HN := hide hn
  have HAT := hide hat
  have HV := hide hv
  have HW := hide hw
  have HU := hide hu
  have HA := hide ha
  have HO := hide (box_below w k a z)
  have HB0 := hide (Below.refl (w.alloc (.cells #[.int .i64 k, .int .i64 a, .int .i64 z] 41)).heap.size (w.alloc (.cells #[.int .i64 k, .int .i64 a, .int .i64 z] 41)))
  clear hr hn hat hv hw hu ha
  go_enter Tryd.func6, Tryd.ntmps6
  go_wp2_with fail
  refine (HR.out _ HB0.out).mono ?_
  rintro e w1 ⟨rfl, hb⟩
  have HB1 := hide (HB0.out.trans (hb.mono HB0.out.size))
  clear hb
  obtain ⟨⟨c0, c1, c2⟩, hs⟩ := box_stays HB1.out
  go_wp2_with fail
  refine (HN.out _ HB1.out).mono ?_
  rintro e w2 ⟨rfl, hb⟩
  have HB2 := hide (HB1.out.trans (hb.mono HB1.out.size))
  clear c0 c1 c2 hs hb
  obtain ⟨⟨c0, c1, c2⟩, hs⟩ := box_stays HB2.out
  go_wp2_with fail
  refine (HAT.out _ HB2.out).mono ?_
  rintro e w3 ⟨rfl, hb⟩
  have HB3 := hide (HB2.out.trans (hb.mono HB2.out.size))
  clear c0 c1 c2 hs hb
  obtain ⟨⟨c0, c1, c2⟩, hs⟩ := box_stays HB3.out
  go_wp2_with fail
  refine (HV.out _ HB3.out).mono ?_
  rintro e w4 ⟨rfl, hb⟩
  have HB4 := hide (HB3.out.trans (hb.mono HB3.out.size))
  clear c0 c1 c2 hs hb
  obtain ⟨⟨c0, c1, c2⟩, hs⟩ := box_stays HB4.out
  go_wp2_with fail
  refine (HW.out _ HB4.out).mono ?_
  rintro e w5 ⟨rfl, hb⟩
  have HB5 := hide (HB4.out.trans (hb.mono HB4.out.size))
  clear c0 c1 c2 hs hb
  obtain ⟨⟨c0, c1, c2⟩, hs⟩ := box_stays HB5.out
  go_wp2_with fail
  refine (HV.out _ HB5.out).mono ?_
  rintro e w6 ⟨rfl, hb⟩
  have HB6 := hide (HB5.out.trans (hb.mono HB5.out.size))
  clear c0 c1 c2 hs hb
  obtain ⟨⟨c0, c1, c2⟩, hs⟩ := box_stays HB6.out
  go_wp2_with fail
  refine (HU.out _ HB6.out).mono ?_
  rintro e w7 ⟨rfl, hb⟩
  have HB7 := hide (HB6.out.trans (hb.mono HB6.out.size))
  clear c0 c1 c2 hs hb
  obtain ⟨⟨c0, c1, c2⟩, hs⟩ := box_stays HB7.out
  go_wp2_with fail
  refine (HA.out _ HB7.out).mono ?_
  rintro e w8 ⟨rfl, hb⟩
  have HB8 := hide (HB7.out.trans (hb.mono HB7.out.size))
  clear c0 c1 c2 hs hb
  obtain ⟨⟨c0, c1, c2⟩, hs⟩ := box_stays HB8.out
  go_wp2_with fail
  go_ret
  exact ⟨rfl, HO.out.trans (HB8.out.mono HO.out.size)⟩
set_option maxHeartbeats 4000000 in
set_option maxRecDepth 100000 in
theorem til_in1 (k a z m i X X1 X2 Z Z1 P P1 : Int) (w : World) (h5 : (k == 5) = false) (_ : 0 ≤ a) (_ : a ≤ 40000000) (_ : a < z) (_ : X ≤ m) (_ : m < Z1) (_ : P ≤ m) (_ : m < P1)
    (hr : Gv (w.alloc (.cells #[.int .i64 k, .int .i64 a, .int .i64 z] 41)) 18 #[vS k a z] (vS k a z))
    (hn : Gv (w.alloc (.cells #[.int .i64 k, .int .i64 a, .int .i64 z] 41)) 17 #[vS k a z] (.bool true))
    (hat : Gv (w.alloc (.cells #[.int .i64 k, .int .i64 a, .int .i64 z] 41)) 26 #[vS k a z, .int .i64 m] (.tuple #[.int .i64 i, .bool true]))
    (hv : Gv (w.alloc (.cells #[.int .i64 k, .int .i64 a, .int .i64 z] 41)) 24 #[vS k a z, .int .i64 a] (.tuple #[.int .i64 X, .int .i64 X1, .int .i64 0]))
    (hw : Gv (w.alloc (.cells #[.int .i64 k, .int .i64 a, .int .i64 z] 41)) 24 #[vS k a z, .int .i64 z] (.tuple #[.int .i64 Z, .int .i64 Z1, .int .i64 0]))
    (hu : Gv (w.alloc (.cells #[.int .i64 k, .int .i64 a, .int .i64 z] 41)) 24 #[vS k a z, .int .i64 (a + 1)] (.tuple #[.int .i64 X1, .int .i64 X2, .int .i64 0]))
    (hi : Gv (w.alloc (.cells #[.int .i64 k, .int .i64 a, .int .i64 z] 41)) 24 #[vS k a z, .int .i64 i] (.tuple #[.int .i64 P, .int .i64 P1, .int .i64 0]))
    (ha : Gv (w.alloc (.cells #[.int .i64 k, .int .i64 a, .int .i64 z] 41)) 20 #[] (.bool true)) : Calls Tryd.prog 6 #[vS k a z, .int .i64 m] w fun e w' => e = .returned (.bool true) ∧ Below w.heap.size w w' := by
  have HR := hide hr
  have HN := hide hn
  have HAT := hide hat
  have HV := hide hv
  have HW := hide hw
  have HU := hide hu
  have HI := hide hi
  have HA := hide ha
  have HO := hide (box_below w k a z)
  have HB0 := hide (Below.refl (w.alloc (.cells #[.int .i64 k, .int .i64 a, .int .i64 z] 41)).heap.size (w.alloc (.cells #[.int .i64 k, .int .i64 a, .int .i64 z] 41)))
  clear hr hn hat hv hw hu hi ha
  go_enter Tryd.func6, Tryd.ntmps6
  go_wp2_with fail
  refine (HR.out _ HB0.out).mono ?_
  rintro e w1 ⟨rfl, hb⟩
  have HB1 := hide (HB0.out.trans (hb.mono HB0.out.size))
  clear hb
  obtain ⟨⟨c0, c1, c2⟩, hs⟩ := box_stays HB1.out
  go_wp2_with fail
  refine (HN.out _ HB1.out).mono ?_
  rintro e w2 ⟨rfl, hb⟩
  have HB2 := hide (HB1.out.trans (hb.mono HB1.out.size))
  clear c0 c1 c2 hs hb
  obtain ⟨⟨c0, c1, c2⟩, hs⟩ := box_stays HB2.out
  go_wp2_with fail
  refine (HAT.out _ HB2.out).mono ?_
  rintro e w3 ⟨rfl, hb⟩
  have HB3 := hide (HB2.out.trans (hb.mono HB2.out.size))
  clear c0 c1 c2 hs hb
  obtain ⟨⟨c0, c1, c2⟩, hs⟩ := box_stays HB3.out
  go_wp2_with fail
  refine (HV.out _ HB3.out).mono ?_
  rintro e w4 ⟨rfl, hb⟩
  have HB4 := hide (HB3.out.trans (hb.mono HB3.out.size))
  clear c0 c1 c2 hs hb
  obtain ⟨⟨c0, c1, c2⟩, hs⟩ := box_stays HB4.out
  go_wp2_with fail
  refine (HW.out _ HB4.out).mono ?_
  rintro e w5 ⟨rfl, hb⟩
  have HB5 := hide (HB4.out.trans (hb.mono HB4.out.size))
  clear c0 c1 c2 hs hb
  obtain ⟨⟨c0, c1, c2⟩, hs⟩ := box_stays HB5.out
  go_wp2_with fail
  refine (HV.out _ HB5.out).mono ?_
  rintro e w6 ⟨rfl, hb⟩
  have HB6 := hide (HB5.out.trans (hb.mono HB5.out.size))
  clear c0 c1 c2 hs hb
  obtain ⟨⟨c0, c1, c2⟩, hs⟩ := box_stays HB6.out
  go_wp2_with fail
  refine (HU.out _ HB6.out).mono ?_
  rintro e w7 ⟨rfl, hb⟩
  have HB7 := hide (HB6.out.trans (hb.mono HB6.out.size))
  clear c0 c1 c2 hs hb
  obtain ⟨⟨c0, c1, c2⟩, hs⟩ := box_stays HB7.out
  go_wp2_with fail
  refine (HI.out _ HB7.out).mono ?_
  rintro e w8 ⟨rfl, hb⟩
  have HB8 := hide (HB7.out.trans (hb.mono HB7.out.size))
  clear c0 c1 c2 hs hb
  obtain ⟨⟨c0, c1, c2⟩, hs⟩ := box_stays HB8.out
  go_wp2_with fail
  refine (HA.out _ HB8.out).mono ?_
  rintro e w9 ⟨rfl, hb⟩
  have HB9 := hide (HB8.out.trans (hb.mono HB8.out.size))
  clear c0 c1 c2 hs hb
  obtain ⟨⟨c0, c1, c2⟩, hs⟩ := box_stays HB9.out
  go_wp2_with fail
  go_ret
  exact ⟨rfl, HO.out.trans (HB9.out.mono HO.out.size)⟩
theorem schemeTiles_walk (k a z m : Int) (w : World) (hz : z ≤ 9223372036854775807) (_ : -9223372036854775808 ≤ m) (_ : m ≤ 9223372036854775807) (hR : Rs w) : Calls Tryd.prog 6 #[vS k a z, .int .i64 m] w fun e w' => e = .returned (.bool true) ∧ Below w.heap.size w w' := by
  have hO := box_below w k a z
  have hR1 : ∀ w1, Below (w.alloc (.cells #[.int .i64 k, .int .i64 a, .int .i64 z] 41)).heap.size (w.alloc (.cells #[.int .i64 k, .int .i64 a, .int .i64 z] 41)) w1 → Rs w1 := fun w1 hb => hR.on (hO.trans (hb.mono hO.size))
  have hr : Gv (w.alloc (.cells #[.int .i64 k, .int .i64 a, .int .i64 z] 41)) 18 #[vS k a z] (vS k a z) := fun w1 _ => ref_any' k a z w1
  have hn : Gv (w.alloc (.cells #[.int .i64 k, .int .i64 a, .int .i64 z] 41)) 17 #[vS k a z] (.bool (okS k a z)) := fun w1 _ => right_any' k a z w1 hz
  have ha : Gv (w.alloc (.cells #[.int .i64 k, .int .i64 a, .int .i64 z] 41)) 20 #[] (.bool true) := fun w1 hb => awake_any w1 (hR1 w1 hb)
  have hw9 := fun j => (fun w1 hb => window_any k a z j w1 (hR1 w1 hb).mon hz : Gv (w.alloc (.cells #[.int .i64 k, .int .i64 a, .int .i64 z] 41)) 24 #[vS k a z, .int .i64 j] (winV k a z j))
  cases hq : okS k a z
  · rw [hq] at hn
    exact til_no k a z m w hr hn ha
  · rw [hq] at hn
    have hbd := ok_bd hq
    obtain ⟨r, hat, hg⟩ := at_gv (m := m) hq (fun w1 hb => (hR1 w1 hb).mon)
    by_cases g5 : k = 5
    · have : r = none := at_one hbd.1 hat (.inl g5)
      subst this
      subst g5
      exact til_5 a z m w hr hn hg ha
    · have wy : ∀ j, a ≤ j → j ≤ z → Gv (w.alloc (.cells #[.int .i64 k, .int .i64 a, .int .i64 z] 41)) 24 #[vS k a z, .int .i64 j] (.tuple #[.int .i64 (bg k j), .int .i64 (bg k (j + 1)), .int .i64 0]) := fun j h1 h2 => by
        have := hw9 j
        rw [winV_yes (hasB_iff.2 ⟨hq, h1, h2⟩) g5] at this
        exact this
      have h5' : (k == 5) = false := by simpa using g5
      have g0 := wy a (by omega) (by omega)
      have gz := wy z (by omega) (by omega)
      by_cases hl : a < z
      · have g1 := wy (a + 1) (by omega) (by omega)
        cases r with
        | none =>
          rcases at_none hbd.1 hbd.2.1 g5 hat with h | h
          · exact til_lo1 k a z m _ _ _ _ _ w h5' (by omega) (by omega) hl h hr hn hg g0 gz g1 ha
          · by_cases h' : m < bg k a
            · exact til_lo1 k a z m _ _ _ _ _ w h5' (by omega) (by omega) hl h' hr hn hg g0 gz g1 ha
            · exact til_hi1 k a z m _ _ _ _ _ w h5' (by omega) (by omega) hl (by omega) h hr hn hg g0 gz g1 ha
        | some i =>
          obtain ⟨p1, p2, p3, p4, p5, p6⟩ := at_some hbd.1 hat
          exact til_in1 k a z m i _ _ _ _ _ _ _ w h5' (by omega) (by omega) hl p1 p2 p5 p6 hr hn hg g0 gz g1 (wy i p3 p4) ha
      · cases r with
        | none =>
          rcases at_none hbd.1 hbd.2.1 g5 hat with h | h
          · exact til_lo0 k a z m _ _ _ _ w h5' (by omega) (by omega) hl h hr hn hg g0 gz ha
          · by_cases h' : m < bg k a
            · exact til_lo0 k a z m _ _ _ _ w h5' (by omega) (by omega) hl h' hr hn hg g0 gz ha
            · exact til_hi0 k a z m _ _ _ _ w h5' (by omega) (by omega) hl (by omega) h hr hn hg g0 gz ha
        | some i =>
          obtain ⟨p1, p2, p3, p4, p5, p6⟩ := at_some hbd.1 hat
          exact til_in0 k a z m i _ _ _ _ _ _ w h5' (by omega) (by omega) hl p1 p2 p5 p6 hr hn hg g0 gz (wy i p3 p4) ha
end Go.Proofs.YtggaflihblhapaaDoor
