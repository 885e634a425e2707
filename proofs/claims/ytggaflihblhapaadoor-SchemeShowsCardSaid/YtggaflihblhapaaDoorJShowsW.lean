/-
  The walk of SchemeShows.
-/
import Derived.Test.YtggaflihblhapaaDoorJLaw
namespace Go.Proofs.YtggaflihblhapaaDoor
open Go.RowKit Go.Sort CM JM

set_option maxHeartbeats 4000000 in
set_option maxRecDepth 100000 in
theorem sho_no (k a z : Int) (w : World)
    (hs : Gv (w.alloc (.cells #[.int .i64 k, .int .i64 a, .int .i64 z] 41)) 28 #[vS k a z] (txt []))
    (hr : Gv (w.alloc (.cells #[.int .i64 k, .int .i64 a, .int .i64 z] 41)) 18 #[vS k a z] (vS k a z))
    (hn : Gv (w.alloc (.cells #[.int .i64 k, .int .i64 a, .int .i64 z] 41)) 17 #[vS k a z] (.bool false))
    (ha : Gv (w.alloc (.cells #[.int .i64 k, .int .i64 a, .int .i64 z] 41)) 20 #[] (.bool true)) : Calls Tryd.prog 8 #[vS k a z] w fun e w' => e = .returned (.bool true) ∧ Below w.heap.size w w' := by
  have HS := hide hs
  have HR := hide hr
  have HN := hide hn
  have HA := hide ha
  have HO := hide (box_below w k a z)
  have HB0 := hide (Below.refl (w.alloc (.cells #[.int .i64 k, .int .i64 a, .int .i64 z] 41)).heap.size (w.alloc (.cells #[.int .i64 k, .int .i64 a, .int .i64 z] 41)))
  clear hs hr hn ha
  go_enter Tryd.func8, Tryd.ntmps8
  go_wp2_with fail
  refine (HS.out _ HB0.out).mono ?_
  rintro e w1 ⟨rfl, hb⟩
  have HB1 := hide (HB0.out.trans (hb.mono HB0.out.size))
  clear hb
  obtain ⟨⟨c0, c1, c2⟩, hs⟩ := box_stays HB1.out
  go_wp2_with fail
  refine (HR.out _ HB1.out).mono ?_
  rintro e w2 ⟨rfl, hb⟩
  have HB2 := hide (HB1.out.trans (hb.mono HB1.out.size))
  clear c0 c1 c2 hs hb
  obtain ⟨⟨c0, c1, c2⟩, hs⟩ := box_stays HB2.out
  go_wp2_with fail
  refine (HN.out _ HB2.out).mono ?_
  rintro e w3 ⟨rfl, hb⟩
  have HB3 := hide (HB2.out.trans (hb.mono HB2.out.size))
  clear c0 c1 c2 hs hb
  obtain ⟨⟨c0, c1, c2⟩, hs⟩ := box_stays HB3.out
  go_wp2_with fail
  refine (HA.out _ HB3.out).mono ?_
  rintro e w4 ⟨rfl, hb⟩
  have HB4 := hide (HB3.out.trans (hb.mono HB3.out.size))
  clear c0 c1 c2 hs hb
  obtain ⟨⟨c0, c1, c2⟩, hs⟩ := box_stays HB4.out
  go_wp2_with fail
  go_ret
  exact ⟨rfl, HO.out.trans (HB4.out.mono HO.out.size)⟩
set_option maxHeartbeats 4000000 in
set_option maxRecDepth 100000 in
theorem sho_yes (k a z : Int) (T : List UInt8) (w : World)
    (hs : Gv (w.alloc (.cells #[.int .i64 k, .int .i64 a, .int .i64 z] 41)) 28 #[vS k a z] (txt T))
    (hr : Gv (w.alloc (.cells #[.int .i64 k, .int .i64 a, .int .i64 z] 41)) 18 #[vS k a z] (vS k a z))
    (hn : Gv (w.alloc (.cells #[.int .i64 k, .int .i64 a, .int .i64 z] 41)) 17 #[vS k a z] (.bool true))
    (hp : Gv (w.alloc (.cells #[.int .i64 k, .int .i64 a, .int .i64 z] 41)) 29 #[txt T] (.tuple #[vS k a z, .int .i64 0]))
    (ht : Gv (w.alloc (.cells #[.int .i64 k, .int .i64 a, .int .i64 z] 41)) 30 #[vS k a z] (txt T))
    (ha : Gv (w.alloc (.cells #[.int .i64 k, .int .i64 a, .int .i64 z] 41)) 20 #[] (.bool true)) : Calls Tryd.prog 8 #[vS k a z] w fun e w' => e = .returned (.bool true) ∧ Below w.heap.size w w' := by
  have HS := hide hs
  have HR := hide hr
  have HN := hide hn
  have HP := hide hp
  have HT := hide ht
  have HA := hide ha
  have hq : ∀ w, (binOp .eql 41 (vS k a z) (vS k a z)).run Tryd.prog w = .ok (.bool true) w := fun w => by rw [run_eql_sch, same_self]
  have hu := run_guard_sch k a z k a z
  have HO := hide (box_below w k a z)
  have HB0 := hide (Below.refl (w.alloc (.cells #[.int .i64 k, .int .i64 a, .int .i64 z] 41)).heap.size (w.alloc (.cells #[.int .i64 k, .int .i64 a, .int .i64 z] 41)))
  clear hs hr hn hp ht ha
  go_enter Tryd.func8, Tryd.ntmps8
  go_wp2_with fail
  refine (HS.out _ HB0.out).mono ?_
  rintro e w1 ⟨rfl, hb⟩
  have HB1 := hide (HB0.out.trans (hb.mono HB0.out.size))
  clear hb
  obtain ⟨⟨c0, c1, c2⟩, hs⟩ := box_stays HB1.out
  go_wp2_with fail
  refine (HR.out _ HB1.out).mono ?_
  rintro e w2 ⟨rfl, hb⟩
  have HB2 := hide (HB1.out.trans (hb.mono HB1.out.size))
  clear c0 c1 c2 hs hb
  obtain ⟨⟨c0, c1, c2⟩, hs⟩ := box_stays HB2.out
  go_wp2_with fail
  refine (HN.out _ HB2.out).mono ?_
  rintro e w3 ⟨rfl, hb⟩
  have HB3 := hide (HB2.out.trans (hb.mono HB2.out.size))
  clear c0 c1 c2 hs hb
  obtain ⟨⟨c0, c1, c2⟩, hs⟩ := box_stays HB3.out
  go_wp2_with fail
  refine (HP.out _ HB3.out).mono ?_
  rintro e w4 ⟨rfl, hb⟩
  have HB4 := hide (HB3.out.trans (hb.mono HB3.out.size))
  clear c0 c1 c2 hs hb
  obtain ⟨⟨c0, c1, c2⟩, hs⟩ := box_stays HB4.out
  have HQ5 := hide (Below.refl (w4.alloc (.cells #[.int .i64 k, .int .i64 a, .int .i64 z] 41)).heap.size (w4.alloc (.cells #[.int .i64 k, .int .i64 a, .int .i64 z] 41)))
  have HB5 := hide (HB4.out.alloc HB4.out.size (.cells #[.int .i64 k, .int .i64 a, .int .i64 z] 41))
  go_wp2_with fail
  refine (HR.out _ HB5.out).mono ?_
  rintro e w6 ⟨rfl, hb⟩
  have HB6 := hide (HB5.out.trans (hb.mono HB5.out.size))
  have HQ6 := hide (HQ5.out.trans (hb.mono HQ5.out.size))
  clear c0 c1 c2 hs hb
  obtain ⟨⟨c0, c1, c2⟩, hs⟩ := box_stays HB6.out
  obtain ⟨⟨d0, d1, d2⟩, hs'⟩ := box_stays HQ6.out
  go_wp2_with fail
  refine (HT.out _ HB6.out).mono ?_
  rintro e w7 ⟨rfl, hb⟩
  have HB7 := hide (HB6.out.trans (hb.mono HB6.out.size))
  have HQ7 := hide (HQ6.out.trans (hb.mono HQ6.out.size))
  clear c0 c1 c2 hs d0 d1 d2 hs' hb
  obtain ⟨⟨c0, c1, c2⟩, hs⟩ := box_stays HB7.out
  obtain ⟨⟨d0, d1, d2⟩, hs'⟩ := box_stays HQ7.out
  go_wp2_with fail
  refine (HA.out _ HB7.out).mono ?_
  rintro e w8 ⟨rfl, hb⟩
  have HB8 := hide (HB7.out.trans (hb.mono HB7.out.size))
  have HQ8 := hide (HQ7.out.trans (hb.mono HQ7.out.size))
  clear c0 c1 c2 hs d0 d1 d2 hs' hb
  obtain ⟨⟨c0, c1, c2⟩, hs⟩ := box_stays HB8.out
  obtain ⟨⟨d0, d1, d2⟩, hs'⟩ := box_stays HQ8.out
  go_wp2_with fail
  go_ret
  exact ⟨rfl, HO.out.trans (HB8.out.mono HO.out.size)⟩
theorem schemeShows_walk (k a z : Int) (w : World) (hz : z ≤ 9223372036854775807) (hR : Rs w) : Calls Tryd.prog 8 #[vS k a z] w fun e w' => e = .returned (.bool true) ∧ Below w.heap.size w w' := by
  have hO := box_below w k a z
  have hR1 : ∀ w1, Below (w.alloc (.cells #[.int .i64 k, .int .i64 a, .int .i64 z] 41)).heap.size (w.alloc (.cells #[.int .i64 k, .int .i64 a, .int .i64 z] 41)) w1 → Rs w1 := fun w1 hb => hR.on (hO.trans (hb.mono hO.size))
  have hr : Gv (w.alloc (.cells #[.int .i64 k, .int .i64 a, .int .i64 z] 41)) 18 #[vS k a z] (vS k a z) := fun w1 _ => ref_any' k a z w1
  have hn : Gv (w.alloc (.cells #[.int .i64 k, .int .i64 a, .int .i64 z] 41)) 17 #[vS k a z] (.bool (okS k a z)) := fun w1 _ => right_any' k a z w1 hz
  have ha : Gv (w.alloc (.cells #[.int .i64 k, .int .i64 a, .int .i64 z] 41)) 20 #[] (.bool true) := fun w1 hb => awake_any w1 (hR1 w1 hb)
  have hs : Gv (w.alloc (.cells #[.int .i64 k, .int .i64 a, .int .i64 z] 41)) 28 #[vS k a z] (txt (showS k a z)) := fun w1 hb => show_any' k a z w1 (hR1 w1 hb) hz
  cases hq : okS k a z
  · rw [hq] at hn
    rw [show showS k a z = [] from if_neg (by rw [hq]; simp)] at hs
    exact sho_no k a z w hs hr hn ha
  · rw [hq] at hn
    exact sho_yes k a z (showS k a z) w hs hr hn (fun w1 hb => parse_text k a z w1 hq (hR1 w1 hb)) (fun w1 _ => rshow_any' k a z w1 hq) ha
end Go.Proofs.YtggaflihblhapaaDoor
