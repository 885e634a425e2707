/-
  The walk of SchemeParses.
-/
import Derived.Test.YtggaflihblhapaaDoorJLaw
namespace Go.Proofs.YtggaflihblhapaaDoor
open Go.RowKit Go.Sort CM JM

set_option maxHeartbeats 4000000 in
set_option maxRecDepth 100000 in
theorem par_long (l : List UInt8) (w : World) (_ : 200 < l.length) (_ : l.length ≤ maxLen)
    (ha : Gv w 20 #[] (.bool true)) : Calls Tryd.prog 9 #[txt l] w fun e w' => e = .returned (.bool true) ∧ Below w.heap.size w w' := by
  have HA := hide ha
  have HB0 := hide (Below.refl w.heap.size w)
  clear ha
  go_enter Tryd.func9, Tryd.ntmps9
  go_wp2_with fail
  refine (HA.out _ HB0.out).mono ?_
  rintro e w1 ⟨rfl, hb⟩
  have HB1 := hide (HB0.out.trans (hb.mono HB0.out.size))
  clear hb
  go_wp2_with fail
  go_ret
  exact ⟨rfl, HB1.out⟩
set_option maxHeartbeats 4000000 in
set_option maxRecDepth 100000 in
theorem par_bad (l : List UInt8) (w : World) (_ : l.length ≤ 200)
    (hp : Gv w 29 #[txt l] (.tuple #[vS 0 0 0, .int .i64 20]))
    (ha : Gv w 20 #[] (.bool true)) : Calls Tryd.prog 9 #[txt l] w fun e w' => e = .returned (.bool true) ∧ Below w.heap.size w w' := by
  have HP := hide hp
  have HA := hide ha
  have hq : ∀ w, (binOp .eql 41 (vS 0 0 0) (vS 0 0 0)).run Tryd.prog w = .ok (.bool true) w := fun w => by rw [run_eql_sch, same_self]
  have hu := run_guard_sch 0 0 0 0 0 0
  have HB0 := hide (Below.refl w.heap.size w)
  clear hp ha
  go_enter Tryd.func9, Tryd.ntmps9
  go_wp2_with fail
  refine (HP.out _ HB0.out).mono ?_
  rintro e w1 ⟨rfl, hb⟩
  have HB1 := hide (HB0.out.trans (hb.mono HB0.out.size))
  clear hb
  have HQ2 := hide (Below.refl (w1.alloc (.cells #[.int .i64 0, .int .i64 0, .int .i64 0] 41)).heap.size (w1.alloc (.cells #[.int .i64 0, .int .i64 0, .int .i64 0] 41)))
  have HB2 := hide (HB1.out.alloc HB1.out.size (.cells #[.int .i64 0, .int .i64 0, .int .i64 0] 41))
  go_wp2_with fail
  refine (HA.out _ HB2.out).mono ?_
  rintro e w3 ⟨rfl, hb⟩
  have HB3 := hide (HB2.out.trans (hb.mono HB2.out.size))
  have HQ3 := hide (HQ2.out.trans (hb.mono HQ2.out.size))
  clear hb
  obtain ⟨⟨d0, d1, d2⟩, hs'⟩ := box_stays HQ3.out
  go_wp2_with fail
  go_ret
  exact ⟨rfl, HB3.out⟩
set_option maxHeartbeats 4000000 in
set_option maxRecDepth 100000 in
theorem par_good (l : List UInt8) (k a z : Int) (w : World) (_ : l.length ≤ 200)
    (hp : Gv w 29 #[txt l] (.tuple #[vS k a z, .int .i64 0]))
    (hr : Gv w 18 #[vS k a z] (vS k a z))
    (hn : Gv w 17 #[vS k a z] (.bool true))
    (ht : Gv w 30 #[vS k a z] (txt l))
    (ha : Gv w 20 #[] (.bool true)) : Calls Tryd.prog 9 #[txt l] w fun e w' => e = .returned (.bool true) ∧ Below w.heap.size w w' := by
  have HP := hide hp
  have HR := hide hr
  have HN := hide hn
  have HT := hide ht
  have HA := hide ha
  have HB0 := hide (Below.refl w.heap.size w)
  clear hp hr hn ht ha
  go_enter Tryd.func9, Tryd.ntmps9
  go_wp2_with fail
  refine (HP.out _ HB0.out).mono ?_
  rintro e w1 ⟨rfl, hb⟩
  have HB1 := hide (HB0.out.trans (hb.mono HB0.out.size))
  clear hb
  have HQ2 := hide (Below.refl (w1.alloc (.cells #[.int .i64 k, .int .i64 a, .int .i64 z] 41)).heap.size (w1.alloc (.cells #[.int .i64 k, .int .i64 a, .int .i64 z] 41)))
  have HB2 := hide (HB1.out.alloc HB1.out.size (.cells #[.int .i64 k, .int .i64 a, .int .i64 z] 41))
  go_wp2_with fail
  refine (HR.out _ HB2.out).mono ?_
  rintro e w3 ⟨rfl, hb⟩
  have HB3 := hide (HB2.out.trans (hb.mono HB2.out.size))
  have HQ3 := hide (HQ2.out.trans (hb.mono HQ2.out.size))
  clear hb
  obtain ⟨⟨d0, d1, d2⟩, hs'⟩ := box_stays HQ3.out
  go_wp2_with fail
  refine (HN.out _ HB3.out).mono ?_
  rintro e w4 ⟨rfl, hb⟩
  have HB4 := hide (HB3.out.trans (hb.mono HB3.out.size))
  have HQ4 := hide (HQ3.out.trans (hb.mono HQ3.out.size))
  clear d0 d1 d2 hs' hb
  obtain ⟨⟨d0, d1, d2⟩, hs'⟩ := box_stays HQ4.out
  go_wp2_with fail
  refine (HR.out _ HB4.out).mono ?_
  rintro e w5 ⟨rfl, hb⟩
  have HB5 := hide (HB4.out.trans (hb.mono HB4.out.size))
  have HQ5 := hide (HQ4.out.trans (hb.mono HQ4.out.size))
  clear d0 d1 d2 hs' hb
  obtain ⟨⟨d0, d1, d2⟩, hs'⟩ := box_stays HQ5.out
  go_wp2_with fail
  refine (HT.out _ HB5.out).mono ?_
  rintro e w6 ⟨rfl, hb⟩
  have HB6 := hide (HB5.out.trans (hb.mono HB5.out.size))
  have HQ6 := hide (HQ5.out.trans (hb.mono HQ5.out.size))
  clear d0 d1 d2 hs' hb
  obtain ⟨⟨d0, d1, d2⟩, hs'⟩ := box_stays HQ6.out
  go_wp2_with fail
  refine (HA.out _ HB6.out).mono ?_
  rintro e w7 ⟨rfl, hb⟩
  have HB7 := hide (HB6.out.trans (hb.mono HB6.out.size))
  have HQ7 := hide (HQ6.out.trans (hb.mono HQ6.out.size))
  clear d0 d1 d2 hs' hb
  obtain ⟨⟨d0, d1, d2⟩, hs'⟩ := box_stays HQ7.out
  go_wp2_with fail
  go_ret
  exact ⟨rfl, HB7.out⟩
theorem par_gv {l : List UInt8} {w : World} (hl : l.length ≤ 1000) (hR : Rs w) : (∃ k a z, okS k a z = true ∧ l = showS k a z ∧ Gv w 29 #[txt l] (.tuple #[vS k a z, .int .i64 0])) ∨ Gv w 29 #[txt l] (.tuple #[vS 0 0 0, .int .i64 20]) := by
  by_cases h : ∃ k a z, okS k a z = true ∧ l = showS k a z
  · obtain ⟨k, a, z, hok, rfl⟩ := h
    exact .inl ⟨k, a, z, hok, rfl, fun w1 hb => parse_text k a z w1 hok (hR.on hb)⟩
  · refine .inr fun w1 hb => (parse_any l w1 hl (hR.on hb)).mono ?_
    rintro e w2 ⟨⟨k, a, z, hok, he, _⟩ | ⟨_, rfl⟩, hb2⟩
    · exact absurd ⟨k, a, z, hok, he⟩ h
    · exact ⟨rfl, hb2⟩
theorem schemeParses_walk (s : ByteArray) (w : World) (hs : s.size ≤ maxLen) (hR : Rs w) : Calls Tryd.prog 9 #[.string s] w fun e w' => e = .returned (.bool true) ∧ Below w.heap.size w w' := by
  have hl : s.data.toList.length = s.size := by simp
  have key : Calls Tryd.prog 9 #[txt s.data.toList] w fun e w' => e = .returned (.bool true) ∧ Below w.heap.size w w' := by
    generalize s.data.toList = l at *
    have ha : Gv w 20 #[] (.bool true) := fun w1 hb => awake_any w1 (hR.on hb)
    by_cases h : 200 < l.length
    · exact par_long l w h (by omega) ha
    · rcases par_gv (l := l) (by omega) hR with ⟨k, a, z, hok, rfl, hp⟩ | hp
      · have hbd := ok_bd hok
        have hn : Gv w 17 #[vS k a z] (.bool (okS k a z)) := fun w1 _ => right_any' k a z w1 (by omega)
        rw [hok] at hn
        exact par_good _ k a z w (by omega) hp (fun w1 _ => ref_any' k a z w1) hn (fun w1 _ => rshow_any' k a z w1 hok) ha
      · exact par_bad l w (by omega) hp ha
  exact key
end Go.Proofs.YtggaflihblhapaaDoor
