/-
  The walk of WindowParses.
-/
import Derived.Test.YtomhiganfmoceaaDoorWShowsW
namespace Go.Proofs.YtomhiganfmoceaaDoor
open Go.RowKit Go.Sort CM JM WM

set_option maxHeartbeats 4000000 in
set_option maxRecDepth 100000 in
theorem mpar_long (l : List UInt8) (w : World)
    (_ : 200 < l.length)
    (_ : l.length ≤ maxLen)
    (ha : Gv w 11 #[] (.bool true)) : Calls Tryd.prog 8 #[txt l] w fun e w' => e = .returned (.bool true) ∧ Below w.heap.size w w' := by
  have Hha := hide ha
  have HB0 := hide (Below.refl w.heap.size w)
  clear ha
  go_enter Tryd.func8, Tryd.ntmps8
  go_wp2_with fail
  refine (Hha.out _ HB0.out).mono ?_
  rintro e w1 ⟨rfl, hb⟩
  have HB1 := hide (HB0.out.trans (hb.mono HB0.out.size))
  clear hb
  go_wp2_with fail
  go_ret
  exact ⟨rfl, HB1.out⟩

set_option maxHeartbeats 4000000 in
set_option maxRecDepth 100000 in
theorem mpar_bad (l : List UInt8) (w : World)
    (_ : l.length ≤ 200)
    (hp : Gv w 20 #[txt l] (.tuple #[vM 0 0, .int .i64 20]))
    (ha : Gv w 11 #[] (.bool true)) : Calls Tryd.prog 8 #[txt l] w fun e w' => e = .returned (.bool true) ∧ Below w.heap.size w w' := by
  have Hhp := hide hp
  have Hha := hide ha
  have HB0 := hide (Below.refl w.heap.size w)
  have hq := same_map 0 0
  have hu := run_guard_map 0 0 0 0
  clear hp ha
  go_enter Tryd.func8, Tryd.ntmps8
  go_wp2_with fail
  refine (Hhp.out _ HB0.out).mono ?_
  rintro e w1 ⟨rfl, hb⟩
  have HB1 := hide (HB0.out.trans (hb.mono HB0.out.size))
  clear hb
  have HZ2 := hide (box2_new w1 23 0 0)
  have HB2 := hide (HB1.out.alloc HB1.out.size (.cells #[.int .i64 0, .int .i64 0] 23))
  go_wp2_with fail
  refine (Hha.out _ HB2.out).mono ?_
  rintro e w3 ⟨rfl, hb⟩
  have HB3 := hide (HB2.out.trans (hb.mono HB2.out.size))
  have HZ3 := hide (HZ2.out.on hb)
  clear hb
  obtain ⟨⟨e0, e1⟩, hs3⟩ := HZ3.out
  go_wp2_with fail
  go_ret
  exact ⟨rfl, HB3.out⟩

set_option maxHeartbeats 4000000 in
set_option maxRecDepth 100000 in
theorem mpar_good (l : List UInt8) (k n : Int) (w : World)
    (_ : l.length ≤ 200)
    (hp : Gv w 20 #[txt l] (.tuple #[vM k n, .int .i64 0]))
    (hf : Gv w 19 #[vM k n] (.bool true))
    (ht : Gv w 21 #[vM k n] (txt l))
    (ha : Gv w 11 #[] (.bool true)) : Calls Tryd.prog 8 #[txt l] w fun e w' => e = .returned (.bool true) ∧ Below w.heap.size w w' := by
  have Hhp := hide hp
  have Hhf := hide hf
  have Hht := hide ht
  have Hha := hide ha
  have HB0 := hide (Below.refl w.heap.size w)
  clear hp hf ht ha
  go_enter Tryd.func8, Tryd.ntmps8
  go_wp2_with fail
  refine (Hhp.out _ HB0.out).mono ?_
  rintro e w1 ⟨rfl, hb⟩
  have HB1 := hide (HB0.out.trans (hb.mono HB0.out.size))
  clear hb
  have HB2 := hide (HB1.out.alloc HB1.out.size (.cells #[.int .i64 k, .int .i64 n] 23))
  have HB3 := hide (HB2.out.alloc HB2.out.size (.cells #[.int .i64 k, .int .i64 n] 40))
  have HZ3 : Hid (Box2 ((w1.alloc (.cells #[.int .i64 k, .int .i64 n] 23)).alloc (.cells #[.int .i64 k, .int .i64 n] 40)) (w1.heap.size + 1) k n) := hide (by
    have h := box2_new (w1.alloc (.cells #[.int .i64 k, .int .i64 n] 23)) 40 k n
    have e : (w1.alloc (.cells #[.int .i64 k, .int .i64 n] 23)).heap.size = w1.heap.size + 1 := by simp
    rw [e] at h
    exact h)
  go_wp2_with fail
  refine (Hhf.out _ HB3.out).mono ?_
  rintro e w4 ⟨rfl, hb⟩
  have HB4 := hide (HB3.out.trans (hb.mono HB3.out.size))
  have HZ4 := hide (HZ3.out.on hb)
  clear hb
  obtain ⟨⟨e0, e1⟩, hs3⟩ := HZ4.out
  go_wp2_with fail
  refine (Hht.out _ HB4.out).mono ?_
  rintro e w5 ⟨rfl, hb⟩
  have HB5 := hide (HB4.out.trans (hb.mono HB4.out.size))
  have HZ5 := hide (HZ4.out.on hb)
  clear e0 e1 hs3 hb
  obtain ⟨⟨e0, e1⟩, hs3⟩ := HZ5.out
  go_wp2_with fail
  refine (Hha.out _ HB5.out).mono ?_
  rintro e w6 ⟨rfl, hb⟩
  have HB6 := hide (HB5.out.trans (hb.mono HB5.out.size))
  clear e0 e1 hs3 hb
  go_wp2_with fail
  go_ret
  exact ⟨rfl, HB6.out⟩

theorem mpar_gv {l : List UInt8} {w : World} (hl : l.length ≤ 1000) (hR : Rw w) : (∃ k n, formB k n = true ∧ l = showM k n ∧ Gv w 20 #[txt l] (.tuple #[vM k n, .int .i64 0])) ∨ Gv w 20 #[txt l] (.tuple #[vM 0 0, .int .i64 20]) := by
  by_cases h : ∃ k n, formB k n = true ∧ l = showM k n
  · obtain ⟨k, n, hok, rfl⟩ := h
    exact .inl ⟨k, n, hok, rfl, fun w1 hb => mparse_text k n w1 hok (hR.on hb)⟩
  · refine .inr fun w1 hb => (mparse_any l w1 hl (hR.on hb)).mono ?_
    rintro e w2 ⟨⟨k, n, hok, he, _⟩ | ⟨_, rfl⟩, hb2⟩
    · exact absurd ⟨k, n, hok, he⟩ h
    · exact ⟨rfl, hb2⟩
theorem windowParses_walk (s : ByteArray) (w : World) (hs : s.size ≤ maxLen) (hR : Rw w) : Calls Tryd.prog 8 #[.string s] w fun e w' => e = .returned (.bool true) ∧ Below w.heap.size w w' := by
  have hl : s.data.toList.length = s.size := by simp
  have key : Calls Tryd.prog 8 #[txt s.data.toList] w fun e w' => e = .returned (.bool true) ∧ Below w.heap.size w w' := by
    generalize s.data.toList = l at *
    have ha : Gv w 11 #[] (.bool true) := fun w1 hb => mawake_any w1 (hR.on hb).ra
    by_cases h : 200 < l.length
    · exact mpar_long l w h (by omega) ha
    · rcases mpar_gv (l := l) (by omega) hR with ⟨k, n, hok, rfl, hp⟩ | hp
      · have hf : Gv w 19 #[vM k n] (.bool (formB k n)) := fun w1 _ => rform_any k n w1
        rw [hok] at hf
        exact mpar_good _ k n w (by omega) hp hf (fun w1 _ => rmshow_any k n w1 hok) ha
      · exact mpar_bad l w (by omega) hp ha
  exact key

end Go.Proofs.YtomhiganfmoceaaDoor
