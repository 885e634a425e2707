/-
  The walk of SchemaJoins.
-/
import Derived.Test.YtheeihdbeefkkaaDoorSAwake
import Derived.Test.YtheeihdbeefkkaaDoorSCheckR
import Derived.Test.YtheeihdbeefkkaaDoorSConcat
namespace Go.Proofs.YtheeihdbeefkkaaDoor.schemaJoins
open Go.RowKit

theorem small_len {cs : List (ByteArray × Int)} (h : smallB cs = true) : cs.length ≤ 40 := by unfold smallB at h; simp at h; exact h.2
theorem same_self (cs : List (ByteArray × Int)) : sameC cs cs = true := sameC_iff.2 rfl

abbrev Done (A B : Option Addr) (c d : Nat) (xs ys : List (ByteArray × Int)) (w : World) : Prop :=
  Calls Tryd.prog 7 #[.slice A xs.length c, .slice B ys.length d] w fun e w' => e = .returned (.bool true) ∧ Below w.heap.size w w'

/-- An empty slice that was just made. -/
theorem own_empty (w : World) : (w.alloc (.cells #[] 33)).ownsRow w.heap.size 33 2 (.slice (some ⟨w.heap.size, 0, none⟩) 0 0) 0 (colCells []) :=
  ⟨rfl, .inr ⟨w.heap.size, 0, #[], rfl, Nat.le_refl _, heap_alloc_new w _, Nat.le_refl _, Nat.zero_le _, rfl, rfl⟩⟩

set_option maxHeartbeats 1600000 in
set_option maxRecDepth 100000 in
theorem off1 (A B : Option Addr) (c d : Nat) (xs ys : List (ByteArray × Int)) (w : World) (hX : ColsAt w.heap.size w A xs) (hwx : Wf xs) (hm : Mx w) (h : smallB xs = false) : Done A B c d xs ys w := by
  have HS := hide (small_any A c xs w hX hwx.1); have HB := hide h; have HM := hide hm
  clear hX hwx hm h
  go_enter Tryd.func7, Tryd.ntmps7
  go_wp2_with fail
  refine HS.out.mono ?_
  rintro e w1 ⟨rfl, hb1⟩
  rw [HB.out]
  go_wp2_with (go_at_call 11; refine (awake_any _ (HM.out.stays hb1)).mono ?_; rintro e wa ⟨rfl, hba⟩)
  go_ret
  exact ⟨rfl, then_below hb1 hba⟩

set_option maxHeartbeats 1600000 in
set_option maxRecDepth 100000 in
theorem off2 (A B : Option Addr) (c d : Nat) (xs ys : List (ByteArray × Int)) (w : World) (hX : ColsAt w.heap.size w A xs) (hY : ColsAt w.heap.size w B ys) (hwx : Wf xs) (hwy : Wf ys) (hm : Mx w) (h : smallB xs = true) (h2 : smallB ys = false) : Done A B c d xs ys w := by
  have HS := hide (small_any A c xs w hX hwx.1); have HB := hide h; have HM := hide hm; have HY := hide hY; have HB2 := hide h2; have HW := hide hwy
  clear hX hwx hm h hY h2 hwy
  go_enter Tryd.func7, Tryd.ntmps7
  go_wp2_with fail
  refine HS.out.mono ?_
  rintro e w1 ⟨rfl, hb1⟩
  rw [HB.out]
  go_wp2_with fail
  refine (small_any B d ys _ (HY.out.on hb1) HW.out.1).mono ?_
  rintro e w2 ⟨rfl, hb2⟩
  rw [HB2.out]
  have hq2 := then_below hb1 hb2
  go_wp2_with (go_at_call 11; refine (awake_any _ (HM.out.stays hq2)).mono ?_; rintro e wa ⟨rfl, hba⟩)
  go_ret
  exact ⟨rfl, then_below hq2 hba⟩

set_option maxHeartbeats 3200000 in
set_option maxRecDepth 100000 in
theorem main (A B : Option Addr) (c d : Nat) (xs ys : List (ByteArray × Int)) (w : World) (hX : ColsAt w.heap.size w A xs) (hY : ColsAt w.heap.size w B ys) (hwx : Wf xs) (hwy : Wf ys)
    (hnx : A = none → c = 0) (hny : B = none → d = 0) (hm : Mx w) (h : smallB xs = true) (h2 : smallB ys = true) : Done A B c d xs ys w := by
  have hlx := small_len h
  have hly := small_len h2
  have HS := hide (small_any A c xs w hX hwx.1); have HB := hide h; have HM := hide hm; have HX := hide hX; have HY := hide hY; have HB2 := hide h2; have HWx := hide hwx; have HWy := hide hwy
  have HNx := hide hnx; have HNy := hide hny
  clear hX hwx hm h hY h2 hwy hnx hny
  go_enter Tryd.func7, Tryd.ntmps7
  go_wp2_with fail
  refine HS.out.mono ?_
  rintro e w1 ⟨rfl, hb1⟩
  rw [HB.out]
  go_wp2_with fail
  refine (small_any B d ys _ (HY.out.on hb1) HWy.out.1).mono ?_
  rintro e w2 ⟨rfl, hb2⟩
  rw [HB2.out]
  have hq2 := then_below hb1 hb2
  have HX2 := hide (HX.out.on hq2); have HY2 := hide (HY.out.on hq2)
  clear hb1 hb2
  have hba : Below w2.heap.size w2 (w2.alloc (.cells #[] 33)) := Joins.below_alloc1 w2 _
  go_wp2_with (at_builtin; go_must (refine append_cols rfl _ _ rfl w2.heap.size _ 0 [] xs rfl (own_empty w2) w2.heap.size A c rfl (HX2.out.below hba) HNx.out (by omega) (by simp) ?_))
  intro v3 w3 hown3 hgrow3
  have hb3 : Below w2.heap.size w2 w3 := hba.grown hgrow3 (by simp) (fun j hj => ((own_empty w2).lt j hj).1)
  have hs3 := hb3.size
  have HY3 := hide (HY2.out.below hb3); have HO3 := hide hown3
  clear hgrow3 hown3 hba
  go_wp2_with (at_builtin; go_must (refine append_cols rfl _ _ rfl w2.heap.size _ xs.length xs ys rfl HO3.out w2.heap.size B d rfl HY3.out HNy.out (by omega) hs3 ?_))
  intro v4 w4 hown4 hgrow4
  have hb4 : Below w2.heap.size w2 w4 := hb3.grown hgrow4 hs3 (fun j hj => (HO3.out.lt j hj).1)
  rw [← List.length_append] at hown4
  obtain ⟨A4, c4, rfl, hA4⟩ := cols_of_row hown4
  have HA4 := hide hA4
  have hq4 := then_below hq2 hb4
  have HX4 := hide (HX2.out.on hb4); have HY4 := hide (HY2.out.on hb4)
  have HWb := hide (HWx.out.app HWy.out (by omega))
  have hlb : (xs ++ ys).length ≤ 80 := by rw [List.length_append]; omega
  have HJ := hide (join_any A B c d xs ys w4 HX4.out HY4.out HWx.out HWy.out HNx.out HNy.out (by omega) (by omega))
  clear hown4 hgrow4 hA4 hb3 hb4 hs3
  unfold JoinV at HJ
  have HEq := hide (same_self (xs ++ ys))
  generalize xs ++ ys = bs at *
  go_wp2_with fail
  refine HJ.out.mono ?_
  by_cases hz : checkC bs = 0
  · have HZ := hide hz
    rintro e w5 ⟨he, hb5⟩
    rw [if_pos hz] at he
    clear hz
    obtain ⟨A5, c5, rfl, hA5⟩ := he
    have HA5 := hide hA5
    have hq5 := then_below hq4 hb5
    have HB5 := hide (HA4.out.on hb5)
    clear hA5 hb5
    go_wp2_with fail
    refine (ref_any A4 c4 bs _ HB5.out (by omega)).mono ?_
    rintro e w6 ⟨⟨A6, c6, rfl, hA6⟩, hb6⟩
    have HA6 := hide hA6
    have hq6 := then_below hq5 hb6
    clear hA6
    go_wp2_with fail
    refine (refCheck_any A6 c6 bs _ HA6.out HWb.out).mono ?_
    rintro e w7 ⟨rfl, hb7⟩
    rw [HZ.out]
    have hq7 := then_below hq6 hb7
    have HA7 := hide ((HA5.out.on hb6).on hb7); have HB7 := hide ((HB5.out.on hb6).on hb7)
    clear hb6 hb7
    go_wp2_with fail
    refine (equal_any A5 A4 c5 c4 bs bs _ HA7.out HB7.out (by unfold maxLen; omega)).mono ?_
    rintro e w8 ⟨rfl, hb8⟩
    rw [HEq.out]
    have hq8 := then_below hq7 hb8
    go_wp2_with (go_at_call 11; refine (awake_any _ (HM.out.stays hq8)).mono ?_; rintro e wa ⟨rfl, hba⟩)
    go_ret
    exact ⟨rfl, then_below hq8 hba⟩
  · have hk0 : (checkC bs != 0) = true := by rw [bne_iff_ne]; exact hz
    rintro e w5 ⟨he, hb5⟩
    rw [if_neg hz] at he
    subst he
    clear hz
    have hq5 := then_below hq4 hb5
    have HB5 := hide (HA4.out.on hb5)
    clear hb5
    go_wp2_with fail
    refine (ref_any A4 c4 bs _ HB5.out (by omega)).mono ?_
    rintro e w6 ⟨⟨A6, c6, rfl, hA6⟩, hb6⟩
    have HA6 := hide hA6
    have hq6 := then_below hq5 hb6
    clear hA6
    go_wp2_with fail
    refine (refCheck_any A6 c6 bs _ HA6.out HWb.out).mono ?_
    rintro e w7 ⟨rfl, hb7⟩
    have hq7 := then_below hq6 hb7
    clear hb6 hb7
    go_wp2_with (go_at_call 11; refine (awake_any _ (HM.out.stays hq7)).mono ?_; rintro e wa ⟨rfl, hba⟩)
    go_ret
    exact ⟨rfl, then_below hq7 hba⟩

theorem schemaJoins_walk (A : Option Addr) (c : Nat) (xs : List (ByteArray × Int)) (B : Option Addr) (d : Nat) (ys : List (ByteArray × Int)) (w : World) (hX : ColsAt w.heap.size w A xs) (hwx : Wf xs) (hnx : A = none → c = 0)
    (hY : ColsAt w.heap.size w B ys) (hwy : Wf ys) (hny : B = none → d = 0) (hm : Mx w) : Done A B c d xs ys w := by
  cases h : smallB xs
  · exact off1 A B c d xs ys w hX hwx hm h
  · cases h2 : smallB ys
    · exact off2 A B c d xs ys w hX hY hwx hwy hm h h2
    · exact main A B c d xs ys w hX hY hwx hwy hnx hny hm h h2
end Go.Proofs.YtheeihdbeefkkaaDoor.schemaJoins
