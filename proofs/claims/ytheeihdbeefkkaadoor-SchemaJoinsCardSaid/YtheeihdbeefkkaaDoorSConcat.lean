/-
  Two slices of columns put together: slices.Grow of nil, slices.Concat of two, Join.
-/
import Derived.Test.YtheeihdbeefkkaaDoorSCheck
import Derived.Laws.AppendOwnNone
import Derived.Lib.AppendZerosOnto
import Derived.Lib.SliceRun
import Derived.Lib.Walk
namespace Go.Proofs.YtheeihdbeefkkaaDoor
open Go.RowKit

set_option maxRecDepth 100000 in
/-- append of a slice that reads as these columns, to a row of the call's own. -/
theorem append_cols {w : World} {ops : Array Oper} {rest : List Oper} {o : Oper} {a : Act} {Q : Exit → Act → World → Prop} (hgd : o.guard = none) (s x : Operand)
    (ho : o.op = .call { callee := .builtin .append, args := #[s, x], argTypes := #[23, 23] })
    (base : Nat) (v : Value) (n : Nat) (xs ys : List (ByteArray × Int)) (hs : a.eval s = v) (hown : w.ownsRow base 33 2 v n (colCells xs)) (B : Nat)
    (A : Option Addr) (c : Nat) (hx : a.eval x = .slice A ys.length c) (hC : ColsAt B w A ys) (hnil : A = none → c = 0) (hlen : n + ys.length ≤ 65536) (hbase : base ≤ w.heap.size)
    (h : ∀ v' w', w'.ownsRow base 33 2 v' (n + ys.length) (colCells (xs ++ ys)) → w.grownBy w' v.ownBlock → wpList Tryd.prog ops Q rest (a.put o.dst v') w') : wpList Tryd.prog ops Q (o :: rest) a w := by
  obtain ⟨i0, hi, hz0, hz1, hz2⟩ := info_parts col_info
  have hcat : colCells (xs ++ ys) = colCells xs ++ colCells ys := by simp [colCells]
  cases A with
  | none =>
    have hy : ys = [] := by
      rcases ys with _ | ⟨y, r⟩
      · rfl
      · obtain ⟨_, _, e, _⟩ := hC 0 (by simp); cases e
    subst hy
    have hc0 := hnil rfl
    subst hc0
    exact wpList_append_own_none hgd s x _ ho base _ i0 2 Tryd.underlying23 hi v n _ hs hown hx (h v w (by simpa using hown) ⟨rfl, rfl, rfl, Nat.le_refl _, fun _ _ _ => rfl⟩)
  | some ad =>
    refine wpList_append_own w hgd s x _ ho base 33 i0 (.agg #[.string ⟨#[]⟩, .int .i64 0]) 2 24 Tryd.underlying23 hi hz0 hz1 hz2 rfl (by decide) v n _ hs hown ad ys.length c (colCells ys) hx (colCells_len ys) ?_ ?_ (by unfold maxLen; omega) (by omega) hbase ?_
    · intro j u hu
      have hj : j < ys.length * 2 := by rw [← colCells_len ys]; exact (List.getElem?_eq_some_iff.1 hu).1
      obtain ⟨b, off, e, _, c0, c1⟩ := hC (j / 2) (by omega)
      injection e with e
      subst e
      have hat := colCells_at ys (j / 2) (by omega)
      rw [show (⟨b, off, none⟩ : Addr).add j = ⟨b, off + j, none⟩ by unfold Addr.add; split <;> simp_all]
      rcases Nat.mod_two_eq_zero_or_one j with hm | hm
      · have ej : j / 2 * 2 = j := by omega
        rw [ej] at c0 hat
        rw [hat.1] at hu; injection hu with hu; subst hu; exact c0
      · have ej : j / 2 * 2 + 1 = j := by omega
        rw [Nat.add_assoc, ej] at c1; rw [ej] at hat
        rw [hat.2] at hu; injection hu with hu; subst hu; exact c1
    · intro u hu
      unfold colCells at hu
      obtain ⟨c, _, hc⟩ := List.mem_flatMap.1 hu
      simp at hc; rcases hc with rfl | rfl <;> rfl
    · intro v' w' h1 h2 _
      rw [← hcat] at h1
      exact h v' w' h1 h2

set_option maxHeartbeats 1600000 in
set_option maxRecDepth 100000 in
theorem growNil_any (n : Nat) (w : World) (hn : n ≤ 65536) :
    Calls Tryd.prog 53 #[.slice none 0 0, .int .i64 n] w fun e w' => (∃ v, e = .returned v ∧ w'.ownsRow w.heap.size 33 2 v 0 []) ∧ Below w.heap.size w w' := by
  by_cases h0 : n = 0
  · subst h0
    go_enter Tryd.func53, Tryd.ntmps53
    go_wp2
    go_ret
    exact ⟨⟨_, rfl, World.ownsRow_nil _ _ _ _⟩, Below.refl _ _⟩
  · obtain ⟨i0, hi, hz0, hz1, hz2⟩ := info_parts col_info
    have hpos : 0 < n := by omega
    have hrz : ∀ ty, (Builtin.append_ #[23, 3] ty #[.slice none 0 0, .int .i64 (n : Int)]).run Tryd.prog w =
        .ok (.slice (some ⟨w.heap.size, 0, none⟩) n (grownCap w n 0 33)) (w.drew.alloc (.cells (Builtin.zeroCells (Value.agg #[.string ⟨#[]⟩, .int .i64 0]).cells n ++ Builtin.zeroCells (Value.agg #[.string ⟨#[]⟩, .int .i64 0]).cells (grownCap w n 0 33 - n)) 33)) := fun ty => by
      have h := Lib.run_append_grow_zeros w _ _ ty _ i0 _ .i64 .i64 Tryd.underlying23 Tryd.underlying3 hi hz0 none 0 0 [] (run_firstCells_none w.drew i0.size 0 0 0) n hpos (by omega) (by omega) (by omega) (by rw [hz2]; omega) (growslice_fits (by omega) (by rw [hz2]; omega))
      simpa using h
    have hGn : n ≤ grownCap w n 0 33 := grownCap_ge w _ _ _
    have hG63 := grownCap_le_maxLen w n 0 33 (by unfold maxLen; omega)
    generalize grownCap w n 0 33 = G at hrz hGn hG63
    have hG64 : G ≤ 9223372036854775807 := by unfold maxLen at hG63; omega
    have HG := hide hG63; clear hG63
    go_enter Tryd.func53, Tryd.ntmps53
    go_wp2_with (at_builtin; refine Lib.wpList_append_run _ rfl _ _ _ _ rfl _ _ rfl rfl _ _ (hrz _) ?_)
    go_ret
    refine ⟨⟨_, rfl, rfl, .inr ⟨w.heap.size, G, _, rfl, Nat.le_refl _, heap_alloc_new w.drew _, Nat.zero_le _, HG.out, ?_, by simp⟩⟩, ((Below.refl _ _).drew).alloc (by simp) _⟩
    simp [size_zeroCells]; omega

set_option maxHeartbeats 3200000 in
set_option maxRecDepth 100000 in
/-- Concat of the two slices that lie in a block of their own. -/
theorem concat_two (g : Nat) (A1 A2 : Option Addr) (c1 c2 : Nat) (xs ys : List (ByteArray × Int)) (w : World) (hg : g < w.heap.size)
    (h1 : w.cell? ⟨g, 0, none⟩ = some (.slice A1 xs.length c1)) (h2 : w.cell? ⟨g, 1, none⟩ = some (.slice A2 ys.length c2))
    (hX : ColsAt w.heap.size w A1 xs) (hY : ColsAt w.heap.size w A2 ys) (hn1 : A1 = none → c1 = 0) (hn2 : A2 = none → c2 = 0) (hlx : xs.length ≤ 16384) (hly : ys.length ≤ 16384) :
    Calls Tryd.prog 43 #[.slice (some ⟨g, 0, none⟩) 2 2] w (GivesCols (xs ++ ys) w) := by
  have HX := hide hX; have HY := hide hY; have HN1 := hide hn1; have HN2 := hide hn2; have H1 := hide h1; have H2 := hide h2
  clear hX hY hn1 hn2
  go_enter Tryd.func43, Tryd.ntmps43
  go_wp2
  go_loop [3, 11] (fun v i => (v = .int .i64 0 ∧ i = .int .i64 0) ∨ (v = .int .i64 (xs.length : Nat) ∧ i = .int .i64 1) ∨ (v = .int .i64 (xs.length + ys.length : Nat) ∧ i = .int .i64 2)) (fun _ i => 2 - (intOf i).toNat)
  case atStart => exact .inl ⟨rfl, rfl⟩
  case round =>
    rcases hrel with ⟨rfl, rfl⟩ | ⟨rfl, rfl⟩ | ⟨rfl, rfl⟩
    · go_wp2
      go_round
      case rel => exact .inr (.inl ⟨by go_num, rfl⟩)
      case measure => simp [intOf]
    · go_wp2
      go_round
      case rel => exact .inr (.inr ⟨by go_num, rfl⟩)
      case measure => simp [intOf]
    · clear h1 h2
      go_wp2_with fail
      refine (growNil_any (xs.length + ys.length) _ (by omega)).mono ?_
      rintro e w1 ⟨⟨v, rfl, hown⟩, hb1⟩
      have HO := hide hown
      have hs1 := hb1.size
      clear hown
      go_wp2_with fail
      go_loopw [6, 27] (fun v i wr => ((wr.ownsRow w.heap.size 33 2 v 0 (colCells []) ∧ i = .int .i64 0) ∨ (wr.ownsRow w.heap.size 33 2 v xs.length (colCells xs) ∧ i = .int .i64 1) ∨
        (wr.ownsRow w.heap.size 33 2 v (xs.length + ys.length) (colCells (xs ++ ys)) ∧ i = .int .i64 2)) ∧ Below w.heap.size w wr) (fun _ i _ => 2 - (intOf i).toNat)
      case atStart => exact ⟨.inl ⟨HO.out, rfl⟩, hb1⟩
      case round =>
        obtain ⟨hcase, hbw⟩ := hrel
        have d1 := (hbw.cell (p := ⟨g, 0, none⟩) hg).trans H1.out
        have d2 := (hbw.cell (p := ⟨g, 1, none⟩) hg).trans H2.out
        have hs := hbw.size
        rcases hcase with ⟨hown, rfl⟩ | ⟨hown, rfl⟩ | ⟨hown, rfl⟩
        · go_wp2_with (at_builtin; go_must (refine append_cols rfl _ _ rfl w.heap.size _ 0 [] xs rfl hown w.heap.size A1 c1 rfl (HX.out.below hbw) HN1.out (by omega) (by omega) ?_))
          intro v' w2 hown' hgrow
          have hs2 := hgrow.size
          go_wp2
          go_roundw
          case rel => exact ⟨.inr (.inl ⟨hown', rfl⟩), hbw.grown hgrow hs (fun j hj => (hown.lt j hj).1)⟩
          case measure => simp [intOf]
        · go_wp2_with (at_builtin; go_must (refine append_cols rfl _ _ rfl w.heap.size _ xs.length xs ys rfl hown w.heap.size A2 c2 rfl (HY.out.below hbw) HN2.out (by omega) (by omega) ?_))
          intro v' w2 hown' hgrow
          have hs2 := hgrow.size
          go_wp2
          go_roundw
          case rel => exact ⟨.inr (.inr ⟨hown', rfl⟩), hbw.grown hgrow hs (fun j hj => (hown.lt j hj).1)⟩
          case measure => simp [intOf]
        · rw [← List.length_append] at hown
          obtain ⟨A', c', rfl, hA⟩ := cols_of_row hown
          go_wp2
          go_ret
          exact ⟨⟨A', c', rfl, hA⟩, hbw⟩

def JoinV (cs : List (ByteArray × Int)) (w : World) (e : Ending) (w' : World) : Prop :=
  (if checkC cs = 0 then ∃ A cap, e = .returned (.tuple #[.slice A cs.length cap, .int .i64 0]) ∧ ColsAt w'.heap.size w' A cs else e = .returned (.tuple #[.slice none 0 0, .int .i64 (checkC cs)])) ∧ Below w.heap.size w w'

theorem Wf.app {xs ys : List (ByteArray × Int)} (hx : Wf xs) (hy : Wf ys) (h : xs.length + ys.length ≤ 65536) : Wf (xs ++ ys) := by
  refine ⟨by rw [List.length_append]; unfold maxLen; omega, fun c hc => ?_⟩
  rcases List.mem_append.1 hc with h' | h'
  · exact hx.2 c h'
  · exact hy.2 c h'

set_option maxHeartbeats 3200000 in
set_option maxRecDepth 100000 in
theorem join_any (A1 A2 : Option Addr) (c1 c2 : Nat) (xs ys : List (ByteArray × Int)) (w : World)
    (hX : ColsAt w.heap.size w A1 xs) (hY : ColsAt w.heap.size w A2 ys) (hwx : Wf xs) (hwy : Wf ys) (hn1 : A1 = none → c1 = 0) (hn2 : A2 = none → c2 = 0) (hlx : xs.length ≤ 16384) (hly : ys.length ≤ 16384) :
    Calls Tryd.prog 27 #[.slice A1 xs.length c1, .slice A2 ys.length c2] w (JoinV (xs ++ ys) w) := by
  have hb0 : Below w.heap.size w (w.alloc (.cells #[.slice A1 xs.length c1, .slice A2 ys.length c2] 23)) := Joins.below_alloc1 w _
  have HB0 := hide hb0
  have HCc := hide (concat_two w.heap.size A1 A2 c1 c2 xs ys (w.alloc (.cells #[.slice A1 xs.length c1, .slice A2 ys.length c2] 23)) (by simp) (by simp) (by simp) (hX.on hb0) (hY.on hb0) hn1 hn2 hlx hly)
  have HW := hide (hwx.app hwy (by omega))
  have HP := hide (show ∀ e w', ((if checkC (xs ++ ys) = 0 then ∃ A cap, e = Ending.returned (.tuple #[.slice A (xs ++ ys).length cap, .int .i64 0]) ∧ ColsAt w'.heap.size w' A (xs ++ ys) else e = .returned (.tuple #[.slice none 0 0, .int .i64 (checkC (xs ++ ys))])) ∧ Below w.heap.size w w') → JoinV (xs ++ ys) w e w' from fun _ _ h => h)
  clear hX hY hwx hwy hn1 hn2 hb0
  go_enter Tryd.func27, Tryd.ntmps27
  go_wp2_with fail
  refine HCc.out.mono ?_
  generalize xs ++ ys = cs at *
  rintro e w1 ⟨⟨A, cap, rfl, hA⟩, hb1⟩
  have HA := hide hA
  have hq1 := then_below HB0.out hb1
  clear hA hb1 HCc HB0
  by_cases hz : checkC cs = 0
  · have hk0 : (checkC cs != 0) = false := by rw [bne_eq_false_iff_eq]; exact hz
    have HZ := hide hz; clear hz
    go_wp2_with (go_at_call 12; refine (check_any A cap cs _ HA.out HW.out).mono ?_; rintro e w2 ⟨rfl, hb2⟩)
    go_ret2
    refine HP.out _ _ ⟨?_, then_below hq1 hb2⟩
    rw [if_pos HZ.out]
    exact ⟨A, cap, rfl, HA.out.on hb2⟩
  · have hk0 : (checkC cs != 0) = true := by rw [bne_iff_ne]; exact hz
    have HZ := hide hz; clear hz
    go_wp2_with (go_at_call 12; refine (check_any A cap cs _ HA.out HW.out).mono ?_; rintro e w2 ⟨rfl, hb2⟩)
    go_ret2
    refine HP.out _ _ ⟨?_, then_below hq1 hb2⟩
    rw [if_neg HZ.out]
    rfl
end Go.Proofs.YtheeihdbeefkkaaDoor
