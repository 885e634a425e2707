/-
  Two slices of rows put together: slices.Grow of nil, slices.Concat of two.
-/
import Derived.Test.YtfjhdfpdgjjcgaaGreatDoorTOrderA
import Derived.Laws.AppendOwnNone
import Derived.Lib.AppendZerosOnto
import Derived.Lib.SliceRun
import Derived.Lib.Walk
namespace Go.Proofs.YtfjhdfpdgjjcgaaGreatDoor
open Go.RowKit

set_option maxRecDepth 100000 in
/-- append of a slice that reads as these rows' headers, to a row of the call's own. -/
theorem append_rows {w : World} {ops : Array Oper} {rest : List Oper} {o : Oper} {a : Act} {Q : Exit → Act → World → Prop} (hgd : o.guard = none) (s x : Operand)
    (ho : o.op = .call { callee := .builtin .append, args := #[s, x], argTypes := #[24, 24] })
    (base : Nat) (v : Value) (n : Nat) (xs ys : List RH) (hs : a.eval s = v) (hown : w.ownsRow base 27 1 v n (xs.map hdr)) (B : Nat)
    (A : Option Addr) (c : Nat) (hx : a.eval x = .slice A ys.length c) (hC : RowsAt B w A ys) (hnil : A = none → c = 0) (hlen : n + ys.length ≤ 65536) (hbase : base ≤ w.heap.size)
    (h : ∀ v' w', w'.ownsRow base 27 1 v' (n + ys.length) ((xs ++ ys).map hdr) → w.grownBy w' v.ownBlock → wpList Tryz.prog ops Q rest (a.put o.dst v') w') : wpList Tryz.prog ops Q (o :: rest) a w := by
  obtain ⟨i0, hi, hz0, hz1, hz2⟩ := info_parts row_info
  cases A with
  | none =>
    have hy : ys = [] := by
      rcases ys with _ | ⟨y, r⟩
      · rfl
      · obtain ⟨_, _, e, _⟩ := hC.1 0 (by simp); cases e
    subst hy
    have hc0 := hnil rfl
    subst hc0
    exact wpList_append_own_none hgd s x _ ho base _ i0 1 Tryz.underlying24 hi v n _ hs hown hx (h v w (by simpa using hown) ⟨rfl, rfl, rfl, Nat.le_refl _, fun _ _ _ => rfl⟩)
  | some ad =>
    refine wpList_append_own w hgd s x _ ho base 27 i0 (.slice none 0 0) 1 24 Tryz.underlying24 hi hz0 hz1 hz2 rfl (by decide) v n _ hs hown ad ys.length c (ys.map hdr) hx (by simp) ?_ ?_ (by unfold maxLen; omega) (by omega) hbase ?_
    · intro j u hu
      have hj : j < ys.length := by rw [← List.length_map (f := hdr)]; exact (List.getElem?_eq_some_iff.1 hu).1
      obtain ⟨b, off, e, _, c0⟩ := hC.1 j hj
      injection e with e
      subst e
      rw [show (⟨b, off, none⟩ : Addr).add j = ⟨b, off + j, none⟩ by unfold Addr.add; split <;> simp_all, c0, ← hu, List.getElem?_map, List.getElem?_eq_getElem hj, List.getD_eq_getElem?_getD, List.getElem?_eq_getElem hj]
      rfl
    · intro u hu
      obtain ⟨h, _, rfl⟩ := List.mem_map.1 hu
      rfl
    · intro v' w' h1 h2 _
      rw [← List.map_append] at h1
      exact h v' w' h1 h2

set_option maxHeartbeats 1600000 in
set_option maxRecDepth 100000 in
theorem growNilRows_any (n : Nat) (w : World) (hn : n ≤ 65536) :
    Calls Tryz.prog 51 #[.slice none 0 0, .int .i64 n] w fun e w' => (∃ v, e = .returned v ∧ w'.ownsRow w.heap.size 27 1 v 0 []) ∧ Below w.heap.size w w' := by
  by_cases h0 : n = 0
  · subst h0
    go_enter Tryz.func51, Tryz.ntmps51
    go_wp2
    go_ret
    exact ⟨⟨_, rfl, World.ownsRow_nil _ _ _ _⟩, Below.refl _ _⟩
  · obtain ⟨i0, hi, hz0, hz1, hz2⟩ := info_parts row_info
    have hpos : 0 < n := by omega
    have hrz : ∀ ty, (Builtin.append_ #[24, 3] ty #[.slice none 0 0, .int .i64 (n : Int)]).run Tryz.prog w =
        .ok (.slice (some ⟨w.heap.size, 0, none⟩) n (grownCap w n 0 27)) (w.drew.alloc (.cells (Builtin.zeroCells (Value.slice none 0 0).cells n ++ Builtin.zeroCells (Value.slice none 0 0).cells (grownCap w n 0 27 - n)) 27)) := fun ty => by
      have h := Lib.run_append_grow_zeros w _ _ ty _ i0 _ .i64 .i64 Tryz.underlying24 Tryz.underlying3 hi hz0 none 0 0 [] (run_firstCells_none w.drew i0.size 0 0 0) n hpos (by omega) (by omega) (by omega) (by rw [hz2]; omega) (growslice_fits (by omega) (by rw [hz2]; omega))
      simpa using h
    have hGn : n ≤ grownCap w n 0 27 := grownCap_ge w _ _ _
    have hG63 := grownCap_le_maxLen w n 0 27 (by unfold maxLen; omega)
    generalize grownCap w n 0 27 = G at hrz hGn hG63
    have hG64 : G ≤ 9223372036854775807 := by unfold maxLen at hG63; omega
    have HG := hide hG63; clear hG63
    go_enter Tryz.func51, Tryz.ntmps51
    go_wp2_with (at_builtin; refine Lib.wpList_append_run _ rfl _ _ _ _ rfl _ _ rfl rfl _ _ (hrz _) ?_)
    go_ret
    refine ⟨⟨_, rfl, rfl, .inr ⟨w.heap.size, G, _, rfl, Nat.le_refl _, heap_alloc_new w.drew _, Nat.zero_le _, HG.out, ?_, by simp⟩⟩, ((Below.refl _ _).drew).alloc (by simp) _⟩
    simp [size_zeroCells]; omega

def GivesHdr (ns : List RH) (w : World) (e : Ending) (w' : World) : Prop :=
  (∃ A c, e = .returned (.slice A ns.length c) ∧ RowsAt w'.heap.size w' A ns ∧ (A = none → c = 0)) ∧ Below w.heap.size w w'

set_option maxHeartbeats 3200000 in
set_option maxRecDepth 100000 in
/-- Concat of the two slices that lie in a block of their own. -/
theorem concatRows_two (g : Nat) (A1 A2 : Option Addr) (c1 c2 : Nat) (xs ys : List RH) (w : World) (hg : g < w.heap.size)
    (h1 : w.cell? ⟨g, 0, none⟩ = some (.slice A1 xs.length c1)) (h2 : w.cell? ⟨g, 1, none⟩ = some (.slice A2 ys.length c2))
    (hX : RowsAt w.heap.size w A1 xs) (hY : RowsAt w.heap.size w A2 ys) (hn1 : A1 = none → c1 = 0) (hn2 : A2 = none → c2 = 0) (hlx : xs.length ≤ 16384) (hly : ys.length ≤ 16384) :
    Calls Tryz.prog 28 #[.slice (some ⟨g, 0, none⟩) 2 2] w (GivesHdr (xs ++ ys) w) := by
  have HX := hide hX; have HY := hide hY; have HN1 := hide hn1; have HN2 := hide hn2; have H1 := hide h1; have H2 := hide h2
  clear hX hY hn1 hn2
  go_enter Tryz.func28, Tryz.ntmps28
  go_wp2
  go_loop [3, 11] (fun v i => (v = .int .i64 0 ∧ i = .int .i64 0) ∨ (v = .int .i64 (xs.length : Nat) ∧ i = .int .i64 1) ∨ (v = .int .i64 (xs.length + ys.length : Nat) ∧ i = .int .i64 2)) (fun _ i => 2 - (intOf i).toNat)
  case atStart => exact .inl ⟨rfl, rfl⟩
  case round =>
    rcases hrel with ⟨rfl, rfl⟩ | ⟨rfl, rfl⟩ | ⟨rfl, rfl⟩
    · go_wp2
      go_round
      case rel => exact .inr (.inl ⟨by go_num, rfl⟩)
      case measure => simp [intOf]
    · go_wp2
      go_round
      case rel => exact .inr (.inr ⟨by go_num, rfl⟩)
      case measure => simp [intOf]
    · clear h1 h2
      go_wp2_with fail
      refine (growNilRows_any (xs.length + ys.length) _ (by omega)).mono ?_
      rintro e w1 ⟨⟨v, rfl, hown⟩, hb1⟩
      have HO := hide hown
      have hs1 := hb1.size
      clear hown
      go_wp2_with fail
      go_loopw [6, 27] (fun v i wr => ((wr.ownsRow w.heap.size 27 1 v 0 (([] : List RH).map hdr) ∧ i = .int .i64 0) ∨ (wr.ownsRow w.heap.size 27 1 v xs.length (xs.map hdr) ∧ i = .int .i64 1) ∨
        (wr.ownsRow w.heap.size 27 1 v (xs.length + ys.length) ((xs ++ ys).map hdr) ∧ i = .int .i64 2)) ∧ Below w.heap.size w wr) (fun _ i _ => 2 - (intOf i).toNat)
      case atStart => exact ⟨.inl ⟨HO.out, rfl⟩, hb1⟩
      case round =>
        obtain ⟨hcase, hbw⟩ := hrel
        have d1 := (hbw.cell (p := ⟨g, 0, none⟩) hg).trans H1.out
        have d2 := (hbw.cell (p := ⟨g, 1, none⟩) hg).trans H2.out
        have hs := hbw.size
        rcases hcase with ⟨hown, rfl⟩ | ⟨hown, rfl⟩ | ⟨hown, rfl⟩
        · go_wp2_with (at_builtin; go_must (refine append_rows rfl _ _ rfl w.heap.size _ 0 [] xs rfl hown w.heap.size A1 c1 rfl (HX.out.below hbw) HN1.out (by omega) (by omega) ?_))
          intro v' w2 hown' hgrow
          have hs2 := hgrow.size
          go_wp2
          go_roundw
          case rel => exact ⟨.inr (.inl ⟨hown', rfl⟩), hbw.grown hgrow hs (fun j hj => (hown.lt j hj).1)⟩
          case measure => simp [intOf]
        · go_wp2_with (at_builtin; go_must (refine append_rows rfl _ _ rfl w.heap.size _ xs.length xs ys rfl hown w.heap.size A2 c2 rfl (HY.out.below hbw) HN2.out (by omega) (by omega) ?_))
          intro v' w2 hown' hgrow
          have hs2 := hgrow.size
          go_wp2
          go_roundw
          case rel => exact ⟨.inr (.inr ⟨by rw [List.map_append]; exact hown', rfl⟩), hbw.grown hgrow hs (fun j hj => (hown.lt j hj).1)⟩
          case measure => simp [intOf]
        · rw [← List.length_append] at hown
          obtain ⟨A', c', rfl, hA, hnA⟩ := rows_of_row hown (B := w.heap.size) (fun h hh => by
            rcases List.mem_append.1 hh with hh | hh
            · exact (HX.out.2 h hh).below hbw
            · exact (HY.out.2 h hh).below hbw) hs
          rw [List.length_append] at *
          go_wp2
          go_ret
          exact ⟨⟨A', c', by rw [List.length_append]; rfl, hA, hnA⟩, hbw⟩
end Go.Proofs.YtfjhdfpdgjjcgaaGreatDoor
