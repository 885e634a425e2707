/-
  The walk of SchemaRows.
-/
import Derived.Test.YtheeihdbeefkkaaDoorSAwake
import Derived.Test.YtheeihdbeefkkaaDoorSCmpR
import Derived.Laws.AppendOwnNone
import Derived.Laws.Rows
namespace Go.Proofs.YtheeihdbeefkkaaDoor.schemaRows
open Go.RowKit

theorem smallR_len {vs : List (Int × Int × ByteArray)} (h : smallR vs = true) : vs.length ≤ 40 := by unfold smallR at h; simp at h; exact h.2

abbrev Done (A B : Option Addr) (c d : Nat) (xs ys : List (Int × Int × ByteArray)) (w : World) : Prop :=
  Calls Tryd.prog 9 #[.slice A xs.length c, .slice B ys.length d] w fun e w' => e = .returned (.bool true) ∧ Below w.heap.size w w'

set_option maxRecDepth 100000 in
/-- append of a slice that reads as these values, to a row of the call's own. -/
theorem append_vals {w : World} {ops : Array Oper} {rest : List Oper} {o : Oper} {a : Act} {Q : Exit → Act → World → Prop} (hgd : o.guard = none) (s x : Operand)
    (ho : o.op = .call { callee := .builtin .append, args := #[s, x], argTypes := #[39, 39] })
    (base : Nat) (v : Value) (n : Nat) (xs ys : List (Int × Int × ByteArray)) (hs : a.eval s = v) (hown : w.ownsRow base 56 3 v n (valCells xs)) (B : Nat)
    (A : Option Addr) (c : Nat) (hx : a.eval x = .slice A ys.length c) (hC : RowAt B w A ys) (hnil : A = none → c = 0) (hlen : n + ys.length ≤ 65536) (hbase : base ≤ w.heap.size)
    (h : ∀ v' w', w'.ownsRow base 56 3 v' (n + ys.length) (valCells (xs ++ ys)) → w.grownBy w' v.ownBlock → wpList Tryd.prog ops Q rest (a.put o.dst v') w') : wpList Tryd.prog ops Q (o :: rest) a w := by
  obtain ⟨i0, hi, hz0, hz1, hz2⟩ := info_parts val_info
  have hcat : valCells (xs ++ ys) = valCells xs ++ valCells ys := by simp [valCells]
  cases A with
  | none =>
    have hy : ys = [] := by
      rcases ys with _ | ⟨y, r⟩
      · rfl
      · obtain ⟨_, _, e, _⟩ := hC 0 (by simp); cases e
    subst hy
    have hc0 := hnil rfl
    subst hc0
    exact wpList_append_own_none hgd s x _ ho base _ i0 3 Tryd.underlying39 hi v n _ hs hown hx (h v w (by simpa using hown) ⟨rfl, rfl, rfl, Nat.le_refl _, fun _ _ _ => rfl⟩)
  | some ad =>
    refine wpList_append_own w hgd s x _ ho base 56 i0 (.agg #[.int .i64 0, .int .i64 0, .string ⟨#[]⟩]) 3 32 Tryd.underlying39 hi hz0 hz1 hz2 rfl (by decide) v n _ hs hown ad ys.length c (valCells ys) hx (valCells_len ys) ?_ ?_ (by unfold maxLen; omega) (by omega) hbase ?_
    · intro j u hu
      have hj : j < ys.length * 3 := by rw [← valCells_len ys]; exact (List.getElem?_eq_some_iff.1 hu).1
      obtain ⟨b, off, e, _, c0, c1, c2⟩ := hC (j / 3) (by omega)
      injection e with e
      subst e
      have hat := valCells_at ys (j / 3) (by omega)
      rw [show (⟨b, off, none⟩ : Addr).add j = ⟨b, off + j, none⟩ by unfold Addr.add; split <;> simp_all]
      have hm : j % 3 = 0 ∨ j % 3 = 1 ∨ j % 3 = 2 := by omega
      rcases hm with hm | hm | hm
      · have ej : j / 3 * 3 = j := by omega
        rw [ej] at c0 hat
        rw [hat.1] at hu; injection hu with hu; subst hu; exact c0
      · have ej : j / 3 * 3 + 1 = j := by omega
        rw [Nat.add_assoc, ej] at c1; rw [ej] at hat
        rw [hat.2.1] at hu; injection hu with hu; subst hu; exact c1
      · have ej : j / 3 * 3 + 2 = j := by omega
        rw [Nat.add_assoc, ej] at c2; rw [ej] at hat
        rw [hat.2.2] at hu; injection hu with hu; subst hu; exact c2
    · intro u hu
      unfold valCells at hu
      obtain ⟨c, _, hc⟩ := List.mem_flatMap.1 hu
      simp at hc; rcases hc with rfl | rfl | rfl <;> rfl
    · intro v' w' h1 h2 _
      rw [← hcat] at h1
      exact h v' w' h1 h2
/-- An empty slice that was just made. -/
theorem own_empty (w : World) : (w.alloc (.cells #[] 56)).ownsRow w.heap.size 56 3 (.slice (some ⟨w.heap.size, 0, none⟩) 0 0) 0 (valCells []) :=
  ⟨rfl, .inr ⟨w.heap.size, 0, #[], rfl, Nat.le_refl _, heap_alloc_new w _, Nat.le_refl _, Nat.zero_le _, rfl, rfl⟩⟩

set_option maxHeartbeats 1600000 in
set_option maxRecDepth 100000 in
theorem off1 (A B : Option Addr) (c d : Nat) (xs ys : List (Int × Int × ByteArray)) (w : World) (hX : RowAt w.heap.size w A xs) (hv : WfR xs) (hm : Mx w) (h : smallR xs = false) : Done A B c d xs ys w := by
  have HS := hide (smallRow_any A c xs w hX hv.1); have HB := hide h; have HM := hide hm
  clear hX hv hm h
  go_enter Tryd.func9, Tryd.ntmps9
  go_wp2_with fail
  refine HS.out.mono ?_
  rintro e w1 ⟨rfl, hb1⟩
  rw [HB.out]
  go_wp2_with (go_at_call 11; refine (awake_any _ (HM.out.stays hb1)).mono ?_; rintro e wa ⟨rfl, hba⟩)
  go_ret
  exact ⟨rfl, then_below hb1 hba⟩

set_option maxHeartbeats 1600000 in
set_option maxRecDepth 100000 in
theorem off2 (A B : Option Addr) (c d : Nat) (xs ys : List (Int × Int × ByteArray)) (w : World) (hX : RowAt w.heap.size w A xs) (hY : RowAt w.heap.size w B ys) (hv : WfR xs) (hv2 : WfR ys) (hm : Mx w) (h : smallR xs = true) (h2 : smallR ys = false) : Done A B c d xs ys w := by
  have HS := hide (smallRow_any A c xs w hX hv.1); have HB := hide h; have HM := hide hm; have HY := hide hY; have HB2 := hide h2; have HV := hide hv2
  clear hX hv hm h hY h2 hv2
  go_enter Tryd.func9, Tryd.ntmps9
  go_wp2_with fail
  refine HS.out.mono ?_
  rintro e w1 ⟨rfl, hb1⟩
  rw [HB.out]
  go_wp2_with fail
  refine (smallRow_any B d ys _ (HY.out.on hb1) HV.out.1).mono ?_
  rintro e w2 ⟨rfl, hb2⟩
  rw [HB2.out]
  have hq2 := then_below hb1 hb2
  go_wp2_with (go_at_call 11; refine (awake_any _ (HM.out.stays hq2)).mono ?_; rintro e wa ⟨rfl, hba⟩)
  go_ret
  exact ⟨rfl, then_below hq2 hba⟩

set_option maxHeartbeats 3200000 in
set_option maxRecDepth 100000 in
theorem main (A B : Option Addr) (c d : Nat) (xs ys : List (Int × Int × ByteArray)) (w : World) (hX : RowAt w.heap.size w A xs) (hY : RowAt w.heap.size w B ys) (hv : WfR xs) (hv2 : WfR ys)
    (hnx : A = none → c = 0) (hny : B = none → d = 0) (hm : Mx w) (h : smallR xs = true) (h2 : smallR ys = true) : Done A B c d xs ys w := by
  have hlx := smallR_len h
  have hly := smallR_len h2
  have HS := hide (smallRow_any A c xs w hX hv.1); have HB := hide h; have HM := hide hm; have HX := hide hX; have HY := hide hY; have HB2 := hide h2; have HVx := hide hv; have HVy := hide hv2
  have HNx := hide hnx; have HNy := hide hny
  clear hX hv hm h hY h2 hv2 hnx hny
  go_enter Tryd.func9, Tryd.ntmps9
  go_wp2_with fail
  refine HS.out.mono ?_
  rintro e w1 ⟨rfl, hb1⟩
  rw [HB.out]
  go_wp2_with fail
  refine (smallRow_any B d ys _ (HY.out.on hb1) HVy.out.1).mono ?_
  rintro e w2 ⟨rfl, hb2⟩
  rw [HB2.out]
  have hq2 := then_below hb1 hb2
  have HX2 := hide (HX.out.on hq2); have HY2 := hide (HY.out.on hq2)
  clear hb1 hb2
  have hba : Below w2.heap.size w2 (w2.alloc (.cells #[] 56)) := Joins.below_alloc1 w2 _
  go_wp2_with (at_builtin; go_must (refine append_vals rfl _ _ rfl w2.heap.size _ 0 [] xs rfl (own_empty w2) w2.heap.size A c rfl (HX2.out.below hba) HNx.out (by omega) (by simp) ?_))
  intro v3 w3 hown3 hgrow3
  have hb3 : Below w2.heap.size w2 w3 := hba.grown hgrow3 (by simp) (fun j hj => ((own_empty w2).lt j hj).1)
  have hs3 := hb3.size
  have HY3 := hide (HY2.out.below hb3); have HO3 := hide hown3
  clear hgrow3 hown3 hba
  go_wp2_with (at_builtin; go_must (refine append_vals rfl _ _ rfl w2.heap.size _ xs.length xs ys rfl HO3.out w2.heap.size B d rfl HY3.out HNy.out (by omega) hs3 ?_))
  intro v4 w4 hown4 hgrow4
  have hb4 : Below w2.heap.size w2 w4 := hb3.grown hgrow4 hs3 (fun j hj => (HO3.out.lt j hj).1)
  rw [← List.length_append] at hown4
  obtain ⟨A4, c4, rfl, hA4⟩ := row_of_row hown4
  have HA4 := hide hA4
  have hq4 := then_below hq2 hb4
  have HX4 := hide (HX2.out.on hb4); have HY4 := hide (HY2.out.on hb4)
  have hlb : (xs ++ ys).length ≤ 80 := by rw [List.length_append]; omega
  have HVb := hide (show ∀ v ∈ xs ++ ys, valWf v from fun v hv => by
    rcases List.mem_append.1 hv with h' | h'
    · exact HVx.out.2 v h'
    · exact HVy.out.2 v h')
  clear hown4 hgrow4 hA4 hb3 hs3
  generalize xs ++ ys = bs at *
  go_wp2_with fail
  go_loopw [23] (fun i wr => ∃ k : Nat, k ≤ bs.length ∧ i = .int .i64 k ∧ Below w4.heap.size w4 wr) (fun i _ => bs.length - (intOf i).toNat)
  case atStart => exact ⟨0, Nat.zero_le _, rfl, Below.refl _ _⟩
  case round =>
    obtain ⟨k, hk, rfl, hbw⟩ := hrel
    have hs := hbw.size
    have hqr := hq4.trans (hbw.mono hq4.size)
    by_cases hlt : k < bs.length
    · obtain ⟨b, off, rfl, hb, g0, g1, g2⟩ := HA4.out.below hbw k hlt
      have hsz := (HVb.out (bs.getD k (0, 0, ⟨#[]⟩)) (by rw [List.getD_eq_getElem?_getD, List.getElem?_eq_getElem hlt]; exact List.getElem_mem hlt)).2.2
      generalize bs.getD k (0, 0, ⟨#[]⟩) = x at g0 g1 g2 hsz
      have q0 : Below w4.heap.size w4 (wr.alloc (.cells #[.int .i64 x.1, .int .i64 x.2.1, .string x.2.2] 56)) := hbw.alloc hs _
      cases hr : rightV x.1 x.2.1 x.2.2
      all_goals
        have HR := hide (fun w' => (right_any x.1 x.2.1 x.2.2 w' hsz).mono fun e w1 (h : e = .returned (.bool (rightV x.1 x.2.1 x.2.2)) ∧ Below w'.heap.size w' w1) => (⟨by rw [h.1, hr], h.2⟩ : e = .returned (.bool _) ∧ Below w'.heap.size w' w1))
        clear hr
        go_wp2_with fail
        refine (HR.out _).mono ?_
        rintro e w5 ⟨rfl, hb5⟩
        have q5 := q0.trans (hb5.mono q0.size)
        have q6 := hq4.trans (q5.mono hq4.size)
        clear hb5
        go_wp2_with (go_at_call 11; refine (awake_any _ (HM.out.stays q6)).mono ?_; rintro e wa ⟨rfl, hba⟩)
        first
          | (go_ret
             exact ⟨rfl, q6.trans (hba.mono q6.size)⟩)
          | (go_roundw
             case rel => exact ⟨k + 1, by omega, by go_num, q5⟩
             case measure => simp [intOf]; omega)
    · have HXr := hide (HX4.out.on hbw); have HYr := hide (HY4.out.on hbw)
      have hneg := cmpR_range xs ys
      have HT := hide (cmpR_turn xs ys)
      have hxm : xs.length ≤ maxLen := by unfold maxLen; omega
      have hym : ys.length ≤ maxLen := by unfold maxLen; omega
      clear hbw
      go_wp2_with fail
      refine (cmpRows_any A B c d xs ys _ HXr.out HYr.out hxm).mono ?_
      rintro e w5 ⟨rfl, hb5⟩
      have hq5 := hqr.trans (hb5.mono hqr.size)
      have HX5 := hide (HXr.out.on hb5); have HY5 := hide (HYr.out.on hb5)
      clear hb5
      go_wp2_with fail
      refine (refRow_any A c xs _ HX5.out (by omega)).mono ?_
      rintro e w6 ⟨⟨A6, c6, rfl, hA6⟩, hb6⟩
      have HA6 := hide hA6
      have hq6 := hq5.trans (hb6.mono hq5.size)
      have HX6 := hide (HX5.out.on hb6); have HY6 := hide (HY5.out.on hb6)
      clear hb6 hA6
      go_wp2_with fail
      refine (refRow_any B d ys _ HY6.out (by omega)).mono ?_
      rintro e w7 ⟨⟨A7, c7, rfl, hA7⟩, hb7⟩
      have HA7 := hide hA7
      have hq7 := hq6.trans (hb7.mono hq6.size)
      have HA67 := hide (HA6.out.on hb7)
      have HX7 := hide (HX6.out.on hb7); have HY7 := hide (HY6.out.on hb7)
      clear hb7 hA7
      go_wp2_with fail
      refine (refCmpRows_any A6 A7 c6 c7 xs ys _ HA67.out HA7.out hxm HVx.out).mono ?_
      rintro e w8 ⟨rfl, hb8⟩
      have hq8 := hq7.trans (hb8.mono hq7.size)
      have HX8 := hide (HX7.out.on hb8); have HY8 := hide (HY7.out.on hb8)
      clear hb8
      go_wp2_with fail
      refine (cmpRows_any B A d c ys xs _ HY8.out HX8.out hym).mono ?_
      rintro e w9 ⟨rfl, hb9⟩
      rw [HT.out]
      have hq9 := hq8.trans (hb9.mono hq8.size)
      clear hb9
      generalize cmpR xs ys = z at hneg ⊢
      have hz1 : -1 ≤ z := by omega
      have hz2 : z ≤ 1 := by omega
      clear hneg HT
      go_wp2_with (go_at_call 11; refine (awake_any _ (HM.out.stays hq9)).mono ?_; rintro e wa ⟨rfl, hba⟩)
      go_ret
      exact ⟨rfl, hq9.trans (hba.mono hq9.size)⟩

theorem schemaRows_walk (A : Option Addr) (c : Nat) (xs : List (Int × Int × ByteArray)) (B : Option Addr) (d : Nat) (ys : List (Int × Int × ByteArray)) (w : World) (hX : RowAt w.heap.size w A xs) (hv : WfR xs) (hnx : A = none → c = 0)
    (hY : RowAt w.heap.size w B ys) (hv2 : WfR ys) (hny : B = none → d = 0) (hm : Mx w) : Done A B c d xs ys w := by
  cases h : smallR xs
  · exact off1 A B c d xs ys w hX hv hm h
  · cases h2 : smallR ys
    · exact off2 A B c d xs ys w hX hY hv hv2 hm h h2
    · exact main A B c d xs ys w hX hY hv hv2 hnx hny hm h h2
end Go.Proofs.YtheeihdbeefkkaaDoor.schemaRows
