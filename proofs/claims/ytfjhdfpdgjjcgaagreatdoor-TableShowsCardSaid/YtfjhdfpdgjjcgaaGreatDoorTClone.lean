/-
  slices.Clone of a row and of columns: the same, in memory of the call's own.
-/
import Derived.Test.YtfjhdfpdgjjcgaaGreatDoorSRow
import Derived.Laws.AppendOwnNone
import Derived.Laws.Rows
import Derived.Lib.Walk
namespace Go.Proofs.YtfjhdfpdgjjcgaaGreatDoor
open Go.RowKit

set_option maxRecDepth 100000 in
/-- append of a slice that reads as these values, to a row of the call's own. -/
theorem append_vals {w : World} {ops : Array Oper} {rest : List Oper} {o : Oper} {a : Act} {Q : Exit → Act → World → Prop} (hgd : o.guard = none) (s x : Operand)
    (ho : o.op = .call { callee := .builtin .append, args := #[s, x], argTypes := #[27, 27] })
    (base : Nat) (v : Value) (n : Nat) (xs ys : List (Int × Int × ByteArray)) (hs : a.eval s = v) (hown : w.ownsRow base 54 3 v n (valCells xs)) (B : Nat)
    (A : Option Addr) (c : Nat) (hx : a.eval x = .slice A ys.length c) (hC : RowAt B w A ys) (hnil : A = none → c = 0) (hlen : n + ys.length ≤ 65536) (hbase : base ≤ w.heap.size)
    (h : ∀ v' w', w'.ownsRow base 54 3 v' (n + ys.length) (valCells (xs ++ ys)) → w.grownBy w' v.ownBlock → wpList Tryz.prog ops Q rest (a.put o.dst v') w') : wpList Tryz.prog ops Q (o :: rest) a w := by
  obtain ⟨i0, hi, hz0, hz1, hz2⟩ := info_parts val_info
  have hcat : valCells (xs ++ ys) = valCells xs ++ valCells ys := by simp [valCells]
  cases A with
  | none =>
    have hy : ys = [] := by
      rcases ys with _ | ⟨y, r⟩
      · rfl
      · obtain ⟨_, _, e, _⟩ := hC 0 (by simp); cases e
    subst hy
    have hc0 := hnil rfl
    subst hc0
    exact wpList_append_own_none hgd s x _ ho base _ i0 3 Tryz.underlying27 hi v n _ hs hown hx (h v w (by simpa using hown) ⟨rfl, rfl, rfl, Nat.le_refl _, fun _ _ _ => rfl⟩)
  | some ad =>
    refine wpList_append_own w hgd s x _ ho base 54 i0 (.agg #[.int .i64 0, .int .i64 0, .string ⟨#[]⟩]) 3 32 Tryz.underlying27 hi hz0 hz1 hz2 rfl (by decide) v n _ hs hown ad ys.length c (valCells ys) hx (valCells_len ys) ?_ ?_ (by unfold maxLen; omega) (by omega) hbase ?_
    · intro j u hu
      have hj : j < ys.length * 3 := by rw [← valCells_len ys]; exact (List.getElem?_eq_some_iff.1 hu).1
      obtain ⟨b, off, e, _, c0, c1, c2⟩ := hC (j / 3) (by omega)
      injection e with e
      subst e
      have hat := valCells_at ys (j / 3) (by omega)
      rw [show (⟨b, off, none⟩ : Addr).add j = ⟨b, off + j, none⟩ by unfold Addr.add; split <;> simp_all]
      have hm : j % 3 = 0 ∨ j % 3 = 1 ∨ j % 3 = 2 := by omega
      rcases hm with hm | hm | hm
      · have ej : j / 3 * 3 = j := by omega
        rw [ej] at c0 hat
        rw [hat.1] at hu; injection hu with hu; subst hu; exact c0
      · have ej : j / 3 * 3 + 1 = j := by omega
        rw [Nat.add_assoc, ej] at c1; rw [ej] at hat
        rw [hat.2.1] at hu; injection hu with hu; subst hu; exact c1
      · have ej : j / 3 * 3 + 2 = j := by omega
        rw [Nat.add_assoc, ej] at c2; rw [ej] at hat
        rw [hat.2.2] at hu; injection hu with hu; subst hu; exact c2
    · intro u hu
      unfold valCells at hu
      obtain ⟨c, _, hc⟩ := List.mem_flatMap.1 hu
      simp at hc; rcases hc with rfl | rfl | rfl <;> rfl
    · intro v' w' h1 h2 _
      rw [← hcat] at h1
      exact h v' w' h1 h2
/-- An empty slice that was just made. -/
theorem own_empty (w : World) : (w.alloc (.cells #[] 54)).ownsRow w.heap.size 54 3 (.slice (some ⟨w.heap.size, 0, none⟩) 0 0) 0 (valCells []) :=
  ⟨rfl, .inr ⟨w.heap.size, 0, #[], rfl, Nat.le_refl _, heap_alloc_new w _, Nat.le_refl _, Nat.zero_le _, rfl, rfl⟩⟩

set_option maxRecDepth 100000 in
/-- append of a slice that reads as these columns, to a row of the call's own. -/
theorem append_cols {w : World} {ops : Array Oper} {rest : List Oper} {o : Oper} {a : Act} {Q : Exit → Act → World → Prop} (hgd : o.guard = none) (s x : Operand)
    (ho : o.op = .call { callee := .builtin .append, args := #[s, x], argTypes := #[23, 23] })
    (base : Nat) (v : Value) (n : Nat) (xs ys : List (ByteArray × Int)) (hs : a.eval s = v) (hown : w.ownsRow base 52 2 v n (colCells xs)) (B : Nat)
    (A : Option Addr) (c : Nat) (hx : a.eval x = .slice A ys.length c) (hC : ColsAt B w A ys) (hnil : A = none → c = 0) (hlen : n + ys.length ≤ 65536) (hbase : base ≤ w.heap.size)
    (h : ∀ v' w', w'.ownsRow base 52 2 v' (n + ys.length) (colCells (xs ++ ys)) → w.grownBy w' v.ownBlock → wpList Tryz.prog ops Q rest (a.put o.dst v') w') : wpList Tryz.prog ops Q (o :: rest) a w := by
  obtain ⟨i0, hi, hz0, hz1, hz2⟩ := info_parts col_info
  have hcat : colCells (xs ++ ys) = colCells xs ++ colCells ys := by simp [colCells]
  cases A with
  | none =>
    have hy : ys = [] := by
      rcases ys with _ | ⟨y, r⟩
      · rfl
      · obtain ⟨_, _, e, _⟩ := hC 0 (by simp); cases e
    subst hy
    have hc0 := hnil rfl
    subst hc0
    exact wpList_append_own_none hgd s x _ ho base _ i0 2 Tryz.underlying23 hi v n _ hs hown hx (h v w (by simpa using hown) ⟨rfl, rfl, rfl, Nat.le_refl _, fun _ _ _ => rfl⟩)
  | some ad =>
    refine wpList_append_own w hgd s x _ ho base 52 i0 (.agg #[.string ⟨#[]⟩, .int .i64 0]) 2 24 Tryz.underlying23 hi hz0 hz1 hz2 rfl (by decide) v n _ hs hown ad ys.length c (colCells ys) hx (colCells_len ys) ?_ ?_ (by unfold maxLen; omega) (by omega) hbase ?_
    · intro j u hu
      have hj : j < ys.length * 2 := by rw [← colCells_len ys]; exact (List.getElem?_eq_some_iff.1 hu).1
      obtain ⟨b, off, e, _, c0, c1⟩ := hC (j / 2) (by omega)
      injection e with e
      subst e
      have hat := colCells_at ys (j / 2) (by omega)
      rw [show (⟨b, off, none⟩ : Addr).add j = ⟨b, off + j, none⟩ by unfold Addr.add; split <;> simp_all]
      rcases Nat.mod_two_eq_zero_or_one j with hm | hm
      · have ej : j / 2 * 2 = j := by omega
        rw [ej] at c0 hat
        rw [hat.1] at hu; injection hu with hu; subst hu; exact c0
      · have ej : j / 2 * 2 + 1 = j := by omega
        rw [Nat.add_assoc, ej] at c1; rw [ej] at hat
        rw [hat.2] at hu; injection hu with hu; subst hu; exact c1
    · intro u hu
      unfold colCells at hu
      obtain ⟨c, _, hc⟩ := List.mem_flatMap.1 hu
      simp at hc; rcases hc with rfl | rfl <;> rfl
    · intro v' w' h1 h2 _
      rw [← hcat] at h1
      exact h v' w' h1 h2


def GivesNewC (cs : List (ByteArray × Int)) (w : World) (e : Ending) (w' : World) : Prop :=
  (∃ A c, e = .returned (.slice A cs.length c) ∧ ColsAt w'.heap.size w' A cs ∧ (A = none → c = 0) ∧ ∀ a, A = some a → w.heap.size ≤ a.block) ∧ Below w.heap.size w w'
theorem cols_new {w : World} {base : Nat} {e : TypeId} {v : Value} {cs : List (ByteArray × Int)} (h : w.ownsRow base e 2 v cs.length (colCells cs)) :
    ∃ A cap, v = .slice A cs.length cap ∧ ColsAt w.heap.size w A cs ∧ (A = none → cap = 0) ∧ ∀ a, A = some a → base ≤ a.block := by
  obtain ⟨A, cap, rfl, hA⟩ := cols_of_row h
  refine ⟨A, cap, rfl, hA, ?_, ?_⟩
  · rintro rfl
    rcases h.2 with ⟨e, _⟩ | ⟨g, c, cur, e, _⟩
    · injection e
    · injection e with e1; cases e1
  · rintro a rfl
    exact (h.lt a.block rfl).1
theorem own_emptyC (w : World) : (w.alloc (.cells #[] 52)).ownsRow w.heap.size 52 2 (.slice (some ⟨w.heap.size, 0, none⟩) 0 0) 0 (colCells []) :=
  ⟨rfl, .inr ⟨w.heap.size, 0, #[], rfl, Nat.le_refl _, heap_alloc_new w _, Nat.le_refl _, Nat.zero_le _, rfl, rfl⟩⟩

set_option maxHeartbeats 1600000 in
set_option maxRecDepth 100000 in
theorem cloneRow_any (A : Option Addr) (cap : Nat) (vs : List (Int × Int × ByteArray)) (w : World) (hC : RowAt w.heap.size w A vs) (hn : A = none → cap = 0) (hl : vs.length ≤ 65536) :
    Calls Tryz.prog 68 #[.slice A vs.length cap] w (GivesNew vs w) := by
  have q := fun (w : World) (a : Option Addr) (n c n' c' : Nat) => Lib.run_eql_slice_nil (P := Tryz.prog) w _ _ a n c n' c' Tryz.underlying27
  cases A with
  | none =>
    have hv : vs = [] := by
      rcases vs with _ | ⟨y, r⟩
      · rfl
      · obtain ⟨_, _, e, _⟩ := hC 0 (by simp); cases e
    subst hv
    clear hC hn
    go_enter Tryz.func68, Tryz.ntmps68
    go_wp2
    go_ret
    exact ⟨⟨none, 0, rfl, RowAt.nil _ _ _, fun _ => rfl, fun a h => by cases h⟩, Below.refl _ _⟩
  | some a =>
    have HC := hide hC; clear hC hn
    have hba : Below w.heap.size w (w.alloc (.cells #[] 54)) := Joins.below_alloc1 w _
    go_enter Tryz.func68, Tryz.ntmps68
    go_wp2_with (at_builtin; go_must (refine append_vals rfl _ _ rfl w.heap.size _ 0 [] vs rfl (own_empty w) w.heap.size (some a) cap rfl (HC.out.below hba) (fun h => by cases h) (by omega) (by simp) ?_))
    intro v1 w1 hown hgrow
    obtain ⟨A1, c1, rfl, hA, hz, hb⟩ := row_new hown
    have HA := hide hA; have HZ := hide hz; have HB := hide hb
    have hb1 : Below w.heap.size w w1 := hba.grown hgrow (by simp) (fun j hj => ((own_empty w).lt j hj).1)
    clear hown hgrow hA hz hb
    go_wp2_with fail
    go_ret
    exact ⟨⟨A1, c1, rfl, HA.out, HZ.out, HB.out⟩, hb1⟩

set_option maxHeartbeats 1600000 in
set_option maxRecDepth 100000 in
theorem cloneCols_any (A : Option Addr) (cap : Nat) (cs : List (ByteArray × Int)) (w : World) (hC : ColsAt w.heap.size w A cs) (hn : A = none → cap = 0) (hl : cs.length ≤ 65536) :
    Calls Tryz.prog 69 #[.slice A cs.length cap] w (GivesNewC cs w) := by
  have q := fun (w : World) (a : Option Addr) (n c n' c' : Nat) => Lib.run_eql_slice_nil (P := Tryz.prog) w _ _ a n c n' c' Tryz.underlying23
  cases A with
  | none =>
    have hv : cs = [] := by
      rcases cs with _ | ⟨y, r⟩
      · rfl
      · obtain ⟨_, _, e, _⟩ := hC 0 (by simp); cases e
    subst hv
    clear hC hn
    go_enter Tryz.func69, Tryz.ntmps69
    go_wp2
    go_ret
    exact ⟨⟨none, 0, rfl, ColsAt.nil _ _ _, fun _ => rfl, fun a h => by cases h⟩, Below.refl _ _⟩
  | some a =>
    have HC := hide hC; clear hC hn
    have hba : Below w.heap.size w (w.alloc (.cells #[] 52)) := Joins.below_alloc1 w _
    go_enter Tryz.func69, Tryz.ntmps69
    go_wp2_with (at_builtin; go_must (refine append_cols rfl _ _ rfl w.heap.size _ 0 [] cs rfl (own_emptyC w) w.heap.size (some a) cap rfl (HC.out.below hba) (fun h => by cases h) (by omega) (by simp) ?_))
    intro v1 w1 hown hgrow
    obtain ⟨A1, c1, rfl, hA, hz, hb⟩ := cols_new hown
    have HA := hide hA; have HZ := hide hz; have HB := hide hb
    have hb1 : Below w.heap.size w w1 := hba.grown hgrow (by simp) (fun j hj => ((own_emptyC w).lt j hj).1)
    clear hown hgrow hA hz hb
    go_wp2_with fail
    go_ret
    exact ⟨⟨A1, c1, rfl, HA.out, HZ.out, HB.out⟩, hb1⟩
end Go.Proofs.YtfjhdfpdgjjcgaaGreatDoor
