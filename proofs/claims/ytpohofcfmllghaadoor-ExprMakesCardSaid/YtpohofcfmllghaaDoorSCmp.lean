/-
  What the program's Cmp and the document's Cmp do: one order.
-/
import Derived.Test.YtpohofcfmllghaaDoorSRef
import Derived.Test.YtpohofcfmllghaaDoorSSwap
import Derived.Test.YtpohofcfmllghaaDoorSLex
import Derived.Test.YtpohofcfmllghaaDoorShelf
import Derived.Deep.RegionHeld3
namespace Go.Proofs.YtpohofcfmllghaaDoor
open Go.RowKit

theorem below_draws2 (n : Nat) (w : World) (a b : Nat) : Below n w ((w.drewN a).drewN b) := ⟨rfl, rfl, rfl, Nat.le_refl _, fun _ _ => rfl⟩
theorem less_cmpS (s t : ByteArray) : Op.bytesLess s.toList t.toList = decide (cmpS s t < 0) := by
  rw [Lib.toList_data, Lib.toList_data, lexL_less]; rfl
theorem same_cmpS (s t : ByteArray) : (s.toList == t.toList) = decide (cmpS s t = 0) := by
  rw [Lib.toList_data, Lib.toList_data, Bool.eq_iff_iff, beq_iff_eq, decide_eq_true_iff]; exact (lexL_zero _ _).symm

set_option maxHeartbeats 1000000 in
theorem cmpString_any (s t : ByteArray) (w : World) : Calls Tryd.prog 58 #[.string s, .string t] w fun e w' => e = .returned (.int .i64 (cmpS s t)) ∧ w = w' := by
  have hr := lexL_range s.data.toList t.data.toList
  have hl := less_cmpS s t
  have he := same_cmpS s t
  change cmpS s t = -1 ∨ cmpS s t = 0 ∨ cmpS s t = 1 at hr
  rcases hr with hr | hr | hr
  all_goals
    rw [hr] at hl he
    have HR := hide hr; clear hr
    simp only [Int.reduceLT, Int.reduceEq, decide_true, decide_false, Int.reduceNeg] at hl he
    go_enter Tryd.func58, Tryd.ntmps58
    go_wp2
    go_ret
    exact ⟨ret_int HR.out.symm, rfl⟩

/-- cmp.Compare on ints: the shelf's contract. -/
theorem cmpInt_any (x y : Int) (w : World) : Calls Tryd.prog 57 #[.int .i64 x, .int .i64 y] w fun e w' => e = .returned (.int .i64 (Lib.compareInt x y)) ∧ w = w' := by
  refine (Tryd.cmp_Compare_int x y w).mono ?_
  rintro e w' ⟨rfl, rfl⟩
  exact ⟨rfl, rfl⟩

def orL (x y z : Int) : Int := if x ≠ 0 then x else if y ≠ 0 then y else z
theorem orL_cmpV (k n : Int) (s : ByteArray) (l m : Int) (t : ByteArray) : orL (Lib.compareInt k l) (Lib.compareInt n m) (cmpS s t) = cmpV k n s l m t := by
  unfold orL Lib.compareInt cmpV
  repeat' split
  all_goals first | rfl | omega | (exfalso; simp_all; omega) | simp_all

set_option maxRecDepth 100000 in
set_option maxHeartbeats 1000000 in
theorem or_any (x y z : Int) (b : Nat) (w : World) (h0 : w.cell? ⟨b, 0, none⟩ = some (.int .i64 x)) (h1 : w.cell? ⟨b, 1, none⟩ = some (.int .i64 y)) (h2 : w.cell? ⟨b, 2, none⟩ = some (.int .i64 z)) :
    Calls Tryd.prog 56 #[.slice (some ⟨b, 0, none⟩) 3 3] w fun e w' => e = .returned (.int .i64 (orL x y z)) ∧ w = w' := by
  have hc : ((x != 0) = true ∧ orL x y z = x) ∨ ((x != 0) = false ∧ (y != 0) = true ∧ orL x y z = y) ∨ ((x != 0) = false ∧ (y != 0) = false ∧ (z != 0) = true ∧ orL x y z = z) ∨ ((x != 0) = false ∧ (y != 0) = false ∧ (z != 0) = false ∧ orL x y z = 0) := by
    unfold orL; simp only [bne_iff_ne, bne_eq_false_iff_eq, ne_eq]
    by_cases c1 : x = 0 <;> by_cases c2 : y = 0 <;> by_cases c3 : z = 0 <;> simp [c1, c2, c3]
  rcases hc with ⟨e1, hr⟩ | ⟨e1, e2, hr⟩ | ⟨e1, e2, e3, hr⟩ | ⟨e1, e2, e3, hr⟩
  all_goals
    have HR := hide hr; clear hr
    go_enter Tryd.func56, Tryd.ntmps56
    go_wp2_with fail
    refine wp_loop_rounds 4 ?_
    repeat any_goals (rw [rounds_succ]; go_wp2)
    go_ret
    exact ⟨ret_int HR.out.symm, rfl⟩

theorem keepU2 {w1 w2 w0 : World} {b m : Nat} {x y z u v r : Value} (hw : Up w1 w2) (hbm : b < m) (c0 : w1.cell? ⟨b, 0, none⟩ = some x) (c1 : w1.cell? ⟨b, 1, none⟩ = some y) (c2 : w1.cell? ⟨b, 2, none⟩ = some z)
    (d0 : w1.cell? ⟨m, 0, none⟩ = some u) (d1 : w1.cell? ⟨m, 1, none⟩ = some v) (d2 : w1.cell? ⟨m, 2, none⟩ = some r) (hs : m < w1.heap.size) (h : Up w0 w1) :
    w2.cell? ⟨b, 0, none⟩ = some x ∧ w2.cell? ⟨b, 1, none⟩ = some y ∧ w2.cell? ⟨b, 2, none⟩ = some z ∧ w2.cell? ⟨m, 0, none⟩ = some u ∧ w2.cell? ⟨m, 1, none⟩ = some v ∧ w2.cell? ⟨m, 2, none⟩ = some r ∧ m < w2.heap.size ∧ Up w0 w2 := by
  obtain ⟨a, b, c, d, e, f, g, k⟩ := keepS2 hw.1 hbm c0 c1 c2 d0 d1 d2 hs h.1
  exact ⟨a, b, c, d, e, f, g, k, Nat.le_trans h.2 hw.2⟩
theorem boxes_first {w : World} {x y z u v r : Value} {t : TypeId} :
    (((w.alloc (.cells #[x, y, z] t)).alloc (.cells #[u, v, r] t)).drew).cell? ⟨w.heap.size, 0, none⟩ = some x ∧ (((w.alloc (.cells #[x, y, z] t)).alloc (.cells #[u, v, r] t)).drew).cell? ⟨w.heap.size, 1, none⟩ = some y ∧ (((w.alloc (.cells #[x, y, z] t)).alloc (.cells #[u, v, r] t)).drew).cell? ⟨w.heap.size, 2, none⟩ = some z ∧ (((w.alloc (.cells #[x, y, z] t)).alloc (.cells #[u, v, r] t)).drew).cell? ⟨w.heap.size + 1, 0, none⟩ = some u ∧ (((w.alloc (.cells #[x, y, z] t)).alloc (.cells #[u, v, r] t)).drew).cell? ⟨w.heap.size + 1, 1, none⟩ = some v ∧ (((w.alloc (.cells #[x, y, z] t)).alloc (.cells #[u, v, r] t)).drew).cell? ⟨w.heap.size + 1, 2, none⟩ = some r ∧ w.heap.size + 1 < (((w.alloc (.cells #[x, y, z] t)).alloc (.cells #[u, v, r] t)).drew).heap.size ∧ Up w (((w.alloc (.cells #[x, y, z] t)).alloc (.cells #[u, v, r] t)).drew) := by
  refine ⟨by simp, by simp, by simp, by simp, by simp, by simp, by simp, ?_⟩
  exact ⟨(Joins.below_alloc2 w _ _).drew, Nat.le_succ _⟩

theorem boxes_more {w : World} {x y z u v r : Value} {t e : TypeId} {C : Array Value} :
    ((((w.alloc (.cells #[x, y, z] t)).alloc (.cells #[u, v, r] t)).alloc (.cells C e)).drew).cell? ⟨w.heap.size, 0, none⟩ = some x ∧ ((((w.alloc (.cells #[x, y, z] t)).alloc (.cells #[u, v, r] t)).alloc (.cells C e)).drew).cell? ⟨w.heap.size, 1, none⟩ = some y ∧ ((((w.alloc (.cells #[x, y, z] t)).alloc (.cells #[u, v, r] t)).alloc (.cells C e)).drew).cell? ⟨w.heap.size, 2, none⟩ = some z ∧ ((((w.alloc (.cells #[x, y, z] t)).alloc (.cells #[u, v, r] t)).alloc (.cells C e)).drew).cell? ⟨w.heap.size + 1, 0, none⟩ = some u ∧ ((((w.alloc (.cells #[x, y, z] t)).alloc (.cells #[u, v, r] t)).alloc (.cells C e)).drew).cell? ⟨w.heap.size + 1, 1, none⟩ = some v ∧ ((((w.alloc (.cells #[x, y, z] t)).alloc (.cells #[u, v, r] t)).alloc (.cells C e)).drew).cell? ⟨w.heap.size + 1, 2, none⟩ = some r ∧ w.heap.size + 1 < ((((w.alloc (.cells #[x, y, z] t)).alloc (.cells #[u, v, r] t)).alloc (.cells C e)).drew).heap.size ∧ Up w ((((w.alloc (.cells #[x, y, z] t)).alloc (.cells #[u, v, r] t)).alloc (.cells C e)).drew) := by
  obtain ⟨c0, c1, c2, d0, d1, d2, hs, hb⟩ := boxes_first (w := w) (x := x) (y := y) (z := z) (u := u) (v := v) (r := r) (t := t)
  exact keepU2 (up_alloc _ (.cells C e)) (Nat.lt_succ_self _) c0 c1 c2 d0 d1 d2 hs hb
theorem or_third (x y z : Int) (w : World) (A B : Obj) (e : TypeId) :
    Calls Tryd.prog 56 #[.slice (some ⟨w.heap.size + 1 + 1, 0, none⟩) 3 3] ((((w.alloc A).alloc B).alloc (.cells #[.int .i64 x, .int .i64 y, .int .i64 z] e)).drew) fun e' w' => e' = .returned (.int .i64 (orL x y z)) ∧ ((((w.alloc A).alloc B).alloc (.cells #[.int .i64 x, .int .i64 y, .int .i64 z] e)).drew) = w' := by
  have hs : w.heap.size + 1 + 1 = ((w.alloc A).alloc B).heap.size := by simp
  rw [hs]
  have hc : ∀ i, ((((w.alloc A).alloc B).alloc (.cells #[.int .i64 x, .int .i64 y, .int .i64 z] e)).drew).cell? ⟨((w.alloc A).alloc B).heap.size, i, none⟩ = (#[Value.int .i64 x, .int .i64 y, .int .i64 z] : Array Value)[i]? := fun i =>
    World.cell?_alloc_mark ((w.alloc A).alloc B) _ e (0, 0) i
  exact or_any x y z _ _ (by rw [hc]; rfl) (by rw [hc]; rfl) (by rw [hc]; rfl)

set_option maxRecDepth 100000 in
set_option maxHeartbeats 2000000 in
theorem cmp_up (k n : Int) (s : ByteArray) (l m : Int) (t : ByteArray) (w : World) :
    Calls Tryd.prog 52 #[vVal k n s, vVal l m t] w fun e w' => e = .returned (.int .i64 (cmpV k n s l m t)) ∧ Up w w' := by
  have HV := hide (orL_cmpV k n s l m t)
  go_enter Tryd.func52, Tryd.ntmps52
  go_wp2_with fail
  go_region_held3 (fun w' => w'.cell? ⟨w.heap.size, 0, none⟩ = some (.int .i64 k) ∧ w'.cell? ⟨w.heap.size, 1, none⟩ = some (.int .i64 n) ∧ w'.cell? ⟨w.heap.size, 2, none⟩ = some (.string s) ∧ w'.cell? ⟨w.heap.size + 1, 0, none⟩ = some (.int .i64 l) ∧ w'.cell? ⟨w.heap.size + 1, 1, none⟩ = some (.int .i64 m) ∧ w'.cell? ⟨w.heap.size + 1, 2, none⟩ = some (.string t) ∧ w.heap.size + 1 < w'.heap.size ∧ Up w w')
    (first
      | exact boxes_first
      | exact boxes_more
      | (go_split_ands; refine ⟨?_, ?_, ?_, ?_, ?_, ?_, ?_, ?_⟩ <;> assumption)
      | (go_split_ands; refine keepU2 (up_alloc _ _) (Nat.lt_succ_self _) ?_ ?_ ?_ ?_ ?_ ?_ ?_ ?_ <;> assumption))
    (first
      | (go_at_call 57; refine (cmpInt_any _ _ _).mono ?_; rintro e w' ⟨rfl, rfl⟩)
      | (go_at_call 58; refine (cmpString_any _ _ _).mono ?_; rintro e w' ⟨rfl, rfl⟩)
      | (go_at_call 56; refine (or_third (Lib.compareInt k l) (Lib.compareInt n m) (cmpS s t) _ _ _ _).mono ?_; rintro e w' ⟨rfl, rfl⟩))
  go_split_ands
  go_wp2_with fail
  go_ret
  exact ⟨ret_int HV.out, by assumption⟩
theorem cmp_any (k n : Int) (s : ByteArray) (l m : Int) (t : ByteArray) (w : World) :
    Calls Tryd.prog 52 #[vVal k n s, vVal l m t] w fun e w' => e = .returned (.int .i64 (cmpV k n s l m t)) ∧ Below w.heap.size w w' :=
  (cmp_up k n s l m t w).mono fun _ _ h => ⟨h.1, h.2.1⟩
end Go.Proofs.YtpohofcfmllghaaDoor
