/-
  What the calls of package value's arithmetic do: Null, Of, Text, reckon, product, Arith on two integers, on null, on strings.
-/
import Derived.Test.YteaaloejjafhlaaDoorProg
import Derived.Test.YteaaloejjafhlaaDoorNum
import Derived.Test.YteaaloejjafhlaaDoorShelf
import Derived.WalkKit
import Derived.WalkSpells
import Derived.WalkLawsBesides
import Derived.Handy
import Derived.Deep.QuietTactic
import Derived.BigQuiet
import Derived.Lib.SmallJoins
import Derived.Lib.Builder
namespace Go.Proofs.YteaaloejjafhlaaDoor
open Go.RowKit

abbrev vVal (k n : Int) (s : ByteArray) : Value := .agg #[.int .i64 k, .int .i64 n, .string s]
abbrev vInt (n : Int) : Value := .agg #[.int .i64 1, .int .i64 n, .string ⟨#[]⟩]
abbrev vNull : Value := .agg #[.int .i64 0, .int .i64 0, .string ⟨#[]⟩]

theorem two_eq {k l : IntKind} {a b : Int} {p q : Bool} (h1 : a = b) (h2 : p = q) (hk : k = l) : Ending.returned (.tuple #[.int k a, .bool p]) = .returned (.tuple #[.int l b, .bool q]) := by rw [h1, h2, hk]

theorem bcell {W w1 : World} (hb : Below W.heap.size W w1) : (∀ b o, b < W.heap.size → w1.cell? ⟨b, o, none⟩ = W.cell? ⟨b, o, none⟩) ∧ (∀ b o, b < W.heap.size → w1.frozen? ⟨b, o, none⟩ = W.frozen? ⟨b, o, none⟩) :=
  ⟨fun b o h => hb.cell (p := ⟨b, o, none⟩) h, fun b o h => hb.frozen (p := ⟨b, o, none⟩) h⟩

/-- What lies below a new block doesn't hang on what that block holds. -/
theorem cell_swap {w : World} {A B : Array Value} {t : TypeId} {b o : Nat} {v : Value} (h : (w.alloc (.cells A t)).cell? ⟨b, o, none⟩ = some v) (hb : b < w.heap.size) : (w.alloc (.cells B t)).cell? ⟨b, o, none⟩ = some v := by
  have e1 := World.cell?_of_block (w := w) (w' := w.alloc (.cells A t)) (a := ⟨b, o, none⟩) (Lib.alloc_old w _ b hb)
  have e2 := World.cell?_of_block (w := w) (w' := w.alloc (.cells B t)) (a := ⟨b, o, none⟩) (Lib.alloc_old w _ b hb)
  rw [e2, ← e1]; exact h
theorem below_swap {w w0 : World} {A B : Array Value} {t : TypeId} {n : Nat} (h : Below n w0 (w.alloc (.cells A t))) (hn : n ≤ w.heap.size) : Below n w0 (w.alloc (.cells B t)) := by
  refine ⟨h.os, h.tape, h.output, by have := h.size; simp at this ⊢; exact this, fun k hk => ?_⟩
  rw [Lib.alloc_old w _ k (by omega), ← h.block k hk, Lib.alloc_old w _ k (by omega)]

theorem swapS {w w0 : World} {A B : Array Value} {t : TypeId} {b m : Nat} {x y z : Value} (hbm : b < m) (hn : w0.heap.size ≤ b) (c0 : (w.alloc (.cells A t)).cell? ⟨b, 0, none⟩ = some x) (c1 : (w.alloc (.cells A t)).cell? ⟨b, 1, none⟩ = some y)
    (c2 : (w.alloc (.cells A t)).cell? ⟨b, 2, none⟩ = some z) (hs : m < (w.alloc (.cells A t)).heap.size) (h : Below w0.heap.size w0 (w.alloc (.cells A t))) :
    (w.alloc (.cells B t)).cell? ⟨b, 0, none⟩ = some x ∧ (w.alloc (.cells B t)).cell? ⟨b, 1, none⟩ = some y ∧ (w.alloc (.cells B t)).cell? ⟨b, 2, none⟩ = some z ∧ m < (w.alloc (.cells B t)).heap.size ∧ Below w0.heap.size w0 (w.alloc (.cells B t)) := by
  have hs' : m < w.heap.size + 1 := by simpa using hs
  exact ⟨cell_swap c0 (by omega), cell_swap c1 (by omega), cell_swap c2 (by omega), by simpa using hs', below_swap h (by omega)⟩

theorem keepS {w1 w2 w0 : World} {b m : Nat} {x y z : Value} (hw : Below w1.heap.size w1 w2) (hbm : b < m) (c0 : w1.cell? ⟨b, 0, none⟩ = some x) (c1 : w1.cell? ⟨b, 1, none⟩ = some y)
    (c2 : w1.cell? ⟨b, 2, none⟩ = some z) (hs : m < w1.heap.size) (h : Below w0.heap.size w0 w1) :
    w2.cell? ⟨b, 0, none⟩ = some x ∧ w2.cell? ⟨b, 1, none⟩ = some y ∧ w2.cell? ⟨b, 2, none⟩ = some z ∧ m < w2.heap.size ∧ Below w0.heap.size w0 w2 :=
  ⟨(hw.cell (p := ⟨b, 0, none⟩) (Nat.lt_trans hbm hs)).trans c0, (hw.cell (p := ⟨b, 1, none⟩) (Nat.lt_trans hbm hs)).trans c1, (hw.cell (p := ⟨b, 2, none⟩) (Nat.lt_trans hbm hs)).trans c2, Nat.lt_of_lt_of_le hs hw.size, h.trans (hw.mono h.size)⟩
theorem allocS {w1 w0 : World} {A : Array Value} {t : TypeId} {b m : Nat} {x y z : Value} (hbm : b < m) (c0 : w1.cell? ⟨b, 0, none⟩ = some x) (c1 : w1.cell? ⟨b, 1, none⟩ = some y)
    (c2 : w1.cell? ⟨b, 2, none⟩ = some z) (hs : m < w1.heap.size) (h : Below w0.heap.size w0 w1) :
    (w1.alloc (.cells A t)).cell? ⟨b, 0, none⟩ = some x ∧ (w1.alloc (.cells A t)).cell? ⟨b, 1, none⟩ = some y ∧ (w1.alloc (.cells A t)).cell? ⟨b, 2, none⟩ = some z ∧ m < (w1.alloc (.cells A t)).heap.size ∧ Below w0.heap.size w0 (w1.alloc (.cells A t)) :=
  keepS (Joins.below_alloc1 w1 _) hbm c0 c1 c2 hs h
theorem firstS {w1 w0 : World} {b m : Nat} {x y z : Value} (c0 : w1.cell? ⟨b, 0, none⟩ = some x) (c1 : w1.cell? ⟨b, 1, none⟩ = some y)
    (c2 : w1.cell? ⟨b, 2, none⟩ = some z) (hs : m < w1.heap.size) (h : Below w0.heap.size w0 w1) :
    w1.drew.cell? ⟨b, 0, none⟩ = some x ∧ w1.drew.cell? ⟨b, 1, none⟩ = some y ∧ w1.drew.cell? ⟨b, 2, none⟩ = some z ∧ m < w1.drew.heap.size ∧ Below w0.heap.size w0 w1.drew :=
  ⟨c0, c1, c2, hs, h.drew⟩

theorem firstS2 {w6 w0 : World} {b : Nat} {x y z u v r : Value} {t : TypeId} (hb : b < w6.heap.size) (c0 : w6.cell? ⟨b, 0, none⟩ = some x) (c1 : w6.cell? ⟨b, 1, none⟩ = some y) (c2 : w6.cell? ⟨b, 2, none⟩ = some z) (h : Below w0.heap.size w0 w6) :
    (w6.alloc (.cells #[u, v, r] t)).drew.cell? ⟨b, 0, none⟩ = some x ∧ (w6.alloc (.cells #[u, v, r] t)).drew.cell? ⟨b, 1, none⟩ = some y ∧ (w6.alloc (.cells #[u, v, r] t)).drew.cell? ⟨b, 2, none⟩ = some z ∧
    (w6.alloc (.cells #[u, v, r] t)).drew.cell? ⟨w6.heap.size, 0, none⟩ = some u ∧ (w6.alloc (.cells #[u, v, r] t)).drew.cell? ⟨w6.heap.size, 1, none⟩ = some v ∧ (w6.alloc (.cells #[u, v, r] t)).drew.cell? ⟨w6.heap.size, 2, none⟩ = some r ∧
    w6.heap.size < (w6.alloc (.cells #[u, v, r] t)).drew.heap.size ∧ Below w0.heap.size w0 (w6.alloc (.cells #[u, v, r] t)).drew := by
  have hk := Joins.below_alloc1 w6 (.cells #[u, v, r] t)
  exact ⟨(hk.cell (p := ⟨b, 0, none⟩) hb).trans c0, (hk.cell (p := ⟨b, 1, none⟩) hb).trans c1, (hk.cell (p := ⟨b, 2, none⟩) hb).trans c2, by simp, by simp, by simp, by simp, (h.alloc h.size _).drew⟩
theorem keepS2 {w1 w2 w0 : World} {b m : Nat} {x y z u v r : Value} (hw : Below w1.heap.size w1 w2) (hbm : b < m) (c0 : w1.cell? ⟨b, 0, none⟩ = some x) (c1 : w1.cell? ⟨b, 1, none⟩ = some y) (c2 : w1.cell? ⟨b, 2, none⟩ = some z)
    (d0 : w1.cell? ⟨m, 0, none⟩ = some u) (d1 : w1.cell? ⟨m, 1, none⟩ = some v) (d2 : w1.cell? ⟨m, 2, none⟩ = some r) (hs : m < w1.heap.size) (h : Below w0.heap.size w0 w1) :
    w2.cell? ⟨b, 0, none⟩ = some x ∧ w2.cell? ⟨b, 1, none⟩ = some y ∧ w2.cell? ⟨b, 2, none⟩ = some z ∧ w2.cell? ⟨m, 0, none⟩ = some u ∧ w2.cell? ⟨m, 1, none⟩ = some v ∧ w2.cell? ⟨m, 2, none⟩ = some r ∧ m < w2.heap.size ∧ Below w0.heap.size w0 w2 :=
  ⟨(hw.cell (p := ⟨b, 0, none⟩) (Nat.lt_trans hbm hs)).trans c0, (hw.cell (p := ⟨b, 1, none⟩) (Nat.lt_trans hbm hs)).trans c1, (hw.cell (p := ⟨b, 2, none⟩) (Nat.lt_trans hbm hs)).trans c2,
    (hw.cell (p := ⟨m, 0, none⟩) hs).trans d0, (hw.cell (p := ⟨m, 1, none⟩) hs).trans d1, (hw.cell (p := ⟨m, 2, none⟩) hs).trans d2, Nat.lt_of_lt_of_le hs hw.size, h.trans (hw.mono h.size)⟩

theorem null_any (w : World) : Calls Tryd.prog 68 #[] w fun e w' => e = .returned vNull ∧ Below w.heap.size w w' := by
  go_enter Tryd.func68, Tryd.ntmps68
  go_wp2
  go_returns
  exact ⟨rfl, by go_grown⟩
theorem of_any (n : Int) (w : World) : Calls Tryd.prog 70 #[.int .i64 n] w fun e w' => e = .returned (vInt n) ∧ Below w.heap.size w w' := by
  go_enter Tryd.func70, Tryd.ntmps70
  go_wp2
  go_returns
  exact ⟨rfl, by go_grown⟩
theorem text_any (s : ByteArray) (w : World) : Calls Tryd.prog 21 #[.string s] w fun e w' => e = .returned (vVal 2 0 s) ∧ Below w.heap.size w w' := by
  go_enter Tryd.func21, Tryd.ntmps21
  go_wp2
  go_returns
  exact ⟨rfl, by go_grown⟩

end Go.Proofs.YteaaloejjafhlaaDoor
