/-
  Plain facts on 64-bit numbers: when a sum, a difference, a product or a quotient fits, and how the program's tests tell it. No program in it.
  What the calls of package value's arithmetic do: Null, Of, Text, reckon, product, Arith on two integers, on null, on strings.
  Right and rightText: whether a value is valid; as functions on numbers and lists of bytes.
  A strings.Builder that the call itself has made: its copy check, and what WriteByte adds to it. (The copy check's panic is no operation in this translation, so the shelf's contract of WriteByte can't be laid here.)
  quote: a text between double quotes, with a backslash ahead of each double quote and each backslash in it.
-/
import Derived.WalkKit
import Derived.Test.YtljoajjlkjjgeaaGreatDoorME1
import Derived.Test.YtljoajjlkjjgeaaGreatDoorShelf
import Derived.WalkSpells
import Derived.WalkLawsBesides
import Derived.Handy
import Derived.Deep.QuietTactic
import Derived.BigQuiet
import Derived.Lib.SmallJoins
import Derived.Lib.Builder
import Derived.OwnWalk
import Derived.Lib.UnsafeStr
namespace Go.Proofs.YtljoajjlkjjgeaaGreatDoor
open Go.RowKit

/-- x is an int of 64 bits. -/
def I64 (x : Int) : Prop := -9223372036854775808 ≤ x ∧ x ≤ 9223372036854775807

instance I64.dec (x : Int) : Decidable (I64 x) := by unfold I64; infer_instance
theorem wrap_fit {x : Int} (h : I64 x) : wrap64 x = x := by unfold I64 at h; exact IntWalk.wrap64_in x h
theorem wrap_zero : wrap64 0 = 0 := wrap_fit (by unfold I64; omega)
theorem wrap_mod (x : Int) : ∃ k : Int, wrap64 x = x + 18446744073709551616 * k := by
 unfold wrap64; refine ⟨-((x + 9223372036854775808) / 18446744073709551616), ?_⟩; omega
theorem wrap_i64 (x : Int) : I64 (wrap64 x) := by unfold I64 wrap64; omega

def okAdd (a b : Int) : Bool := decide (a < wrap64 (a + b)) == decide (0 < b)
def okSub (a b : Int) : Bool := decide (wrap64 (a - b) < a) == decide (0 < b)
def okMul (a b : Int) : Bool := wrap64 ((wrap64 (a * b)).tdiv a) == b

theorem okAdd_yes {a b : Int} (_ha : I64 a) (hb : I64 b) (h : I64 (a + b)) : okAdd a b = true := by
 unfold okAdd; rw [wrap_fit h]; unfold I64 at *
 by_cases h0 : 0 < b
 ·have h1 : a < a + b := by omega
  simp [h0, h1]
 ·have h1 : ¬ a < a + b := by omega
  simp [h0, h1]
theorem okAdd_no {a b : Int} (ha : I64 a) (hb : I64 b) (h : ¬ I64 (a + b)) : okAdd a b = false := by
 unfold okAdd; unfold I64 at *
 by_cases h0 : 0 < b
 ·have h1 : ¬ a < wrap64 (a + b) := by unfold wrap64; omega
  simp [h0, h1]
 ·have h1 : a < wrap64 (a + b) := by unfold wrap64; omega
  simp [h0, h1]
theorem okSub_yes {a b : Int} (_ha : I64 a) (hb : I64 b) (h : I64 (a - b)) : okSub a b = true := by
 unfold okSub; rw [wrap_fit h]; unfold I64 at *
 by_cases h0 : 0 < b
 ·have h1 : a - b < a := by omega
  simp [h0, h1]
 ·have h1 : ¬ a - b < a := by omega
  simp [h0, h1]
theorem okSub_no {a b : Int} (ha : I64 a) (hb : I64 b) (h : ¬ I64 (a - b)) : okSub a b = false := by
 unfold okSub; unfold I64 at *
 by_cases h0 : 0 < b
 ·have h1 : ¬ wrap64 (a - b) < a := by unfold wrap64; omega
  simp [h0, h1]
 ·have h1 : wrap64 (a - b) < a := by unfold wrap64; omega
  simp [h0, h1]

theorem abs_tmod_lt (n a : Int) (h : a ≠ 0) : (n.tmod a).natAbs < a.natAbs := by
 have := Int.natAbs_tmod n a
 rw [this]; exact Nat.mod_lt _ (by omega)

/-- A quotient by neither 0 nor -1 fits. -/
theorem tdiv_fit {n a : Int} (hn : I64 n) (h1 : a ≠ -1) : I64 (n.tdiv a) := by
 have hd : (n.tdiv a).natAbs = n.natAbs / a.natAbs := Int.natAbs_tdiv n a
 unfold I64 at *
 by_cases h0 : a = 0
 ·subst h0; simp
 by_cases h2 : a = 1
 ·subst h2; simpa using hn
 have h3 : 2 ≤ a.natAbs := by omega
 have h4 : n.natAbs / a.natAbs ≤ n.natAbs / 2 := Nat.div_le_div_left h3 (by omega)
 omega

theorem okMul_yes {a b : Int} (h0 : a ≠ 0) (hb : I64 b) (h : I64 (a * b)) : okMul a b = true := by
 unfold okMul; rw [wrap_fit h, Int.mul_tdiv_cancel_left b h0, wrap_fit hb]; simp
theorem okMul_no {a b : Int} (h0 : a ≠ 0) (h1 : a ≠ -1) (ha : I64 a) (h : ¬ I64 (a * b)) : okMul a b = false := by
 unfold okMul
 rw [wrap_fit (tdiv_fit (wrap_i64 _) h1)]
 rw [beq_eq_false_iff_ne]
 intro he
 obtain ⟨k, hk⟩ := wrap_mod (a * b)
 have hm := Int.mul_tdiv_add_tmod (wrap64 (a * b)) a
 rw [he] at hm
 have hr := abs_tmod_lt (wrap64 (a * b)) a h0
 have hw := wrap_i64 (a * b)
 generalize (wrap64 (a * b)).tmod a = r at *
 generalize hp : a * b = p at *
 generalize wrap64 p = m at *
 unfold I64 at *
 by_cases hk0 : k = 0
 ·subst hk0; omega
 ·omega
end Go.Proofs.YtljoajjlkjjgeaaGreatDoor
namespace Go.Proofs.YtljoajjlkjjgeaaGreatDoor
open Go.RowKit

abbrev vInt (n : Int) : Value := .agg #[.int .i64 1, .int .i64 n, .string ⟨#[]⟩]
abbrev vNull : Value := .agg #[.int .i64 0, .int .i64 0, .string ⟨#[]⟩]

theorem two_eq {k l : IntKind} {a b : Int} {p q : Bool} (h1 : a = b) (h2 : p = q) (hk : k = l) : Ending.returned (.tuple #[.int k a, .bool p]) = .returned (.tuple #[.int l b, .bool q]) := by rw [h1, h2, hk]

/-- What lies below a new block doesn't hang on what that block holds. -/
theorem cell_swap {w : World} {A B : Array Value} {t : TypeId} {b o : Nat} {v : Value} (h : (w.alloc (.cells A t)).cell? ⟨b, o, none⟩ = some v) (hb : b < w.heap.size) : (w.alloc (.cells B t)).cell? ⟨b, o, none⟩ = some v := by
 have e1 := World.cell?_of_block (w := w) (w' := w.alloc (.cells A t)) (a := ⟨b, o, none⟩) (Lib.alloc_old w _ b hb)
 have e2 := World.cell?_of_block (w := w) (w' := w.alloc (.cells B t)) (a := ⟨b, o, none⟩) (Lib.alloc_old w _ b hb)
 rw [e2, ← e1]; exact h
theorem below_swap {w w0 : World} {A B : Array Value} {t : TypeId} {n : Nat} (h : Below n w0 (w.alloc (.cells A t))) (hn : n ≤ w.heap.size) : Below n w0 (w.alloc (.cells B t)) := by
 refine ⟨h.os, h.tape, h.output, by have := h.size; simp at this ⊢; exact this, fun k hk => ?_⟩
 rw [Lib.alloc_old w _ k (by omega), ← h.block k hk, Lib.alloc_old w _ k (by omega)]

theorem swapS {w w0 : World} {A B : Array Value} {t : TypeId} {b m : Nat} {x y z : Value} (hbm : b < m) (hn : w0.heap.size ≤ b) (c0 : (w.alloc (.cells A t)).cell? ⟨b, 0, none⟩ = some x) (c1 : (w.alloc (.cells A t)).cell? ⟨b, 1, none⟩ = some y)
  (c2 : (w.alloc (.cells A t)).cell? ⟨b, 2, none⟩ = some z) (hs : m < (w.alloc (.cells A t)).heap.size) (h : Below w0.heap.size w0 (w.alloc (.cells A t))) :
  (w.alloc (.cells B t)).cell? ⟨b, 0, none⟩ = some x ∧ (w.alloc (.cells B t)).cell? ⟨b, 1, none⟩ = some y ∧ (w.alloc (.cells B t)).cell? ⟨b, 2, none⟩ = some z ∧ m < (w.alloc (.cells B t)).heap.size ∧ Below w0.heap.size w0 (w.alloc (.cells B t)) := by
 have hs' : m < w.heap.size + 1 := by simpa using hs
 exact ⟨cell_swap c0 (by omega), cell_swap c1 (by omega), cell_swap c2 (by omega), by simpa using hs', below_swap h (by omega)⟩

theorem keepS {w1 w2 w0 : World} {b m : Nat} {x y z : Value} (hw : Below w1.heap.size w1 w2) (hbm : b < m) (c0 : w1.cell? ⟨b, 0, none⟩ = some x) (c1 : w1.cell? ⟨b, 1, none⟩ = some y)
  (c2 : w1.cell? ⟨b, 2, none⟩ = some z) (hs : m < w1.heap.size) (h : Below w0.heap.size w0 w1) :
  w2.cell? ⟨b, 0, none⟩ = some x ∧ w2.cell? ⟨b, 1, none⟩ = some y ∧ w2.cell? ⟨b, 2, none⟩ = some z ∧ m < w2.heap.size ∧ Below w0.heap.size w0 w2 :=
 ⟨(hw.cell (p := ⟨b, 0, none⟩) (Nat.lt_trans hbm hs)).trans c0, (hw.cell (p := ⟨b, 1, none⟩) (Nat.lt_trans hbm hs)).trans c1, (hw.cell (p := ⟨b, 2, none⟩) (Nat.lt_trans hbm hs)).trans c2, Nat.lt_of_lt_of_le hs hw.size, h.trans (hw.mono h.size)⟩
theorem allocS {w1 w0 : World} {A : Array Value} {t : TypeId} {b m : Nat} {x y z : Value} (hbm : b < m) (c0 : w1.cell? ⟨b, 0, none⟩ = some x) (c1 : w1.cell? ⟨b, 1, none⟩ = some y)
  (c2 : w1.cell? ⟨b, 2, none⟩ = some z) (hs : m < w1.heap.size) (h : Below w0.heap.size w0 w1) :
  (w1.alloc (.cells A t)).cell? ⟨b, 0, none⟩ = some x ∧ (w1.alloc (.cells A t)).cell? ⟨b, 1, none⟩ = some y ∧ (w1.alloc (.cells A t)).cell? ⟨b, 2, none⟩ = some z ∧ m < (w1.alloc (.cells A t)).heap.size ∧ Below w0.heap.size w0 (w1.alloc (.cells A t)) :=
 keepS (Joins.below_alloc1 w1 _) hbm c0 c1 c2 hs h
theorem firstS {w1 w0 : World} {b m : Nat} {x y z : Value} (c0 : w1.cell? ⟨b, 0, none⟩ = some x) (c1 : w1.cell? ⟨b, 1, none⟩ = some y)
  (c2 : w1.cell? ⟨b, 2, none⟩ = some z) (hs : m < w1.heap.size) (h : Below w0.heap.size w0 w1) :
  w1.drew.cell? ⟨b, 0, none⟩ = some x ∧ w1.drew.cell? ⟨b, 1, none⟩ = some y ∧ w1.drew.cell? ⟨b, 2, none⟩ = some z ∧ m < w1.drew.heap.size ∧ Below w0.heap.size w0 w1.drew :=
 ⟨c0, c1, c2, hs, h.drew⟩

theorem firstS2 {w6 w0 : World} {b : Nat} {x y z u v r : Value} {t : TypeId} (hb : b < w6.heap.size) (c0 : w6.cell? ⟨b, 0, none⟩ = some x) (c1 : w6.cell? ⟨b, 1, none⟩ = some y) (c2 : w6.cell? ⟨b, 2, none⟩ = some z) (h : Below w0.heap.size w0 w6) :
  (w6.alloc (.cells #[u, v, r] t)).drew.cell? ⟨b, 0, none⟩ = some x ∧ (w6.alloc (.cells #[u, v, r] t)).drew.cell? ⟨b, 1, none⟩ = some y ∧ (w6.alloc (.cells #[u, v, r] t)).drew.cell? ⟨b, 2, none⟩ = some z ∧
  (w6.alloc (.cells #[u, v, r] t)).drew.cell? ⟨w6.heap.size, 0, none⟩ = some u ∧ (w6.alloc (.cells #[u, v, r] t)).drew.cell? ⟨w6.heap.size, 1, none⟩ = some v ∧ (w6.alloc (.cells #[u, v, r] t)).drew.cell? ⟨w6.heap.size, 2, none⟩ = some r ∧
  w6.heap.size < (w6.alloc (.cells #[u, v, r] t)).drew.heap.size ∧ Below w0.heap.size w0 (w6.alloc (.cells #[u, v, r] t)).drew := by
 have hk := Joins.below_alloc1 w6 (.cells #[u, v, r] t)
 exact ⟨(hk.cell (p := ⟨b, 0, none⟩) hb).trans c0, (hk.cell (p := ⟨b, 1, none⟩) hb).trans c1, (hk.cell (p := ⟨b, 2, none⟩) hb).trans c2, by simp, by simp, by simp, by simp, (h.alloc h.size _).drew⟩
theorem keepS2 {w1 w2 w0 : World} {b m : Nat} {x y z u v r : Value} (hw : Below w1.heap.size w1 w2) (hbm : b < m) (c0 : w1.cell? ⟨b, 0, none⟩ = some x) (c1 : w1.cell? ⟨b, 1, none⟩ = some y) (c2 : w1.cell? ⟨b, 2, none⟩ = some z)
  (d0 : w1.cell? ⟨m, 0, none⟩ = some u) (d1 : w1.cell? ⟨m, 1, none⟩ = some v) (d2 : w1.cell? ⟨m, 2, none⟩ = some r) (hs : m < w1.heap.size) (h : Below w0.heap.size w0 w1) :
  w2.cell? ⟨b, 0, none⟩ = some x ∧ w2.cell? ⟨b, 1, none⟩ = some y ∧ w2.cell? ⟨b, 2, none⟩ = some z ∧ w2.cell? ⟨m, 0, none⟩ = some u ∧ w2.cell? ⟨m, 1, none⟩ = some v ∧ w2.cell? ⟨m, 2, none⟩ = some r ∧ m < w2.heap.size ∧ Below w0.heap.size w0 w2 :=
 ⟨(hw.cell (p := ⟨b, 0, none⟩) (Nat.lt_trans hbm hs)).trans c0, (hw.cell (p := ⟨b, 1, none⟩) (Nat.lt_trans hbm hs)).trans c1, (hw.cell (p := ⟨b, 2, none⟩) (Nat.lt_trans hbm hs)).trans c2,
  (hw.cell (p := ⟨m, 0, none⟩) hs).trans d0, (hw.cell (p := ⟨m, 1, none⟩) hs).trans d1, (hw.cell (p := ⟨m, 2, none⟩) hs).trans d2, Nat.lt_of_lt_of_le hs hw.size, h.trans (hw.mono h.size)⟩

theorem null_anyK (w : World) : Calls Tryz.prog 146 #[] w fun e w' => e = .returned vNull ∧ Below w.heap.size w w' := by
 go_enter Tryz.func146, Tryz.ntmps146
 go_wp2
 go_returns
 exact ⟨rfl, by go_grown⟩
theorem of_any (n : Int) (w : World) : Calls Tryz.prog 20 #[.int .i64 n] w fun e w' => e = .returned (vInt n) ∧ Below w.heap.size w w' := by
 go_enter Tryz.func20, Tryz.ntmps20
 go_wp2
 go_returns
 exact ⟨rfl, by go_grown⟩
theorem text_any (s : ByteArray) (w : World) : Calls Tryz.prog 14 #[.string s] w fun e w' => e = .returned (vVal 2 0 s) ∧ Below w.heap.size w w' := by
 go_enter Tryz.func14, Tryz.ntmps14
 go_wp2
 go_returns
 exact ⟨rfl, by go_grown⟩

end Go.Proofs.YtljoajjlkjjgeaaGreatDoor
namespace Go.Proofs.YtljoajjlkjjgeaaGreatDoor
open Go.RowKit

def okByte (c : UInt8) : Bool := decide (32 ≤ (c.toNat : Int)) && decide ((c.toNat : Int) ≤ 126)
def rightT (s : ByteArray) : Bool := decide (s.size ≤ 64) && s.data.toList.all okByte
def rightV (k n : Int) (s : ByteArray) : Bool :=
 if k = 0 then decide (n = 0) && s.toList.isEmpty else if k = 1 then s.toList.isEmpty else if k = 2 then decide (n = 0) && rightT s else false

theorem rightV_int (n : Int) : rightV 1 n ⟨#[]⟩ = true := by unfold rightV; simp [Lib.toList_data]
theorem rightV_null : rightV 0 0 ⟨#[]⟩ = true := by unfold rightV; simp [Lib.toList_data]

theorem all_take {s : ByteArray} {k : Nat} (h : k < s.size) (ha : (s.data.toList.take k).all okByte = true) (hc : okByte s[k] = true) : (s.data.toList.take (k + 1)).all okByte = true := by
 rw [take_snoc s k h, List.all_append, ha]; simp [hc]
theorem all_not {s : ByteArray} {k : Nat} (h : k < s.size) (hc : okByte s[k] = false) : s.data.toList.all okByte = false := by
 rw [← List.take_append_drop (k + 1) s.data.toList, List.all_append, take_snoc s k h, List.all_append]; simp [hc]
theorem rightT_not {s : ByteArray} {k : Nat} (h : k < s.size) (hc : (s[k].toNat : Int) < 32 ∨ 126 < (s[k].toNat : Int)) : rightT s = false := by
 have : okByte s[k] = false := by unfold okByte; simp; omega
 unfold rightT; rw [all_not h this]; simp
set_option maxHeartbeats 800000 in
theorem rightText_any (s : ByteArray) (w : World) (hs : s.size ≤ maxLen) :
  Calls Tryz.prog 28 #[.string s] w fun e w' => e = .returned (.bool (rightT s)) ∧ w = w' := by
 unfold maxLen at hs
 by_cases hl : 64 < s.size
 ·have hr : rightT s = false := by unfold rightT; simp [Nat.not_le.2 hl]
  have HR := Lib.hid hr; clear hr
  go_enter Tryz.func28, Tryz.ntmps28
  go_wp2
  go_ret
  exact ⟨ret_bool HR.out.symm, rfl⟩
 ·have HL := Lib.hid hl
  have hl' : s.size ≤ 64 := by omega
  go_enter Tryz.func28, Tryz.ntmps28
  go_wp2
  go_loop [9] (fun i => ∃ k : Nat, k ≤ s.size ∧ i = .int .i64 k ∧ (s.data.toList.take k).all okByte = true) (fun i => s.size - (intOf i).toNat)
  case atStart => exact ⟨0, Nat.zero_le _, rfl, rfl⟩
  case round =>
   obtain ⟨k, hk, rfl, ha⟩ := hrel
   have HA := Lib.hid ha; clear ha
   by_cases hlt : k < s.size
   ·go_wp2
    ·go_ret
     exact ⟨ret_bool (rightT_not hlt (by first | (left; assumption) | assumption)).symm, rfl⟩
    ·go_round
     case rel => exact ⟨k + 1, by omega, by go_num, all_take hlt HA.out (by unfold okByte; simp; omega)⟩
     case measure => simp [intOf]; omega
    ·go_ret
     exact ⟨ret_bool (rightT_not hlt (by first | (left; assumption) | assumption)).symm, rfl⟩
   ·go_wp2
    go_ret
    exact ⟨ret_bool (by have := HA.out; rw [List.take_of_length_le (by simp; omega)] at this; unfold rightT; rw [this]; simp [hl']), rfl⟩

set_option maxHeartbeats 800000 in
theorem right_any (k n : Int) (s : ByteArray) (w : World) (hs : s.size ≤ maxLen) :
  Calls Tryz.prog 15 #[vVal k n s] w fun e w' => e = .returned (.bool (rightV k n s)) ∧ Below w.heap.size w w' := by
 go_enter Tryz.func15, Tryz.ntmps15
 go_wp2_with (go_at_call 28; refine (rightText_any s _ hs).mono ?_; rintro e w1 ⟨rfl, rfl⟩)
 all_goals go_ret
 all_goals refine ⟨ret_bool ?_, by go_grown⟩
 all_goals simp_all [rightV]
end Go.Proofs.YtljoajjlkjjgeaaGreatDoor
namespace Go.Proofs.YtljoajjlkjjgeaaGreatDoor
open Go.RowKit

theorem b_info : (Tryz.prog.info? 117).map (·.size) = some 2 := by kernel_rfl
theorem b_lies : liesAt Tryz.prog Tryz.prog.depth 117 (2 / Tryz.prog.cellsOf 117) 0 117 1 = true := by kernel_rfl
theorem byte_info : (Tryz.prog.info? 5).map (fun i => (i.zero, i.size, i.bytes)) = some (some (.int .u8 0), 1, 1) := by kernel_rfl

set_option maxRecDepth 100000 in
theorem copyCheck_used (b : Nat) (w : World) (h0 : w.cell? ⟨b, 0, none⟩ = some (.pointer (some ⟨b, 0, none⟩))) :
  Calls Tryz.prog 63 #[.pointer (some ⟨b, 0, none⟩)] w fun e w' => e = .returned (.tuple #[]) ∧ w = w' := by
 obtain ⟨j, hj, _⟩ := Option.map_eq_some_iff.1 b_info
 go_enter Tryz.func63, Tryz.ntmps63
 go_wp2
 rw [Lib.run_neq_ptr_same w _ Tryz.underlying115 hj]
 go_wp2
 go_end0
 exact ⟨rfl, rfl⟩

set_option maxRecDepth 100000 in
theorem copyCheck_fresh (b : Nat) (w : World) (h0 : w.cell? ⟨b, 0, none⟩ = some (.pointer none)) (hsh : w.shape? b = some (117, 2)) (hfz : w.frozen? ⟨b, 0, none⟩ = false) :
  Calls Tryz.prog 63 #[.pointer (some ⟨b, 0, none⟩)] w fun e w' => e = .returned (.tuple #[]) ∧ w' = w.setCell ⟨b, 0, none⟩ (.pointer (some ⟨b, 0, none⟩)) := by
 obtain ⟨j, hj, hjs⟩ := Option.map_eq_some_iff.1 b_info
 go_enter Tryz.func63, Tryz.ntmps63
 go_wp2
 rw [Lib.run_to_unsafe w ⟨b, 0, none⟩ Tryz.underlying115 Tryz.underlying167 hj (by rw [hjs]; decide) hsh (Nat.zero_lt_succ 1)]
 simp only [Result.andThen]
 rw [Oper.upon_value]
 go_wp2
 rw [run_callFunc_extern Tryz.func95 (by kernel_rfl) (by kernel_rfl) (by kernel_rfl) (e := Extern.AbiNoEscape.same) (by kernel_rfl)]
 rw [Lib.run_noEscape]
 simp only [Result.andThen]
 rw [Oper.upon_value]
 go_wp2
 rw [Lib.run_from_unsafe w ⟨b, 0, none⟩ Tryz.underlying167 Tryz.underlying115 hj hsh b_lies]
 simp only [Result.andThen]
 rw [Oper.upon_value]
 go_wp2
 go_end0
 exact ⟨rfl, rfl⟩

theorem copyCheck_any (B b : Nat) (bs : List Value) (w : World) (h : Lib.IsBuilder 117 5 B b bs w) :
  Calls Tryz.prog 63 #[.pointer (some ⟨b, 0, none⟩)] w fun e w' => e = .returned (.tuple #[]) ∧ Lib.BuilderAt 117 5 B b (.pointer (some ⟨b, 0, none⟩)) bs w' ∧ Below B w w' := by
 rcases h with h | h
 ·refine (copyCheck_fresh b w h.cell0 h.shape h.frozen0).mono ?_
  rintro e w' ⟨rfl, rfl⟩
  exact ⟨rfl, h.used _, (Below.refl B w).setCell (p := ⟨b, 0, none⟩) h.1 _⟩
 ·refine (copyCheck_used b w h.cell0).mono ?_
  rintro e w' ⟨rfl, rfl⟩
  exact ⟨rfl, h, Below.refl B _⟩

set_option maxHeartbeats 1000000 in
set_option maxRecDepth 100000 in
theorem writeByte_cells (B b : Nat) (bs : List Value) (c : Int) (w : World) (h : Lib.IsBuilder 117 5 B b bs w) (hlen : bs.length + 1 ≤ 140737488355328) (hBw : B ≤ w.heap.size) :
  Calls Tryz.prog 52 #[.pointer (some ⟨b, 0, none⟩), .int .u8 c] w fun e w' => e = .returned .nilIface ∧ Lib.BuilderAt 117 5 B b (.pointer (some ⟨b, 0, none⟩)) (bs ++ [.int .u8 c]) w' ∧ Below B w w' := by
 obtain ⟨i0, hi, hz0, hz1, hz2⟩ := info_parts byte_info
 go_enter Tryz.func52, Tryz.ntmps52
 go_wp2_with (go_at_call 63; refine (copyCheck_any B b bs _ h).mono ?_)
 rintro e w1 ⟨rfl, ⟨hB, v, hbk, hown, hne⟩, hb1⟩
 have c1 : w1.cell? ⟨b, 1, none⟩ = some v := by rw [Lib.cell_of_heap hbk]; rfl
 go_wp2_with (at_builtin; refine wpList_append_own _ rfl _ _ 90 rfl B 5 i0 (.int .u8 0) 1 1 Tryz.underlying90 hi hz0 hz1 hz2 rfl (by decide) _ _ _ rfl (hown.alloc _) ⟨w1.heap.size, 0, none⟩ 1 1 [.int .u8 c] rfl rfl ?c1 ?c2 ?c3 ?c4 ?c5 ?_)
 case c1 =>
  intro j u hj
  match j, hj with
  | 0, hj => simp at hj; subst hj; simp [Addr.add]
 case c2 => intro u hu; simp at hu; subst hu; rfl
 case c3 => unfold maxLen; omega
 case c4 => omega
 case c5 => have := hb1.size; simp; omega
 intro v' w2 hown' hgrow _
 have hlt : b < w1.heap.size := by
  rcases Nat.lt_or_ge b w1.heap.size with h' | h'
  ·exact h'
  ·simp [Array.getElem?_eq_none h'] at hbk
 have hb2 : w2.heap[b]? = some (.cells #[.pointer (some ⟨b, 0, none⟩), v] 117 (0, 0)) := by
  rw [hgrow.block b (by simp; omega) (fun e => hne e.symm), Lib.alloc_old w1 _ b hlt]
  exact hbk
 have d1 : w2.cell? ⟨b, 1, none⟩ = some v := by rw [Lib.cell_of_heap hb2]; rfl
 have f1 : w2.frozen? ⟨b, 1, none⟩ = false := Lib.frozen_of_heap hb2 1
 obtain ⟨g, cap, rfl⟩ : ∃ g cap, v' = .slice (some ⟨g, 0, none⟩) (bs.length + 1) cap := by
  rcases hown'.2 with ⟨_, h0⟩ | ⟨g, cap, cur, hv, _⟩
  ·omega
  ·exact ⟨g, cap, hv⟩
 go_wp2
 go_ret
 refine ⟨rfl, ?_, ?_⟩
 ·exact Lib.BuilderAt.put (T := 117) (e := 5) hB hb2 (bs' := bs ++ [.int .u8 c]) (by simpa using hown') (by decide)
 ·exact ((hb1.alloc (by have := hb1.size; omega) _).grown hgrow (by have := hb1.size; simp; omega) (fun k hk => (hown.lt k hk).1)).setCell (p := ⟨b, 1, none⟩) hB _

/-- The builder in block b holds the bytes l; every block from B on is the call's own. -/
def Holds (B b : Nat) (l : List UInt8) (w : World) : Prop := Lib.IsBuilder 117 5 B b (Lib.byteCells l) w

theorem holds_fresh (w : World) : Holds w.heap.size w.heap.size [] (w.alloc (.cells #[.pointer none, .slice none 0 0] 117)) := Lib.fresh_isBuilder _ _ w

/-- WriteByte: one byte more. -/
theorem writeByte_any (B b : Nat) (l : List UInt8) (c : UInt8) (w : World) (h : Holds B b l w) (hlen : l.length + 1 ≤ 140737488355328) (hBw : B ≤ w.heap.size) :
  Calls Tryz.prog 52 #[.pointer (some ⟨b, 0, none⟩), .int .u8 c.toNat] w fun e w' => e = .returned .nilIface ∧ Holds B b (l ++ [c]) w' ∧ Below B w w' := by
 refine (writeByte_cells B b _ c.toNat w h (by rw [Lib.byteCells_length]; exact hlen) hBw).mono ?_
 rintro e w' ⟨rfl, hb, hw⟩
 refine ⟨rfl, Or.inr ?_, hw⟩
 rw [Lib.byteCells_append]
 exact hb
theorem string_any (B b : Nat) (l : List UInt8) (w : World) (h : Holds B b l w) (hBw : B ≤ w.heap.size) :
  Calls Tryz.prog 53 #[.pointer (some ⟨b, 0, none⟩)] w fun e w' => e = .returned (.string ⟨l.toArray⟩) ∧ Below B w w' := Tryz.Builder_String_any B b l w h hBw
end Go.Proofs.YtljoajjlkjjgeaaGreatDoor
namespace Go.Proofs.YtljoajjlkjjgeaaGreatDoor
open Go.RowKit

def escByte (c : UInt8) : List UInt8 := if c = 34 ∨ c = 92 then [92, c] else [c]
def esc (l : List UInt8) : List UInt8 := l.flatMap escByte
def quoteL (l : List UInt8) : List UInt8 := 34 :: (esc l ++ [34])

theorem esc_len (l : List UInt8) : (esc l).length ≤ 2 * l.length := by
 unfold esc
 induction l with
 | nil => simp
 | cons c r ih =>
  have : (escByte c).length ≤ 2 := by unfold escByte; split <;> simp
  simp only [List.flatMap_cons, List.length_append, List.length_cons]; omega
theorem esc_snoc_yes (l : List UInt8) (c : UInt8) (h : c = 34 ∨ c = 92) : esc (l ++ [c]) = (esc l ++ [92]) ++ [c] := by
 unfold esc; rw [List.flatMap_append]; simp [escByte, h]
theorem esc_snoc_no (l : List UInt8) (c : UInt8) (h : ¬ (c = 34 ∨ c = 92)) : esc (l ++ [c]) = esc l ++ [c] := by
 unfold esc; rw [List.flatMap_append]; simp [escByte, h]
theorem byte_eq (c : UInt8) (n : Nat) (hn : n < 256) : ((c.toNat : Int) == (n : Int)) = decide (c = UInt8.ofNat n) := by
 rw [Bool.eq_iff_iff]; simp only [beq_iff_eq, decide_eq_true_eq]
 constructor
 ·intro h; apply UInt8.toNat_inj.1; rw [UInt8.toNat_ofNat_of_lt' (by simpa using hn)]; omega
 ·intro h; rw [h, UInt8.toNat_ofNat_of_lt' (by simpa using hn)]

theorem writeByte_const (n : Int) (c : UInt8) (hc : (c.toNat : Int) = n) (B b : Nat) (l : List UInt8) (w : World) (h : Holds B b l w) (hlen : l.length + 1 ≤ 140737488355328) (hBw : B ≤ w.heap.size) :
  Calls Tryz.prog 52 #[.pointer (some ⟨b, 0, none⟩), .int .u8 n] w fun e w' => e = .returned .nilIface ∧ Holds B b (l ++ [c]) w' ∧ Below B w w' := by
 subst hc; exact writeByte_any B b l c w h hlen hBw

theorem ret_string {a b : List UInt8} (h : a = b) : Ending.returned (.string ⟨a.toArray⟩) = .returned (.string ⟨b.toArray⟩) := by rw [h]

set_option maxHeartbeats 1000000 in
set_option maxRecDepth 100000 in
theorem quote_any (s : ByteArray) (w : World) (hs : s.size ≤ 1000) :
  Calls Tryz.prog 30 #[.string s] w fun e w' => e = .returned (.string ⟨(quoteL s.data.toList).toArray⟩) ∧ Below w.heap.size w w' := by
 have hf := holds_fresh w
 go_enter Tryz.func30, Tryz.ntmps30
 go_wp2_with fail
 refine (writeByte_const 34 34 rfl _ _ _ _ hf (by simp) (by simp)).mono ?_
 rintro e w1 ⟨rfl, h1, hb1⟩
 have hz1 : w.heap.size + 1 ≤ w1.heap.size := by have := hb1.size; simpa using this
 have hb0 : Below w.heap.size w w1 := (Joins.below_alloc1 w _).trans hb1
 clear hb1 hf
 go_wp2_with fail
 go_loopw [8] (fun i wr => ∃ k : Nat, k ≤ s.size ∧ i = .int .i64 k ∧ Holds w.heap.size w.heap.size ([34] ++ esc (s.data.toList.take k)) wr ∧ Below w.heap.size w wr ∧ w.heap.size + 1 ≤ wr.heap.size) (fun i _ => s.size - (intOf i).toNat)
 case atStart => exact ⟨0, Nat.zero_le _, rfl, h1, hb0, hz1⟩
 case round =>
  obtain ⟨k, hk, rfl, hh, hb, hz⟩ := hrel
  clear h1 hb0 hz1
  have hlen : ([34] ++ esc (s.data.toList.take k)).length ≤ 2001 := by
   have := esc_len (s.data.toList.take k)
   have h2 := List.length_take_le k s.data.toList
   simp only [List.length_append, List.length_cons, List.length_nil]; omega
  by_cases hlt : k < s.size
  ·have hts := Lib.hid (take_snoc s k hlt)
   by_cases hq : s[k] = 34 ∨ s[k] = 92
   ·have HE := Lib.hid (esc_snoc_yes (s.data.toList.take k) s[k] hq)
    have hQ : ((s[k].toNat : Int) == 34) = true ∨ ((s[k].toNat : Int) == 34) = false ∧ ((s[k].toNat : Int) == 92) = true := by
     rw [show (34 : Int) = ((34 : Nat) : Int) from rfl, show (92 : Int) = ((92 : Nat) : Int) from rfl, byte_eq _ 34 (by decide), byte_eq _ 92 (by decide)]
     by_cases h34 : s[k] = 34
     ·left; simpa using h34
     ·right; exact ⟨by simpa using h34, by simpa [h34] using hq⟩
    clear hq
    rcases hQ with hq1 | ⟨hq1, hq2⟩
    all_goals
     go_wp2_with fail
     refine (writeByte_const 92 92 rfl _ _ _ _ hh (by omega) (by omega)).mono ?_
     rintro e w2 ⟨rfl, h2, hb2⟩
     have hz2 : wr.heap.size ≤ w2.heap.size := hb2.size
     go_wp2_with fail
     refine (writeByte_any _ _ _ s[k] _ h2 (by rw [List.length_append]; simp only [List.length_cons, List.length_nil]; omega) (by omega)).mono ?_
     rintro e w3 ⟨rfl, h3, hb3⟩
     have hz3 : w2.heap.size ≤ w3.heap.size := hb3.size
     have hb4 : Below w.heap.size w w3 := (hb.trans hb2).trans hb3
     clear hb2 hb3 hb h2 hh
     go_wp2_with fail
     go_roundw
     case rel => exact ⟨k + 1, by omega, by go_num, by rw [hts.out, HE.out, ← List.append_assoc, ← List.append_assoc]; exact h3, hb4, by omega⟩
     case measure => simp [intOf]; omega
   ·have HE := Lib.hid (esc_snoc_no (s.data.toList.take k) s[k] hq)
    have hQ : ((s[k].toNat : Int) == 34) = false ∧ ((s[k].toNat : Int) == 92) = false := by
     rw [show (34 : Int) = ((34 : Nat) : Int) from rfl, show (92 : Int) = ((92 : Nat) : Int) from rfl, byte_eq _ 34 (by decide), byte_eq _ 92 (by decide)]
     simpa [not_or] using hq
    clear hq
    obtain ⟨hq1, hq2⟩ := hQ
    go_wp2_with fail
    refine (writeByte_any _ _ _ s[k] _ hh (by omega) (by omega)).mono ?_
    rintro e w3 ⟨rfl, h3, hb3⟩
    have hz3 : wr.heap.size ≤ w3.heap.size := hb3.size
    have hb4 : Below w.heap.size w w3 := hb.trans hb3
    clear hb3 hb hh
    go_wp2_with fail
    go_roundw
    case rel => exact ⟨k + 1, by omega, by go_num, by rw [hts.out, HE.out, ← List.append_assoc]; exact h3, hb4, by omega⟩
    case measure => simp [intOf]; omega
  ·obtain rfl : k = s.size := by omega
   have htk : s.data.toList.take s.size = s.data.toList := List.take_of_length_le (by simp)
   rw [htk] at hh hlen
   clear htk
   go_wp2_with fail
   refine (writeByte_const 34 34 rfl _ _ _ _ hh (by omega) (by omega)).mono ?_
   rintro e w2 ⟨rfl, h2, hb2⟩
   have hz2 : wr.heap.size ≤ w2.heap.size := hb2.size
   go_wp2_with fail
   refine (string_any _ _ _ _ h2 (by omega)).mono ?_
   rintro e w3 ⟨rfl, hb3⟩
   have hb4 : Below w.heap.size w w3 := (hb.trans hb2).trans hb3
   clear hb2 hb3 hb hh h2
   go_wp2_with fail
   go_ret
   exact ⟨ret_string (by unfold quoteL; simp), hb4⟩
end Go.Proofs.YtljoajjlkjjgeaaGreatDoor
