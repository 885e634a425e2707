/-
  What Arith does: numbers, products, the five signs.
-/
import Derived.Test.YtpohofcfmllghaaDoorEVal
import Derived.Test.YtpohofcfmllghaaDoorShelf
import Derived.WalkKit
import Derived.WalkSpells
import Derived.WalkLawsBesides
import Derived.Handy
import Derived.Deep.QuietTactic
import Derived.BigQuiet
import Derived.Lib.SmallJoins
namespace Go.Proofs.YtpohofcfmllghaaDoor
open Go.RowKit


/-- x is an int of 64 bits. -/
def I64 (x : Int) : Prop := -9223372036854775808 ≤ x ∧ x ≤ 9223372036854775807

instance I64.dec (x : Int) : Decidable (I64 x) := by unfold I64; infer_instance
theorem wrap_fit {x : Int} (h : I64 x) : wrap64 x = x := by unfold I64 at h; exact IntWalk.wrap64_in x h
theorem wrap_zero : wrap64 0 = 0 := wrap_fit (by unfold I64; omega)
theorem wrap_mod (x : Int) : ∃ k : Int, wrap64 x = x + 18446744073709551616 * k := by
  unfold wrap64; refine ⟨-((x + 9223372036854775808) / 18446744073709551616), ?_⟩; omega
theorem wrap_i64 (x : Int) : I64 (wrap64 x) := by unfold I64 wrap64; omega

def okAdd (a b : Int) : Bool := decide (a < wrap64 (a + b)) == decide (0 < b)
def okSub (a b : Int) : Bool := decide (wrap64 (a - b) < a) == decide (0 < b)
def okMul (a b : Int) : Bool := wrap64 ((wrap64 (a * b)).tdiv a) == b

theorem okAdd_yes {a b : Int} (_ha : I64 a) (hb : I64 b) (h : I64 (a + b)) : okAdd a b = true := by
  unfold okAdd; rw [wrap_fit h]; unfold I64 at *
  by_cases h0 : 0 < b
  · have h1 : a < a + b := by omega
    simp [h0, h1]
  · have h1 : ¬ a < a + b := by omega
    simp [h0, h1]
theorem okAdd_no {a b : Int} (ha : I64 a) (hb : I64 b) (h : ¬ I64 (a + b)) : okAdd a b = false := by
  unfold okAdd; unfold I64 at *
  by_cases h0 : 0 < b
  · have h1 : ¬ a < wrap64 (a + b) := by unfold wrap64; omega
    simp [h0, h1]
  · have h1 : a < wrap64 (a + b) := by unfold wrap64; omega
    simp [h0, h1]
theorem okSub_yes {a b : Int} (_ha : I64 a) (hb : I64 b) (h : I64 (a - b)) : okSub a b = true := by
  unfold okSub; rw [wrap_fit h]; unfold I64 at *
  by_cases h0 : 0 < b
  · have h1 : a - b < a := by omega
    simp [h0, h1]
  · have h1 : ¬ a - b < a := by omega
    simp [h0, h1]
theorem okSub_no {a b : Int} (ha : I64 a) (hb : I64 b) (h : ¬ I64 (a - b)) : okSub a b = false := by
  unfold okSub; unfold I64 at *
  by_cases h0 : 0 < b
  · have h1 : ¬ wrap64 (a - b) < a := by unfold wrap64; omega
    simp [h0, h1]
  · have h1 : wrap64 (a - b) < a := by unfold wrap64; omega
    simp [h0, h1]

theorem abs_tmod_lt (n a : Int) (h : a ≠ 0) : (n.tmod a).natAbs < a.natAbs := by
  have := Int.natAbs_tmod n a
  rw [this]; exact Nat.mod_lt _ (by omega)

/-- A quotient by neither 0 nor -1 fits. -/
theorem tdiv_fit {n a : Int} (hn : I64 n) (h1 : a ≠ -1) : I64 (n.tdiv a) := by
  have hd : (n.tdiv a).natAbs = n.natAbs / a.natAbs := Int.natAbs_tdiv n a
  unfold I64 at *
  by_cases h0 : a = 0
  · subst h0; simp
  by_cases h2 : a = 1
  · subst h2; simpa using hn
  have h3 : 2 ≤ a.natAbs := by omega
  have h4 : n.natAbs / a.natAbs ≤ n.natAbs / 2 := Nat.div_le_div_left h3 (by omega)
  omega

theorem okMul_yes {a b : Int} (h0 : a ≠ 0) (hb : I64 b) (h : I64 (a * b)) : okMul a b = true := by
  unfold okMul; rw [wrap_fit h, Int.mul_tdiv_cancel_left b h0, wrap_fit hb]; simp
theorem okMul_no {a b : Int} (h0 : a ≠ 0) (h1 : a ≠ -1) (ha : I64 a) (h : ¬ I64 (a * b)) : okMul a b = false := by
  unfold okMul
  rw [wrap_fit (tdiv_fit (wrap_i64 _) h1)]
  rw [beq_eq_false_iff_ne]
  intro he
  obtain ⟨k, hk⟩ := wrap_mod (a * b)
  have hm := Int.mul_tdiv_add_tmod (wrap64 (a * b)) a
  rw [he] at hm
  have hr := abs_tmod_lt (wrap64 (a * b)) a h0
  have hw := wrap_i64 (a * b)
  generalize (wrap64 (a * b)).tmod a = r at *
  generalize hp : a * b = p at *
  generalize wrap64 p = m at *
  unfold I64 at *
  by_cases hk0 : k = 0
  · subst hk0; omega
  · omega

abbrev vInt (n : Int) : Value := .agg #[.int .i64 1, .int .i64 n, .string ⟨#[]⟩]
abbrev vNull : Value := .agg #[.int .i64 0, .int .i64 0, .string ⟨#[]⟩]

theorem two_eq {k l : IntKind} {a b : Int} {p q : Bool} (h1 : a = b) (h2 : p = q) (hk : k = l) : Ending.returned (.tuple #[.int k a, .bool p]) = .returned (.tuple #[.int l b, .bool q]) := by rw [h1, h2, hk]

/-- What lies below a new block doesn't hang on what that block holds. -/
theorem cell_swap {w : World} {A B : Array Value} {t : TypeId} {b o : Nat} {v : Value} (h : (w.alloc (.cells A t)).cell? ⟨b, o, none⟩ = some v) (hb : b < w.heap.size) : (w.alloc (.cells B t)).cell? ⟨b, o, none⟩ = some v := by
  have e1 := World.cell?_of_block (w := w) (w' := w.alloc (.cells A t)) (a := ⟨b, o, none⟩) (Lib.alloc_old w _ b hb)
  have e2 := World.cell?_of_block (w := w) (w' := w.alloc (.cells B t)) (a := ⟨b, o, none⟩) (Lib.alloc_old w _ b hb)
  rw [e2, ← e1]; exact h
theorem below_swap {w w0 : World} {A B : Array Value} {t : TypeId} {n : Nat} (h : Below n w0 (w.alloc (.cells A t))) (hn : n ≤ w.heap.size) : Below n w0 (w.alloc (.cells B t)) := by
  refine ⟨h.os, h.tape, h.output, by have := h.size; simp at this ⊢; exact this, fun k hk => ?_⟩
  rw [Lib.alloc_old w _ k (by omega), ← h.block k hk, Lib.alloc_old w _ k (by omega)]

theorem swapS {w w0 : World} {A B : Array Value} {t : TypeId} {b m : Nat} {x y z : Value} (hbm : b < m) (hn : w0.heap.size ≤ b) (c0 : (w.alloc (.cells A t)).cell? ⟨b, 0, none⟩ = some x) (c1 : (w.alloc (.cells A t)).cell? ⟨b, 1, none⟩ = some y)
    (c2 : (w.alloc (.cells A t)).cell? ⟨b, 2, none⟩ = some z) (hs : m < (w.alloc (.cells A t)).heap.size) (h : Below w0.heap.size w0 (w.alloc (.cells A t))) :
    (w.alloc (.cells B t)).cell? ⟨b, 0, none⟩ = some x ∧ (w.alloc (.cells B t)).cell? ⟨b, 1, none⟩ = some y ∧ (w.alloc (.cells B t)).cell? ⟨b, 2, none⟩ = some z ∧ m < (w.alloc (.cells B t)).heap.size ∧ Below w0.heap.size w0 (w.alloc (.cells B t)) := by
  have hs' : m < w.heap.size + 1 := by simpa using hs
  exact ⟨cell_swap c0 (by omega), cell_swap c1 (by omega), cell_swap c2 (by omega), by simpa using hs', below_swap h (by omega)⟩

theorem keepS {w1 w2 w0 : World} {b m : Nat} {x y z : Value} (hw : Below w1.heap.size w1 w2) (hbm : b < m) (c0 : w1.cell? ⟨b, 0, none⟩ = some x) (c1 : w1.cell? ⟨b, 1, none⟩ = some y)
    (c2 : w1.cell? ⟨b, 2, none⟩ = some z) (hs : m < w1.heap.size) (h : Below w0.heap.size w0 w1) :
    w2.cell? ⟨b, 0, none⟩ = some x ∧ w2.cell? ⟨b, 1, none⟩ = some y ∧ w2.cell? ⟨b, 2, none⟩ = some z ∧ m < w2.heap.size ∧ Below w0.heap.size w0 w2 :=
  ⟨(hw.cell (p := ⟨b, 0, none⟩) (Nat.lt_trans hbm hs)).trans c0, (hw.cell (p := ⟨b, 1, none⟩) (Nat.lt_trans hbm hs)).trans c1, (hw.cell (p := ⟨b, 2, none⟩) (Nat.lt_trans hbm hs)).trans c2, Nat.lt_of_lt_of_le hs hw.size, h.trans (hw.mono h.size)⟩
theorem allocS {w1 w0 : World} {A : Array Value} {t : TypeId} {b m : Nat} {x y z : Value} (hbm : b < m) (c0 : w1.cell? ⟨b, 0, none⟩ = some x) (c1 : w1.cell? ⟨b, 1, none⟩ = some y)
    (c2 : w1.cell? ⟨b, 2, none⟩ = some z) (hs : m < w1.heap.size) (h : Below w0.heap.size w0 w1) :
    (w1.alloc (.cells A t)).cell? ⟨b, 0, none⟩ = some x ∧ (w1.alloc (.cells A t)).cell? ⟨b, 1, none⟩ = some y ∧ (w1.alloc (.cells A t)).cell? ⟨b, 2, none⟩ = some z ∧ m < (w1.alloc (.cells A t)).heap.size ∧ Below w0.heap.size w0 (w1.alloc (.cells A t)) :=
  keepS (Joins.below_alloc1 w1 _) hbm c0 c1 c2 hs h
theorem firstS {w1 w0 : World} {b m : Nat} {x y z : Value} (c0 : w1.cell? ⟨b, 0, none⟩ = some x) (c1 : w1.cell? ⟨b, 1, none⟩ = some y)
    (c2 : w1.cell? ⟨b, 2, none⟩ = some z) (hs : m < w1.heap.size) (h : Below w0.heap.size w0 w1) :
    w1.drew.cell? ⟨b, 0, none⟩ = some x ∧ w1.drew.cell? ⟨b, 1, none⟩ = some y ∧ w1.drew.cell? ⟨b, 2, none⟩ = some z ∧ m < w1.drew.heap.size ∧ Below w0.heap.size w0 w1.drew :=
  ⟨c0, c1, c2, hs, h.drew⟩

theorem firstS2 {w6 w0 : World} {b : Nat} {x y z u v r : Value} {t : TypeId} (hb : b < w6.heap.size) (c0 : w6.cell? ⟨b, 0, none⟩ = some x) (c1 : w6.cell? ⟨b, 1, none⟩ = some y) (c2 : w6.cell? ⟨b, 2, none⟩ = some z) (h : Below w0.heap.size w0 w6) :
    (w6.alloc (.cells #[u, v, r] t)).drew.cell? ⟨b, 0, none⟩ = some x ∧ (w6.alloc (.cells #[u, v, r] t)).drew.cell? ⟨b, 1, none⟩ = some y ∧ (w6.alloc (.cells #[u, v, r] t)).drew.cell? ⟨b, 2, none⟩ = some z ∧
    (w6.alloc (.cells #[u, v, r] t)).drew.cell? ⟨w6.heap.size, 0, none⟩ = some u ∧ (w6.alloc (.cells #[u, v, r] t)).drew.cell? ⟨w6.heap.size, 1, none⟩ = some v ∧ (w6.alloc (.cells #[u, v, r] t)).drew.cell? ⟨w6.heap.size, 2, none⟩ = some r ∧
    w6.heap.size < (w6.alloc (.cells #[u, v, r] t)).drew.heap.size ∧ Below w0.heap.size w0 (w6.alloc (.cells #[u, v, r] t)).drew := by
  have hk := Joins.below_alloc1 w6 (.cells #[u, v, r] t)
  exact ⟨(hk.cell (p := ⟨b, 0, none⟩) hb).trans c0, (hk.cell (p := ⟨b, 1, none⟩) hb).trans c1, (hk.cell (p := ⟨b, 2, none⟩) hb).trans c2, by simp, by simp, by simp, by simp, (h.alloc h.size _).drew⟩
theorem keepS2 {w1 w2 w0 : World} {b m : Nat} {x y z u v r : Value} (hw : Below w1.heap.size w1 w2) (hbm : b < m) (c0 : w1.cell? ⟨b, 0, none⟩ = some x) (c1 : w1.cell? ⟨b, 1, none⟩ = some y) (c2 : w1.cell? ⟨b, 2, none⟩ = some z)
    (d0 : w1.cell? ⟨m, 0, none⟩ = some u) (d1 : w1.cell? ⟨m, 1, none⟩ = some v) (d2 : w1.cell? ⟨m, 2, none⟩ = some r) (hs : m < w1.heap.size) (h : Below w0.heap.size w0 w1) :
    w2.cell? ⟨b, 0, none⟩ = some x ∧ w2.cell? ⟨b, 1, none⟩ = some y ∧ w2.cell? ⟨b, 2, none⟩ = some z ∧ w2.cell? ⟨m, 0, none⟩ = some u ∧ w2.cell? ⟨m, 1, none⟩ = some v ∧ w2.cell? ⟨m, 2, none⟩ = some r ∧ m < w2.heap.size ∧ Below w0.heap.size w0 w2 :=
  ⟨(hw.cell (p := ⟨b, 0, none⟩) (Nat.lt_trans hbm hs)).trans c0, (hw.cell (p := ⟨b, 1, none⟩) (Nat.lt_trans hbm hs)).trans c1, (hw.cell (p := ⟨b, 2, none⟩) (Nat.lt_trans hbm hs)).trans c2,
    (hw.cell (p := ⟨m, 0, none⟩) hs).trans d0, (hw.cell (p := ⟨m, 1, none⟩) hs).trans d1, (hw.cell (p := ⟨m, 2, none⟩) hs).trans d2, Nat.lt_of_lt_of_le hs hw.size, h.trans (hw.mono h.size)⟩

theorem product_zero (b : Int) (w : World) : Calls Tryd.prog 55 #[.int .i64 0, .int .i64 b] w fun e w' => e = .returned (.tuple #[.int .i64 0, .bool true]) ∧ Below w.heap.size w w' := by
  go_enter Tryd.func55, Tryd.ntmps55
  go_wp2
  go_ret2
  exact ⟨rfl, Below.refl _ _⟩
theorem product_neg (b : Int) (w : World) : Calls Tryd.prog 55 #[.int .i64 (-1), .int .i64 b] w fun e w' => e = .returned (.tuple #[.int .i64 (wrap64 (-b)), .bool (b != -9223372036854775808)]) ∧ Below w.heap.size w w' := by
  go_enter Tryd.func55, Tryd.ntmps55
  go_wp2
  go_ret2
  exact ⟨two_eq (by first | rfl | (congr 1; omega)) rfl rfl, Below.refl _ _⟩
theorem product_else (a b : Int) (w : World) (hz : ¬ a = 0) (h0 : (a == 0) = false) (h1 : (a == -1) = false) :
    Calls Tryd.prog 55 #[.int .i64 a, .int .i64 b] w fun e w' => e = .returned (.tuple #[.int .i64 (wrap64 (a * b)), .bool (okMul a b)]) ∧ Below w.heap.size w w' := by
  go_enter Tryd.func55, Tryd.ntmps55
  go_wp2
  go_quiet (fail)
  go_wp2
  go_ret2
  exact ⟨two_eq rfl (by unfold okMul; rfl) rfl, Joins.below_draws _ _ _⟩

/-- A product: the number and whether it fits. -/
theorem product_any (a b : Int) (w : World) (ha : I64 a) (hb : I64 b) :
    Calls Tryd.prog 55 #[.int .i64 a, .int .i64 b] w fun e w' => e = .returned (.tuple #[.int .i64 (wrap64 (a * b)), .bool (decide (I64 (a * b)))]) ∧ Below w.heap.size w w' := by
  by_cases h0 : a = 0
  · subst h0
    refine (product_zero b w).mono ?_
    rintro e w' ⟨rfl, hw⟩
    refine ⟨two_eq (by rw [Int.zero_mul, wrap_zero]) ?_ rfl, hw⟩
    rw [Int.zero_mul]; symm; rw [decide_eq_true_iff]; unfold I64; omega
  by_cases h1 : a = -1
  · subst h1
    refine (product_neg b w).mono ?_
    rintro e w' ⟨rfl, hw⟩
    have hm : -1 * b = -b := by omega
    refine ⟨two_eq (by rw [hm]) ?_ rfl, hw⟩
    rw [hm]; unfold I64 at *
    by_cases h2 : b = -9223372036854775808
    · subst h2; decide
    · have h3 : -9223372036854775808 ≤ -b ∧ -b ≤ 9223372036854775807 := by omega
      simp [h2, h3]
  · refine (product_else a b w h0 (by simpa using h0) (by simpa using h1)).mono ?_
    rintro e w' ⟨rfl, hw⟩
    refine ⟨two_eq rfl ?_ rfl, hw⟩
    by_cases h : I64 (a * b)
    · rw [okMul_yes h0 hb h]; simp [h]
    · rw [okMul_no h0 h1 ha h]; simp [h]

theorem reckon_add (a b : Int) (w : World) (ha : I64 a) (hb : I64 b) :
    Calls Tryd.prog 50 #[.int .u8 43, .int .i64 a, .int .i64 b] w fun e w' => e = .returned (.tuple #[.int .i64 (wrap64 (a + b)), .bool (decide (I64 (a + b)))]) ∧ Below w.heap.size w w' := by
  have hv : okAdd a b = decide (I64 (a + b)) := by
    by_cases h : I64 (a + b)
    · rw [okAdd_yes ha hb h]; simp [h]
    · rw [okAdd_no ha hb h]; simp [h]
  have HV := hide hv; clear hv
  go_enter Tryd.func50, Tryd.ntmps50
  go_wp2
  go_ret2
  exact ⟨two_eq rfl HV.out rfl, Below.refl _ _⟩
theorem reckon_sub (a b : Int) (w : World) (ha : I64 a) (hb : I64 b) :
    Calls Tryd.prog 50 #[.int .u8 45, .int .i64 a, .int .i64 b] w fun e w' => e = .returned (.tuple #[.int .i64 (wrap64 (a - b)), .bool (decide (I64 (a - b)))]) ∧ Below w.heap.size w w' := by
  have hv : okSub a b = decide (I64 (a - b)) := by
    by_cases h : I64 (a - b)
    · rw [okSub_yes ha hb h]; simp [h]
    · rw [okSub_no ha hb h]; simp [h]
  have HV := hide hv; clear hv
  go_enter Tryd.func50, Tryd.ntmps50
  go_wp2
  go_ret2
  exact ⟨two_eq rfl HV.out rfl, Below.refl _ _⟩
theorem reckon_mul (a b : Int) (w : World) (ha : I64 a) (hb : I64 b) :
    Calls Tryd.prog 50 #[.int .u8 42, .int .i64 a, .int .i64 b] w fun e w' => e = .returned (.tuple #[.int .i64 (wrap64 (a * b)), .bool (decide (I64 (a * b)))]) ∧ Below w.heap.size w w' := by
  have HP := hide (product_any a b w ha hb); clear ha hb
  go_enter Tryd.func50, Tryd.ntmps50
  go_wp2_with (go_at_call 55; refine HP.out.mono ?_; rintro e w' ⟨rfl, hw⟩)
  go_ret2
  exact ⟨rfl, hw⟩
theorem reckon_div (a b : Int) (w : World) (hz : ¬ b = 0) :
    Calls Tryd.prog 50 #[.int .u8 47, .int .i64 a, .int .i64 b] w fun e w' => e = .returned (.tuple #[.int .i64 (wrap64 (a.tdiv b)), .bool (a != -9223372036854775808 || b != -1)]) ∧ Below w.heap.size w w' := by
  by_cases h : a = -9223372036854775808
  · subst h
    go_enter Tryd.func50, Tryd.ntmps50
    go_wp2
    all_goals go_ret2
    all_goals exact ⟨two_eq (by rw [Int.neg_tdiv]) (by simp) rfl, Below.refl _ _⟩
  · have h' : (a != -9223372036854775808) = true := by simpa using h
    clear h
    go_enter Tryd.func50, Tryd.ntmps50
    go_wp2
    all_goals go_ret2
    all_goals exact ⟨two_eq rfl (by rw [h']; rfl) rfl, Below.refl _ _⟩
theorem reckon_rem (a b : Int) (w : World) (hz : ¬ b = 0) :
    Calls Tryd.prog 50 #[.int .u8 37, .int .i64 a, .int .i64 b] w fun e w' => e = .returned (.tuple #[.int .i64 (a.tmod b), .bool true]) ∧ Below w.heap.size w w' := by
  go_enter Tryd.func50, Tryd.ntmps50
  go_wp2
  all_goals go_ret2
  all_goals exact ⟨two_eq rfl rfl rfl, Below.refl _ _⟩


/-- Where the sign stands among the five; -1 if it is none. -/
def opIx (op : Int) : Int := Lib.indexByte [43, 45, 42, 47, 37] op.toNat.toUInt8

theorem index_any (op : Int) (w : World) : Calls Tryd.prog 49 #[.string ⟨#[43, 45, 42, 47, 37]⟩, .int .u8 op] w fun e w' => e = .returned (.int .i64 (opIx op)) ∧ w = w' := by
  refine (Tryd.strings_IndexByte ⟨#[43, 45, 42, 47, 37]⟩ op w).mono ?_
  rintro e w' ⟨rfl, rfl⟩
  exact ⟨rfl, rfl⟩

theorem opIx_neg {op : Int} (h0 : 0 ≤ op) (h1 : op ≤ 255) (h : ¬ (op = 43 ∨ op = 45 ∨ op = 42 ∨ op = 47 ∨ op = 37)) : opIx op < 0 := by
  have key : ∀ k : Fin 256, ¬ (k.val = 43 ∨ k.val = 45 ∨ k.val = 42 ∨ k.val = 47 ∨ k.val = 37) → opIx k.val < 0 := by decide +kernel
  have := key ⟨op.toNat, by omega⟩ (by simp only []; omega)
  simp only [Int.toNat_of_nonneg h0] at this
  exact this

/-- What Arith tells: the number, or that there is too much of it. -/
def arRes (ok : Bool) (n : Int) : Value := if ok then .tuple #[vInt n, .int .i64 0] else .tuple #[vNull, .int .i64 10]

abbrev vErr (c : Int) : Value := .tuple #[vNull, .int .i64 c]

set_option maxHeartbeats 800000 in
theorem arith_form (op k n l m : Int) (s t : ByteArray) (w : World) (hop : opIx op < 0) :
    Calls Tryd.prog 43 #[.int .u8 op, vVal k n s, vVal l m t] w fun e w' => e = .returned (vErr 20) ∧ Below w.heap.size w w' := by
  go_enter Tryd.func43, Tryd.ntmps43
  go_wp2_with fail
  refine (index_any _ _).mono ?_
  rintro e w1 ⟨rfl, rfl⟩
  go_wp2_with fail
  go_returns
  exact ⟨rfl, by go_grown⟩
set_option maxHeartbeats 800000 in
theorem arith_type1 (op k n l m : Int) (s t : ByteArray) (w : World) (hop : 0 ≤ opIx op) (hk : (k == 2) = true) :
    Calls Tryd.prog 43 #[.int .u8 op, vVal k n s, vVal l m t] w fun e w' => e = .returned (vErr 12) ∧ Below w.heap.size w w' := by
  go_enter Tryd.func43, Tryd.ntmps43
  go_wp2_with fail
  refine (index_any _ _).mono ?_
  rintro e w1 ⟨rfl, rfl⟩
  go_wp2_with fail
  go_returns
  exact ⟨rfl, by go_grown⟩
set_option maxHeartbeats 800000 in
theorem arith_type2 (op k n l m : Int) (s t : ByteArray) (w : World) (hop : 0 ≤ opIx op) (hk : (k == 2) = false) (hl : (l == 2) = true) :
    Calls Tryd.prog 43 #[.int .u8 op, vVal k n s, vVal l m t] w fun e w' => e = .returned (vErr 12) ∧ Below w.heap.size w w' := by
  go_enter Tryd.func43, Tryd.ntmps43
  go_wp2_with fail
  refine (index_any _ _).mono ?_
  rintro e w1 ⟨rfl, rfl⟩
  go_wp2_with fail
  go_returns
  exact ⟨rfl, by go_grown⟩
set_option maxHeartbeats 800000 in
theorem arith_null1 (op k n l m : Int) (s t : ByteArray) (w : World) (hop : 0 ≤ opIx op) (hk : (k == 2) = false) (hl : (l == 2) = false) (hk0 : (k == 0) = true) :
    Calls Tryd.prog 43 #[.int .u8 op, vVal k n s, vVal l m t] w fun e w' => e = .returned (.tuple #[vNull, .int .i64 0]) ∧ Below w.heap.size w w' := by
  go_enter Tryd.func43, Tryd.ntmps43
  go_wp2_with fail
  refine (index_any _ _).mono ?_
  rintro e w1 ⟨rfl, rfl⟩
  go_wp2_with fail
  refine (null_any _).mono ?_
  rintro e w2 ⟨rfl, hb⟩
  obtain ⟨hc, hf⟩ := bcell hb
  have hb0 : Below w.heap.size w w2 := (by go_grown : Below w.heap.size w _).trans (hb.mono (by simp; omega))
  clear hb
  go_wp2_with fail
  refine bodyPost_ret (v := .tuple #[vNull, .int .i64 0]) (by simp [results, Tryd.results43, go_sem, hc]) rfl ⟨rfl, ?_⟩
  go_grown
set_option maxHeartbeats 800000 in
theorem arith_null2 (op k n l m : Int) (s t : ByteArray) (w : World) (hop : 0 ≤ opIx op) (hk : (k == 2) = false) (hl : (l == 2) = false) (hk0 : (k == 0) = false) (hl0 : (l == 0) = true) :
    Calls Tryd.prog 43 #[.int .u8 op, vVal k n s, vVal l m t] w fun e w' => e = .returned (.tuple #[vNull, .int .i64 0]) ∧ Below w.heap.size w w' := by
  go_enter Tryd.func43, Tryd.ntmps43
  go_wp2_with fail
  refine (index_any _ _).mono ?_
  rintro e w1 ⟨rfl, rfl⟩
  go_wp2_with fail
  refine (null_any _).mono ?_
  rintro e w2 ⟨rfl, hb⟩
  obtain ⟨hc, hf⟩ := bcell hb
  have hb0 : Below w.heap.size w w2 := (by go_grown : Below w.heap.size w _).trans (hb.mono (by simp; omega))
  clear hb
  go_wp2_with fail
  refine bodyPost_ret (v := .tuple #[vNull, .int .i64 0]) (by simp [results, Tryd.results43, go_sem, hc]) rfl ⟨rfl, ?_⟩
  go_grown
set_option maxHeartbeats 800000 in
theorem arith_yes (op a b n : Int) (w : World) (hop : 0 ≤ opIx op) (h47 : (op == 47) = false) (h37 : (op == 37) = false) (hr : ∀ w, Calls Tryd.prog 50 #[.int .u8 op, .int .i64 a, .int .i64 b] w fun e w' => e = .returned (.tuple #[.int .i64 n, .bool true]) ∧ Below w.heap.size w w') :
    Calls Tryd.prog 43 #[.int .u8 op, vInt a, vInt b] w fun e w' => e = .returned (.tuple #[vInt n, .int .i64 0]) ∧ Below w.heap.size w w' := by
  have HR := hide hr; clear hr
  go_enter Tryd.func43, Tryd.ntmps43
  go_wp2_with fail
  refine (index_any _ _).mono ?_
  rintro e w1 ⟨rfl, rfl⟩
  go_wp2_with fail
  refine (HR.out _).mono ?_
  rintro e w2 ⟨rfl, hb⟩
  obtain ⟨hc, hf⟩ := bcell hb
  have hb0 : Below w.heap.size w w2 := (by go_grown : Below w.heap.size w _).trans (hb.mono (by simp; omega))
  have hz : w.heap.size + 2 < w2.heap.size := by have := hb.size; simp at this; omega
  clear hb
  go_wp2_with fail
  refine (of_any n _).mono ?_
  rintro e w3 ⟨rfl, hb3⟩
  obtain ⟨hc3, hf3⟩ := bcell hb3
  have hb4 : Below w.heap.size w w3 := hb0.trans (hb3.mono (by omega))
  clear hb3 hb0
  go_wp2_with fail
  refine bodyPost_ret (v := .tuple #[vInt n, .int .i64 0]) (by simp [results, Tryd.results43, go_sem, hc3, hc, hz]) rfl ⟨rfl, ?_⟩
  go_grown
set_option maxHeartbeats 800000 in
theorem arith_no (op a b n : Int) (w : World) (hop : 0 ≤ opIx op) (h47 : (op == 47) = false) (h37 : (op == 37) = false) (hr : ∀ w, Calls Tryd.prog 50 #[.int .u8 op, .int .i64 a, .int .i64 b] w fun e w' => e = .returned (.tuple #[.int .i64 n, .bool false]) ∧ Below w.heap.size w w') :
    Calls Tryd.prog 43 #[.int .u8 op, vInt a, vInt b] w fun e w' => e = .returned (vErr 10) ∧ Below w.heap.size w w' := by
  have HR := hide hr; clear hr
  go_enter Tryd.func43, Tryd.ntmps43
  go_wp2_with fail
  refine (index_any _ _).mono ?_
  rintro e w1 ⟨rfl, rfl⟩
  go_wp2_with fail
  refine (HR.out _).mono ?_
  rintro e w2 ⟨rfl, hb⟩
  obtain ⟨hc, hf⟩ := bcell hb
  have hb0 : Below w.heap.size w w2 := (by go_grown : Below w.heap.size w _).trans (hb.mono (by simp; omega))
  clear hb
  go_wp2_with fail
  refine bodyPost_ret (v := .tuple #[vNull, .int .i64 10]) (by simp [results, Tryd.results43, go_sem, hc]) rfl ⟨rfl, ?_⟩
  go_grown
set_option maxHeartbeats 800000 in
theorem arith_quo_yes (op a b n : Int) (w : World) (hop : 0 ≤ opIx op) (h47 : (op == 47) = true) (hb0 : (b == 0) = false) (hr : ∀ w, Calls Tryd.prog 50 #[.int .u8 op, .int .i64 a, .int .i64 b] w fun e w' => e = .returned (.tuple #[.int .i64 n, .bool true]) ∧ Below w.heap.size w w') :
    Calls Tryd.prog 43 #[.int .u8 op, vInt a, vInt b] w fun e w' => e = .returned (.tuple #[vInt n, .int .i64 0]) ∧ Below w.heap.size w w' := by
  have HR := hide hr; clear hr
  go_enter Tryd.func43, Tryd.ntmps43
  go_wp2_with fail
  refine (index_any _ _).mono ?_
  rintro e w1 ⟨rfl, rfl⟩
  go_wp2_with fail
  refine (HR.out _).mono ?_
  rintro e w2 ⟨rfl, hb⟩
  obtain ⟨hc, hf⟩ := bcell hb
  have hbz : Below w.heap.size w w2 := (by go_grown : Below w.heap.size w _).trans (hb.mono (by simp; omega))
  have hz : w.heap.size + 2 < w2.heap.size := by have := hb.size; simp at this; omega
  clear hb
  go_wp2_with fail
  refine (of_any n _).mono ?_
  rintro e w3 ⟨rfl, hb3⟩
  obtain ⟨hc3, hf3⟩ := bcell hb3
  have hb4 : Below w.heap.size w w3 := hbz.trans (hb3.mono (by omega))
  clear hb3 hbz
  go_wp2_with fail
  refine bodyPost_ret (v := .tuple #[vInt n, .int .i64 0]) (by simp [results, Tryd.results43, go_sem, hc3, hc, hz]) rfl ⟨rfl, ?_⟩
  go_grown
set_option maxHeartbeats 800000 in
theorem arith_quo_no (op a b n : Int) (w : World) (hop : 0 ≤ opIx op) (h47 : (op == 47) = true) (hb0 : (b == 0) = false) (hr : ∀ w, Calls Tryd.prog 50 #[.int .u8 op, .int .i64 a, .int .i64 b] w fun e w' => e = .returned (.tuple #[.int .i64 n, .bool false]) ∧ Below w.heap.size w w') :
    Calls Tryd.prog 43 #[.int .u8 op, vInt a, vInt b] w fun e w' => e = .returned (vErr 10) ∧ Below w.heap.size w w' := by
  have HR := hide hr; clear hr
  go_enter Tryd.func43, Tryd.ntmps43
  go_wp2_with fail
  refine (index_any _ _).mono ?_
  rintro e w1 ⟨rfl, rfl⟩
  go_wp2_with fail
  refine (HR.out _).mono ?_
  rintro e w2 ⟨rfl, hb⟩
  obtain ⟨hc, hf⟩ := bcell hb
  have hbz : Below w.heap.size w w2 := (by go_grown : Below w.heap.size w _).trans (hb.mono (by simp; omega))
  clear hb
  go_wp2_with fail
  refine bodyPost_ret (v := .tuple #[vNull, .int .i64 10]) (by simp [results, Tryd.results43, go_sem, hc]) rfl ⟨rfl, ?_⟩
  go_grown
set_option maxHeartbeats 800000 in
theorem arith_rem_yes (op a b n : Int) (w : World) (hop : 0 ≤ opIx op) (h47 : (op == 47) = false) (h37 : (op == 37) = true) (hb0 : (b == 0) = false) (hr : ∀ w, Calls Tryd.prog 50 #[.int .u8 op, .int .i64 a, .int .i64 b] w fun e w' => e = .returned (.tuple #[.int .i64 n, .bool true]) ∧ Below w.heap.size w w') :
    Calls Tryd.prog 43 #[.int .u8 op, vInt a, vInt b] w fun e w' => e = .returned (.tuple #[vInt n, .int .i64 0]) ∧ Below w.heap.size w w' := by
  have HR := hide hr; clear hr
  go_enter Tryd.func43, Tryd.ntmps43
  go_wp2_with fail
  refine (index_any _ _).mono ?_
  rintro e w1 ⟨rfl, rfl⟩
  go_wp2_with fail
  refine (HR.out _).mono ?_
  rintro e w2 ⟨rfl, hb⟩
  obtain ⟨hc, hf⟩ := bcell hb
  have hbz : Below w.heap.size w w2 := (by go_grown : Below w.heap.size w _).trans (hb.mono (by simp; omega))
  have hz : w.heap.size + 2 < w2.heap.size := by have := hb.size; simp at this; omega
  clear hb
  go_wp2_with fail
  refine (of_any n _).mono ?_
  rintro e w3 ⟨rfl, hb3⟩
  obtain ⟨hc3, hf3⟩ := bcell hb3
  have hb4 : Below w.heap.size w w3 := hbz.trans (hb3.mono (by omega))
  clear hb3 hbz
  go_wp2_with fail
  refine bodyPost_ret (v := .tuple #[vInt n, .int .i64 0]) (by simp [results, Tryd.results43, go_sem, hc3, hc, hz]) rfl ⟨rfl, ?_⟩
  go_grown
set_option maxHeartbeats 800000 in
theorem arith_quo_zero (op a b : Int) (w : World) (hop : 0 ≤ opIx op) (h47 : (op == 47) = true) (hb0 : (b == 0) = true) :
    Calls Tryd.prog 43 #[.int .u8 op, vInt a, vInt b] w fun e w' => e = .returned (vErr 11) ∧ Below w.heap.size w w' := by
  go_enter Tryd.func43, Tryd.ntmps43
  go_wp2_with fail
  refine (index_any _ _).mono ?_
  rintro e w1 ⟨rfl, rfl⟩
  go_wp2_with fail
  go_returns
  exact ⟨rfl, by go_grown⟩
set_option maxHeartbeats 800000 in
theorem arith_rem_zero (op a b : Int) (w : World) (hop : 0 ≤ opIx op) (h47 : (op == 47) = false) (h37 : (op == 37) = true) (hb0 : (b == 0) = true) :
    Calls Tryd.prog 43 #[.int .u8 op, vInt a, vInt b] w fun e w' => e = .returned (vErr 11) ∧ Below w.heap.size w w' := by
  go_enter Tryd.func43, Tryd.ntmps43
  go_wp2_with fail
  refine (index_any _ _).mono ?_
  rintro e w1 ⟨rfl, rfl⟩
  go_wp2_with fail
  go_returns
  exact ⟨rfl, by go_grown⟩


theorem opIx_43 : 0 ≤ opIx 43 := by decide
theorem opIx_45 : 0 ≤ opIx 45 := by decide
theorem opIx_42 : 0 ≤ opIx 42 := by decide
theorem opIx_47 : 0 ≤ opIx 47 := by decide
theorem opIx_37 : 0 ≤ opIx 37 := by decide

theorem arRes_yes {p : Prop} [Decidable p] (h : p) (n : Int) : arRes (decide p) n = .tuple #[vInt n, .int .i64 0] := by unfold arRes; rw [if_pos (by simpa using h)]
theorem arRes_no {p : Prop} [Decidable p] (h : ¬ p) (n : Int) : arRes (decide p) n = vErr 10 := by unfold arRes; rw [if_neg (by simpa using h)]

theorem arith_add (a b : Int) (w : World) (ha : I64 a) (hb : I64 b) :
    Calls Tryd.prog 43 #[.int .u8 43, vInt a, vInt b] w fun e w' => e = .returned (arRes (decide (I64 (a + b))) (a + b)) ∧ Below w.heap.size w w' := by
  by_cases h : I64 (a + b)
  · rw [arRes_yes h]
    refine arith_yes 43 a b (a + b) w opIx_43 rfl rfl fun w => (reckon_add a b w ha hb).mono ?_
    rintro e w' ⟨rfl, hw⟩
    exact ⟨two_eq (wrap_fit h) (by simpa using h) rfl, hw⟩
  · rw [arRes_no h]
    refine arith_no 43 a b (wrap64 (a + b)) w opIx_43 rfl rfl fun w => (reckon_add a b w ha hb).mono ?_
    rintro e w' ⟨rfl, hw⟩
    exact ⟨two_eq rfl (by simpa using h) rfl, hw⟩
theorem arith_sub (a b : Int) (w : World) (ha : I64 a) (hb : I64 b) :
    Calls Tryd.prog 43 #[.int .u8 45, vInt a, vInt b] w fun e w' => e = .returned (arRes (decide (I64 (a - b))) (a - b)) ∧ Below w.heap.size w w' := by
  by_cases h : I64 (a - b)
  · rw [arRes_yes h]
    refine arith_yes 45 a b (a - b) w opIx_45 rfl rfl fun w => (reckon_sub a b w ha hb).mono ?_
    rintro e w' ⟨rfl, hw⟩
    exact ⟨two_eq (wrap_fit h) (by simpa using h) rfl, hw⟩
  · rw [arRes_no h]
    refine arith_no 45 a b (wrap64 (a - b)) w opIx_45 rfl rfl fun w => (reckon_sub a b w ha hb).mono ?_
    rintro e w' ⟨rfl, hw⟩
    exact ⟨two_eq rfl (by simpa using h) rfl, hw⟩
theorem arith_mul (a b : Int) (w : World) (ha : I64 a) (hb : I64 b) :
    Calls Tryd.prog 43 #[.int .u8 42, vInt a, vInt b] w fun e w' => e = .returned (arRes (decide (I64 (a * b))) (a * b)) ∧ Below w.heap.size w w' := by
  by_cases h : I64 (a * b)
  · rw [arRes_yes h]
    refine arith_yes 42 a b (a * b) w opIx_42 rfl rfl fun w => (reckon_mul a b w ha hb).mono ?_
    rintro e w' ⟨rfl, hw⟩
    exact ⟨two_eq (wrap_fit h) (by simpa using h) rfl, hw⟩
  · rw [arRes_no h]
    refine arith_no 42 a b (wrap64 (a * b)) w opIx_42 rfl rfl fun w => (reckon_mul a b w ha hb).mono ?_
    rintro e w' ⟨rfl, hw⟩
    exact ⟨two_eq rfl (by simpa using h) rfl, hw⟩
theorem tdiv_i64 {a b : Int} (ha : I64 a) : I64 (a.tdiv b) ↔ (a != -9223372036854775808 || b != -1) = true := by
  by_cases h1 : b = -1
  · subst h1
    rw [Int.tdiv_neg, Int.tdiv_one]; unfold I64 at *; simp; omega
  · exact ⟨fun _ => by simp [h1], fun _ => tdiv_fit ha h1⟩
theorem arith_div (a b : Int) (w : World) (ha : I64 a) (hb : ¬ b = 0) :
    Calls Tryd.prog 43 #[.int .u8 47, vInt a, vInt b] w fun e w' => e = .returned (arRes (decide (I64 (a.tdiv b))) (a.tdiv b)) ∧ Below w.heap.size w w' := by
  by_cases h : I64 (a.tdiv b)
  · rw [arRes_yes h]
    refine arith_quo_yes 47 a b (a.tdiv b) w opIx_47 rfl (by simpa using hb) fun w => (reckon_div a b w hb).mono ?_
    rintro e w' ⟨rfl, hw⟩
    exact ⟨two_eq (wrap_fit h) ((tdiv_i64 ha).1 h) rfl, hw⟩
  · rw [arRes_no h]
    refine arith_quo_no 47 a b (wrap64 (a.tdiv b)) w opIx_47 rfl (by simpa using hb) fun w => (reckon_div a b w hb).mono ?_
    rintro e w' ⟨rfl, hw⟩
    exact ⟨two_eq rfl (by rw [← Bool.not_eq_true, ← tdiv_i64 ha]; exact h) rfl, hw⟩
theorem arith_rem (a b : Int) (w : World) (hb : ¬ b = 0) :
    Calls Tryd.prog 43 #[.int .u8 37, vInt a, vInt b] w fun e w' => e = .returned (.tuple #[vInt (a.tmod b), .int .i64 0]) ∧ Below w.heap.size w w' := by
  refine arith_rem_yes 37 a b (a.tmod b) w opIx_37 rfl rfl (by simpa using hb) fun w => (reckon_rem a b w hb).mono ?_
  rintro e w' ⟨rfl, hw⟩
  exact ⟨rfl, hw⟩

end Go.Proofs.YtpohofcfmllghaaDoor
