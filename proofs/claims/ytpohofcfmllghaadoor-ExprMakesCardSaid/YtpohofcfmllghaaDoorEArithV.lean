/-
  Arith of any two values that are numbers or null.
-/
import Derived.Test.YtpohofcfmllghaaDoorEArith
import Derived.Test.YtpohofcfmllghaaDoorEOps
namespace Go.Proofs.YtpohofcfmllghaaDoor
open Go.RowKit

/-- A right value that is a number or null. -/
def numV (v : Int × Int × ByteArray) : Prop := v = (0, 0, ⟨#[]⟩) ∨ v.1 = 1 ∧ v.2.2 = ⟨#[]⟩
def arithN (op a b : Int) : Int := if op = 43 then a + b else if op = 45 then a - b else if op = 42 then a * b else if op = 47 then a.tdiv b else a.tmod b
def arithV (op : Int) (a b : Int × Int × ByteArray) : (Int × Int × ByteArray) × Int :=
  if a.1 = 0 ∨ b.1 = 0 then ((0, 0, ⟨#[]⟩), 0)
  else if (op = 47 ∨ op = 37) ∧ b.2.1 = 0 then ((0, 0, ⟨#[]⟩), 11)
  else if op = 37 ∨ decide (I64 (arithN op a.2.1 b.2.1)) = true then ((1, arithN op a.2.1 b.2.1, ⟨#[]⟩), 0) else ((0, 0, ⟨#[]⟩), 10)
def fiveOps (op : Int) : Prop := op = 43 ∨ op = 45 ∨ op = 42 ∨ op = 47 ∨ op = 37
theorem five_ix {op : Int} (h : fiveOps op) : 0 ≤ opIx op := by
  rcases h with rfl | rfl | rfl | rfl | rfl
  · exact opIx_43
  · exact opIx_45
  · exact opIx_42
  · exact opIx_47
  · exact opIx_37
theorem arRes_if (p : Bool) (n : Int) : arRes p n = .tuple #[vOf (if p = true then (1, n, ⟨#[]⟩) else (0, 0, ⟨#[]⟩)), .int .i64 (if p = true then 0 else 10)] := by
  cases p <;> rfl
theorem arithV_any (op : Int) (a b : Int × Int × ByteArray) (w : World) (hop : fiveOps op) (ha : numV a) (hb : numV b) (ia : I64 a.2.1) (ib : I64 b.2.1) :
    Calls Tryd.prog 43 #[.int .u8 op, vOf a, vOf b] w fun e w' => e = .returned (.tuple #[vOf (arithV op a b).1, .int .i64 (arithV op a b).2]) ∧ Below w.heap.size w w' := by
  have hix := five_ix hop
  have hb2 : (b.1 == 2) = false := by
    rcases hb with rfl | ⟨h, _⟩
    · rfl
    · rw [h]; rfl
  rcases ha with rfl | ⟨a1, a2⟩
  · have e : arithV op (0, 0, ⟨#[]⟩) b = ((0, 0, ⟨#[]⟩), 0) := by unfold arithV; exact if_pos (.inl rfl)
    rw [e]
    exact arith_null1 op 0 0 b.1 b.2.1 ⟨#[]⟩ b.2.2 w hix rfl hb2 rfl
  obtain ⟨k, n, s⟩ := a
  simp only at a1 a2 ia
  subst a1 a2
  rcases hb with rfl | ⟨b1, b2⟩
  · have e : arithV op (1, n, ⟨#[]⟩) (0, 0, ⟨#[]⟩) = ((0, 0, ⟨#[]⟩), 0) := by unfold arithV; exact if_pos (.inr rfl)
    rw [e]
    exact arith_null2 op 1 n 0 0 ⟨#[]⟩ ⟨#[]⟩ w hix rfl rfl rfl rfl
  obtain ⟨l, m, t⟩ := b
  simp only at b1 b2 ib
  subst b1 b2
  clear hb2 hix
  have e0 : ¬ ((1 : Int) = 0 ∨ (1 : Int) = 0) := by decide
  unfold arithV
  simp only
  rw [if_neg e0]
  rcases hop with rfl | rfl | rfl | rfl | rfl
  · rw [if_neg (by rintro ⟨h | h, _⟩ <;> cases h)]
    refine (arith_add n m w ia ib).mono fun e w' hh => ⟨?_, hh.2⟩
    rw [hh.1, arRes_if]
    show _ = Ending.returned (.tuple #[vOf (if (43 : Int) = 37 ∨ decide (I64 (n + m)) = true then ((1, n + m, (⟨#[]⟩ : ByteArray)), (0 : Int)) else ((0, 0, (⟨#[]⟩ : ByteArray)), 10)).1, .int .i64 (if (43 : Int) = 37 ∨ decide (I64 (n + m)) = true then ((1, n + m, (⟨#[]⟩ : ByteArray)), (0 : Int)) else ((0, 0, (⟨#[]⟩ : ByteArray)), 10)).2])
    cases decide (I64 (n + m)) <;> rfl
  · rw [if_neg (by rintro ⟨h | h, _⟩ <;> cases h)]
    refine (arith_sub n m w ia ib).mono fun e w' hh => ⟨?_, hh.2⟩
    rw [hh.1, arRes_if]
    show _ = Ending.returned (.tuple #[vOf (if (45 : Int) = 37 ∨ decide (I64 (n - m)) = true then ((1, n - m, (⟨#[]⟩ : ByteArray)), (0 : Int)) else ((0, 0, (⟨#[]⟩ : ByteArray)), 10)).1, .int .i64 (if (45 : Int) = 37 ∨ decide (I64 (n - m)) = true then ((1, n - m, (⟨#[]⟩ : ByteArray)), (0 : Int)) else ((0, 0, (⟨#[]⟩ : ByteArray)), 10)).2])
    cases decide (I64 (n - m)) <;> rfl
  · rw [if_neg (by rintro ⟨h | h, _⟩ <;> cases h)]
    refine (arith_mul n m w ia ib).mono fun e w' hh => ⟨?_, hh.2⟩
    rw [hh.1, arRes_if]
    show _ = Ending.returned (.tuple #[vOf (if (42 : Int) = 37 ∨ decide (I64 (n * m)) = true then ((1, n * m, (⟨#[]⟩ : ByteArray)), (0 : Int)) else ((0, 0, (⟨#[]⟩ : ByteArray)), 10)).1, .int .i64 (if (42 : Int) = 37 ∨ decide (I64 (n * m)) = true then ((1, n * m, (⟨#[]⟩ : ByteArray)), (0 : Int)) else ((0, 0, (⟨#[]⟩ : ByteArray)), 10)).2])
    cases decide (I64 (n * m)) <;> rfl
  · by_cases hm : m = 0
    · rw [if_pos ⟨.inl rfl, hm⟩]
      exact arith_quo_zero 47 n m w opIx_47 rfl (by rw [hm]; rfl)
    · rw [if_neg (fun h => hm h.2)]
      refine (arith_div n m w ia hm).mono fun e w' hh => ⟨?_, hh.2⟩
      rw [hh.1, arRes_if]
      show _ = Ending.returned (.tuple #[vOf (if (47 : Int) = 37 ∨ decide (I64 (n.tdiv m)) = true then ((1, n.tdiv m, (⟨#[]⟩ : ByteArray)), (0 : Int)) else ((0, 0, (⟨#[]⟩ : ByteArray)), 10)).1, .int .i64 (if (47 : Int) = 37 ∨ decide (I64 (n.tdiv m)) = true then ((1, n.tdiv m, (⟨#[]⟩ : ByteArray)), (0 : Int)) else ((0, 0, (⟨#[]⟩ : ByteArray)), 10)).2])
      cases decide (I64 (n.tdiv m)) <;> rfl
  · by_cases hm : m = 0
    · rw [if_pos ⟨.inr rfl, hm⟩]
      exact arith_rem_zero 37 n m w opIx_37 rfl rfl (by rw [hm]; rfl)
    · rw [if_neg (fun h => hm h.2), if_pos (.inl rfl)]
      exact arith_rem n m w hm
end Go.Proofs.YtpohofcfmllghaaDoor
