/-
  The reference's Read: the integer at a place.
-/
import Derived.Test.YtkdihekhdnnheaaDoorFRef
import Derived.Deep.RegionWith
import Derived.Deep.RegionLaw
import Derived.RegionTactic
import Derived.IntWalk
namespace Go.Proofs.YtkdihekhdnnheaaDoor
open Go.RowKit

theorem elem_bytes : Tryd.prog.elem 28 = 5 := by kernel_rfl
theorem und_bytes : Tryd.prog.underlying 28 = some (.slice (Tryd.prog.elem 28)) := by rw [elem_bytes]; exact Tryd.underlying28
theorem size_u8 (w : World) : (Go.sizeOf 5).run Tryd.prog w = .ok 1 w := by
  obtain ⟨i0, hi, hz0, hz1, hz2⟩ := info_parts u8_info
  simp [Go.sizeOf, typeInfo, hi, hz1]
theorem slice_lh (b off n c lo hi : Nat) (h1 : lo ≤ hi) (h2 : hi ≤ c) (h3 : lo < c) (l h : Int) (el : l = lo) (eh : h = hi) (w : World) :
    (Instr.slice 28 (.slice (some ⟨b, off, none⟩) n c) (some (.int .i64 l)) (some (.int .i64 h)) none).run Tryd.prog w = .ok (.slice (some ⟨b, off + lo, none⟩) (hi - lo) (c - lo)) w := by
  subst el; subst eh
  rw [run_slice_lh (P := Tryd.prog) w 28 _ _ _ und_bytes .i64 .i64 (lo : Int) (hi : Int) (by omega) (by omega) (by omega), elem_bytes, size_u8]
  simp only [Result.andThen, sliced, Int.toNat_natCast, Option.map_some, Nat.mul_one]
  rw [if_neg (by omega)]
  congr 2
  show some ((⟨b, off, none⟩ : Addr).add lo) = _
  rw [show (⟨b, off, none⟩ : Addr).add lo = ⟨b, off + lo, none⟩ by unfold Addr.add; split <;> simp_all]
theorem valL_drop : ∀ (l : List UInt8) (k : Nat), valL (l.drop k) ≤ valL l
  | l, 0 => by simp
  | [], k + 1 => by simp
  | c :: l, k + 1 => by
    have := valL_drop l k
    rw [List.drop_succ_cons, valL]
    omega
theorem valL_up {l : List UInt8} {i : Nat} (h : i < l.length) : valL (l.drop i) = (l.getD i 0).toNat + 256 * valL (l.drop (i + 1)) := by
  rw [List.drop_eq_getElem_cons h, valL, List.getD_eq_getElem?_getD, List.getElem?_eq_getElem h]
  rfl
/-- What Read tells. -/
def rdN (l : List UInt8) (at' : Nat) : Int := (readI (l.drop at')).elim 0 (·.1)
def rdE (l : List UInt8) (at' : Nat) : Int := (readI (l.drop at')).elim (-1) fun p => ((at' + p.2 : Nat) : Int)
def ReadRes (w : World) (l : List UInt8) (a : Nat) (e : Ending) (w' : World) : Prop := e = .returned (.tuple #[.int .i64 (rdN l a), .int .i64 (rdE l a)]) ∧ Below w.heap.size w w'
theorem rd_none {l : List UInt8} {a : Nat} (h : readI (l.drop a) = none) : rdN l a = 0 ∧ rdE l a = -1 := by unfold rdN rdE; rw [h]; exact ⟨rfl, rfl⟩
theorem rd_some {l : List UInt8} {a : Nat} {n : Int} {k : Nat} (h : readI (l.drop a) = some (n, k)) : rdN l a = n ∧ rdE l a = ((a + k : Nat) : Int) := by unfold rdN rdE; rw [h]; exact ⟨rfl, rfl⟩
theorem ret_two {a b c d : Int} (h1 : a = c) (h2 : b = d) : Ending.returned (.tuple #[.int .i64 a, .int .i64 b]) = .returned (.tuple #[.int .i64 c, .int .i64 d]) := by rw [h1, h2]
theorem drop_at {l : List UInt8} {a : Nat} (h : a < l.length) : l.drop a = l.getD a 0 :: l.drop (a + 1) := by
  rw [List.drop_eq_getElem_cons h, List.getD_eq_getElem?_getD, List.getElem?_eq_getElem h]
  rfl
end Go.Proofs.YtkdihekhdnnheaaDoor
