/-
  The reference's number: of one or two digits at a place.
-/
import Derived.Test.YtggaflihblhapaaDoorHNum
namespace Go.Proofs.YtggaflihblhapaaDoor
open Go.RowKit CM HM

theorem tw_ge : ∀ (r : List UInt8) (k : Nat), k ≤ r.length → (r.take k).all dig? = true → k ≤ (r.takeWhile dig?).length
  | _, 0, _, _ => by omega
  | [], k + 1, h, _ => by simp at h
  | b :: r, k + 1, h, ha => by
    rw [List.take_succ_cons, List.all_cons, Bool.and_eq_true] at ha
    rw [List.takeWhile_cons, ha.1, if_pos rfl]
    have := tw_ge r k (by simpa using h) ha.2
    simpa using this
theorem tw_eq : ∀ (r : List UInt8) (k : Nat), k ≤ r.length → (r.take k).all dig? = true → (k = r.length ∨ dig? (r.getD k 0) = false) → r.takeWhile dig? = r.take k
  | [], k, h, _, _ => by simp
  | b :: r, 0, _, _, h => by
    rcases h with h | h
    · simp at h
    · simp at h
      rw [List.takeWhile_cons, h]; simp
  | b :: r, k + 1, h, ha, hd => by
    rw [List.take_succ_cons, List.all_cons, Bool.and_eq_true] at ha
    rw [List.takeWhile_cons, ha.1, if_pos rfl, List.take_succ_cons]
    congr 1
    exact tw_eq r k (by simpa using h) ha.2 (by simpa using hd)
/-- What number tells: the number and where it ends. -/
def rnE (l : List UInt8) (p : Nat) : Int := if ((l.drop p).takeWhile dig?).length = 0 ∨ 2 < ((l.drop p).takeWhile dig?).length then -1 else (p + ((l.drop p).takeWhile dig?).length : Nat)
def rnV (l : List UInt8) (p : Nat) : Nat := if ((l.drop p).takeWhile dig?).length = 0 ∨ 2 < ((l.drop p).takeWhile dig?).length then 0 else valD ((l.drop p).takeWhile dig?)
end Go.Proofs.YtggaflihblhapaaDoor
