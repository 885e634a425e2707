/-
  read and Parse.
-/
import Derived.Test.YtomhiganfmoceaaDoorJShow
namespace Go.Proofs.YtomhiganfmoceaaDoor
open Go.RowKit Go.Sort CM JM

/-- The three that Cut tells, as a value. -/
abbrev cutV (c : List UInt8 × List UInt8 × Bool) : Value := .tuple #[txt c.1, txt c.2.1, .bool c.2.2]
theorem cut_any (l : List UInt8) (sep : ByteArray) (w : World) (hs : l.length ≤ 1000) (hm : Mx w) : Calls Tryd.prog 48 #[txt l, .string sep] w fun e w' => e = .returned (cutV (Lib.cut l sep.data.toList)) ∧ Below w.heap.size w w' := by
  obtain ⟨m, hm⟩ := hm
  refine (Tryd.strings_Cut ⟨l.toArray⟩ sep m w (by show l.toArray.size < _; rw [List.size_toArray]; omega) hm).mono ?_
  rintro e w' ⟨rfl, n, rfl⟩
  exact ⟨rfl, rfl, rfl, rfl, Nat.le_refl _, fun _ _ => rfl⟩
theorem cut_len (l sep : List UInt8) : (Lib.cut l sep).1.length ≤ l.length ∧ (Lib.cut l sep).2.1.length ≤ l.length := by
  unfold Lib.cut
  split
  · simp; omega
  · simp
/-- What Parse tells of a text. -/
def ParseOut (l : List UInt8) (w : World) (e : Ending) (w' : World) : Prop :=
  ((∃ k a z, okS k a z = true ∧ l = showS k a z ∧ e = .returned (.tuple #[vS k a z, .int .i64 0])) ∨ ((∀ k a z, okS k a z = true → l ≠ showS k a z) ∧ e = .returned (.tuple #[vS 0 0 0, .int .i64 20]))) ∧ Below w.heap.size w w'

end Go.Proofs.YtomhiganfmoceaaDoor
