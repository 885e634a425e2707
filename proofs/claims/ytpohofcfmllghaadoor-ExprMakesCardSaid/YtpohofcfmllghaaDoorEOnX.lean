/-
  ofOne of any expression and value: the model, and the contracts put together.
-/
import Derived.Test.YtpohofcfmllghaaDoorENeg
import Derived.Test.YtpohofcfmllghaaDoorEArithV
namespace Go.Proofs.YtpohofcfmllghaaDoor
open Go.RowKit

/-- What an expression of one argument comes to, and the error. -/
def oneX (wd : ByteArray) (v : Int × Int × ByteArray) : (Int × Int × ByteArray) × Int :=
  bif (wd.toList == [110, 111, 116]) then (truthV (!trueV v), 0)
  else bif (wd.toList == [105, 115, 110, 117, 108, 108]) then (truthV (nullV v), 0)
  else bif (wd.toList == [108, 101, 110]) then (lenV v, 0)
  else bif (wd.toList == [97, 98, 115]) then (bif decide (0 ≤ v.2.1) then (v, 0) else arithV 45 (1, 0, ⟨#[]⟩) v)
  else arithV 45 (1, 0, ⟨#[]⟩) v

theorem ofOne_any (x : XT) (v : Int × Int × ByteArray) (w : World) (hs : v.2.2.size ≤ maxLen)
    (hn : ((wordX x).toList == [110, 111, 116]) = false → ((wordX x).toList == [105, 115, 110, 117, 108, 108]) = false → ((wordX x).toList == [108, 101, 110]) = false → numV v ∧ I64 v.2.1) :
    Calls Tryd.prog 27 #[vX x, vOf v] w fun e w' => e = .returned (.tuple #[vOf (oneX (wordX x) v).1, .int .i64 (oneX (wordX x) v).2]) ∧ Below w.heap.size w w' := by
  obtain ⟨k, n, s⟩ := v
  simp only at hs
  cases h0 : ((wordX x).toList == [110, 111, 116])
  · cases h1 : ((wordX x).toList == [105, 115, 110, 117, 108, 108])
    · cases h2 : ((wordX x).toList == [108, 101, 110])
      · obtain ⟨hv, hi⟩ := hn h0 h1 h2
        have hA := fun w => arithV_any 45 (1, 0, ⟨#[]⟩) (k, n, s) w (.inr (.inl rfl)) (.inr ⟨rfl, rfl⟩) hv (by unfold I64; simp) hi
        cases h3 : ((wordX x).toList == [97, 98, 115])
        · have e : oneX (wordX x) (k, n, s) = arithV 45 (1, 0, ⟨#[]⟩) (k, n, s) := by unfold oneX; rw [h0, h1, h2, h3]; rfl
          rw [e]
          exact ofOne_neg x k n s _ _ w h0 h1 h2 h3 hA
        · by_cases hp : 0 ≤ n
          · have e : oneX (wordX x) (k, n, s) = ((k, n, s), 0) := by unfold oneX; rw [h0, h1, h2, h3, decide_eq_true hp]; rfl
            rw [e]
            exact ofOne_abs x k n s w h0 h1 h2 h3 hp
          · have e : oneX (wordX x) (k, n, s) = arithV 45 (1, 0, ⟨#[]⟩) (k, n, s) := by unfold oneX; rw [h0, h1, h2, h3, decide_eq_false hp]; rfl
            rw [e]
            exact ofOne_absNeg x k n s _ _ w h0 h1 h2 h3 hp hA
      · have e : oneX (wordX x) (k, n, s) = (lenV (k, n, s), 0) := by unfold oneX; rw [h0, h1, h2]; rfl
        rw [e]
        exact ofOne_len x k n s w h0 h1 h2 hs
    · have e : oneX (wordX x) (k, n, s) = (truthV (nullV (k, n, s)), 0) := by unfold oneX; rw [h0, h1]; rfl
      rw [e]
      exact ofOne_isnull x k n s w h0 h1
  · have e : oneX (wordX x) (k, n, s) = (truthV (!trueV (k, n, s)), 0) := by unfold oneX; rw [h0]; rfl
    rw [e]
    exact ofOne_not x k n s w h0
end Go.Proofs.YtpohofcfmllghaaDoor
