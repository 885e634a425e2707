/-
  What an expression is worth hangs on no address.
-/
import Derived.Test.YtpohofcfmllghaaDoorENewX
import Derived.Test.YtpohofcfmllghaaDoorEEvalTop
namespace Go.Proofs.YtpohofcfmllghaaDoor
open Go.RowKit

mutual
theorem szX_strip : ∀ x : XT, szX (stripX x) = szX x
  | .mk _ _ _ _ _ _ ts => by show 1 + szXs (stripXs ts) = 1 + szXs ts; rw [szXs_strip ts]
theorem szXs_strip : ∀ l : List XT, szXs (stripXs l) = szXs l
  | [] => rfl
  | x :: r => by show szX (stripX x) + szXs (stripXs r) = szX x + szXs r; rw [szX_strip x, szXs_strip r]
end
theorem wordX_strip (x : XT) : wordX (stripX x) = wordX x := by cases x; rfl
theorem ruleX_strip (x : XT) : ruleX (stripX x) = ruleX x := by cases x; rfl
theorem formedX_strip (x : XT) : formedX (stripX x) = formedX x := by
  obtain ⟨k, n, v, o, A, c, ts⟩ := x
  unfold formedX
  rw [ruleX_strip]
  show ((ruleX (.mk k n v o A c ts)).2 && (((stripXs ts).length : Int) == (ruleX (.mk k n v o A c ts)).1.n && tailF (stripX (.mk k n v o A c ts)))) = _
  rw [stripXs_len]
  rfl
mutual
theorem typeX_strip (cs : List (ByteArray × Int)) : ∀ (x : XT) (d : Int), typeX cs (stripX x) d = typeX cs x d
  | .mk k n v o A c ts, d => by
    have h1 := formedX_strip (.mk k n v o A c ts)
    have h2 := ruleX_strip (.mk k n v o A c ts)
    have h3 := typesX_strip cs ts (d + 1)
    simp only [stripX] at h1 h2 ⊢
    rw [typeX, typeX, h1, h2, h3]
theorem typesX_strip (cs : List (ByteArray × Int)) : ∀ (l : List XT) (d : Int), typesX cs (stripXs l) d = typesX cs l d
  | [], _ => rfl
  | x :: r, d => by show typeX cs (stripX x) d :: typesX cs (stripXs r) d = typeX cs x d :: typesX cs r d; rw [typeX_strip cs x d, typesX_strip cs r d]
end
mutual
theorem evalX_strip (cs : List (ByteArray × Int)) (row : List (Int × Int × ByteArray)) : ∀ x : XT, evalX cs row (stripX x) = evalX cs row x
  | .mk k n v o A c ts => by
    have h1 := wordX_strip (.mk k n v o A c ts)
    have h2 := evalsX_strip cs row ts
    simp only [stripX] at h1 ⊢
    rw [evalX, evalX, h1, h2, stripXs_len]
theorem evalsX_strip (cs : List (ByteArray × Int)) (row : List (Int × Int × ByteArray)) : ∀ l : List XT, evalsX cs row (stripXs l) = evalsX cs row l
  | [] => rfl
  | x :: r => by show evalX cs row (stripX x) :: evalsX cs row (stripXs r) = evalX cs row x :: evalsX cs row r; rw [evalX_strip cs row x, evalsX_strip cs row r]
end
mutual
theorem wfX_strip : ∀ x : XT, wfX (stripX x) ↔ wfX x
  | .mk _ _ _ _ _ _ ts => by
    show (_ ∧ wfXs (stripXs ts)) ↔ (_ ∧ wfXs ts)
    rw [wfXs_strip ts]
theorem wfXs_strip : ∀ l : List XT, wfXs (stripXs l) ↔ wfXs l
  | [] => Iff.rfl
  | x :: r => by
    show (wfX (stripX x) ∧ wfXs (stripXs r)) ↔ (wfX x ∧ wfXs r)
    rw [wfX_strip x, wfXs_strip r]
end
mutual
theorem wfI_strip : ∀ x : XT, wfI (stripX x) ↔ wfI x
  | .mk _ _ _ _ _ _ ts => by
    show (_ ∧ wfIs (stripXs ts)) ↔ (_ ∧ wfIs ts)
    rw [wfIs_strip ts]
theorem wfIs_strip : ∀ l : List XT, wfIs (stripXs l) ↔ wfIs l
  | [] => Iff.rfl
  | x :: r => by
    show (wfI (stripX x) ∧ wfIs (stripXs r)) ↔ (wfI x ∧ wfIs r)
    rw [wfI_strip x, wfIs_strip r]
end
theorem evalTop_strip (cs : List (ByteArray × Int)) (row : List (Int × Int × ByteArray)) (x : XT) : evalTop cs row (stripX x) = evalTop cs row x := by
  unfold evalTop typeTop
  rw [szX_strip, typeX_strip, evalX_strip]
/-- Two expressions that are the same but for their addresses. -/
theorem same_top {cs : List (ByteArray × Int)} {row : List (Int × Int × ByteArray)} {x y : XT} (h : stripX x = stripX y) : evalTop cs row x = evalTop cs row y := by rw [← evalTop_strip cs row x, h, evalTop_strip]
theorem same_sz {x y : XT} (h : stripX x = stripX y) : szX x = szX y := by rw [← szX_strip x, h, szX_strip]
theorem same_wf {x y : XT} (h : stripX x = stripX y) : (wfX y → wfX x) ∧ (wfI y → wfI x) := ⟨fun k => (wfX_strip x).1 (h ▸ (wfX_strip y).2 k), fun k => (wfI_strip x).1 (h ▸ (wfI_strip y).2 k)⟩

end Go.Proofs.YtpohofcfmllghaaDoor
