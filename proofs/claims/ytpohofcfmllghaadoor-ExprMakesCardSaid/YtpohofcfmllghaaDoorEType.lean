/-
  The type of an expression: the model, and the walk of typeOf.
-/
import Derived.Test.YtpohofcfmllghaaDoorEFormed
import Derived.Test.YtpohofcfmllghaaDoorEResult
import Derived.Test.YtpohofcfmllghaaDoorSFindC
namespace Go.Proofs.YtpohofcfmllghaaDoor
open Go.RowKit

def typeOfX (cs : List (ByteArray × Int)) (s : ByteArray) : Int × Int := if findK cs s < cs.length then ((cs.getD (findK cs s) (⟨#[]⟩, 0)).2, 0) else (0, 13)
/-- The first error of some results; 0: there is none. -/
def errOf : List (Int × Int) → Int
  | [] => 0
  | x :: r => if x.2 = 0 then errOf r else x.2
def tyAt (l : List (Int × Int)) (j : Nat) : Int := (l.getD j (0, 0)).1
mutual
def typeX (cs : List (ByteArray × Int)) : XT → Int → Int × Int
  | .mk k n v o A c ts, d =>
    if 32 < d then (0, 52)
    else if formedX (.mk k n v o A c ts) = false then (0, 20)
    else if k = 1 then typeOfX cs n
    else if k = 2 then (v.1, 0)
    else if errOf (typesX cs ts (d + 1)) = 0 then
      (if (resX (ruleX (.mk k n v o A c ts)).1 [tyAt (typesX cs ts (d + 1)) 0, tyAt (typesX cs ts (d + 1)) 1, tyAt (typesX cs ts (d + 1)) 2]).2 = true then ((resX (ruleX (.mk k n v o A c ts)).1 [tyAt (typesX cs ts (d + 1)) 0, tyAt (typesX cs ts (d + 1)) 1, tyAt (typesX cs ts (d + 1)) 2]).1, 0) else (0, 12))
    else (0, errOf (typesX cs ts (d + 1)))
def typesX (cs : List (ByteArray × Int)) : List XT → Int → List (Int × Int)
  | [], _ => []
  | x :: r, d => typeX cs x d :: typesX cs r d
end
theorem typesX_len (cs : List (ByteArray × Int)) (d : Int) : ∀ l : List XT, (typesX cs l d).length = l.length
  | [] => rfl
  | x :: r => by show (typesX cs r d).length + 1 = r.length + 1; rw [typesX_len cs d r]
theorem typesX_at (cs : List (ByteArray × Int)) (d : Int) : ∀ (l : List XT) (k : Nat), k < l.length → (typesX cs l d).getD k (0, 0) = typeX cs (l.getD k dX) d
  | [], k, h => by simp at h
  | x :: r, 0, _ => rfl
  | x :: r, k + 1, h => typesX_at cs d r k (by simpa using h)
theorem errOf_hit : ∀ (l : List (Int × Int)) (k : Nat), k < l.length → (∀ j, j < k → (l.getD j (0, 0)).2 = 0) → (l.getD k (0, 0)).2 ≠ 0 → errOf l = (l.getD k (0, 0)).2
  | [], k, h, _, _ => by simp at h
  | x :: r, 0, _, _, h => by
    have h' : ¬ x.2 = 0 := h
    unfold errOf
    rw [if_neg h']; rfl
  | x :: r, k + 1, hk, hj, h => by
    have h0 : x.2 = 0 := hj 0 (by omega)
    unfold errOf
    rw [if_pos h0]
    exact errOf_hit r k (by simpa using hk) (fun j hj' => hj (j + 1) (by omega)) h
theorem errOf_none : ∀ (l : List (Int × Int)), (∀ j, j < l.length → (l.getD j (0, 0)).2 = 0) → errOf l = 0
  | [], _ => rfl
  | x :: r, h => by
    have h0 : x.2 = 0 := h 0 (by simp)
    unfold errOf
    rw [if_pos h0]
    exact errOf_none r (fun j hj => h (j + 1) (by simpa using hj))
/-- A rule takes up to three arguments. -/
theorem ruleX_n (x : XT) : 0 ≤ (ruleX x).1.n ∧ (ruleX x).1.n ≤ 3 := by
  have hall : ∀ r ∈ rulesL, 0 ≤ r.n ∧ r.n ≤ 3 := by
    have h : (rulesL.all fun r => decide (0 ≤ r.n ∧ r.n ≤ 3)) = true := by decide
    intro r hr
    simpa using List.all_eq_true.1 h r hr
  unfold ruleX
  split
  · exact ⟨by decide, by decide⟩
  · split
    · rename_i r hr
      exact hall r (List.mem_of_find?_eq_some hr)
    · exact ⟨by decide, by decide⟩
theorem formed_len {x : XT} (h : formedX x = true) : (x.args.length : Int) = (ruleX x).1.n ∧ x.args.length ≤ 3 := by
  unfold formedX at h
  simp only [Bool.and_eq_true, beq_iff_eq] at h
  have := ruleX_n x
  exact ⟨h.2.1, by omega⟩

set_option maxHeartbeats 1600000 in
set_option maxRecDepth 100000 in
theorem typeOf_any (S : Option Addr) (c : Nat) (cs : List (ByteArray × Int)) (s : ByteArray) (w : World) (hC : ColsAt w.heap.size w S cs) (hl : cs.length ≤ maxLen) :
    Calls Tryd.prog 33 #[.slice S cs.length c, .string s] w fun e w' => e = .returned (.tuple #[.int .i64 (typeOfX cs s).1, .int .i64 (typeOfX cs s).2]) ∧ Below w.heap.size w w' := by
  have HFi := hide (find_any S c cs s w hC hl)
  have HC := hide hC
  unfold maxLen at hl
  clear hC
  by_cases hf : findK cs s < cs.length
  · have HFV := hide (foundV_at hf rfl)
    have HX := hide (show typeOfX cs s = ((cs.getD (findK cs s) (⟨#[]⟩, 0)).2, 0) by unfold typeOfX; rw [if_pos hf])
    generalize typeOfX cs s = q at HX ⊢
    generalize findK cs s = i at *
    have hi1 : (i : Int) < (cs.length : Int) := by omega
    have hi0 : (0 : Int) ≤ (i : Int) := by omega
    go_enter Tryd.func33, Tryd.ntmps33
    go_wp2_with fail
    refine HFi.out.mono ?_
    rintro e w2 ⟨rfl, hb2⟩
    rw [HFV.out]
    obtain ⟨b, off, rfl, hb, g0, g1⟩ := (HC.out.below hb2) i hf
    have HB := hide hb2
    generalize cs.getD i (⟨#[]⟩, 0) = col at *
    clear hb2
    go_wp2_with fail
    go_ret2
    exact ⟨by rw [HX.out]; rfl, HB.out⟩
  · have hle := findK_le cs s
    have HFV := hide (foundV_none (cs := cs) (s := s) (by omega))
    have HX := hide (show typeOfX cs s = (0, 13) by unfold typeOfX; rw [if_neg hf])
    generalize typeOfX cs s = q at HX ⊢
    clear hf hle
    go_enter Tryd.func33, Tryd.ntmps33
    go_wp2_with fail
    refine HFi.out.mono ?_
    rintro e w2 ⟨rfl, hb2⟩
    rw [HFV.out]
    go_wp2_with fail
    go_ret2
    exact ⟨by rw [HX.out]; rfl, hb2⟩
end Go.Proofs.YtpohofcfmllghaaDoor
