/-
  The value of an expression: the model, and that what it tells is of its type.
-/
import Derived.Test.YtpohofcfmllghaaDoorETwo
import Derived.Test.YtpohofcfmllghaaDoorESettle
import Derived.Test.YtpohofcfmllghaaDoorEType
import Derived.Test.YtpohofcfmllghaaDoorSFits
namespace Go.Proofs.YtpohofcfmllghaaDoor
open Go.RowKit

/-- The number that a comparison has, less one; 6: it is none. -/
def cmpIx (op : ByteArray) : Nat := cmpsL.findIdx fun c => c.toList == op.toList
def twoX (wd op : ByteArray) (a b : Int × Int × ByteArray) : (Int × Int × ByteArray) × Int :=
  bif (wd.toList == [97, 110, 100]) then (truthV (trueV b), 0)
  else bif (wd.toList == [111, 114]) then (truthV (trueV b), 0)
  else bif (wd.toList == [101, 105, 116, 104, 101, 114]) then (b, 0)
  else bif (wd.toList == [105, 102]) then (b, 0)
  else bif (wd.toList == [99, 97, 116]) then catV a b
  else bif decide (cmpIx op < 6) then (compareV ((cmpIx op : Nat) + 1 : Int) a b, 0)
  else arithV (byte0 op) a b
def nextW (wd : ByteArray) (v : Int × Int × ByteArray) : Nat := if (wd.toList == [105, 102]) = true ∧ trueV v = false then 2 else 1
theorem nextK_eq (x : XT) (v : Int × Int × ByteArray) : nextK x v = nextW (wordX x) v := rfl
def partX (wd op : ByteArray) (n : Nat) (L : List ((Int × Int × ByteArray) × Int)) : (Int × Int × ByteArray) × Int :=
  if (L.getD 0 (d3, 0)).2 = 0 then
    (if n = 1 then oneX wd (L.getD 0 (d3, 0)).1
    else if (settleV wd (L.getD 0 (d3, 0)).1).2 = true then ((settleV wd (L.getD 0 (d3, 0)).1).1, 0)
    else if (L.getD (nextW wd (L.getD 0 (d3, 0)).1) (d3, 0)).2 = 0 then twoX wd op (L.getD 0 (d3, 0)).1 (L.getD (nextW wd (L.getD 0 (d3, 0)).1) (d3, 0)).1
    else (d3, (L.getD (nextW wd (L.getD 0 (d3, 0)).1) (d3, 0)).2))
  else (d3, (L.getD 0 (d3, 0)).2)
mutual
/-- What an expression comes to for a row, and the error. -/
def evalX (cs : List (ByteArray × Int)) (row : List (Int × Int × ByteArray)) : XT → (Int × Int × ByteArray) × Int
  | .mk k n v o A c ts =>
    if k = 1 then (row.getD (findK cs n) d3, 0) else if k = 2 then (v, 0) else partX (wordX (.mk k n v o A c ts)) o ts.length (evalsX cs row ts)
def evalsX (cs : List (ByteArray × Int)) (row : List (Int × Int × ByteArray)) : List XT → List ((Int × Int × ByteArray) × Int)
  | [] => []
  | x :: r => evalX cs row x :: evalsX cs row r
end
theorem evalsX_at (cs : List (ByteArray × Int)) (row : List (Int × Int × ByteArray)) : ∀ (l : List XT) (k : Nat), k < l.length → (evalsX cs row l).getD k (d3, 0) = evalX cs row (l.getD k dX)
  | [], k, h => by simp at h
  | x :: r, 0, _ => rfl
  | x :: r, k + 1, h => evalsX_at cs row r k (by simpa using h)

/-- A value is null, or of this type and right. -/
def okV (t : Int) (v : Int × Int × ByteArray) : Prop := v = d3 ∨ (t = 1 ∧ v.1 = 1 ∧ v.2.2 = ⟨#[]⟩ ∧ I64 v.2.1) ∨ (t = 2 ∧ v.1 = 2 ∧ v.2.1 = 0 ∧ rightT v.2.2 = true)
theorem empty_of {s : ByteArray} (h : s.toList.isEmpty = true) : s = ⟨#[]⟩ := by
  rw [Lib.toList_data] at h
  have : s.data.toList = [] := by simpa using h
  exact of_data this
theorem okV_right {k n : Int} {s : ByteArray} (h : rightV k n s = true) (hn : I64 n) : okV k (k, n, s) := by
  unfold rightV at h
  split at h
  · rename_i hk
    subst hk
    simp only [Bool.and_eq_true, decide_eq_true_eq] at h
    left
    rw [h.1, empty_of h.2]
  · split at h
    · rename_i hk
      exact .inr (.inl ⟨hk, hk, empty_of h, hn⟩)
    · split at h
      · rename_i hk
        simp only [Bool.and_eq_true, decide_eq_true_eq] at h
        exact .inr (.inr ⟨hk, hk, h.1, h.2⟩)
      · cases h
theorem okV_zero {v : Int × Int × ByteArray} (h : okV 0 v) : v = d3 := by
  rcases h with h | ⟨h, _⟩ | ⟨h, _⟩
  · exact h
  · cases h
  · cases h
theorem okV_size {t : Int} {v : Int × Int × ByteArray} (h : okV t v) : v.2.2.size ≤ 64 := by
  rcases h with rfl | ⟨_, _, h, _⟩ | ⟨_, _, _, h⟩
  · exact Nat.zero_le _
  · rw [h]; exact Nat.zero_le _
  · unfold rightT at h
    simp only [Bool.and_eq_true, decide_eq_true_eq] at h
    exact h.1
theorem okV_i64 {t : Int} {v : Int × Int × ByteArray} (h : okV t v) : I64 v.2.1 := by
  rcases h with rfl | ⟨_, _, _, h⟩ | ⟨_, _, h, _⟩
  · unfold I64; simp
  · exact h
  · rw [h]; unfold I64; simp
theorem okV_num {t : Int} {v : Int × Int × ByteArray} (h : okV t v) (ht : t = 0 ∨ t = 1) : numV v := by
  rcases h with rfl | ⟨_, h1, h2, _⟩ | ⟨h, _⟩
  · exact .inl rfl
  · exact .inr ⟨h1, h2⟩
  · omega
theorem okV_text {t : Int} {v : Int × Int × ByteArray} (h : okV t v) (ht : t = 0 ∨ t = 2) : v = d3 ∨ (v.1 = 2 ∧ v.2.1 = 0 ∧ rightT v.2.2 = true) := by
  rcases h with rfl | ⟨h, _⟩ | ⟨_, h⟩
  · exact .inl rfl
  · omega
  · exact .inr h
theorem okV_truth (b : Bool) : okV 1 (truthV b) := .inr (.inl ⟨rfl, rfl, rfl, by cases b <;> (unfold truthV I64; simp)⟩)
theorem okV_of0 {t : Int} {v : Int × Int × ByteArray} (h : okV 0 v) : okV t v := .inl (okV_zero h)

theorem okV_arith (op : Int) (a b : Int × Int × ByteArray) (hb : (op = 47 ∨ op = 37) ∨ op = 43 ∨ op = 45 ∨ op = 42) (ib : I64 b.2.1) (h : (arithV op a b).2 = 0) : okV 1 (arithV op a b).1 := by
  unfold arithV at h ⊢
  split
  · exact .inl rfl
  · rename_i h1
    rw [if_neg h1] at h
    split
    · exact .inl rfl
    · rename_i h2
      rw [if_neg h2] at h
      split
      · rename_i h3
        refine .inr (.inl ⟨rfl, rfl, rfl, ?_⟩)
        show I64 (arithN op a.2.1 b.2.1)
        rcases h3 with h3 | h3
        · subst h3
          have hm : b.2.1 ≠ 0 := fun e => h2 ⟨.inr rfl, e⟩
          show I64 (a.2.1.tmod b.2.1)
          have := abs_tmod_lt a.2.1 b.2.1 hm
          unfold I64 at *
          omega
        · exact of_decide_eq_true h3
      · exact .inl rfl
theorem okV_compare (op : Int) (a b : Int × Int × ByteArray) : okV 1 (compareV op a b) := by
  unfold compareV
  split
  · exact .inl rfl
  · exact .inr (.inl ⟨rfl, rfl, rfl, by unfold bit I64; split <;> simp⟩)
theorem okV_len {v : Int × Int × ByteArray} (h : v.2.2.size ≤ 64) : okV 1 (lenV v) := by
  unfold lenV
  split
  · rename_i hn
    unfold nullV at hn
    simp only [Bool.and_eq_true, beq_iff_eq] at hn
    obtain ⟨k, n, s⟩ := v
    simp only at hn
    left
    rw [hn.1, hn.2.1, empty_of (s := s) (by rw [hn.2.2, Lib.toList_data]; rfl)]
  · exact .inr (.inl ⟨rfl, rfl, rfl, by unfold I64; simp only; omega⟩)
theorem rightT_append {s t : ByteArray} (hs : rightT s = true) (ht : rightT t = true) (h : s.size + t.size ≤ 64) : rightT (s ++ t) = true := by
  unfold rightT at *
  simp only [Bool.and_eq_true, decide_eq_true_eq] at *
  refine ⟨by rw [ByteArray.size_append]; exact h, ?_⟩
  rw [ByteArray.data_append, Array.toList_append, List.all_append, hs.2, ht.2]; rfl
theorem null_d3 : nullV d3 = true := by unfold nullV; simp
theorem okV_cat {a b : Int × Int × ByteArray} (ha : a = d3 ∨ (a.1 = 2 ∧ a.2.1 = 0 ∧ rightT a.2.2 = true)) (hb : b = d3 ∨ (b.1 = 2 ∧ b.2.1 = 0 ∧ rightT b.2.2 = true)) : okV 2 (catV a b).1 := by
  unfold catV
  split
  · exact .inl rfl
  · rename_i hn
    split
    · exact .inl rfl
    · rename_i hl
      rcases ha with rfl | ⟨_, _, ha⟩
      · exact absurd (.inl null_d3) hn
      rcases hb with rfl | ⟨_, _, hb⟩
      · exact absurd (.inr null_d3) hn
      exact .inr (.inr ⟨rfl, rfl, rfl, rightT_append ha hb (by omega)⟩)
end Go.Proofs.YtpohofcfmllghaaDoor
