/-
  The order of rows is a total order; the one sorted list of given rows. No program in it.
-/
import Derived.Test.YtbjcbgomkhdmmaaDoorSCmpR
import Derived.Sort.Statements
import Derived.Shelf.SlSortCmp.Insertion
namespace Go.Proofs.YtbjcbgomkhdmmaaDoor
open Go.RowKit

theorem lexL_trans : ∀ x y z : List UInt8, lexL x y < 0 → lexL y z < 0 → lexL x z < 0
  | [], [], _, h, _ => by simp [lexL] at h
  | [], _ :: _, [], _, h => by simp [lexL] at h
  | [], _ :: _, _ :: _, _, _ => by simp [lexL]
  | _ :: _, [], _, h, _ => by simp [lexL] at h
  | _ :: _, _ :: _, [], _, h => by simp [lexL] at h
  | a :: x, b :: y, c :: z, h1, h2 => by
    unfold lexL at h1 h2 ⊢
    by_cases ab : a.toNat < b.toNat
    · by_cases bc : b.toNat < c.toNat
      · rw [if_pos (by omega)]; decide
      · rw [if_neg bc] at h2
        by_cases cb : c.toNat < b.toNat
        · rw [if_pos cb] at h2; omega
        · rw [if_pos (by omega)]; decide
    · rw [if_neg ab] at h1
      by_cases ba : b.toNat < a.toNat
      · rw [if_pos ba] at h1; omega
      · rw [if_neg ba] at h1
        by_cases bc : b.toNat < c.toNat
        · rw [if_pos (by omega)]; decide
        · rw [if_neg bc] at h2
          by_cases cb : c.toNat < b.toNat
          · rw [if_pos cb] at h2; omega
          · rw [if_neg cb] at h2
            rw [if_neg (by omega), if_neg (by omega)]
            exact lexL_trans x y z h1 h2
theorem cmp3_zero (a b : Int × Int × ByteArray) : cmp3 a b = 0 ↔ a = b := by
  unfold cmp3
  rw [cmpV_zero]
  obtain ⟨k, n, s⟩ := a
  obtain ⟨l, m, t⟩ := b
  simp
theorem cmp3_trans (a b c : Int × Int × ByteArray) (h1 : cmp3 a b < 0) (h2 : cmp3 b c < 0) : cmp3 a c < 0 := by
  obtain ⟨k, n, s⟩ := a
  obtain ⟨l, m, t⟩ := b
  obtain ⟨p, q, u⟩ := c
  unfold cmp3 cmpV cmpS at *
  have ht := lexL_trans s.data.toList t.data.toList u.data.toList
  simp only at *
  split at h1
  · split at h2
    · rw [if_pos (by omega)]; omega
    · split at h2
      · omega
      · rw [if_pos (by omega)]; omega
  · split at h1
    · omega
    · split at h2
      · rw [if_pos (by omega)]; omega
      · split at h2
        · omega
        · rw [if_neg (by omega), if_neg (by omega)]
          split at h1
          · split at h2
            · rw [if_pos (by omega)]; omega
            · split at h2
              · omega
              · rw [if_pos (by omega)]; omega
          · split at h1
            · omega
            · split at h2
              · rw [if_pos (by omega)]; omega
              · split at h2
                · omega
                · rw [if_neg (by omega), if_neg (by omega)]
                  exact ht h1 h2
theorem cmpR_zero : ∀ x y : List (Int × Int × ByteArray), cmpR x y = 0 ↔ x = y
  | [], [] => by simp [cmpR]
  | [], _ :: _ => by simp [cmpR]
  | _ :: _, [] => by simp [cmpR]
  | a :: x, b :: y => by
    unfold cmpR
    by_cases h : cmp3 a b = 0
    · rw [if_pos h, cmpR_zero x y]
      have := (cmp3_zero a b).1 h
      simp [this]
    · rw [if_neg h]
      have hn : a ≠ b := fun e => h ((cmp3_zero a b).2 e)
      simp [h, hn]
theorem cmpR_trans : ∀ x y z : List (Int × Int × ByteArray), cmpR x y < 0 → cmpR y z < 0 → cmpR x z < 0
  | [], [], _, h, _ => by simp [cmpR] at h
  | [], _ :: _, [], _, h => by simp [cmpR] at h
  | [], _ :: _, _ :: _, _, _ => by simp [cmpR]
  | _ :: _, [], _, h, _ => by simp [cmpR] at h
  | _ :: _, _ :: _, [], _, h => by simp [cmpR] at h
  | a :: x, b :: y, c :: z, h1, h2 => by
    unfold cmpR at h1 h2 ⊢
    by_cases ab : cmp3 a b = 0
    · rw [if_pos ab] at h1
      have := (cmp3_zero a b).1 ab
      subst this
      by_cases bc : cmp3 a c = 0
      · rw [if_pos bc] at h2 ⊢; exact cmpR_trans x y z h1 h2
      · rw [if_neg bc] at h2 ⊢; exact h2
    · rw [if_neg ab] at h1
      by_cases bc : cmp3 b c = 0
      · have := (cmp3_zero b c).1 bc
        subst this
        rw [if_neg ab]; exact h1
      · rw [if_neg bc] at h2
        have := cmp3_trans a b c h1 h2
        rw [if_neg (by omega)]; exact this
theorem cmpR_refl (x : List (Int × Int × ByteArray)) : cmpR x x = 0 := (cmpR_zero x x).2 rfl
theorem leR_trans {x y z : List (Int × Int × ByteArray)} (h1 : cmpR x y ≤ 0) (h2 : cmpR y z ≤ 0) : cmpR x z ≤ 0 := by
  by_cases e1 : cmpR x y = 0
  · rw [(cmpR_zero x y).1 e1]; exact h2
  · by_cases e2 : cmpR y z = 0
    · rw [← (cmpR_zero y z).1 e2]; exact h1
    · have := cmpR_trans x y z (by omega) (by omega); omega
theorem leR_total (x y : List (Int × Int × ByteArray)) : cmpR x y ≤ 0 ∨ cmpR y x ≤ 0 := by
  have := cmpR_turn x y; omega

/-- A row put ahead of the first one that stands behind it. -/
def insR (r : List (Int × Int × ByteArray)) : List (List (Int × Int × ByteArray)) → List (List (Int × Int × ByteArray))
  | [] => [r]
  | x :: l => if cmpR r x < 0 then r :: x :: l else x :: insR r l
/-- The rows in their order. -/
def sortR (l : List (List (Int × Int × ByteArray))) : List (List (Int × Int × ByteArray)) := l.foldl (fun a r => insR r a) []
def SortedR (l : List (List (Int × Int × ByteArray))) : Prop := l.Pairwise fun a b => cmpR a b ≤ 0
theorem insR_perm (r : List (Int × Int × ByteArray)) : ∀ l, (insR r l).Perm (r :: l)
  | [] => List.Perm.refl _
  | x :: l => by
    unfold insR; split
    · exact List.Perm.refl _
    · exact ((insR_perm r l).cons x).trans (List.Perm.swap r x l)
theorem insR_sorted (r : List (Int × Int × ByteArray)) : ∀ l, SortedR l → SortedR (insR r l)
  | [], _ => by simp [insR, SortedR]
  | x :: l, h => by
    unfold SortedR at h
    rw [List.pairwise_cons] at h
    unfold insR; split
    · rename_i hlt
      unfold SortedR
      rw [List.pairwise_cons, List.pairwise_cons]
      refine ⟨fun y hy => ?_, h⟩
      rcases List.mem_cons.1 hy with rfl | hy
      · omega
      · exact leR_trans (by omega : cmpR r x ≤ 0) (h.1 y hy)
    · rename_i hge
      unfold SortedR
      rw [List.pairwise_cons]
      refine ⟨fun y hy => ?_, insR_sorted r l h.2⟩
      rcases List.mem_cons.1 ((insR_perm r l).mem_iff.1 hy) with rfl | hy
      · have := cmpR_turn y x; omega
      · exact h.1 y hy
theorem foldR_perm : ∀ (l a : List (List (Int × Int × ByteArray))), (l.foldl (fun a r => insR r a) a).Perm (l ++ a)
  | [], _ => List.Perm.refl _
  | r :: l, a => (foldR_perm l (insR r a)).trans ((List.Perm.append_left l (insR_perm r a)).trans List.perm_middle)
theorem foldR_sorted : ∀ (l a : List (List (Int × Int × ByteArray))), SortedR a → SortedR (l.foldl (fun a r => insR r a) a)
  | [], _, h => h
  | r :: l, a, h => foldR_sorted l (insR r a) (insR_sorted r a h)
theorem sortR_perm (l : List (List (Int × Int × ByteArray))) : (sortR l).Perm l := by
  have := foldR_perm l []
  rwa [List.append_nil] at this
theorem sortR_sorted (l : List (List (Int × Int × ByteArray))) : SortedR (sortR l) := foldR_sorted l [] (by simp [SortedR])
theorem sortR_len (l : List (List (Int × Int × ByteArray))) : (sortR l).length = l.length := (sortR_perm l).length_eq
theorem sortR_snoc (l : List (List (Int × Int × ByteArray))) (r : List (Int × Int × ByteArray)) : sortR (l ++ [r]) = insR r (sortR l) := by unfold sortR; simp
/-- A sorted list is its rows' sorted list. -/
theorem sorted_is {l m : List (List (Int × Int × ByteArray))} (h : SortedR l) (hp : l.Perm m) : l = sortR m :=
  (hp.trans (sortR_perm m).symm).eq_of_pairwise (fun a b _ _ h1 h2 => (cmpR_zero a b).1 (by have := cmpR_turn a b; omega)) h (sortR_sorted m)
theorem sortR_self {l : List (List (Int × Int × ByteArray))} (h : SortedR l) : sortR l = l := (sorted_is h (List.Perm.refl l)).symm
theorem sortR_congr {l m : List (List (Int × Int × ByteArray))} (hp : l.Perm m) : sortR l = sortR m := sorted_is (sortR_sorted l) ((sortR_perm l).trans hp)
end Go.Proofs.YtbjcbgomkhdmmaaDoor
