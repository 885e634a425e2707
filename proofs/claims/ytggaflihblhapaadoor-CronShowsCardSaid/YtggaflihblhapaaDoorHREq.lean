/-
  Two rows of fields that are one.
-/
import Derived.Test.YtggaflihblhapaaDoorHRefM
import Derived.DeepKeys
import Derived.Test.YtggaflihblhapaaDoorHRParM
namespace Go.Proofs.YtggaflihblhapaaDoor
open Go.RowKit CM HM

theorem row_keyed : Tryd.prog.keyTypeAt 10 35 = true := by kernel_rfl
def rowL (h : Nat → Bool) : List Value := (List.range 325).map fun i => .bool (h i)
theorem rowL_key (h : Nat → Bool) : (Tryd.prog.keyLits 10 35 (rowL h)).isSome = true := by kernel_rfl
theorem rowL_formed (h : Nat → Bool) : (Value.agg (rowL h).toArray).formed Tryd.prog 35 = true := by kernel_rfl
theorem rowL_eq (h : Nat → Bool) (w : World) : (Op.equalIn 10000 35 (.agg (rowL h).toArray) (.agg (rowL h).toArray)).run Tryd.prog w = .ok true w := by
  obtain ⟨la, hla⟩ := Option.isSome_iff_exists.1 (rowL_key h)
  obtain ⟨r, hr, hi⟩ := run_equalIn_deep 9990 10 _ row_keyed w 10 10 (.agg (rowL h).toArray) (.agg (rowL h).toArray) la la (rowL_formed h) (rowL_formed h) hla hla
  rw [hi.2 rfl] at hr
  exact hr
theorem fCells_row (c : Sp) : fCells c = (rowL (gOf c)).toArray := by
  refine Array.ext_getElem? fun i => ?_
  by_cases hi : i < 325
  · rw [fCells_at c hi]
    unfold rowL
    rw [List.getElem?_toArray, List.getElem?_map, List.getElem?_range hi]; rfl
  · rw [Array.getElem?_eq_none (by rw [fCells_size]; omega), Array.getElem?_eq_none (by unfold rowL; simp; omega)]
theorem row_same (c : Sp) (w : World) : (Op.equalIn 10000 35 (.agg (fCells c)) (.agg (fCells c))).run Tryd.prog w = .ok true w := by
  rw [fCells_row]; exact rowL_eq _ w
theorem zCells_zSp : zCells = fCells zSp := by
  refine Array.ext_getElem? fun i => ?_
  by_cases hi : i < 325
  · rw [fCells_at _ hi]
    unfold zCells fV zSp
    rw [Array.getElem?_replicate, if_pos hi]
    simp
  · rw [Array.getElem?_eq_none (by rw [zCells_size]; omega), Array.getElem?_eq_none (by rw [fCells_size]; omega)]
theorem fieldF_ok {f : Nat} : ∀ (r : List (List UInt8)) (acc acc' : Nat), fieldF f r acc = (0, acc') → (∀ m, acc.testBit m = true → inF f m = true) → acc < 18446744073709551616 →
    (∀ m, acc'.testBit m = true → inF f m = true) ∧ acc' < 18446744073709551616 ∧ (r ≠ [] ∨ acc ≠ 0 → acc' ≠ 0)
  | [], acc, acc', h, hb, hl => by
    simp [fieldF] at h
    subst h
    exact ⟨hb, hl, fun h => h.resolve_left (fun h => h rfl)⟩
  | p :: r, acc, acc', h, hb, hl => by
    unfold fieldF at h
    by_cases h1 : (itm f p).2.2.2 = false
    · rw [if_pos h1] at h; injection h with h; cases h
    · rw [if_neg h1] at h
      by_cases h2 : fitB f (itm f p).1 (itm f p).2.1 (itm f p).2.2.1 = false
      · rw [if_pos h2] at h; injection h with h; cases h
      · rw [if_neg h2] at h
        have h3 : fitB f (itm f p).1 (itm f p).2.1 (itm f p).2.2.1 = true := by simpa using h2
        unfold fitB at h3
        simp only [Bool.and_eq_true, decide_eq_true_eq] at h3
        obtain ⟨q1, q2, q3, q4, q5⟩ := h3
        have h59 := (lohi f).2.2
        generalize (itm f p).1 = a at *
        generalize (itm f p).2.1 = z at *
        generalize (itm f p).2.2.1 = s at *
        have hne : acc ||| spanN a z s ≠ 0 := fun e => by
          have h4 := congrArg (fun x => Nat.testBit x a) e
          simp only [Nat.testBit_or, Nat.zero_testBit] at h4
          rw [bit_span (by omega)] at h4
          have : inS a z s a = true := by unfold inS; rw [decide_eq_true (Nat.le_refl a), decide_eq_true q2]; simp
          rw [this] at h4
          simp at h4
        obtain ⟨r1, r2, r3⟩ := fieldF_ok r _ acc' h (fun m hm => by
          rw [Nat.testBit_or, Bool.or_eq_true] at hm
          rcases hm with hm | hm
          · exact hb m hm
          · rw [bit_span (by omega)] at hm
            unfold inS at hm
            simp only [Bool.and_eq_true, decide_eq_true_eq] at hm
            unfold inF
            rw [decide_eq_true (show loN f ≤ m by omega), decide_eq_true (show m ≤ hiN f by omega)]; rfl)
          (Nat.or_lt_two_pow (n := 64) hl (spanN_lt _ _ _))
        exact ⟨r1, r2, fun _ => r3 (.inr hne)⟩
theorem fieldM_ok {f : Nat} {l : List UInt8} (h : (fieldM f l).1 = 0) : okB f (fieldM f l).2 (l == [42]) = true ∧ (fieldM f l).2 < 18446744073709551616 := by
  by_cases e : l = [42]
  · have h1 : fieldM f l = (0, maskN f) := by unfold fieldM; rw [if_pos e]
    rw [h1]
    refine ⟨?_, maskN_lt f⟩
    have h2 : maskN f ≠ 0 := fun e => by
      have h3 := congrArg (fun x => Nat.testBit x (hiN f)) e
      simp only [Nat.zero_testBit] at h3
      rw [bit_mask] at h3
      have : inF f (hiN f) = true := by unfold inF; rw [decide_eq_true (show loN f ≤ hiN f by have := lohi f; omega), decide_eq_true (Nat.le_refl _)]; rfl
      rw [this] at h3; cases h3
    show okB f (maskN f) (l == [42]) = true
    unfold okB
    rw [Nat.and_self]
    simp [h2]
  · have h1 : fieldM f l = fieldF f (pieces 44 l) 0 := by unfold fieldM; rw [if_neg e]
    rw [h1] at h ⊢
    rcases hq : fieldF f (pieces 44 l) 0 with ⟨x, y⟩
    rw [hq] at h
    obtain rfl : x = 0 := h
    obtain ⟨r1, r2, r3⟩ := fieldF_ok _ 0 y hq (fun m hm => by simp at hm) (by decide)
    refine ⟨?_, r2⟩
    show okB f y (l == [42]) = true
    rw [okB_end r2 (fun m _ hm => r1 m hm) (fun ha => absurd (by simpa using ha) e)]
    have := r3 (.inl (pieces_ne 44 l))
    simp [this]
theorem errF_all (l : List UInt8) : ∀ (n j : Nat), errF l j n = 0 → ∀ i, j ≤ i → i < j + n → (fieldM i (txtF l i)).1 = 0
  | 0, j, _, i, h1, h2 => by omega
  | n + 1, j, h, i, h1, h2 => by
    have h' : (if (fieldM j (txtF l j)).1 = 0 then errF l (j + 1) n else (fieldM j (txtF l j)).1) = 0 := h
    by_cases e : (fieldM j (txtF l j)).1 = 0
    · rw [if_pos e] at h'
      by_cases ei : i = j
      · rw [ei]; exact e
      · exact errF_all l n (j + 1) h' i (by omega) (by omega)
    · rw [if_neg e] at h'; exact absurd h' e
theorem parse_ok {l : List UInt8} (h : parseE l = 0) : validB (parseC l) = true ∧ (parseC l).wf := by
  have hs : splitB l = true := by
    cases hq : splitB l
    · rw [err_split hq] at h; cases h
    · rfl
  have h1 : errF l 0 5 = 0 := by unfold parseE at h; rwa [if_neg (by rw [hs]; simp)] at h
  have h2 := errF_all l 5 0 h1
  exact ⟨(valid_iff _).2 (fun f hf => (fieldM_ok (h2 f (by omega) (by omega))).1), fun f hf => (fieldM_ok (h2 f (by omega) (by omega))).2⟩
theorem z_wf : zSp.wf := fun _ _ => by show (0 : Nat) < _; decide
end Go.Proofs.YtggaflihblhapaaDoor
