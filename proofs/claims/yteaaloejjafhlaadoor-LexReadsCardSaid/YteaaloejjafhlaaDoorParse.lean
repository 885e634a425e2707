/-
  Parse of the text of a valid value is that value; of any text it is a valid value with this text, or refused.
-/
import Derived.Test.YteaaloejjafhlaaDoorBack
namespace Go.Proofs.YteaaloejjafhlaaDoor
open Go.RowKit Go.Sort

theorem list_of (l : List UInt8) : (⟨l.toArray⟩ : ByteArray).data.toList = l := by simp
theorem size_of (l : List UInt8) : (⟨l.toArray⟩ : ByteArray).size = l.length := by simp [ByteArray.size]
theorem toList_of (l : List UInt8) : (⟨l.toArray⟩ : ByteArray).toList = l := by rw [Lib.toList_data, list_of]

theorem read_same {s : ByteArray} {k n : Int} {t : ByteArray} (hr : rightV k n t = true) (hn : I64 n) (hs : s.data.toList = showV k n t) (w : World) :
    Calls Tryd.prog 55 #[.string s] w fun e w' => e = .returned (.tuple #[vVal k n t, .bool true]) ∧ Below w.heap.size w w' := by
  obtain rfl := of_data hs
  clear hs
  rcases rightV_cases hr with ⟨rfl, rfl, rfl⟩ | ⟨rfl, rfl⟩ | ⟨rfl, rfl, h⟩
  · have e : showV 0 0 ⟨#[]⟩ = [110, 117, 108, 108] := by unfold showV; rw [hr]; rfl
    rw [e]
    exact read_null w
  · have e : showV 1 n ⟨#[]⟩ = Lib.itoa n := by unfold showV; rw [hr]; rfl
    rw [e]
    obtain ⟨c, r, ec, hc⟩ := itoa_head n
    refine read_num _ n w (by rw [size_of]; have := itoa_len n hn; omega) ?_ ?_ (by rw [list_of]; exact atoi_itoa n hn)
    · rw [toList_of, ec]
      have : ¬ c = 110 := fun h => by subst h; revert hc; decide
      simp [this]
    · by_cases h2 : 2 ≤ (⟨(Lib.itoa n).toArray⟩ : ByteArray).size
      · refine Or.inr ⟨h2, ?_⟩
        have e0 : (⟨(Lib.itoa n).toArray⟩ : ByteArray)[0] = c := by
          have h3 : 0 < (Lib.itoa n).toArray.size := by rw [ec]; simp
          show (Lib.itoa n).toArray[0]'h3 = c
          simp [ec]
        rw [e0, beq_eq_false_iff_ne]; omega
      · exact Or.inl (by omega)
  · have e : showV 2 0 t = quoteL t.data.toList := by unfold showV; rw [hr]; rfl
    rw [e]
    have hl : (quoteL t.data.toList).length = (esc t.data.toList).length + 2 := by unfold quoteL; simp
    have he := esc_len t.data.toList
    have ht : t.data.toList.length = t.size := Array.length_toList
    have hin : (inner ⟨(quoteL t.data.toList).toArray⟩).data.toList = esc t.data.toList := by
      unfold inner
      rw [Lib.extract_data, list_of, size_of, hl]
      show List.take _ (esc t.data.toList ++ [34]) = _
      rw [show (esc t.data.toList).length + 2 - 1 - 1 = (esc t.data.toList).length by omega, List.take_left]
    have h := read_text ⟨(quoteL t.data.toList).toArray⟩ w (by rw [size_of]; omega) (by rw [size_of]; omega) (by
      have : (⟨(quoteL t.data.toList).toArray⟩ : ByteArray)[0]'(by rw [size_of]; omega) = (34 : UInt8) := rfl
      rw [this]; rfl) (by rw [toList_of]; unfold quoteL; simp)
    rw [hin, unesc_esc] at h
    rw [show (⟨t.data.toList.toArray⟩ : ByteArray) = t from (of_data rfl).symm] at h
    exact h

theorem parse_right (k n : Int) (t : ByteArray) (w : World) (hr : rightV k n t = true) (hn : I64 n) (hT : Tab w) :
    Calls Tryd.prog 44 #[.string ⟨(showV k n t).toArray⟩] w fun e w' => e = .returned (.tuple #[vVal k n t, .int .i64 0]) ∧ Below w.heap.size w w' :=
  parse_some ⟨(showV k n t).toArray⟩ ⟨(showV k n t).toArray⟩ t k n true w (fun w => read_same hr hn (list_of _) w)
    (fun w' hb => show_any k n t w' (by have := rightV_size hr; unfold maxLen; omega) hn (hT.stays hb (Nat.le_refl _))) (by simp)

/-- A valid value whose text is this one, or ErrForm. -/
def ParseRes (s : ByteArray) (w : World) (e : Ending) (w' : World) : Prop :=
  ((∃ (k n : Int) (t : ByteArray), rightV k n t = true ∧ I64 k ∧ I64 n ∧ showV k n t = s.data.toList ∧ e = .returned (.tuple #[vVal k n t, .int .i64 0])) ∨ e = .returned (.tuple #[vNull, .int .i64 20])) ∧ Below w.heap.size w w'

theorem parse_by (s t : ByteArray) (k n : Int) (w : World) (ht : t.size ≤ maxLen) (hk : I64 k) (hn : I64 n) (hne : s.data.toList ≠ []) (hT : Tab w)
    (hR : ∀ w, Calls Tryd.prog 55 #[.string s] w fun e w' => e = .returned (.tuple #[vVal k n t, .bool true]) ∧ Below w.heap.size w w') :
    Calls Tryd.prog 44 #[.string s] w (ParseRes s w) := by
  refine (parse_some s ⟨(showV k n t).toArray⟩ t k n _ w hR (fun w' hb => show_any k n t w' ht hn (hT.stays hb (Nat.le_refl _))) rfl).mono ?_
  rintro e w' ⟨rfl, hb⟩
  refine ⟨?_, hb⟩
  by_cases h : showV k n t = s.data.toList
  · refine Or.inl ⟨k, n, t, ?_, hk, hn, h, ?_⟩
    · cases hr : rightV k n t
      · exfalso; apply hne; rw [← h]; unfold showV; rw [hr]; rfl
      · rfl
    · rw [if_pos (by rw [toList_of, Lib.toList_data, h]; simp)]
  · exact Or.inr (by rw [if_neg (by rw [toList_of, Lib.toList_data]; simpa using h)])

theorem parse_any (s : ByteArray) (w : World) (hs : s.size ≤ 140737488355328) (hT : Tab w) (hE : Errs w) :
    Calls Tryd.prog 44 #[.string s] w (ParseRes s w) := by
  have hl : s.data.toList.length = s.size := Array.length_toList
  by_cases h0 : s.data.toList = [110, 117, 108, 108]
  · refine parse_by s ⟨#[]⟩ 0 0 w (by decide) (by unfold I64; omega) (by unfold I64; omega) (by rw [h0]; simp) hT fun w => ?_
    obtain rfl := of_data h0
    exact read_null w
  have hn : (s.toList == [110, 117, 108, 108]) = false := by rw [Lib.toList_data]; simpa using h0
  by_cases h1 : ∃ h : 2 ≤ s.size, ((s[0].toNat : Int) == 34) = true
  · obtain ⟨h2, hq⟩ := h1
    refine parse_by s _ 2 0 w ?_ (by unfold I64; omega) (by unfold I64; omega) (fun h => by rw [h] at hl; simp at hl; omega) hT fun w => read_text s w hs h2 hq hn
    rw [size_of]
    have h3 := unesc_len (inner s).data.toList
    have h4 : (inner s).data.toList.length = (inner s).size := Array.length_toList
    have h5 : (inner s).size ≤ s.size := by unfold inner; simp; omega
    unfold maxLen; omega
  have hq : (¬ (2 : Int) ≤ (s.size : Int)) ∨ ∃ h : 2 ≤ s.size, ((s[0].toNat : Int) == 34) = false := by
    by_cases h2 : 2 ≤ s.size
    · exact Or.inr ⟨h2, by rw [← Bool.not_eq_true]; exact fun h => h1 ⟨h2, h⟩⟩
    · exact Or.inl (by omega)
  cases hv : Lib.atoiAll s.data.toList with
  | ok v =>
    have hb := Lib.atoiAll_bounds hv
    refine parse_by s ⟨#[]⟩ 1 v w (by decide) (by unfold I64; omega) hb (fun h => ?_) hT fun w => read_num s v w hs hn hq hv
    rw [h] at hv; cases hv
  | _ =>
    refine (parse_none s w fun w' hb => read_no s w' (hE.stays hb (Nat.le_refl _)) hs hn hq (by rw [hv]; intro v h; cases h)).mono ?_
    rintro e w' ⟨rfl, hb⟩
    exact ⟨Or.inr rfl, hb⟩
end Go.Proofs.YteaaloejjafhlaaDoor
