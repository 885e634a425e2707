/-
  The document's answer on validity (ref, Right) and the laws' guard (right): the same function as the program's.
  The document's text of a number (Number) and of a value (Show): the program's texts.
  What Parse tells of any text; and of the text of a valid value: that value.
  Parse of the text of a valid value is that value; of any text it is a valid value with this text, or refused.
-/
import Derived.Test.YtljoajjlkjjgeaaGreatDoorMV1
import Derived.Lib.ItoaNum
import Derived.Lib.ItoaLen
import Derived.Laws.IdiomStrings
import Derived.Lib.IndexBytes
import Derived.Test.YtljoajjlkjjgeaaGreatDoorMV2
namespace Go.Proofs.YtljoajjlkjjgeaaGreatDoor
open Go.RowKit

theorem size_zero {s : ByteArray} (h : s.size = 0) : s.data.toList = [] := by
 have : s.data.toList.length = s.size := by simp
 exact List.eq_nil_of_length_eq_zero (by omega)
theorem isEmpty_size (s : ByteArray) : s.toList.isEmpty = decide (s.size = 0) := by
 have : s.data.toList.length = s.size := by simp
 rw [Lib.toList_data, Bool.eq_iff_iff, List.isEmpty_iff, decide_eq_true_iff]
 constructor
 ·intro h; rw [h] at this; simpa using this.symm
 ·intro h; exact size_zero h
theorem rightV_all {k n : Int} {s : ByteArray} (h : (k = 0 ∧ n = 0 ∧ s.size = 0) ∨ (k = 1 ∧ s.size = 0) ∨ (k = 2 ∧ n = 0 ∧ s.size ≤ 64)) : rightV k n s = s.data.toList.all okByte := by
 rcases h with ⟨rfl, rfl, h⟩ | ⟨rfl, h⟩ | ⟨rfl, rfl, h⟩
 ·unfold rightV; rw [isEmpty_size, size_zero h]; simp [h]
 ·unfold rightV; rw [isEmpty_size, size_zero h]; simp [h]
 ·unfold rightV rightT; simp [h]
theorem rightV_none {k n : Int} {s : ByteArray} (h : ¬ ((k = 0 ∧ n = 0 ∧ s.size = 0) ∨ (k = 1 ∧ s.size = 0) ∨ (k = 2 ∧ n = 0 ∧ s.size ≤ 64))) : rightV k n s = false := by
 unfold rightV rightT; rw [isEmpty_size]
 by_cases h0 : k = 0
 ·subst h0; simp at h ⊢; intro h1; exact h h1
 by_cases h1 : k = 1
 ·subst h1; simp at h ⊢; exact h
 by_cases h2 : k = 2
 ·subst h2; simp at h ⊢; intro h3 h4; exact absurd h4 (by have := h h3; omega)
 ·simp [h0, h1, h2]

def allOk (s : ByteArray) : Bool := s.data.toList.all okByte
theorem all_no {s : ByteArray} {k : Nat} (h : k < s.size) (hc : (s[k].toNat : Int) < 32 ∨ 126 < (s[k].toNat : Int)) : allOk s = false :=
 all_not h (by unfold okByte; simp; omega)

/-- What a valid value is. -/
theorem rightV_cases {k n : Int} {s : ByteArray} (h : rightV k n s = true) : (k = 0 ∧ n = 0 ∧ s = ⟨#[]⟩) ∨ (k = 1 ∧ s = ⟨#[]⟩) ∨ (k = 2 ∧ n = 0 ∧ s.size ≤ 64) := by
 have hz : ∀ t : ByteArray, t.size = 0 → t = ⟨#[]⟩ := fun t ht => by
  have h1 := size_zero ht
  cases t with
  | mk d => cases d with
   | mk l => simp at h1; subst h1; rfl
 by_cases hh : (k = 0 ∧ n = 0 ∧ s.size = 0) ∨ (k = 1 ∧ s.size = 0) ∨ (k = 2 ∧ n = 0 ∧ s.size ≤ 64)
 ·rcases hh with ⟨h1, h2, h3⟩ | ⟨h1, h2⟩ | h1
  ·exact Or.inl ⟨h1, h2, hz s h3⟩
  ·exact Or.inr (Or.inl ⟨h1, hz s h2⟩)
  ·exact Or.inr (Or.inr h1)
 ·rw [rightV_none hh] at h; cases h
end Go.Proofs.YtljoajjlkjjgeaaGreatDoor
namespace Go.Proofs.YtljoajjlkjjgeaaGreatDoor
open Go.RowKit

/-- string([]byte{x}). -/
theorem conv_one (x : Int) (d : UInt8) (hd : (d.toNat : Int) = x) (w : World) :
  (convert 90 9 (.slice (some ⟨w.heap.size, 0, none⟩) 1 1)).run Tryz.prog (w.alloc (.cells #[.int .u8 x] 5)) = .ok (.string ⟨#[d]⟩) (w.alloc (.cells #[.int .u8 x] 5)) := by
 refine run_convert_bytes_back (w.alloc (.cells #[.int .u8 x] 5)) 90 9 5 ⟨w.heap.size, 0, none⟩ 1 [d] Tryz.underlying90 Tryz.underlying5 Tryz.underlying9 ?_
 intro j hj
 obtain rfl : j = 0 := by simpa using hj
 subst hd
 simp [Addr.add]

theorem cat_eq (a b : List UInt8) : (⟨a.toArray⟩ ++ ⟨b.toArray⟩ : ByteArray) = ⟨(a ++ b).toArray⟩ := by
 have h : (⟨a.toArray⟩ ++ ⟨b.toArray⟩ : ByteArray).data = (a ++ b).toArray := by simp [ByteArray.data_append]
 rw [show (⟨a.toArray⟩ ++ ⟨b.toArray⟩ : ByteArray) = ⟨(⟨a.toArray⟩ ++ ⟨b.toArray⟩ : ByteArray).data⟩ from rfl, h]
/-- The byte of a digit. -/
def dig (u : Nat) : UInt8 := UInt8.ofNat (48 + u % 10)
theorem dig_val (u : Nat) : ((dig u).toNat : Int) = 48 + ((u % 10 : Nat) : Int) := by
 unfold dig; rw [UInt8.toNat_ofNat_of_lt' (by have := Nat.mod_lt u (show 0 < 10 by decide); show _ < 256; omega)]; omega
theorem dec_small {u : Nat} (h : u < 10) : Lib.decDigits u = [dig u] := by rw [Lib.decDigits, dif_pos h]; unfold dig; rw [Nat.mod_eq_of_lt h]
theorem dec_big {u : Nat} (h : ¬ u < 10) : Lib.decDigits u = Lib.decDigits (u / 10) ++ [dig u] := by rw [Lib.decDigits, dif_neg h]; rfl

theorem dec_len (u : Nat) (h : u < 18446744073709551616) : (Lib.decDigits u).length ≤ 20 := by rw [Lib.decDigits_length]; exact Lib.nDigits_le20 u h

theorem tmod_neg10 {n : Int} (h : n < 0) : n.tmod 10 = -((n.natAbs % 10 : Nat) : Int) := by
 have h1 : n = -((n.natAbs : Nat) : Int) := by omega
 conv => lhs; rw [h1]
 rw [Int.neg_tmod, Int.tmod_eq_emod_of_nonneg (by omega)]
 omega
theorem tdiv_neg10 {n : Int} (h : n < 0) : -(n.tdiv 10) = ((n.natAbs / 10 : Nat) : Int) := by
 have h1 : n = -((n.natAbs : Nat) : Int) := by omega
 conv => lhs; rw [h1]
 rw [Int.neg_tdiv, Int.tdiv_eq_ediv_of_nonneg (by omega)]
 omega

theorem cat_data (a b : ByteArray) : (a ++ b).data.toList = a.data.toList ++ b.data.toList := by simp [ByteArray.data_append]
theorem cat_size (a b : ByteArray) : (a ++ b).size = a.size + b.size := by simp [ByteArray.size_append]
theorem cut_one {s : ByteArray} {k : Nat} (h : k < s.size) : (s.extract k (k + 1)).data.toList = [s[k]] := by
 rw [Lib.extract_data, show k + 1 - k = 1 by omega, List.drop_eq_getElem_cons (by simpa using h)]
 rfl
theorem cut_size {s : ByteArray} {k : Nat} (h : k < s.size) : (s.extract k (k + 1)).size = 1 := by
 have h2 : (s.extract k (k + 1)).data.toList.length = (s.extract k (k + 1)).size := Array.length_toList
 rw [cut_one h] at h2
 exact h2.symm
theorem of_dataK {b : ByteArray} {l : List UInt8} (h : b.data.toList = l) : b = ⟨l.toArray⟩ := by
 cases b with | mk d => simp at h; subst h; simp

end Go.Proofs.YtljoajjlkjjgeaaGreatDoor
namespace Go.Proofs.YtljoajjlkjjgeaaGreatDoor
open Go.RowKit Go.Sort

theorem parse_dec : ∀ (k u : Nat) (r : List UInt8), u ≤ k → u < 18446744073709551616 → Lib.parseUint10 0 (Lib.decDigits u ++ r) = Lib.parseUint10 u r
 | k, u, r, hk, hu => by
  have hd : (dig u).toNat = 48 + u % 10 := by have := dig_val u; omega
  by_cases h : u < 10
  ·rw [dec_small h]
   show Lib.parseUint10 0 (dig u :: r) = _
   unfold Lib.parseUint10
   rw [hd, if_pos (by omega), if_neg (by omega), if_neg (by omega)]
   rw [show 0 * 10 + (48 + u % 10 - 48) = u by omega]
   cases r <;> rfl
  ·match k, hk with
   | 0, hk => omega
   | k + 1, hk =>
    rw [dec_big h, List.append_assoc, parse_dec k (u / 10) _ (by omega) (by omega)]
    show Lib.parseUint10 (u / 10) (dig u :: r) = _
    conv => lhs; unfold Lib.parseUint10
    rw [hd, if_pos (by omega), if_neg (by omega), if_neg (by omega)]
    rw [show u / 10 * 10 + (48 + u % 10 - 48) = u by omega]
theorem dec_ne (u : Nat) : Lib.decDigits u ≠ [] := by
 intro h
 have := Lib.decDigits_length u
 have h2 := Lib.nDigits_pos u
 rw [h] at this; simp at this; omega
theorem mag_dec (u : Nat) (hu : u < 18446744073709551616) : Lib.parseMag (Lib.decDigits u) = .ok u := by
 unfold Lib.parseMag
 rw [if_neg (dec_ne u)]
 have h := parse_dec u u [] (Nat.le_refl _) hu
 rw [List.append_nil] at h
 rw [h]; rfl
theorem dec_head : ∀ (k u : Nat), u ≤ k → ∃ c r, Lib.decDigits u = c :: r ∧ 48 ≤ c.toNat ∧ c.toNat ≤ 57
 | k, u, hk => by
  have hd : (dig u).toNat = 48 + u % 10 := by have := dig_val u; omega
  by_cases h : u < 10
  ·exact ⟨dig u, [], dec_small h, by omega, by omega⟩
  ·match k, hk with
   | 0, hk => omega
   | k + 1, hk =>
    obtain ⟨c, r, e, h1, h2⟩ := dec_head k (u / 10) (by omega)
    exact ⟨c, r ++ [dig u], by rw [dec_big h, e]; rfl, h1, h2⟩
theorem atoi_itoa (n : Int) (hn : I64 n) : Lib.atoiAll (Lib.itoa n) = .ok n := by
 unfold I64 at hn
 unfold Lib.itoa
 by_cases h0 : n < 0
 ·rw [if_pos h0]
  unfold Lib.atoiAll
  have hm := mag_dec n.natAbs (by omega)
  simp only [show ((45 : UInt8).toNat = 43 ∨ (45 : UInt8).toNat = 45) = True by simp, if_true, hm]
  rw [if_neg (by simp), if_neg (by omega)]
  simp only [show ((45 : UInt8).toNat = 45) = True by simp, if_true]
  congr 1; omega
 ·rw [if_neg h0]
  have hm := mag_dec n.toNat (by omega)
  obtain ⟨c, r, e, h1, h2⟩ := dec_head n.toNat n.toNat (Nat.le_refl _)
  rw [e] at hm ⊢
  unfold Lib.atoiAll
  have c43 : ¬ (c.toNat = 43 ∨ c.toNat = 45) := by omega
  have c45 : ¬ (c.toNat = 45) := by omega
  simp only [if_neg c43, hm, if_neg c45]
  rw [if_neg (by omega), if_neg (by omega)]
  congr 1; omega
theorem itoa_head (n : Int) : ∃ c r, Lib.itoa n = c :: r ∧ (c.toNat = 45 ∨ (48 ≤ c.toNat ∧ c.toNat ≤ 57)) := by
 unfold Lib.itoa
 by_cases h0 : n < 0
 ·rw [if_pos h0]; exact ⟨45, _, rfl, Or.inl rfl⟩
 ·rw [if_neg h0]
  obtain ⟨c, r, e, h1, h2⟩ := dec_head n.toNat n.toNat (Nat.le_refl _)
  exact ⟨c, r, e, Or.inr ⟨h1, h2⟩⟩
theorem itoa_len (n : Int) (hn : I64 n) : (Lib.itoa n).length ≤ 21 := by
 unfold I64 at hn
 unfold Lib.itoa
 by_cases h0 : n < 0
 ·rw [if_pos h0]; have := dec_len n.natAbs (by omega); simp only [List.length_cons]; omega
 ·rw [if_neg h0]; have := dec_len n.toNat (by omega); omega
end Go.Proofs.YtljoajjlkjjgeaaGreatDoor
namespace Go.Proofs.YtljoajjlkjjgeaaGreatDoor
open Go.RowKit Go.Sort

theorem toList_of (l : List UInt8) : (⟨l.toArray⟩ : ByteArray).toList = l := by rw [Lib.toList_data, list_of]

theorem read_same {s : ByteArray} {k n : Int} {t : ByteArray} (hr : rightV k n t = true) (hn : I64 n) (hs : s.data.toList = showV k n t) (w : World) :
  Calls Tryz.prog 137 #[.string s] w fun e w' => e = .returned (.tuple #[vVal k n t, .bool true]) ∧ Below w.heap.size w w' := by
 obtain rfl := of_dataK hs
 clear hs
 rcases rightV_cases hr with ⟨rfl, rfl, rfl⟩ | ⟨rfl, rfl⟩ | ⟨rfl, rfl, h⟩
 ·have e : showV 0 0 ⟨#[]⟩ = [110, 117, 108, 108] := by unfold showV; rw [hr]; rfl
  rw [e]
  exact read_null w
 ·have e : showV 1 n ⟨#[]⟩ = Lib.itoa n := by unfold showV; rw [hr]; rfl
  rw [e]
  obtain ⟨c, r, ec, hc⟩ := itoa_head n
  refine read_num _ n w (by rw [size_of]; have := itoa_len n hn; omega) ?_ ?_ (by rw [list_of]; exact atoi_itoa n hn)
  ·rw [toList_of, ec]
   have : ¬ c = 110 := fun h => by subst h; revert hc; decide
   simp [this]
  ·by_cases h2 : 2 ≤ (⟨(Lib.itoa n).toArray⟩ : ByteArray).size
   ·refine Or.inr ⟨h2, ?_⟩
    have e0 : (⟨(Lib.itoa n).toArray⟩ : ByteArray)[0] = c := by
     have h3 : 0 < (Lib.itoa n).toArray.size := by rw [ec]; simp
     show (Lib.itoa n).toArray[0]'h3 = c
     simp [ec]
    rw [e0, beq_eq_false_iff_ne]; omega
   ·exact Or.inl (by omega)
 ·have e : showV 2 0 t = quoteL t.data.toList := by unfold showV; rw [hr]; rfl
  rw [e]
  have hl : (quoteL t.data.toList).length = (esc t.data.toList).length + 2 := by unfold quoteL; simp
  have he := esc_len t.data.toList
  have ht : t.data.toList.length = t.size := Array.length_toList
  have hin : (inner ⟨(quoteL t.data.toList).toArray⟩).data.toList = esc t.data.toList := by
   unfold inner
   rw [Lib.extract_data, list_of, size_of, hl]
   show List.take _ (esc t.data.toList ++ [34]) = _
   rw [show (esc t.data.toList).length + 2 - 1 - 1 = (esc t.data.toList).length by omega, List.take_left]
  have h := read_text ⟨(quoteL t.data.toList).toArray⟩ w (by rw [size_of]; omega) (by rw [size_of]; omega) (by
   have : (⟨(quoteL t.data.toList).toArray⟩ : ByteArray)[0]'(by rw [size_of]; omega) = (34 : UInt8) := rfl
   rw [this]; rfl) (by rw [toList_of]; unfold quoteL; simp)
  rw [hin, unesc_esc] at h
  rw [show (⟨t.data.toList.toArray⟩ : ByteArray) = t from (of_dataK rfl).symm] at h
  exact h

theorem parse_right (k n : Int) (t : ByteArray) (w : World) (hr : rightV k n t = true) (hn : I64 n) (hT : Tab w) :
  Calls Tryz.prog 125 #[.string ⟨(showV k n t).toArray⟩] w fun e w' => e = .returned (.tuple #[vVal k n t, .int .i64 0]) ∧ Below w.heap.size w w' :=
 parse_some ⟨(showV k n t).toArray⟩ ⟨(showV k n t).toArray⟩ t k n true w (fun w => read_same hr hn (list_of _) w)
  (fun w' hb => show_any k n t w' (by have := rightV_size hr; unfold maxLen; omega) hn (hT.stays hb (Nat.le_refl _))) (by simp)

/-- A valid value whose text is this one, or ErrForm. -/
def ParseRes (s : ByteArray) (w : World) (e : Ending) (w' : World) : Prop :=
 ((∃ (k n : Int) (t : ByteArray), rightV k n t = true ∧ I64 k ∧ I64 n ∧ showV k n t = s.data.toList ∧ e = .returned (.tuple #[vVal k n t, .int .i64 0])) ∨ e = .returned (.tuple #[vNull, .int .i64 20])) ∧ Below w.heap.size w w'

theorem parse_by (s t : ByteArray) (k n : Int) (w : World) (ht : t.size ≤ maxLen) (hk : I64 k) (hn : I64 n) (hne : s.data.toList ≠ []) (hT : Tab w)
  (hR : ∀ w, Calls Tryz.prog 137 #[.string s] w fun e w' => e = .returned (.tuple #[vVal k n t, .bool true]) ∧ Below w.heap.size w w') :
  Calls Tryz.prog 125 #[.string s] w (ParseRes s w) := by
 refine (parse_some s ⟨(showV k n t).toArray⟩ t k n _ w hR (fun w' hb => show_any k n t w' ht hn (hT.stays hb (Nat.le_refl _))) rfl).mono ?_
 rintro e w' ⟨rfl, hb⟩
 refine ⟨?_, hb⟩
 by_cases h : showV k n t = s.data.toList
 ·refine Or.inl ⟨k, n, t, ?_, hk, hn, h, ?_⟩
  ·cases hr : rightV k n t
   ·exfalso; apply hne; rw [← h]; unfold showV; rw [hr]; rfl
   ·rfl
  ·rw [if_pos (by rw [toList_of, Lib.toList_data, h]; simp)]
 ·exact Or.inr (by rw [if_neg (by rw [toList_of, Lib.toList_data]; simpa using h)])

theorem parse_any (s : ByteArray) (w : World) (hs : s.size ≤ 140737488355328) (hT : Tab w) (hE : Errs w) :
  Calls Tryz.prog 125 #[.string s] w (ParseRes s w) := by
 have hl : s.data.toList.length = s.size := Array.length_toList
 by_cases h0 : s.data.toList = [110, 117, 108, 108]
 ·refine parse_by s ⟨#[]⟩ 0 0 w (by decide) (by unfold I64; omega) (by unfold I64; omega) (by rw [h0]; simp) hT fun w => ?_
  obtain rfl := of_dataK h0
  exact read_null w
 have hn : (s.toList == [110, 117, 108, 108]) = false := by rw [Lib.toList_data]; simpa using h0
 by_cases h1 : ∃ h : 2 ≤ s.size, ((s[0].toNat : Int) == 34) = true
 ·obtain ⟨h2, hq⟩ := h1
  refine parse_by s _ 2 0 w ?_ (by unfold I64; omega) (by unfold I64; omega) (fun h => by rw [h] at hl; simp at hl; omega) hT fun w => read_text s w hs h2 hq hn
  rw [size_of]
  have h3 := unesc_len (inner s).data.toList
  have h4 : (inner s).data.toList.length = (inner s).size := Array.length_toList
  have h5 : (inner s).size ≤ s.size := by unfold inner; simp; omega
  unfold maxLen; omega
 have hq : (¬ (2 : Int) ≤ (s.size : Int)) ∨ ∃ h : 2 ≤ s.size, ((s[0].toNat : Int) == 34) = false := by
  by_cases h2 : 2 ≤ s.size
  ·exact Or.inr ⟨h2, by rw [← Bool.not_eq_true]; exact fun h => h1 ⟨h2, h⟩⟩
  ·exact Or.inl (by omega)
 cases hv : Lib.atoiAll s.data.toList with
 | ok v =>
  have hb := Lib.atoiAll_bounds hv
  refine parse_by s ⟨#[]⟩ 1 v w (by decide) (by unfold I64; omega) hb (fun h => ?_) hT fun w => read_num s v w hs hn hq hv
  rw [h] at hv; cases hv
 | _ =>
  refine (parse_none s w fun w' hb => read_no s w' (hE.stays hb (Nat.le_refl _)) hs hn hq (by rw [hv]; intro v h; cases h)).mono ?_
  rintro e w' ⟨rfl, hb⟩
  exact ⟨Or.inr rfl, hb⟩
end Go.Proofs.YtljoajjlkjjgeaaGreatDoor
