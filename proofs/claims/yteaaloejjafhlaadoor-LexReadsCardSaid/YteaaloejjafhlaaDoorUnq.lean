/-
  unquote: each backslash with a byte behind it is left out; what quote makes is undone.
-/
import Derived.Test.YteaaloejjafhlaaDoorQuote
namespace Go.Proofs.YteaaloejjafhlaaDoor
open Go.RowKit

def unesc : List UInt8 → List UInt8
  | [] => []
  | [c] => [c]
  | c :: d :: r => if c = 92 then d :: unesc r else c :: unesc (d :: r)

theorem esc_cons (c : UInt8) (l : List UInt8) : esc (c :: l) = escByte c ++ esc l := by unfold esc; rw [List.flatMap_cons]
theorem unesc_esc : ∀ l : List UInt8, unesc (esc l) = l
  | [] => rfl
  | c :: l => by
    have ih := unesc_esc l
    rw [esc_cons]
    by_cases h : c = 34 ∨ c = 92
    · have e : escByte c = [92, c] := by unfold escByte; rw [if_pos h]
      rw [e]
      show unesc (92 :: c :: esc l) = c :: l
      rw [unesc, if_pos rfl, ih]
    · have e : escByte c = [c] := by unfold escByte; rw [if_neg h]
      rw [e]
      show unesc (c :: esc l) = c :: l
      generalize esc l = x at ih ⊢
      match x, ih with
      | [], ih => rw [← ih]; rfl
      | d :: r, ih => rw [unesc, if_neg (fun e => h (Or.inr e)), ih]

/-- What has been read up to place k, and what is still to come. -/
theorem unesc_len : ∀ l : List UInt8, (unesc l).length ≤ l.length
  | [] => Nat.le_refl _
  | [_] => Nat.le_refl _
  | c :: d :: r => by
    unfold unesc
    split
    · have := unesc_len r; simp only [List.length_cons]; omega
    · have := unesc_len (d :: r); simp only [List.length_cons] at this ⊢; omega

theorem drop_at {s : ByteArray} {k : Nat} (h : k < s.size) : s.data.toList.drop k = s[k] :: s.data.toList.drop (k + 1) := by
  rw [List.drop_eq_getElem_cons (by simpa using h)]; rfl
theorem unesc_skip {s : ByteArray} {k : Nat} (h : k < s.size) (h2 : k + 1 < s.size) (hc : s[k] = 92) : unesc (s.data.toList.drop k) = s[k + 1] :: unesc (s.data.toList.drop (k + 2)) := by
  rw [drop_at h, drop_at h2, unesc, if_pos hc]
theorem unesc_take {s : ByteArray} {k : Nat} (h : k < s.size) (hc : s[k] ≠ 92 ∨ ¬ k + 1 < s.size) : unesc (s.data.toList.drop k) = s[k] :: unesc (s.data.toList.drop (k + 1)) := by
  rw [drop_at h]
  by_cases h2 : k + 1 < s.size
  · rw [drop_at h2, unesc, if_neg (by rcases hc with hc | hc; exact hc; exact absurd h2 hc)]
  · rw [List.drop_eq_nil_of_le (by simp; omega)]; rfl

set_option maxHeartbeats 1000000 in
set_option maxRecDepth 100000 in
theorem unquote_any (s : ByteArray) (w : World) (hs : s.size ≤ 140737488355328) :
    Calls Tryd.prog 69 #[.string s] w fun e w' => e = .returned (.string ⟨(unesc s.data.toList).toArray⟩) ∧ Below w.heap.size w w' := by
  have hf := holds_fresh w
  have hb0 : Below w.heap.size w (w.alloc (.cells #[.pointer none, .slice none 0 0] 66)) := Joins.below_alloc1 w _
  go_enter Tryd.func69, Tryd.ntmps69
  go_wp2_with fail
  go_loopw [4] (fun i wr => ∃ (k : Nat) (l : List UInt8), k ≤ s.size ∧ i = .int .i64 k ∧ Hid (l ++ unesc (s.data.toList.drop k) = unesc s.data.toList) ∧ l.length ≤ k ∧ Holds w.heap.size w.heap.size l wr ∧ Below w.heap.size w wr ∧ w.heap.size + 1 ≤ wr.heap.size) (fun i _ => s.size - (intOf i).toNat)
  case atStart => exact ⟨0, [], Nat.zero_le _, rfl, Lib.hid rfl, Nat.le_refl _, hf, hb0, by simp⟩
  case round =>
    obtain ⟨k, l, hk, rfl, HL, hl, hh, hb, hz⟩ := hrel
    clear hf hb0
    by_cases hlt : k < s.size
    · by_cases hq : s[k] = 92 ∧ k + 1 < s.size
      · obtain ⟨hq, hq2⟩ := hq
        have hq1 : ((s[k].toNat : Int) == 92) = true := by rw [hq]; rfl
        have HU := Lib.hid (unesc_skip hlt hq2 hq)
        clear hq
        go_wp2_with fail
        refine (writeByte_any _ _ _ s[k + 1] _ hh (by omega) (by omega)).mono ?_
        rintro e w3 ⟨rfl, h3, hb3⟩
        have hz3 : wr.heap.size ≤ w3.heap.size := hb3.size
        have hb4 : Below w.heap.size w w3 := hb.trans hb3
        clear hb3 hb hh
        go_wp2_with fail
        go_roundw
        case rel => exact ⟨k + 2, l ++ [s[k + 1]], by omega, by go_num, Lib.hid (by rw [← HL.out, HU.out, List.append_assoc]; rfl), by simp; omega, h3, hb4, by omega⟩
        case measure => simp [intOf]; omega
      · have HU := Lib.hid (unesc_take hlt (show s[k] ≠ 92 ∨ ¬ k + 1 < s.size by
          by_cases h92 : s[k] = 92
          · exact Or.inr fun h => hq ⟨h92, h⟩
          · exact Or.inl h92))
        have hQ : ((s[k].toNat : Int) == 92) = false ∨ (((s[k].toNat : Int) == 92) = true ∧ ¬ k + 1 < s.size) := by
          rw [show (92 : Int) = ((92 : Nat) : Int) from rfl, byte_eq _ 92 (by decide)]
          by_cases h92 : s[k] = 92
          · exact Or.inr ⟨by simpa using h92, fun h => hq ⟨h92, h⟩⟩
          · exact Or.inl (by simpa using h92)
        clear hq
        rcases hQ with hq1 | ⟨hq1, hq2⟩
        all_goals
          go_wp2_with fail
          refine (writeByte_any _ _ _ s[k] _ hh (by omega) (by omega)).mono ?_
          rintro e w3 ⟨rfl, h3, hb3⟩
          have hz3 : wr.heap.size ≤ w3.heap.size := hb3.size
          have hb4 : Below w.heap.size w w3 := hb.trans hb3
          clear hb3 hb hh
          go_wp2_with fail
          go_roundw
          case rel => exact ⟨k + 1, l ++ [s[k]], by omega, by go_num, Lib.hid (by rw [← HL.out, HU.out, List.append_assoc]; rfl), by simp; omega, h3, hb4, by omega⟩
          case measure => simp [intOf]; omega
    · have HE : Hid (l = unesc s.data.toList) := Lib.hid (by
        have := HL.out
        rw [List.drop_eq_nil_of_le (by simp; omega)] at this
        simpa [unesc] using this)
      go_wp2_with fail
      refine (string_any _ _ _ _ hh (by omega)).mono ?_
      rintro e w3 ⟨rfl, hb3⟩
      have hb4 : Below w.heap.size w w3 := hb.trans hb3
      clear hb3 hb hh
      go_wp2_with fail
      go_ret
      exact ⟨ret_string HE.out, hb4⟩
end Go.Proofs.YteaaloejjafhlaaDoor
