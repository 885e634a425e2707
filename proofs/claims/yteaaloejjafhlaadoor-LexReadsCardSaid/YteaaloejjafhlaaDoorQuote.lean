/-
  quote: a text between double quotes, with a backslash ahead of each double quote and each backslash in it.
-/
import Derived.Test.YteaaloejjafhlaaDoorText
import Derived.Test.YteaaloejjafhlaaDoorBuild
namespace Go.Proofs.YteaaloejjafhlaaDoor
open Go.RowKit

def escByte (c : UInt8) : List UInt8 := if c = 34 ∨ c = 92 then [92, c] else [c]
def esc (l : List UInt8) : List UInt8 := l.flatMap escByte
def quoteL (l : List UInt8) : List UInt8 := 34 :: (esc l ++ [34])

theorem esc_len (l : List UInt8) : (esc l).length ≤ 2 * l.length := by
  unfold esc
  induction l with
  | nil => simp
  | cons c r ih =>
    have : (escByte c).length ≤ 2 := by unfold escByte; split <;> simp
    simp only [List.flatMap_cons, List.length_append, List.length_cons]; omega
theorem esc_snoc_yes (l : List UInt8) (c : UInt8) (h : c = 34 ∨ c = 92) : esc (l ++ [c]) = (esc l ++ [92]) ++ [c] := by
  unfold esc; rw [List.flatMap_append]; simp [escByte, h]
theorem esc_snoc_no (l : List UInt8) (c : UInt8) (h : ¬ (c = 34 ∨ c = 92)) : esc (l ++ [c]) = esc l ++ [c] := by
  unfold esc; rw [List.flatMap_append]; simp [escByte, h]
theorem byte_eq (c : UInt8) (n : Nat) (hn : n < 256) : ((c.toNat : Int) == (n : Int)) = decide (c = UInt8.ofNat n) := by
  rw [Bool.eq_iff_iff]; simp only [beq_iff_eq, decide_eq_true_eq]
  constructor
  · intro h; apply UInt8.toNat_inj.1; rw [UInt8.toNat_ofNat_of_lt' (by simpa using hn)]; omega
  · intro h; rw [h, UInt8.toNat_ofNat_of_lt' (by simpa using hn)]

theorem writeByte_const (n : Int) (c : UInt8) (hc : (c.toNat : Int) = n) (B b : Nat) (l : List UInt8) (w : World) (h : Holds B b l w) (hlen : l.length + 1 ≤ 140737488355328) (hBw : B ≤ w.heap.size) :
    Calls Tryd.prog 48 #[.pointer (some ⟨b, 0, none⟩), .int .u8 n] w fun e w' => e = .returned .nilIface ∧ Holds B b (l ++ [c]) w' ∧ Below B w w' := by
  subst hc; exact writeByte_any B b l c w h hlen hBw

theorem ret_string {a b : List UInt8} (h : a = b) : Ending.returned (.string ⟨a.toArray⟩) = .returned (.string ⟨b.toArray⟩) := by rw [h]

set_option maxHeartbeats 1000000 in
set_option maxRecDepth 100000 in
theorem quote_any (s : ByteArray) (w : World) (hs : s.size ≤ 1000) :
    Calls Tryd.prog 35 #[.string s] w fun e w' => e = .returned (.string ⟨(quoteL s.data.toList).toArray⟩) ∧ Below w.heap.size w w' := by
  have hf := holds_fresh w
  go_enter Tryd.func35, Tryd.ntmps35
  go_wp2_with fail
  refine (writeByte_const 34 34 rfl _ _ _ _ hf (by simp) (by simp)).mono ?_
  rintro e w1 ⟨rfl, h1, hb1⟩
  have hz1 : w.heap.size + 1 ≤ w1.heap.size := by have := hb1.size; simpa using this
  have hb0 : Below w.heap.size w w1 := (Joins.below_alloc1 w _).trans hb1
  clear hb1 hf
  go_wp2_with fail
  go_loopw [8] (fun i wr => ∃ k : Nat, k ≤ s.size ∧ i = .int .i64 k ∧ Holds w.heap.size w.heap.size ([34] ++ esc (s.data.toList.take k)) wr ∧ Below w.heap.size w wr ∧ w.heap.size + 1 ≤ wr.heap.size) (fun i _ => s.size - (intOf i).toNat)
  case atStart => exact ⟨0, Nat.zero_le _, rfl, h1, hb0, hz1⟩
  case round =>
    obtain ⟨k, hk, rfl, hh, hb, hz⟩ := hrel
    clear h1 hb0 hz1
    have hlen : ([34] ++ esc (s.data.toList.take k)).length ≤ 2001 := by
      have := esc_len (s.data.toList.take k)
      have h2 := List.length_take_le k s.data.toList
      simp only [List.length_append, List.length_cons, List.length_nil]; omega
    by_cases hlt : k < s.size
    · have hts := Lib.hid (take_snoc s k hlt)
      by_cases hq : s[k] = 34 ∨ s[k] = 92
      · have HE := Lib.hid (esc_snoc_yes (s.data.toList.take k) s[k] hq)
        have hQ : ((s[k].toNat : Int) == 34) = true ∨ ((s[k].toNat : Int) == 34) = false ∧ ((s[k].toNat : Int) == 92) = true := by
          rw [show (34 : Int) = ((34 : Nat) : Int) from rfl, show (92 : Int) = ((92 : Nat) : Int) from rfl, byte_eq _ 34 (by decide), byte_eq _ 92 (by decide)]
          by_cases h34 : s[k] = 34
          · left; simpa using h34
          · right; exact ⟨by simpa using h34, by simpa [h34] using hq⟩
        clear hq
        rcases hQ with hq1 | ⟨hq1, hq2⟩
        all_goals
          go_wp2_with fail
          refine (writeByte_const 92 92 rfl _ _ _ _ hh (by omega) (by omega)).mono ?_
          rintro e w2 ⟨rfl, h2, hb2⟩
          have hz2 : wr.heap.size ≤ w2.heap.size := hb2.size
          go_wp2_with fail
          refine (writeByte_any _ _ _ s[k] _ h2 (by rw [List.length_append]; simp only [List.length_cons, List.length_nil]; omega) (by omega)).mono ?_
          rintro e w3 ⟨rfl, h3, hb3⟩
          have hz3 : w2.heap.size ≤ w3.heap.size := hb3.size
          have hb4 : Below w.heap.size w w3 := (hb.trans hb2).trans hb3
          clear hb2 hb3 hb h2 hh
          go_wp2_with fail
          go_roundw
          case rel => exact ⟨k + 1, by omega, by go_num, by rw [hts.out, HE.out, ← List.append_assoc, ← List.append_assoc]; exact h3, hb4, by omega⟩
          case measure => simp [intOf]; omega
      · have HE := Lib.hid (esc_snoc_no (s.data.toList.take k) s[k] hq)
        have hQ : ((s[k].toNat : Int) == 34) = false ∧ ((s[k].toNat : Int) == 92) = false := by
          rw [show (34 : Int) = ((34 : Nat) : Int) from rfl, show (92 : Int) = ((92 : Nat) : Int) from rfl, byte_eq _ 34 (by decide), byte_eq _ 92 (by decide)]
          simpa [not_or] using hq
        clear hq
        obtain ⟨hq1, hq2⟩ := hQ
        go_wp2_with fail
        refine (writeByte_any _ _ _ s[k] _ hh (by omega) (by omega)).mono ?_
        rintro e w3 ⟨rfl, h3, hb3⟩
        have hz3 : wr.heap.size ≤ w3.heap.size := hb3.size
        have hb4 : Below w.heap.size w w3 := hb.trans hb3
        clear hb3 hb hh
        go_wp2_with fail
        go_roundw
        case rel => exact ⟨k + 1, by omega, by go_num, by rw [hts.out, HE.out, ← List.append_assoc]; exact h3, hb4, by omega⟩
        case measure => simp [intOf]; omega
    · obtain rfl : k = s.size := by omega
      have htk : s.data.toList.take s.size = s.data.toList := List.take_of_length_le (by simp)
      rw [htk] at hh hlen
      clear htk
      go_wp2_with fail
      refine (writeByte_const 34 34 rfl _ _ _ _ hh (by omega) (by omega)).mono ?_
      rintro e w2 ⟨rfl, h2, hb2⟩
      have hz2 : wr.heap.size ≤ w2.heap.size := hb2.size
      go_wp2_with fail
      refine (string_any _ _ _ _ h2 (by omega)).mono ?_
      rintro e w3 ⟨rfl, hb3⟩
      have hb4 : Below w.heap.size w w3 := (hb.trans hb2).trans hb3
      clear hb2 hb3 hb hh h2
      go_wp2_with fail
      go_ret
      exact ⟨ret_string (by unfold quoteL; simp), hb4⟩
end Go.Proofs.YteaaloejjafhlaaDoor
