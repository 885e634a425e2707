/-
  The document's text of a number (Number) and of a value (Show): the program's texts.
-/
import Derived.Test.YthjlfhkmbhcpaaaDoorRef
import Derived.Test.YthjlfhkmbhcpaaaDoorQuote
import Derived.Lib.ItoaNum
import Derived.Lib.ItoaLen
import Derived.Laws.IdiomStrings
import Derived.Lib.IndexBytes
import Derived.Test.YthjlfhkmbhcpaaaDoorShow
namespace Go.Proofs.YthjlfhkmbhcpaaaDoor
open Go.RowKit

/-- string([]byte{x}). -/
theorem conv_one (x : Int) (d : UInt8) (hd : (d.toNat : Int) = x) (w : World) :
    (convert 64 9 (.slice (some ⟨w.heap.size, 0, none⟩) 1 1)).run Tryd.prog (w.alloc (.cells #[.int .u8 x] 5)) = .ok (.string ⟨#[d]⟩) (w.alloc (.cells #[.int .u8 x] 5)) := by
  refine run_convert_bytes_back (w.alloc (.cells #[.int .u8 x] 5)) 64 9 5 ⟨w.heap.size, 0, none⟩ 1 [d] Tryd.underlying64 Tryd.underlying5 Tryd.underlying9 ?_
  intro j hj
  obtain rfl : j = 0 := by simpa using hj
  subst hd
  simp [Addr.add]

theorem cat_eq (a b : List UInt8) : (⟨a.toArray⟩ ++ ⟨b.toArray⟩ : ByteArray) = ⟨(a ++ b).toArray⟩ := by
  have h : (⟨a.toArray⟩ ++ ⟨b.toArray⟩ : ByteArray).data = (a ++ b).toArray := by simp [ByteArray.data_append]
  rw [show (⟨a.toArray⟩ ++ ⟨b.toArray⟩ : ByteArray) = ⟨(⟨a.toArray⟩ ++ ⟨b.toArray⟩ : ByteArray).data⟩ from rfl, h]
/-- The byte of a digit. -/
def dig (u : Nat) : UInt8 := UInt8.ofNat (48 + u % 10)
theorem dig_val (u : Nat) : ((dig u).toNat : Int) = 48 + ((u % 10 : Nat) : Int) := by
  unfold dig; rw [UInt8.toNat_ofNat_of_lt' (by have := Nat.mod_lt u (show 0 < 10 by decide); show _ < 256; omega)]; omega
theorem dec_small {u : Nat} (h : u < 10) : Lib.decDigits u = [dig u] := by rw [Lib.decDigits, dif_pos h]; unfold dig; rw [Nat.mod_eq_of_lt h]
theorem dec_big {u : Nat} (h : ¬ u < 10) : Lib.decDigits u = Lib.decDigits (u / 10) ++ [dig u] := by rw [Lib.decDigits, dif_neg h]; rfl

theorem dec_len (u : Nat) (h : u < 18446744073709551616) : (Lib.decDigits u).length ≤ 20 := by rw [Lib.decDigits_length]; exact Lib.nDigits_le20 u h

set_option maxHeartbeats 1000000 in
set_option maxRecDepth 100000 in
theorem number_small (u : Nat) (w : World) (h1 : u < 10) :
    Calls Tryd.prog 39 #[.int .i64 u] w fun e w' => e = .returned (.string ⟨(Lib.decDigits u).toArray⟩) ∧ Below w.heap.size w w' := by
  have g : ¬ (u : Int) < 0 := by omega
  have g1 : ¬ (10 : Int) ≤ (u : Int) := by omega
  have hcv := fun w => conv_one (48 + (u : Int) % 10) (dig u) (by rw [dig_val]; omega) w
  have HD := Lib.hid (dec_small h1)
  clear h1
  go_enter Tryd.func39, Tryd.ntmps39
  go_wp2_with fail
  go_ret
  exact ⟨ret_string (by rw [HD.out]), by go_grown⟩

set_option maxHeartbeats 1000000 in
set_option maxRecDepth 100000 in
theorem number_big (u : Nat) (w : World) (h1 : ¬ u < 10) (hu : (u : Int) ≤ 9223372036854775807)
    (ih : ∀ w, Calls Tryd.prog 39 #[.int .i64 ((u / 10 : Nat) : Int)] w fun e w' => e = .returned (.string ⟨(Lib.decDigits (u / 10)).toArray⟩) ∧ Below w.heap.size w w') :
    Calls Tryd.prog 39 #[.int .i64 u] w fun e w' => e = .returned (.string ⟨(Lib.decDigits u).toArray⟩) ∧ Below w.heap.size w w' := by
  have g : ¬ (u : Int) < 0 := by omega
  have g1 : (10 : Int) ≤ (u : Int) := by omega
  have hcv := fun w => conv_one (48 + (u : Int) % 10) (dig u) (by rw [dig_val]; omega) w
  have HD := Lib.hid (dec_big h1)
  have hl := dec_len (u / 10) (by omega)
  have IH := Lib.hid ih
  have hl2 : ¬ 9223372036854775807 < (Lib.decDigits (u / 10)).length + 1 := by omega
  clear h1 ih hl
  go_enter Tryd.func39, Tryd.ntmps39
  go_wp2_with fail
  refine (IH.out _).mono ?_
  rintro e w1 ⟨rfl, hb1⟩
  have q1 : Below w.heap.size w w1 := (Joins.below_alloc1 w _).trans (hb1.mono (by simp))
  clear hb1
  go_wp2_with fail
  go_ret
  exact ⟨by rw [HD.out]; exact congrArg (fun b => Ending.returned (.string b)) (cat_eq _ _), q1⟩

theorem tmod_neg10 {n : Int} (h : n < 0) : n.tmod 10 = -((n.natAbs % 10 : Nat) : Int) := by
  have h1 : n = -((n.natAbs : Nat) : Int) := by omega
  conv => lhs; rw [h1]
  rw [Int.neg_tmod, Int.tmod_eq_emod_of_nonneg (by omega)]
  omega
theorem tdiv_neg10 {n : Int} (h : n < 0) : -(n.tdiv 10) = ((n.natAbs / 10 : Nat) : Int) := by
  have h1 : n = -((n.natAbs : Nat) : Int) := by omega
  conv => lhs; rw [h1]
  rw [Int.neg_tdiv, Int.tdiv_eq_ediv_of_nonneg (by omega)]
  omega

set_option maxHeartbeats 1000000 in
set_option maxRecDepth 100000 in
theorem number_neg_small (n : Int) (w : World) (h0 : n < 0) (h1 : -10 < n) :
    Calls Tryd.prog 39 #[.int .i64 n] w fun e w' => e = .returned (.string ⟨(45 :: Lib.decDigits n.natAbs).toArray⟩) ∧ Below w.heap.size w w' := by
  have hm := tmod_neg10 h0
  have b1 : -9 ≤ n.tmod 10 := by omega
  have b2 : n.tmod 10 ≤ 0 := by omega
  have hcv := fun w => conv_one (48 - n.tmod 10) (dig n.natAbs) (by rw [dig_val]; omega) w
  have HD := Lib.hid (dec_small (u := n.natAbs) (by omega))
  have g : ¬ n ≤ -10 := by omega
  clear hm
  go_enter Tryd.func39, Tryd.ntmps39
  go_wp2_with fail
  go_ret
  exact ⟨by rw [HD.out]; exact congrArg (fun b => Ending.returned (.string b)) (cat_eq [45] _), by go_grown⟩

set_option maxHeartbeats 1000000 in
set_option maxRecDepth 100000 in
theorem number_neg_big (n : Int) (w : World) (hn : I64 n) (h0 : n ≤ -10)
    (ih : ∀ w, Calls Tryd.prog 39 #[.int .i64 (-(n.tdiv 10))] w fun e w' => e = .returned (.string ⟨(Lib.decDigits (n.natAbs / 10)).toArray⟩) ∧ Below w.heap.size w w') :
    Calls Tryd.prog 39 #[.int .i64 n] w fun e w' => e = .returned (.string ⟨(45 :: Lib.decDigits n.natAbs).toArray⟩) ∧ Below w.heap.size w w' := by
  have h0' : n < 0 := by omega
  have hm := tmod_neg10 h0'
  have hd := tdiv_neg10 h0'
  unfold I64 at hn
  have b1 : -9 ≤ n.tmod 10 := by omega
  have b2 : n.tmod 10 ≤ 0 := by omega
  have b3 : n.tdiv 10 ≤ 0 := by omega
  have b4 : -1000000000000000000 ≤ n.tdiv 10 := by omega
  have hcv := fun w => conv_one (48 - n.tmod 10) (dig n.natAbs) (by rw [dig_val]; omega) w
  have HD := Lib.hid (dec_big (u := n.natAbs) (by omega))
  have hl := dec_len (n.natAbs / 10) (by omega)
  have hl2 : ¬ 9223372036854775807 < (Lib.decDigits (n.natAbs / 10)).length + 1 := by omega
  have hl3 : ¬ 9223372036854775807 < 1 + ((Lib.decDigits (n.natAbs / 10)).length + 1) := by omega
  have IH := Lib.hid ih
  clear hm hd ih hl hn
  go_enter Tryd.func39, Tryd.ntmps39
  go_wp2_with fail
  refine (IH.out _).mono ?_
  rintro e w1 ⟨rfl, hb1⟩
  have q1 : Below w.heap.size w w1 := (Joins.below_alloc1 w _).trans (hb1.mono (by simp))
  clear hb1
  go_wp2_with fail
  go_ret
  exact ⟨by rw [HD.out]; exact congrArg (fun b => Ending.returned (.string b)) (by rw [show ({ data := #[dig n.natAbs] } : ByteArray) = ⟨[dig n.natAbs].toArray⟩ from rfl, cat_eq]; exact cat_eq [45] _), q1⟩

theorem number_nat : ∀ (k u : Nat) (w : World), u ≤ k → (u : Int) ≤ 9223372036854775807 →
    Calls Tryd.prog 39 #[.int .i64 u] w fun e w' => e = .returned (.string ⟨(Lib.decDigits u).toArray⟩) ∧ Below w.heap.size w w'
  | 0, u, w, hk, _ => number_small u w (by omega)
  | k + 1, u, w, hk, hu => by
    by_cases h : u < 10
    · exact number_small u w h
    · exact number_big u w h hu fun w => number_nat k (u / 10) w (by omega) (by omega)
theorem number_any (n : Int) (w : World) (hn : I64 n) :
    Calls Tryd.prog 39 #[.int .i64 n] w fun e w' => e = .returned (.string ⟨(Lib.itoa n).toArray⟩) ∧ Below w.heap.size w w' := by
  by_cases h0 : n < 0
  · rw [show Lib.itoa n = 45 :: Lib.decDigits n.natAbs by unfold Lib.itoa; rw [if_pos h0]]
    by_cases h1 : -10 < n
    · exact number_neg_small n w h0 h1
    · refine number_neg_big n w hn (by omega) fun w => ?_
      rw [tdiv_neg10 h0]
      exact number_nat _ _ w (Nat.le_refl _) (by unfold I64 at hn; omega)
  · rw [show Lib.itoa n = Lib.decDigits n.toNat by unfold Lib.itoa; rw [if_neg h0]]
    have h := number_nat n.toNat n.toNat w (Nat.le_refl _) (by unfold I64 at hn; omega)
    rw [Int.toNat_of_nonneg (by omega)] at h
    exact h

theorem cat_data (a b : ByteArray) : (a ++ b).data.toList = a.data.toList ++ b.data.toList := by simp [ByteArray.data_append]
theorem cat_size (a b : ByteArray) : (a ++ b).size = a.size + b.size := by simp [ByteArray.size_append]
theorem cut_one {s : ByteArray} {k : Nat} (h : k < s.size) : (s.extract k (k + 1)).data.toList = [s[k]] := by
  rw [Lib.extract_data, show k + 1 - k = 1 by omega, List.drop_eq_getElem_cons (by simpa using h)]
  rfl
theorem cut_size {s : ByteArray} {k : Nat} (h : k < s.size) : (s.extract k (k + 1)).size = 1 := by
  have h2 : (s.extract k (k + 1)).data.toList.length = (s.extract k (k + 1)).size := Array.length_toList
  rw [cut_one h] at h2
  exact h2.symm
theorem of_data {b : ByteArray} {l : List UInt8} (h : b.data.toList = l) : b = ⟨l.toArray⟩ := by
  cases b with | mk d => simp at h; subst h; simp

set_option maxHeartbeats 2000000 in
set_option maxRecDepth 100000 in
theorem refShow_text (k n : Int) (s : ByteArray) (w : World) (hs : s.size ≤ 64) (h0 : (k == 0) = false) (h1 : (k == 1) = false) :
    Calls Tryd.prog 22 #[vVal k n s] w fun e w' => e = .returned (.string ⟨(quoteL s.data.toList).toArray⟩) ∧ Below w.heap.size w w' := by
  go_enter Tryd.func22, Tryd.ntmps22
  go_wp2_with fail
  go_loop [3, 4] (fun v i => ∃ (j : Nat) (b : ByteArray), j ≤ s.size ∧ v = .string b ∧ i = .int .i64 j ∧ Hid (b.data.toList = 34 :: esc (s.data.toList.take j)) ∧ b.size ≤ 2 * j + 1) (fun _ i => s.size - (intOf i).toNat)
  case atStart => exact ⟨0, ⟨#[34]⟩, Nat.zero_le _, rfl, rfl, Lib.hid rfl, by decide⟩
  case round =>
    obtain ⟨j, b, hj, rfl, rfl, HB, hb⟩ := hrel
    by_cases hlt : j < s.size
    · have hts := Lib.hid (take_snoc s j hlt)
      have hc1 := cut_size hlt
      have HC := Lib.hid (cut_one hlt)
      by_cases hq : s[j] = 34 ∨ s[j] = 92
      · have HE := Lib.hid (esc_snoc_yes (s.data.toList.take j) s[j] hq)
        have hQ : ((s[j].toNat : Int) == 34) = true ∨ ((s[j].toNat : Int) == 34) = false ∧ ((s[j].toNat : Int) == 92) = true := by
          rw [show (34 : Int) = ((34 : Nat) : Int) from rfl, show (92 : Int) = ((92 : Nat) : Int) from rfl, byte_eq _ 34 (by decide), byte_eq _ 92 (by decide)]
          by_cases h34 : s[j] = 34
          · left; simpa using h34
          · right; exact ⟨by simpa using h34, by simpa [h34] using hq⟩
        clear hq
        rcases hQ with hq1 | ⟨hq1, hq2⟩
        all_goals
          go_wp2_with fail
          go_round
          case rel => exact ⟨j + 1, _, by omega, rfl, by go_num, Lib.hid (by rw [cat_data, cat_data, HB.out, HC.out, hts.out, HE.out]; simp), by rw [cat_size, cat_size, hc1]; show b.size + 1 + 1 ≤ _; omega⟩
          case measure => simp [intOf]; omega
      · have HE := Lib.hid (esc_snoc_no (s.data.toList.take j) s[j] hq)
        have hQ : ((s[j].toNat : Int) == 34) = false ∧ ((s[j].toNat : Int) == 92) = false := by
          rw [show (34 : Int) = ((34 : Nat) : Int) from rfl, show (92 : Int) = ((92 : Nat) : Int) from rfl, byte_eq _ 34 (by decide), byte_eq _ 92 (by decide)]
          simpa [not_or] using hq
        clear hq
        obtain ⟨hq1, hq2⟩ := hQ
        go_wp2_with fail
        go_round
        case rel => exact ⟨j + 1, _, by omega, rfl, by go_num, Lib.hid (by rw [cat_data, HB.out, HC.out, hts.out, HE.out]; simp), by rw [cat_size, hc1]; omega⟩
        case measure => simp [intOf]; omega
    · obtain rfl : j = s.size := by omega
      have htk : s.data.toList.take s.size = s.data.toList := List.take_of_length_le (by simp)
      rw [htk] at HB
      clear htk
      go_wp2_with fail
      go_ret
      refine ⟨congrArg (fun b => Ending.returned (.string b)) (of_data ?_), by go_grown⟩
      rw [cat_data, HB.out]; rfl
theorem refShow_any (k n : Int) (s : ByteArray) (w : World) (hn : I64 n) (hr : rightV k n s = true) :
    Calls Tryd.prog 22 #[vVal k n s] w fun e w' => e = .returned (.string ⟨(showV k n s).toArray⟩) ∧ Below w.heap.size w w' := by
  rcases rightV_cases hr with ⟨rfl, rfl, rfl⟩ | ⟨rfl, rfl⟩ | ⟨rfl, rfl, h⟩
  · have e : showV 0 0 ⟨#[]⟩ = [110, 117, 108, 108] := by unfold showV; rw [hr]; rfl
    rw [e]
    clear hr e hn
    go_enter Tryd.func22, Tryd.ntmps22
    go_wp2_with fail
    go_ret
    exact ⟨rfl, by go_grown⟩
  · have e : showV 1 n ⟨#[]⟩ = Lib.itoa n := by unfold showV; rw [hr]; rfl
    rw [e]
    have HN := Lib.hid hn; clear hr e hn
    go_enter Tryd.func22, Tryd.ntmps22
    go_wp2_with fail
    refine (number_any n _ HN.out).mono ?_
    rintro e w1 ⟨rfl, hb1⟩
    have q1 : Below w.heap.size w w1 := (Joins.below_alloc1 w _).trans (hb1.mono (by simp))
    clear hb1
    go_wp2_with fail
    go_ret
    exact ⟨rfl, q1⟩
  · have e : showV 2 0 s = quoteL s.data.toList := by unfold showV; rw [hr]; rfl
    rw [e]
    exact refShow_text 2 0 s w h (by decide) (by decide)
end Go.Proofs.YthjlfhkmbhcpaaaDoor
