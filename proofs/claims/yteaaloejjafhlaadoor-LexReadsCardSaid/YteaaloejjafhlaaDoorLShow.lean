/-
  Show of a token; Line.
-/
import Derived.Test.YteaaloejjafhlaaDoorLLex
import Derived.Test.YteaaloejjafhlaaDoorLGlue
namespace Go.Proofs.YteaaloejjafhlaaDoor
open Go.RowKit Go.Sort LM

theorem showNum_any (n : Int) (w : World) (hT : Tab w) (h0 : 0 ≤ n) (h1 : n ≤ 9223372036854775807) : Calls Tryd.prog 20 #[.int .i64 n] w fun e w' => e = .returned (txt (Lib.itoa n)) ∧ Below w.heap.size w w' := by
  have HI := hide (itoa_any n w (by unfold I64; omega) hT)
  clear hT
  go_enter Tryd.func20, Tryd.ntmps20
  go_wp2_with fail
  refine HI.out.mono ?_
  rintro e w1 ⟨rfl, hb⟩
  have HB := hide hb
  clear hb
  go_wp2_with fail
  go_ret
  exact ⟨rfl, HB.out⟩
abbrev boxV (w : World) (k n a : Int) (t : List UInt8) : World := w.alloc (.cells #[.int .i64 k, txt t, .int .i64 n, .int .i64 a] 33)
theorem boxV_below (w : World) (k n a : Int) (t : List UInt8) : Below w.heap.size w (boxV w k n a t) := (Below.refl _ _).alloc (Nat.le_refl _) _
set_option maxHeartbeats 4000000 in
theorem tokShow_any (k n a : Int) (t : List UInt8) (w : World) (hT : Tab w) (hk : k = 1 ∨ k = 2 ∨ k = 3 ∨ k = 4) (h0 : 0 ≤ n) (h1 : n ≤ 9223372036854775807) (hl : t.length ≤ 64) (ho : k = 3 → t.all okByte = true) :
    Calls Tryd.prog 12 #[vT k t n a] w fun e w' => e = .returned (txt (showT k t n)) ∧ Below w.heap.size w w' := by
  have HB0 := hide (boxV_below w k n a t)
  have hT1 := hT.stays HB0.out (Nat.le_refl _)
  have HN := hide (showNum_any n (boxV w k n a t) hT1 h0 h1)
  rcases hk with rfl | rfl | rfl | rfl
  · clear HN ho
    have HS : Hid (showT 1 t n = t) := hide (by unfold showT; simp)
    rw [HS.out]
    have := HB0.out
    go_enter Tryd.func12, Tryd.ntmps12
    go_wp2_with fail
    go_ret
    exact ⟨rfl, this⟩
  · clear ho
    have HS : Hid (showT 2 t n = Lib.itoa n) := hide (by unfold showT; simp)
    rw [HS.out]
    go_enter Tryd.func12, Tryd.ntmps12
    go_wp2_with fail
    refine HN.out.mono ?_
    rintro e w1 ⟨rfl, hb⟩
    have HB := hide (HB0.out.trans (hb.mono HB0.out.size))
    clear hb
    go_wp2_with fail
    go_ret
    exact ⟨rfl, HB.out⟩
  · clear HN
    have hv : rightV 2 0 ⟨t.toArray⟩ = true := by
      unfold rightV rightT
      rw [list_of, size_of, ho rfl]
      simp [hl]
    have hsh : showV 2 0 ⟨t.toArray⟩ = quoteL t := by
      unfold showV
      rw [hv, list_of]; simp
    have HS : Hid (showT 3 t n = quoteL t) := hide (by unfold showT; simp)
    rw [HS.out]
    have HV : Hid (∀ w1, Below w.heap.size w w1 → Calls Tryd.prog 22 #[vVal 2 0 ⟨t.toArray⟩] w1 fun e w' => e = .returned (txt (quoteL t)) ∧ Below w1.heap.size w1 w') := hide fun w1 hb => by
      have := show_any 2 0 ⟨t.toArray⟩ w1 (by rw [size_of]; unfold maxLen; omega) (by unfold I64; omega) (hT.stays hb (Nat.le_refl _))
      rw [hsh] at this
      exact this
    clear hv hsh ho hT hT1
    go_enter Tryd.func12, Tryd.ntmps12
    go_wp2_with fail
    refine (text_any ⟨t.toArray⟩ _).mono ?_
    rintro e w1 ⟨rfl, hb⟩
    have HB := hide (HB0.out.trans (hb.mono HB0.out.size))
    clear hb
    go_wp2_with fail
    refine (HV.out _ HB.out).mono ?_
    rintro e w2 ⟨rfl, hb⟩
    have HB2 := hide (HB.out.trans (hb.mono HB.out.size))
    clear hb
    go_wp2_with fail
    go_ret
    exact ⟨rfl, HB2.out⟩
  · clear HN ho
    have HS : Hid (showT 4 t n = t) := hide (by unfold showT; simp)
    rw [HS.out]
    have := HB0.out
    go_enter Tryd.func12, Tryd.ntmps12
    go_wp2_with fail
    go_ret
    exact ⟨rfl, this⟩

/-! Lines. -/
/-- The last end of line among so many bytes. -/
abbrev lastN (s : ByteArray) (k : Nat) : Int := Lib.lastIdx s 10 k
abbrev cntN (s : ByteArray) (k : Nat) : Nat := (s.data.toList.take k).count 10
theorem lastN_ext (s : ByteArray) (a : Nat) (ha : a ≤ s.size) : ∀ k, k ≤ a → Lib.lastIdx (s.extract 0 a) 10 k = lastN s k
  | 0, _ => rfl
  | k + 1, h => by
    have ih := lastN_ext s a ha k (by omega)
    have e : (s.extract 0 a).data[k]! = s.data[k]! := by
      have h1 : k < s.data.size := by show k < s.size; omega
      have h2 : k < (s.extract 0 a).data.size := by show k < (s.extract 0 a).size; simp; omega
      rw [getElem!_pos (s.extract 0 a).data k h2, getElem!_pos s.data k h1]
      simp
    unfold lastN Lib.lastIdx
    rw [e, ih]
theorem lastN_succ {s : ByteArray} {k : Nat} (h : k < s.size) : lastN s (k + 1) = if ((s[k].toNat : Int) == 10) = true then (k : Int) else lastN s k := by
  have e : s.data[k]! = s[k] := by
    have h1 : k < s.data.size := h
    rw [getElem!_pos s.data k h1]; rfl
  split
  · rename_i h1
    exact Lib.lastIdx_hit s 10 k (by rw [e]; simpa using h1)
  · rename_i h1
    exact Lib.lastIdx_miss s 10 k (by rw [e]; simpa using h1)
theorem lastN_lt (s : ByteArray) : ∀ k, -1 ≤ lastN s k ∧ lastN s k < k
  | 0 => by unfold lastN Lib.lastIdx; omega
  | k + 1 => by
    have := lastN_lt s k
    by_cases h : ((s.data[k]!).toNat : Int) = 10
    · have e := Lib.lastIdx_hit s 10 k h
      unfold lastN; rw [e]; omega
    · have e := Lib.lastIdx_miss s 10 k h
      unfold lastN at *; rw [e]; omega
theorem cntN_succ {s : ByteArray} {k : Nat} (h : k < s.size) : cntN s (k + 1) = cntN s k + if ((s[k].toNat : Int) == 10) = true then 1 else 0 := by
  unfold cntN
  rw [take_snoc s k h, List.count_append]
  congr 1
  by_cases e : s[k] = 10
  · have : ((s[k].toNat : Int) == 10) = true := byte_is s[k] 10 (by decide) e
    rw [if_pos this, e]; rfl
  · have : ((s[k].toNat : Int) == 10) = false := byte_not s[k] 10 (by decide) e
    rw [if_neg (by rw [this]; simp)]
    simp [e]
theorem cntN_le (s : ByteArray) (k : Nat) : cntN s k ≤ k := Nat.le_trans List.count_le_length (by rw [List.length_take]; omega)
/-- What Line tells. -/
def lineE (s : ByteArray) (a : Int) : Ending := if a < 0 ∨ (s.size : Int) < a then .returned (.tuple #[.int .i64 0, .int .i64 0]) else .returned (.tuple #[.int .i64 (1 + (cntN s a.toNat : Nat)), .int .i64 (a - lastN s a.toNat)])
set_option maxHeartbeats 4000000 in
theorem line_any (s : ByteArray) (a : Int) (w : World) (hs : s.size ≤ 140737488355328) (_ : -9223372036854775808 ≤ a) (_ : a ≤ 9223372036854775807) :
    Calls Tryd.prog 13 #[.string s, .int .i64 a] w fun e w' => e = lineE s a ∧ Below w.heap.size w w' := by
  have HB0 := hide (Below.refl w.heap.size w)
  by_cases h0 : a < 0
  · have HE : Hid (lineE s a = .returned (.tuple #[.int .i64 0, .int .i64 0])) := hide (if_pos (Or.inl h0))
    rw [HE.out]
    go_enter Tryd.func13, Tryd.ntmps13
    go_wp2_with fail
    go_ret2
    exact ⟨rfl, HB0.out⟩
  by_cases h1 : (s.size : Int) < a
  · have HE : Hid (lineE s a = .returned (.tuple #[.int .i64 0, .int .i64 0])) := hide (if_pos (Or.inr h1))
    rw [HE.out]
    go_enter Tryd.func13, Tryd.ntmps13
    go_wp2_with fail
    go_ret2
    exact ⟨rfl, HB0.out⟩
  obtain ⟨k, rfl⟩ : ∃ k : Nat, a = k := ⟨a.toNat, by omega⟩
  have hk : k ≤ s.size := by omega
  have HE : Hid (lineE s (k : Int) = .returned (.tuple #[.int .i64 (1 + (cntN s k : Nat)), .int .i64 ((k : Int) - lastN s k)])) := hide (by unfold lineE; rw [if_neg (by omega), Int.toNat_natCast])
  rw [HE.out]
  have HC : Hid (∀ w1, Calls Tryd.prog 23 #[.string (s.extract 0 k), .string ⟨#[10]⟩] w1 fun e w' => e = .returned (.int .i64 (cntN s k : Nat)) ∧ w1 = w') := hide fun w1 => (Tryd.strings_Count_one (s.extract 0 k) 10 w1).mono fun e w' h => by
    obtain ⟨rfl, rfl⟩ := h
    refine ⟨?_, rfl⟩
    have e : (s.extract 0 k).data.toList = s.data.toList.take k := by rw [Lib.extract_data]; simp
    rw [e]; rfl
  have HL : Hid (∀ w1, Calls Tryd.prog 24 #[.string (s.extract 0 k), .int .u8 10] w1 fun e w' => e = .returned (.int .i64 (lastN s k)) ∧ w1 = w') := hide fun w1 => (Tryd.strings_LastIndexByte (s.extract 0 k) 10 (by simp; omega) w1).mono fun e w' h => by
    obtain ⟨rfl, rfl⟩ := h
    refine ⟨?_, rfl⟩
    unfold Lib.lastIndexByte
    rw [show (s.extract 0 k).size = k by simp; omega, lastN_ext s k hk k (Nat.le_refl _)]
  have hc := cntN_le s k
  have hl := lastN_lt s k
  clear HE h0 h1
  generalize cntN s k = C at *
  generalize lastN s k = L at *
  go_enter Tryd.func13, Tryd.ntmps13
  go_wp2_with (first | (go_at_call 23; refine (HC.out _).mono ?_; rintro e w1 ⟨rfl, rfl⟩) | (go_at_call 24; refine (HL.out _).mono ?_; rintro e w1 ⟨rfl, rfl⟩))
  go_ret2
  exact ⟨rfl, HB0.out⟩
end Go.Proofs.YteaaloejjafhlaaDoor
