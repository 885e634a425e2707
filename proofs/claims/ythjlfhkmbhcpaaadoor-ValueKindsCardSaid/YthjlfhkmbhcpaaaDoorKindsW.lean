/-
  The walk of ValueKinds.
-/
import Derived.Test.YthjlfhkmbhcpaaaDoorOps
import Derived.Test.YthjlfhkmbhcpaaaDoorRef
namespace Go.Proofs.YthjlfhkmbhcpaaaDoor.valueKinds
open Go.RowKit

abbrev Done (op k0 n0 k1 n1 : Int) (s0 s1 : ByteArray) (w : World) : Prop :=
  Calls Tryd.prog 11 #[.int .u8 op, vVal k0 n0 s0, vVal k1 n1 s1] w fun e w' => e = .returned (.bool true) ∧ Below w.heap.size w w'

theorem not_first (op k0 n0 k1 n1 : Int) (s0 s1 : ByteArray) (w : World) (ht : Tab w) (hs0 : s0.size ≤ maxLen) (hr0 : rightV k0 n0 s0 = false) : Done op k0 n0 k1 n1 s0 s1 w := by
  have HS0 := Lib.hid hs0; have HR0 := Lib.hid hr0; have HT := Lib.hid ht; clear hs0 hr0 ht
  go_enter Tryd.func11, Tryd.ntmps11
  go_wp2_with fail
  refine (lawRight_any k0 n0 s0 _ HS0.out).mono ?_
  rintro e w1 ⟨rfl, hb1⟩
  rw [HR0.out]
  have q1 : Below w.heap.size w w1 := (by go_grown : Below w.heap.size w _).trans (hb1.mono (by simp; omega))
  obtain ⟨hc1, hf1⟩ := bcell hb1
  have z1 : w.heap.size + 1 < w1.heap.size := by have := hb1.size; simp at this; omega
  have z0 : w.heap.size < w1.heap.size := by omega
  clear hb1
  go_wp2_with fail
  refine (awake_any _ (HT.out.stays q1 (Nat.le_refl _))).mono ?_
  rintro e wa ⟨rfl, hba⟩
  have qa : Below w.heap.size w wa := q1.trans (hba.mono q1.size)
  clear hba
  go_wp2_with fail
  go_ret
  exact ⟨rfl, qa⟩

theorem not_second (op k0 n0 k1 n1 : Int) (s0 s1 : ByteArray) (w : World) (ht : Tab w) (hs0 : s0.size ≤ maxLen) (hs1 : s1.size ≤ maxLen) (hr0 : rightV k0 n0 s0 = true) (hr1 : rightV k1 n1 s1 = false) : Done op k0 n0 k1 n1 s0 s1 w := by
  have HS0 := Lib.hid hs0; have HR0 := Lib.hid hr0; have HT := Lib.hid ht; clear hs0 hr0 ht
  have HS1 := Lib.hid hs1; have HR1 := Lib.hid hr1; clear hs1 hr1
  go_enter Tryd.func11, Tryd.ntmps11
  go_wp2_with fail
  refine (lawRight_any k0 n0 s0 _ HS0.out).mono ?_
  rintro e w1 ⟨rfl, hb1⟩
  rw [HR0.out]
  have q1 : Below w.heap.size w w1 := (by go_grown : Below w.heap.size w _).trans (hb1.mono (by simp; omega))
  obtain ⟨hc1, hf1⟩ := bcell hb1
  have z1 : w.heap.size + 1 < w1.heap.size := by have := hb1.size; simp at this; omega
  have z0 : w.heap.size < w1.heap.size := by omega
  clear hb1
  go_wp2_with fail
  refine (lawRight_any k1 n1 s1 _ HS1.out).mono ?_
  rintro e w2 ⟨rfl, hb2⟩
  rw [HR1.out]
  have q2 : Below w.heap.size w w2 := q1.trans (hb2.mono q1.size)
  obtain ⟨hc2, hf2⟩ := bcell hb2
  have z2 : w.heap.size + 1 < w2.heap.size := Nat.lt_of_lt_of_le z1 hb2.size
  have z3 : w.heap.size < w2.heap.size := by omega
  clear hb2
  go_wp2_with fail
  refine (awake_any _ (HT.out.stays q2 (Nat.le_refl _))).mono ?_
  rintro e wa ⟨rfl, hba⟩
  have qa : Below w.heap.size w wa := q2.trans (hba.mono q2.size)
  clear hba
  go_wp2_with fail
  go_ret
  exact ⟨rfl, qa⟩

set_option maxRecDepth 100000 in
set_option maxHeartbeats 4000000 in
theorem form (op k0 n0 k1 n1 : Int) (s0 s1 : ByteArray) (w : World) (ht : Tab w) (hs0 : s0.size ≤ maxLen) (hs1 : s1.size ≤ maxLen) (hr0 : rightV k0 n0 s0 = true) (hr1 : rightV k1 n1 s1 = true) (o1 : (op != 43) = true) (o2 : (op != 45) = true) (o3 : (op != 42) = true) (o4 : (op != 47) = true) (o5 : (op != 37) = true) (hA : ∀ w, Calls Tryd.prog 26 #[.int .u8 op, vVal k0 n0 s0, vVal k1 n1 s1] w fun e w' => e = .returned (vErr 20) ∧ Below w.heap.size w w') : Done op k0 n0 k1 n1 s0 s1 w := by
  have HS0 := Lib.hid hs0; have HR0 := Lib.hid hr0; have HT := Lib.hid ht; clear hs0 hr0 ht
  have HS1 := Lib.hid hs1; have HR1 := Lib.hid hr1; clear hs1 hr1
  have HA := Lib.hid hA; clear hA
  go_enter Tryd.func11, Tryd.ntmps11
  go_wp2_with fail
  refine (lawRight_any k0 n0 s0 _ HS0.out).mono ?_
  rintro e w1 ⟨rfl, hb1⟩
  rw [HR0.out]
  have q1 : Below w.heap.size w w1 := (by go_grown : Below w.heap.size w _).trans (hb1.mono (by simp; omega))
  obtain ⟨hc1, hf1⟩ := bcell hb1
  have z1 : w.heap.size + 1 < w1.heap.size := by have := hb1.size; simp at this; omega
  have z0 : w.heap.size < w1.heap.size := by omega
  clear hb1
  go_wp2_with fail
  refine (lawRight_any k1 n1 s1 _ HS1.out).mono ?_
  rintro e w2 ⟨rfl, hb2⟩
  rw [HR1.out]
  have q2 : Below w.heap.size w w2 := q1.trans (hb2.mono q1.size)
  obtain ⟨hc2, hf2⟩ := bcell hb2
  have z2 : w.heap.size + 1 < w2.heap.size := Nat.lt_of_lt_of_le z1 hb2.size
  have z3 : w.heap.size < w2.heap.size := by omega
  clear hb2
  go_wp2_with fail
  refine (HA.out _).mono ?_
  rintro e w3 ⟨rfl, hb3⟩
  have q3 : Below w.heap.size w w3 := q2.trans (hb3.mono q2.size)
  obtain ⟨hc3, hf3⟩ := bcell hb3
  have z4 : w.heap.size + 1 < w3.heap.size := Nat.lt_of_lt_of_le z2 hb3.size
  have z5 : w.heap.size < w3.heap.size := by omega
  clear hb3
  go_wp2_with fail
  refine (awake_any _ (HT.out.stays (q3.alloc q3.size _) (Nat.le_refl _))).mono ?_
  rintro e wa ⟨rfl, hba⟩
  have qa : Below w.heap.size w wa := (q3.alloc q3.size _).trans (hba.mono (q3.alloc q3.size _).size)
  clear hba
  go_wp2_with fail
  go_ret
  exact ⟨rfl, qa⟩

set_option maxRecDepth 100000 in
set_option maxHeartbeats 4000000 in
theorem type1 (op k0 n0 k1 n1 : Int) (s0 s1 : ByteArray) (w : World) (ht : Tab w) (hs0 : s0.size ≤ maxLen) (hs1 : s1.size ≤ maxLen) (hr0 : rightV k0 n0 s0 = true) (hr1 : rightV k1 n1 s1 = true) (hop : op = 43 ∨ op = 45 ∨ op = 42 ∨ op = 47 ∨ op = 37) (hk : (k0 == 2) = true) (hA : ∀ w, Calls Tryd.prog 26 #[.int .u8 op, vVal k0 n0 s0, vVal k1 n1 s1] w fun e w' => e = .returned (vErr 12) ∧ Below w.heap.size w w') : Done op k0 n0 k1 n1 s0 s1 w := by
  have HS0 := Lib.hid hs0; have HR0 := Lib.hid hr0; have HT := Lib.hid ht; clear hs0 hr0 ht
  have HS1 := Lib.hid hs1; have HR1 := Lib.hid hr1; clear hs1 hr1
  have HA := Lib.hid hA; clear hA
  rcases hop with rfl | rfl | rfl | rfl | rfl
  all_goals
    go_enter Tryd.func11, Tryd.ntmps11
    go_wp2_with fail
    refine (lawRight_any k0 n0 s0 _ HS0.out).mono ?_
    rintro e w1 ⟨rfl, hb1⟩
    rw [HR0.out]
    have q1 : Below w.heap.size w w1 := (by go_grown : Below w.heap.size w _).trans (hb1.mono (by simp; omega))
    obtain ⟨hc1, hf1⟩ := bcell hb1
    have z1 : w.heap.size + 1 < w1.heap.size := by have := hb1.size; simp at this; omega
    have z0 : w.heap.size < w1.heap.size := by omega
    clear hb1
    go_wp2_with fail
    refine (lawRight_any k1 n1 s1 _ HS1.out).mono ?_
    rintro e w2 ⟨rfl, hb2⟩
    rw [HR1.out]
    have q2 : Below w.heap.size w w2 := q1.trans (hb2.mono q1.size)
    obtain ⟨hc2, hf2⟩ := bcell hb2
    have z2 : w.heap.size + 1 < w2.heap.size := Nat.lt_of_lt_of_le z1 hb2.size
    have z3 : w.heap.size < w2.heap.size := by omega
    clear hb2
    go_wp2_with fail
    refine (HA.out _).mono ?_
    rintro e w3 ⟨rfl, hb3⟩
    have q3 : Below w.heap.size w w3 := q2.trans (hb3.mono q2.size)
    obtain ⟨hc3, hf3⟩ := bcell hb3
    have z4 : w.heap.size + 1 < w3.heap.size := Nat.lt_of_lt_of_le z2 hb3.size
    have z5 : w.heap.size < w3.heap.size := by omega
    clear hb3
    go_wp2_with fail
    refine (awake_any _ (HT.out.stays (q3.alloc q3.size _) (Nat.le_refl _))).mono ?_
    rintro e wa ⟨rfl, hba⟩
    have qa : Below w.heap.size w wa := (q3.alloc q3.size _).trans (hba.mono (q3.alloc q3.size _).size)
    clear hba
    go_wp2_with fail
    go_ret
    exact ⟨rfl, qa⟩

set_option maxRecDepth 100000 in
set_option maxHeartbeats 4000000 in
theorem type2 (op k0 n0 k1 n1 : Int) (s0 s1 : ByteArray) (w : World) (ht : Tab w) (hs0 : s0.size ≤ maxLen) (hs1 : s1.size ≤ maxLen) (hr0 : rightV k0 n0 s0 = true) (hr1 : rightV k1 n1 s1 = true) (hop : op = 43 ∨ op = 45 ∨ op = 42 ∨ op = 47 ∨ op = 37) (hk : (k0 == 2) = false) (hl : (k1 == 2) = true) (hA : ∀ w, Calls Tryd.prog 26 #[.int .u8 op, vVal k0 n0 s0, vVal k1 n1 s1] w fun e w' => e = .returned (vErr 12) ∧ Below w.heap.size w w') : Done op k0 n0 k1 n1 s0 s1 w := by
  have HS0 := Lib.hid hs0; have HR0 := Lib.hid hr0; have HT := Lib.hid ht; clear hs0 hr0 ht
  have HS1 := Lib.hid hs1; have HR1 := Lib.hid hr1; clear hs1 hr1
  have HA := Lib.hid hA; clear hA
  rcases hop with rfl | rfl | rfl | rfl | rfl
  all_goals
    go_enter Tryd.func11, Tryd.ntmps11
    go_wp2_with fail
    refine (lawRight_any k0 n0 s0 _ HS0.out).mono ?_
    rintro e w1 ⟨rfl, hb1⟩
    rw [HR0.out]
    have q1 : Below w.heap.size w w1 := (by go_grown : Below w.heap.size w _).trans (hb1.mono (by simp; omega))
    obtain ⟨hc1, hf1⟩ := bcell hb1
    have z1 : w.heap.size + 1 < w1.heap.size := by have := hb1.size; simp at this; omega
    have z0 : w.heap.size < w1.heap.size := by omega
    clear hb1
    go_wp2_with fail
    refine (lawRight_any k1 n1 s1 _ HS1.out).mono ?_
    rintro e w2 ⟨rfl, hb2⟩
    rw [HR1.out]
    have q2 : Below w.heap.size w w2 := q1.trans (hb2.mono q1.size)
    obtain ⟨hc2, hf2⟩ := bcell hb2
    have z2 : w.heap.size + 1 < w2.heap.size := Nat.lt_of_lt_of_le z1 hb2.size
    have z3 : w.heap.size < w2.heap.size := by omega
    clear hb2
    go_wp2_with fail
    refine (HA.out _).mono ?_
    rintro e w3 ⟨rfl, hb3⟩
    have q3 : Below w.heap.size w w3 := q2.trans (hb3.mono q2.size)
    obtain ⟨hc3, hf3⟩ := bcell hb3
    have z4 : w.heap.size + 1 < w3.heap.size := Nat.lt_of_lt_of_le z2 hb3.size
    have z5 : w.heap.size < w3.heap.size := by omega
    clear hb3
    go_wp2_with fail
    refine (awake_any _ (HT.out.stays (q3.alloc q3.size _) (Nat.le_refl _))).mono ?_
    rintro e wa ⟨rfl, hba⟩
    have qa : Below w.heap.size w wa := (q3.alloc q3.size _).trans (hba.mono (q3.alloc q3.size _).size)
    clear hba
    go_wp2_with fail
    go_ret
    exact ⟨rfl, qa⟩

set_option maxRecDepth 100000 in
set_option maxHeartbeats 4000000 in
theorem null1 (op k0 n0 k1 n1 : Int) (s0 s1 : ByteArray) (w : World) (ht : Tab w) (hs0 : s0.size ≤ maxLen) (hs1 : s1.size ≤ maxLen) (hr0 : rightV k0 n0 s0 = true) (hr1 : rightV k1 n1 s1 = true) (hop : op = 43 ∨ op = 45 ∨ op = 42 ∨ op = 47 ∨ op = 37) (hk : (k0 == 2) = false) (hl : (k1 == 2) = false) (hm : (k0 == 0) = true) (hA : ∀ w, Calls Tryd.prog 26 #[.int .u8 op, vVal k0 n0 s0, vVal k1 n1 s1] w fun e w' => e = .returned (.tuple #[vNull, .int .i64 0]) ∧ Below w.heap.size w w') : Done op k0 n0 k1 n1 s0 s1 w := by
  have HS0 := Lib.hid hs0; have HR0 := Lib.hid hr0; have HT := Lib.hid ht; clear hs0 hr0 ht
  have HS1 := Lib.hid hs1; have HR1 := Lib.hid hr1; clear hs1 hr1
  have HA := Lib.hid hA; clear hA
  rcases hop with rfl | rfl | rfl | rfl | rfl
  all_goals
    go_enter Tryd.func11, Tryd.ntmps11
    go_wp2_with fail
    refine (lawRight_any k0 n0 s0 _ HS0.out).mono ?_
    rintro e w1 ⟨rfl, hb1⟩
    rw [HR0.out]
    have q1 : Below w.heap.size w w1 := (by go_grown : Below w.heap.size w _).trans (hb1.mono (by simp; omega))
    obtain ⟨hc1, hf1⟩ := bcell hb1
    have z1 : w.heap.size + 1 < w1.heap.size := by have := hb1.size; simp at this; omega
    have z0 : w.heap.size < w1.heap.size := by omega
    clear hb1
    go_wp2_with fail
    refine (lawRight_any k1 n1 s1 _ HS1.out).mono ?_
    rintro e w2 ⟨rfl, hb2⟩
    rw [HR1.out]
    have q2 : Below w.heap.size w w2 := q1.trans (hb2.mono q1.size)
    obtain ⟨hc2, hf2⟩ := bcell hb2
    have z2 : w.heap.size + 1 < w2.heap.size := Nat.lt_of_lt_of_le z1 hb2.size
    have z3 : w.heap.size < w2.heap.size := by omega
    clear hb2
    go_wp2_with fail
    refine (HA.out _).mono ?_
    rintro e w3 ⟨rfl, hb3⟩
    have q3 : Below w.heap.size w w3 := q2.trans (hb3.mono q2.size)
    obtain ⟨hc3, hf3⟩ := bcell hb3
    have z4 : w.heap.size + 1 < w3.heap.size := Nat.lt_of_lt_of_le z2 hb3.size
    have z5 : w.heap.size < w3.heap.size := by omega
    clear hb3
    go_wp2_with fail
    refine (awake_any _ (HT.out.stays (q3.alloc q3.size _) (Nat.le_refl _))).mono ?_
    rintro e wa ⟨rfl, hba⟩
    have qa : Below w.heap.size w wa := (q3.alloc q3.size _).trans (hba.mono (q3.alloc q3.size _).size)
    clear hba
    go_wp2_with fail
    go_ret
    exact ⟨rfl, qa⟩

set_option maxRecDepth 100000 in
set_option maxHeartbeats 4000000 in
theorem null2 (op k0 n0 k1 n1 : Int) (s0 s1 : ByteArray) (w : World) (ht : Tab w) (hs0 : s0.size ≤ maxLen) (hs1 : s1.size ≤ maxLen) (hr0 : rightV k0 n0 s0 = true) (hr1 : rightV k1 n1 s1 = true) (hop : op = 43 ∨ op = 45 ∨ op = 42 ∨ op = 47 ∨ op = 37) (hk : (k0 == 2) = false) (hl : (k1 == 2) = false) (hm : (k0 == 0) = false) (hn : (k1 == 0) = true) (hA : ∀ w, Calls Tryd.prog 26 #[.int .u8 op, vVal k0 n0 s0, vVal k1 n1 s1] w fun e w' => e = .returned (.tuple #[vNull, .int .i64 0]) ∧ Below w.heap.size w w') : Done op k0 n0 k1 n1 s0 s1 w := by
  have HS0 := Lib.hid hs0; have HR0 := Lib.hid hr0; have HT := Lib.hid ht; clear hs0 hr0 ht
  have HS1 := Lib.hid hs1; have HR1 := Lib.hid hr1; clear hs1 hr1
  have HA := Lib.hid hA; clear hA
  rcases hop with rfl | rfl | rfl | rfl | rfl
  all_goals
    go_enter Tryd.func11, Tryd.ntmps11
    go_wp2_with fail
    refine (lawRight_any k0 n0 s0 _ HS0.out).mono ?_
    rintro e w1 ⟨rfl, hb1⟩
    rw [HR0.out]
    have q1 : Below w.heap.size w w1 := (by go_grown : Below w.heap.size w _).trans (hb1.mono (by simp; omega))
    obtain ⟨hc1, hf1⟩ := bcell hb1
    have z1 : w.heap.size + 1 < w1.heap.size := by have := hb1.size; simp at this; omega
    have z0 : w.heap.size < w1.heap.size := by omega
    clear hb1
    go_wp2_with fail
    refine (lawRight_any k1 n1 s1 _ HS1.out).mono ?_
    rintro e w2 ⟨rfl, hb2⟩
    rw [HR1.out]
    have q2 : Below w.heap.size w w2 := q1.trans (hb2.mono q1.size)
    obtain ⟨hc2, hf2⟩ := bcell hb2
    have z2 : w.heap.size + 1 < w2.heap.size := Nat.lt_of_lt_of_le z1 hb2.size
    have z3 : w.heap.size < w2.heap.size := by omega
    clear hb2
    go_wp2_with fail
    refine (HA.out _).mono ?_
    rintro e w3 ⟨rfl, hb3⟩
    have q3 : Below w.heap.size w w3 := q2.trans (hb3.mono q2.size)
    obtain ⟨hc3, hf3⟩ := bcell hb3
    have z4 : w.heap.size + 1 < w3.heap.size := Nat.lt_of_lt_of_le z2 hb3.size
    have z5 : w.heap.size < w3.heap.size := by omega
    clear hb3
    go_wp2_with fail
    refine (awake_any _ (HT.out.stays (q3.alloc q3.size _) (Nat.le_refl _))).mono ?_
    rintro e wa ⟨rfl, hba⟩
    have qa : Below w.heap.size w wa := (q3.alloc q3.size _).trans (hba.mono (q3.alloc q3.size _).size)
    clear hba
    go_wp2_with fail
    go_ret
    exact ⟨rfl, qa⟩

set_option maxRecDepth 100000 in
set_option maxHeartbeats 4000000 in
theorem ints_yes (m : Int) (op k0 n0 k1 n1 : Int) (s0 s1 : ByteArray) (w : World) (ht : Tab w) (hs0 : s0.size ≤ maxLen) (hs1 : s1.size ≤ maxLen) (hr0 : rightV k0 n0 s0 = true) (hr1 : rightV k1 n1 s1 = true) (hop : op = 43 ∨ op = 45 ∨ op = 42 ∨ op = 47 ∨ op = 37) (hk : (k0 == 2) = false) (hl : (k1 == 2) = false) (hm : (k0 == 0) = false) (hn : (k1 == 0) = false) (hA : ∀ w, Calls Tryd.prog 26 #[.int .u8 op, vVal k0 n0 s0, vVal k1 n1 s1] w fun e w' => e = .returned (.tuple #[vInt m, .int .i64 0]) ∧ Below w.heap.size w w') : Done op k0 n0 k1 n1 s0 s1 w := by
  have HS0 := Lib.hid hs0; have HR0 := Lib.hid hr0; have HT := Lib.hid ht; clear hs0 hr0 ht
  have HS1 := Lib.hid hs1; have HR1 := Lib.hid hr1; clear hs1 hr1
  have HA := Lib.hid hA; clear hA
  rcases hop with rfl | rfl | rfl | rfl | rfl
  all_goals
    go_enter Tryd.func11, Tryd.ntmps11
    go_wp2_with fail
    refine (lawRight_any k0 n0 s0 _ HS0.out).mono ?_
    rintro e w1 ⟨rfl, hb1⟩
    rw [HR0.out]
    have q1 : Below w.heap.size w w1 := (by go_grown : Below w.heap.size w _).trans (hb1.mono (by simp; omega))
    obtain ⟨hc1, hf1⟩ := bcell hb1
    have z1 : w.heap.size + 1 < w1.heap.size := by have := hb1.size; simp at this; omega
    have z0 : w.heap.size < w1.heap.size := by omega
    clear hb1
    go_wp2_with fail
    refine (lawRight_any k1 n1 s1 _ HS1.out).mono ?_
    rintro e w2 ⟨rfl, hb2⟩
    rw [HR1.out]
    have q2 : Below w.heap.size w w2 := q1.trans (hb2.mono q1.size)
    obtain ⟨hc2, hf2⟩ := bcell hb2
    have z2 : w.heap.size + 1 < w2.heap.size := Nat.lt_of_lt_of_le z1 hb2.size
    have z3 : w.heap.size < w2.heap.size := by omega
    clear hb2
    go_wp2_with fail
    refine (HA.out _).mono ?_
    rintro e w3 ⟨rfl, hb3⟩
    have q3 : Below w.heap.size w w3 := q2.trans (hb3.mono q2.size)
    obtain ⟨hc3, hf3⟩ := bcell hb3
    have z4 : w.heap.size + 1 < w3.heap.size := Nat.lt_of_lt_of_le z2 hb3.size
    have z5 : w.heap.size < w3.heap.size := by omega
    clear hb3
    go_wp2_with fail
    refine (awake_any _ (HT.out.stays (q3.alloc q3.size _) (Nat.le_refl _))).mono ?_
    rintro e wa ⟨rfl, hba⟩
    have qa : Below w.heap.size w wa := (q3.alloc q3.size _).trans (hba.mono (q3.alloc q3.size _).size)
    clear hba
    go_wp2_with fail
    go_ret
    exact ⟨rfl, qa⟩

set_option maxRecDepth 100000 in
set_option maxHeartbeats 4000000 in
theorem ints_over (op k0 n0 k1 n1 : Int) (s0 s1 : ByteArray) (w : World) (ht : Tab w) (hs0 : s0.size ≤ maxLen) (hs1 : s1.size ≤ maxLen) (hr0 : rightV k0 n0 s0 = true) (hr1 : rightV k1 n1 s1 = true) (hop : op = 43 ∨ op = 45 ∨ op = 42 ∨ op = 47 ∨ op = 37) (hk : (k0 == 2) = false) (hl : (k1 == 2) = false) (hm : (k0 == 0) = false) (hn : (k1 == 0) = false) (hA : ∀ w, Calls Tryd.prog 26 #[.int .u8 op, vVal k0 n0 s0, vVal k1 n1 s1] w fun e w' => e = .returned (vErr 10) ∧ Below w.heap.size w w') : Done op k0 n0 k1 n1 s0 s1 w := by
  have HS0 := Lib.hid hs0; have HR0 := Lib.hid hr0; have HT := Lib.hid ht; clear hs0 hr0 ht
  have HS1 := Lib.hid hs1; have HR1 := Lib.hid hr1; clear hs1 hr1
  have HA := Lib.hid hA; clear hA
  rcases hop with rfl | rfl | rfl | rfl | rfl
  all_goals
    go_enter Tryd.func11, Tryd.ntmps11
    go_wp2_with fail
    refine (lawRight_any k0 n0 s0 _ HS0.out).mono ?_
    rintro e w1 ⟨rfl, hb1⟩
    rw [HR0.out]
    have q1 : Below w.heap.size w w1 := (by go_grown : Below w.heap.size w _).trans (hb1.mono (by simp; omega))
    obtain ⟨hc1, hf1⟩ := bcell hb1
    have z1 : w.heap.size + 1 < w1.heap.size := by have := hb1.size; simp at this; omega
    have z0 : w.heap.size < w1.heap.size := by omega
    clear hb1
    go_wp2_with fail
    refine (lawRight_any k1 n1 s1 _ HS1.out).mono ?_
    rintro e w2 ⟨rfl, hb2⟩
    rw [HR1.out]
    have q2 : Below w.heap.size w w2 := q1.trans (hb2.mono q1.size)
    obtain ⟨hc2, hf2⟩ := bcell hb2
    have z2 : w.heap.size + 1 < w2.heap.size := Nat.lt_of_lt_of_le z1 hb2.size
    have z3 : w.heap.size < w2.heap.size := by omega
    clear hb2
    go_wp2_with fail
    refine (HA.out _).mono ?_
    rintro e w3 ⟨rfl, hb3⟩
    have q3 : Below w.heap.size w w3 := q2.trans (hb3.mono q2.size)
    obtain ⟨hc3, hf3⟩ := bcell hb3
    have z4 : w.heap.size + 1 < w3.heap.size := Nat.lt_of_lt_of_le z2 hb3.size
    have z5 : w.heap.size < w3.heap.size := by omega
    clear hb3
    go_wp2_with fail
    refine (awake_any _ (HT.out.stays (q3.alloc q3.size _) (Nat.le_refl _))).mono ?_
    rintro e wa ⟨rfl, hba⟩
    have qa : Below w.heap.size w wa := (q3.alloc q3.size _).trans (hba.mono (q3.alloc q3.size _).size)
    clear hba
    go_wp2_with fail
    go_ret
    exact ⟨rfl, qa⟩

set_option maxRecDepth 100000 in
set_option maxHeartbeats 4000000 in
theorem ints_zero (op k0 n0 k1 n1 : Int) (s0 s1 : ByteArray) (w : World) (ht : Tab w) (hs0 : s0.size ≤ maxLen) (hs1 : s1.size ≤ maxLen) (hr0 : rightV k0 n0 s0 = true) (hr1 : rightV k1 n1 s1 = true) (hop : op = 43 ∨ op = 45 ∨ op = 42 ∨ op = 47 ∨ op = 37) (hk : (k0 == 2) = false) (hl : (k1 == 2) = false) (hm : (k0 == 0) = false) (hn : (k1 == 0) = false) (hA : ∀ w, Calls Tryd.prog 26 #[.int .u8 op, vVal k0 n0 s0, vVal k1 n1 s1] w fun e w' => e = .returned (vErr 11) ∧ Below w.heap.size w w') : Done op k0 n0 k1 n1 s0 s1 w := by
  have HS0 := Lib.hid hs0; have HR0 := Lib.hid hr0; have HT := Lib.hid ht; clear hs0 hr0 ht
  have HS1 := Lib.hid hs1; have HR1 := Lib.hid hr1; clear hs1 hr1
  have HA := Lib.hid hA; clear hA
  rcases hop with rfl | rfl | rfl | rfl | rfl
  all_goals
    go_enter Tryd.func11, Tryd.ntmps11
    go_wp2_with fail
    refine (lawRight_any k0 n0 s0 _ HS0.out).mono ?_
    rintro e w1 ⟨rfl, hb1⟩
    rw [HR0.out]
    have q1 : Below w.heap.size w w1 := (by go_grown : Below w.heap.size w _).trans (hb1.mono (by simp; omega))
    obtain ⟨hc1, hf1⟩ := bcell hb1
    have z1 : w.heap.size + 1 < w1.heap.size := by have := hb1.size; simp at this; omega
    have z0 : w.heap.size < w1.heap.size := by omega
    clear hb1
    go_wp2_with fail
    refine (lawRight_any k1 n1 s1 _ HS1.out).mono ?_
    rintro e w2 ⟨rfl, hb2⟩
    rw [HR1.out]
    have q2 : Below w.heap.size w w2 := q1.trans (hb2.mono q1.size)
    obtain ⟨hc2, hf2⟩ := bcell hb2
    have z2 : w.heap.size + 1 < w2.heap.size := Nat.lt_of_lt_of_le z1 hb2.size
    have z3 : w.heap.size < w2.heap.size := by omega
    clear hb2
    go_wp2_with fail
    refine (HA.out _).mono ?_
    rintro e w3 ⟨rfl, hb3⟩
    have q3 : Below w.heap.size w w3 := q2.trans (hb3.mono q2.size)
    obtain ⟨hc3, hf3⟩ := bcell hb3
    have z4 : w.heap.size + 1 < w3.heap.size := Nat.lt_of_lt_of_le z2 hb3.size
    have z5 : w.heap.size < w3.heap.size := by omega
    clear hb3
    go_wp2_with fail
    refine (awake_any _ (HT.out.stays (q3.alloc q3.size _) (Nat.le_refl _))).mono ?_
    rintro e wa ⟨rfl, hba⟩
    have qa : Below w.heap.size w wa := (q3.alloc q3.size _).trans (hba.mono (q3.alloc q3.size _).size)
    clear hba
    go_wp2_with fail
    go_ret
    exact ⟨rfl, qa⟩

end Go.Proofs.YthjlfhkmbhcpaaaDoor.valueKinds
