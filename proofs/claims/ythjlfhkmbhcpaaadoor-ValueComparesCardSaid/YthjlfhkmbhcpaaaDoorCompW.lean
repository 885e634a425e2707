/-
  The walk of ValueCompares.
-/
import Derived.Test.YthjlfhkmbhcpaaaDoorOps
import Derived.Test.YthjlfhkmbhcpaaaDoorCompare
import Derived.Lib.QuietBelow
import Derived.BigQuiet
namespace Go.Proofs.YthjlfhkmbhcpaaaDoor.valueCompares
open Go.RowKit Go.Sort

abbrev Done (op k0 n0 : Int) (s0 : ByteArray) (k1 n1 : Int) (s1 : ByteArray) (w : World) : Prop :=
  Calls Tryd.prog 10 #[.int .i64 op, vVal k0 n0 s0, vVal k1 n1 s1] w fun e w' => e = .returned (.bool true) ∧ Below w.heap.size w w'

theorem not_first (op k0 n0 : Int) (s0 : ByteArray) (k1 n1 : Int) (s1 : ByteArray) (w : World) (ht : Tab w) (hs0 : s0.size ≤ maxLen) (hr0 : rightV k0 n0 s0 = false) : Done op k0 n0 s0 k1 n1 s1 w := by
  have HS0 := Lib.hid hs0; have HR0 := Lib.hid hr0; have HT := Lib.hid ht; clear hs0 hr0 ht
  go_enter Tryd.func10, Tryd.ntmps10
  go_wp2_with fail
  refine (lawRight_any k0 n0 s0 _ HS0.out).mono ?_
  rintro e w1 ⟨rfl, hb1⟩
  rw [HR0.out]
  have q1 : Below w.heap.size w w1 := (by go_grown : Below w.heap.size w _).trans (hb1.mono (by simp; omega))
  obtain ⟨hc1, hf1⟩ := bcell hb1
  have z1 : w.heap.size + 1 < w1.heap.size := by have := hb1.size; simp at this; omega
  have z0 : w.heap.size < w1.heap.size := by omega
  clear hb1
  go_wp2_with fail
  refine (awake_any _ (HT.out.stays q1 (Nat.le_refl _))).mono ?_
  rintro e wa ⟨rfl, hba⟩
  have qa : Below w.heap.size w wa := q1.trans (hba.mono q1.size)
  clear hba
  go_wp2_with fail
  go_ret
  exact ⟨rfl, qa⟩

theorem not_second (op k0 n0 : Int) (s0 : ByteArray) (k1 n1 : Int) (s1 : ByteArray) (w : World) (ht : Tab w) (hs0 : s0.size ≤ maxLen) (hs1 : s1.size ≤ maxLen) (hr0 : rightV k0 n0 s0 = true) (hr1 : rightV k1 n1 s1 = false) : Done op k0 n0 s0 k1 n1 s1 w := by
  have HS0 := Lib.hid hs0; have HR0 := Lib.hid hr0; have HT := Lib.hid ht; clear hs0 hr0 ht
  have HS1 := Lib.hid hs1; have HR1 := Lib.hid hr1; clear hs1 hr1
  go_enter Tryd.func10, Tryd.ntmps10
  go_wp2_with fail
  refine (lawRight_any k0 n0 s0 _ HS0.out).mono ?_
  rintro e w1 ⟨rfl, hb1⟩
  rw [HR0.out]
  have q1 : Below w.heap.size w w1 := (by go_grown : Below w.heap.size w _).trans (hb1.mono (by simp; omega))
  obtain ⟨hc1, hf1⟩ := bcell hb1
  have z1 : w.heap.size + 1 < w1.heap.size := by have := hb1.size; simp at this; omega
  have z0 : w.heap.size < w1.heap.size := by omega
  clear hb1
  go_wp2_with fail
  refine (lawRight_any k1 n1 s1 _ HS1.out).mono ?_
  rintro e w2 ⟨rfl, hb2⟩
  rw [HR1.out]
  have q2 : Below w.heap.size w w2 := q1.trans (hb2.mono q1.size)
  obtain ⟨hc2, hf2⟩ := bcell hb2
  have z2 : w.heap.size + 1 < w2.heap.size := Nat.lt_of_lt_of_le z1 hb2.size
  have z3 : w.heap.size < w2.heap.size := by omega
  clear hb2
  go_wp2_with fail
  refine (awake_any _ (HT.out.stays q2 (Nat.le_refl _))).mono ?_
  rintro e wa ⟨rfl, hba⟩
  have qa : Below w.heap.size w wa := q2.trans (hba.mono q2.size)
  clear hba
  go_wp2_with fail
  go_ret
  exact ⟨rfl, qa⟩

set_option maxRecDepth 100000 in
set_option maxHeartbeats 4000000 in
theorem null1 (op k0 n0 : Int) (s0 : ByteArray) (k1 n1 : Int) (s1 : ByteArray) (w : World) (ht : Tab w) (hs0 : s0.size ≤ maxLen) (hs1 : s1.size ≤ maxLen) (hr0 : rightV k0 n0 s0 = true) (hr1 : rightV k1 n1 s1 = true) (hk : (k0 == 0) = true) (hA : ∀ w, Calls Tryd.prog 29 #[.int .i64 op, vVal k0 n0 s0, vVal k1 n1 s1] w fun e w' => e = .returned (vNull) ∧ Below w.heap.size w w') : Done op k0 n0 s0 k1 n1 s1 w := by
  have HS0 := Lib.hid hs0; have HR0 := Lib.hid hr0; have HT := Lib.hid ht; clear hs0 hr0 ht
  have HS1 := Lib.hid hs1; have HR1 := Lib.hid hr1; clear hs1 hr1
  have HA := Lib.hid hA; clear hA
  go_enter Tryd.func10, Tryd.ntmps10
  go_wp2_with fail
  refine (lawRight_any k0 n0 s0 _ HS0.out).mono ?_
  rintro e w1 ⟨rfl, hb1⟩
  rw [HR0.out]
  have q1 : Below w.heap.size w w1 := (by go_grown : Below w.heap.size w _).trans (hb1.mono (by simp; omega))
  obtain ⟨hc1, hf1⟩ := bcell hb1
  have z1 : w.heap.size + 1 < w1.heap.size := by have := hb1.size; simp at this; omega
  have z0 : w.heap.size < w1.heap.size := by omega
  clear hb1
  go_wp2_with fail
  refine (lawRight_any k1 n1 s1 _ HS1.out).mono ?_
  rintro e w2 ⟨rfl, hb2⟩
  rw [HR1.out]
  have q2 : Below w.heap.size w w2 := q1.trans (hb2.mono q1.size)
  obtain ⟨hc2, hf2⟩ := bcell hb2
  have z2 : w.heap.size + 1 < w2.heap.size := Nat.lt_of_lt_of_le z1 hb2.size
  have z3 : w.heap.size < w2.heap.size := by omega
  clear hb2
  go_wp2_with fail
  refine (HA.out _).mono ?_
  rintro e w3 ⟨rfl, hb3⟩
  have q3 : Below w.heap.size w w3 := q2.trans (hb3.mono q2.size)
  obtain ⟨hc3, hf3⟩ := bcell hb3
  have z4 : w.heap.size + 1 < w3.heap.size := Nat.lt_of_lt_of_le z2 hb3.size
  have z5 : w.heap.size < w3.heap.size := by omega
  clear hb3
  go_wp2_with fail
  refine (awake_any _ (HT.out.stays (q3.alloc q3.size _) (Nat.le_refl _))).mono ?_
  rintro e wa ⟨rfl, hba⟩
  have qa : Below w.heap.size w wa := (q3.alloc q3.size _).trans (hba.mono (q3.alloc q3.size _).size)
  clear hba
  go_wp2_with fail
  go_ret
  exact ⟨rfl, qa⟩

set_option maxRecDepth 100000 in
set_option maxHeartbeats 4000000 in
theorem null2 (op k0 n0 : Int) (s0 : ByteArray) (k1 n1 : Int) (s1 : ByteArray) (w : World) (ht : Tab w) (hs0 : s0.size ≤ maxLen) (hs1 : s1.size ≤ maxLen) (hr0 : rightV k0 n0 s0 = true) (hr1 : rightV k1 n1 s1 = true) (hk : (k0 == 0) = false) (hl : (k1 == 0) = true) (hA : ∀ w, Calls Tryd.prog 29 #[.int .i64 op, vVal k0 n0 s0, vVal k1 n1 s1] w fun e w' => e = .returned (vNull) ∧ Below w.heap.size w w') : Done op k0 n0 s0 k1 n1 s1 w := by
  have HS0 := Lib.hid hs0; have HR0 := Lib.hid hr0; have HT := Lib.hid ht; clear hs0 hr0 ht
  have HS1 := Lib.hid hs1; have HR1 := Lib.hid hr1; clear hs1 hr1
  have HA := Lib.hid hA; clear hA
  go_enter Tryd.func10, Tryd.ntmps10
  go_wp2_with fail
  refine (lawRight_any k0 n0 s0 _ HS0.out).mono ?_
  rintro e w1 ⟨rfl, hb1⟩
  rw [HR0.out]
  have q1 : Below w.heap.size w w1 := (by go_grown : Below w.heap.size w _).trans (hb1.mono (by simp; omega))
  obtain ⟨hc1, hf1⟩ := bcell hb1
  have z1 : w.heap.size + 1 < w1.heap.size := by have := hb1.size; simp at this; omega
  have z0 : w.heap.size < w1.heap.size := by omega
  clear hb1
  go_wp2_with fail
  refine (lawRight_any k1 n1 s1 _ HS1.out).mono ?_
  rintro e w2 ⟨rfl, hb2⟩
  rw [HR1.out]
  have q2 : Below w.heap.size w w2 := q1.trans (hb2.mono q1.size)
  obtain ⟨hc2, hf2⟩ := bcell hb2
  have z2 : w.heap.size + 1 < w2.heap.size := Nat.lt_of_lt_of_le z1 hb2.size
  have z3 : w.heap.size < w2.heap.size := by omega
  clear hb2
  go_wp2_with fail
  refine (HA.out _).mono ?_
  rintro e w3 ⟨rfl, hb3⟩
  have q3 : Below w.heap.size w w3 := q2.trans (hb3.mono q2.size)
  obtain ⟨hc3, hf3⟩ := bcell hb3
  have z4 : w.heap.size + 1 < w3.heap.size := Nat.lt_of_lt_of_le z2 hb3.size
  have z5 : w.heap.size < w3.heap.size := by omega
  clear hb3
  go_wp2_with fail
  refine (awake_any _ (HT.out.stays (q3.alloc q3.size _) (Nat.le_refl _))).mono ?_
  rintro e wa ⟨rfl, hba⟩
  have qa : Below w.heap.size w wa := (q3.alloc q3.size _).trans (hba.mono (q3.alloc q3.size _).size)
  clear hba
  go_wp2_with fail
  go_ret
  exact ⟨rfl, qa⟩

set_option maxRecDepth 100000 in
set_option maxHeartbeats 4000000 in
theorem low (op k0 n0 : Int) (s0 : ByteArray) (k1 n1 : Int) (s1 : ByteArray) (w : World) (ht : Tab w) (hs0 : s0.size ≤ maxLen) (hs1 : s1.size ≤ maxLen) (hr0 : rightV k0 n0 s0 = true) (hr1 : rightV k1 n1 s1 = true) (hk : (k0 == 0) = false) (hl : (k1 == 0) = false) (ho : op < 1) (hA : ∀ w, Calls Tryd.prog 29 #[.int .i64 op, vVal k0 n0 s0, vVal k1 n1 s1] w fun e w' => e = .returned (vNull) ∧ Below w.heap.size w w') : Done op k0 n0 s0 k1 n1 s1 w := by
  have HS0 := Lib.hid hs0; have HR0 := Lib.hid hr0; have HT := Lib.hid ht; clear hs0 hr0 ht
  have HS1 := Lib.hid hs1; have HR1 := Lib.hid hr1; clear hs1 hr1
  have HA := Lib.hid hA; clear hA
  go_enter Tryd.func10, Tryd.ntmps10
  go_wp2_with fail
  refine (lawRight_any k0 n0 s0 _ HS0.out).mono ?_
  rintro e w1 ⟨rfl, hb1⟩
  rw [HR0.out]
  have q1 : Below w.heap.size w w1 := (by go_grown : Below w.heap.size w _).trans (hb1.mono (by simp; omega))
  obtain ⟨hc1, hf1⟩ := bcell hb1
  have z1 : w.heap.size + 1 < w1.heap.size := by have := hb1.size; simp at this; omega
  have z0 : w.heap.size < w1.heap.size := by omega
  clear hb1
  go_wp2_with fail
  refine (lawRight_any k1 n1 s1 _ HS1.out).mono ?_
  rintro e w2 ⟨rfl, hb2⟩
  rw [HR1.out]
  have q2 : Below w.heap.size w w2 := q1.trans (hb2.mono q1.size)
  obtain ⟨hc2, hf2⟩ := bcell hb2
  have z2 : w.heap.size + 1 < w2.heap.size := Nat.lt_of_lt_of_le z1 hb2.size
  have z3 : w.heap.size < w2.heap.size := by omega
  clear hb2
  go_wp2_with fail
  refine (HA.out _).mono ?_
  rintro e w3 ⟨rfl, hb3⟩
  have q3 : Below w.heap.size w w3 := q2.trans (hb3.mono q2.size)
  obtain ⟨hc3, hf3⟩ := bcell hb3
  have z4 : w.heap.size + 1 < w3.heap.size := Nat.lt_of_lt_of_le z2 hb3.size
  have z5 : w.heap.size < w3.heap.size := by omega
  clear hb3
  go_wp2_with fail
  refine (awake_any _ (HT.out.stays (q3.alloc q3.size _) (Nat.le_refl _))).mono ?_
  rintro e wa ⟨rfl, hba⟩
  have qa : Below w.heap.size w wa := (q3.alloc q3.size _).trans (hba.mono (q3.alloc q3.size _).size)
  clear hba
  go_wp2_with fail
  go_ret
  exact ⟨rfl, qa⟩

set_option maxRecDepth 100000 in
set_option maxHeartbeats 4000000 in
theorem high (op k0 n0 : Int) (s0 : ByteArray) (k1 n1 : Int) (s1 : ByteArray) (w : World) (ht : Tab w) (hs0 : s0.size ≤ maxLen) (hs1 : s1.size ≤ maxLen) (hr0 : rightV k0 n0 s0 = true) (hr1 : rightV k1 n1 s1 = true) (hk : (k0 == 0) = false) (hl : (k1 == 0) = false) (ho : ¬ op < 1) (ho2 : 6 < op) (hA : ∀ w, Calls Tryd.prog 29 #[.int .i64 op, vVal k0 n0 s0, vVal k1 n1 s1] w fun e w' => e = .returned (vNull) ∧ Below w.heap.size w w') : Done op k0 n0 s0 k1 n1 s1 w := by
  have HS0 := Lib.hid hs0; have HR0 := Lib.hid hr0; have HT := Lib.hid ht; clear hs0 hr0 ht
  have HS1 := Lib.hid hs1; have HR1 := Lib.hid hr1; clear hs1 hr1
  have HA := Lib.hid hA; clear hA
  go_enter Tryd.func10, Tryd.ntmps10
  go_wp2_with fail
  refine (lawRight_any k0 n0 s0 _ HS0.out).mono ?_
  rintro e w1 ⟨rfl, hb1⟩
  rw [HR0.out]
  have q1 : Below w.heap.size w w1 := (by go_grown : Below w.heap.size w _).trans (hb1.mono (by simp; omega))
  obtain ⟨hc1, hf1⟩ := bcell hb1
  have z1 : w.heap.size + 1 < w1.heap.size := by have := hb1.size; simp at this; omega
  have z0 : w.heap.size < w1.heap.size := by omega
  clear hb1
  go_wp2_with fail
  refine (lawRight_any k1 n1 s1 _ HS1.out).mono ?_
  rintro e w2 ⟨rfl, hb2⟩
  rw [HR1.out]
  have q2 : Below w.heap.size w w2 := q1.trans (hb2.mono q1.size)
  obtain ⟨hc2, hf2⟩ := bcell hb2
  have z2 : w.heap.size + 1 < w2.heap.size := Nat.lt_of_lt_of_le z1 hb2.size
  have z3 : w.heap.size < w2.heap.size := by omega
  clear hb2
  go_wp2_with fail
  refine (HA.out _).mono ?_
  rintro e w3 ⟨rfl, hb3⟩
  have q3 : Below w.heap.size w w3 := q2.trans (hb3.mono q2.size)
  obtain ⟨hc3, hf3⟩ := bcell hb3
  have z4 : w.heap.size + 1 < w3.heap.size := Nat.lt_of_lt_of_le z2 hb3.size
  have z5 : w.heap.size < w3.heap.size := by omega
  clear hb3
  go_wp2_with fail
  refine (awake_any _ (HT.out.stays (q3.alloc q3.size _) (Nat.le_refl _))).mono ?_
  rintro e wa ⟨rfl, hba⟩
  have qa : Below w.heap.size w wa := (q3.alloc q3.size _).trans (hba.mono (q3.alloc q3.size _).size)
  clear hba
  go_wp2_with fail
  go_ret
  exact ⟨rfl, qa⟩

set_option maxRecDepth 100000 in
set_option maxHeartbeats 4000000 in
theorem holds (op k0 n0 : Int) (s0 : ByteArray) (k1 n1 : Int) (s1 : ByteArray) (w : World) (ht : Tab w) (hs0 : s0.size ≤ maxLen) (hs1 : s1.size ≤ maxLen) (hr0 : rightV k0 n0 s0 = true) (hr1 : rightV k1 n1 s1 = true) (hk : (k0 == 0) = false) (hl : (k1 == 0) = false) (ho : ¬ op < 1) (ho2 : ¬ 6 < op) (hA : ∀ w, Calls Tryd.prog 29 #[.int .i64 op, vVal k0 n0 s0, vVal k1 n1 s1] w fun e w' => e = .returned (vInt 1) ∧ Below w.heap.size w w')
    (hH : ∀ w, Calls Tryd.prog 30 #[.int .i64 op, vVal k0 n0 s0, vVal k1 n1 s1] w fun e w' => e = .returned (.bool true) ∧ Below w.heap.size w w') : Done op k0 n0 s0 k1 n1 s1 w := by
  have HS0 := Lib.hid hs0; have HR0 := Lib.hid hr0; have HT := Lib.hid ht; clear hs0 hr0 ht
  have HS1 := Lib.hid hs1; have HR1 := Lib.hid hr1; clear hs1 hr1
  have HA := Lib.hid hA; clear hA
  have HH := Lib.hid hH; clear hH
  go_enter Tryd.func10, Tryd.ntmps10
  go_wp2_with fail
  refine (lawRight_any k0 n0 s0 _ HS0.out).mono ?_
  rintro e w1 ⟨rfl, hb1⟩
  rw [HR0.out]
  have q1 : Below w.heap.size w w1 := (by go_grown : Below w.heap.size w _).trans (hb1.mono (by simp; omega))
  obtain ⟨hc1, hf1⟩ := bcell hb1
  have z1 : w.heap.size + 1 < w1.heap.size := by have := hb1.size; simp at this; omega
  have z0 : w.heap.size < w1.heap.size := by omega
  clear hb1
  go_wp2_with fail
  refine (lawRight_any k1 n1 s1 _ HS1.out).mono ?_
  rintro e w2 ⟨rfl, hb2⟩
  rw [HR1.out]
  have q2 : Below w.heap.size w w2 := q1.trans (hb2.mono q1.size)
  obtain ⟨hc2, hf2⟩ := bcell hb2
  have z2 : w.heap.size + 1 < w2.heap.size := Nat.lt_of_lt_of_le z1 hb2.size
  have z3 : w.heap.size < w2.heap.size := by omega
  clear hb2
  go_wp2_with fail
  refine (HA.out _).mono ?_
  rintro e w3 ⟨rfl, hb3⟩
  have q3 : Below w.heap.size w w3 := q2.trans (hb3.mono q2.size)
  obtain ⟨hc3, hf3⟩ := bcell hb3
  have z4 : w.heap.size + 1 < w3.heap.size := Nat.lt_of_lt_of_le z2 hb3.size
  have z5 : w.heap.size < w3.heap.size := by omega
  clear hb3
  go_wp2_with fail
  have hw4 := Joins.below_alloc1 w3 (.cells #[.int .i64 1, .int .i64 1, .string ⟨#[]⟩] 23)
  have r0 : ∀ d os, (grow (redrawn (w3.alloc (.cells #[.int .i64 1, .int .i64 1, .string ⟨#[]⟩] 23)) d) os).cell? ⟨w.heap.size, 0, none⟩ = some (.int .i64 k0) := fun d os => cell_regrown ((hw4.cell (p := ⟨w.heap.size, 0, none⟩) z5).trans (by rw [hc3 _ _ z3, hc2 _ _ z0, hc1 _ _ (by simp; try omega)]; simp)) d os
  have r1 : ∀ d os, (grow (redrawn (w3.alloc (.cells #[.int .i64 1, .int .i64 1, .string ⟨#[]⟩] 23)) d) os).cell? ⟨w.heap.size, 1, none⟩ = some (.int .i64 n0) := fun d os => cell_regrown ((hw4.cell (p := ⟨w.heap.size, 1, none⟩) z5).trans (by rw [hc3 _ _ z3, hc2 _ _ z0, hc1 _ _ (by simp; try omega)]; simp)) d os
  have r2 : ∀ d os, (grow (redrawn (w3.alloc (.cells #[.int .i64 1, .int .i64 1, .string ⟨#[]⟩] 23)) d) os).cell? ⟨w.heap.size, 2, none⟩ = some (.string s0) := fun d os => cell_regrown ((hw4.cell (p := ⟨w.heap.size, 2, none⟩) z5).trans (by rw [hc3 _ _ z3, hc2 _ _ z0, hc1 _ _ (by simp; try omega)]; simp)) d os
  have r3 : ∀ d os, (grow (redrawn (w3.alloc (.cells #[.int .i64 1, .int .i64 1, .string ⟨#[]⟩] 23)) d) os).cell? ⟨w.heap.size + 1, 0, none⟩ = some (.int .i64 k1) := fun d os => cell_regrown ((hw4.cell (p := ⟨w.heap.size + 1, 0, none⟩) z4).trans (by rw [hc3 _ _ z2, hc2 _ _ z1, hc1 _ _ (by simp; try omega)]; simp)) d os
  have r4 : ∀ d os, (grow (redrawn (w3.alloc (.cells #[.int .i64 1, .int .i64 1, .string ⟨#[]⟩] 23)) d) os).cell? ⟨w.heap.size + 1, 1, none⟩ = some (.int .i64 n1) := fun d os => cell_regrown ((hw4.cell (p := ⟨w.heap.size + 1, 1, none⟩) z4).trans (by rw [hc3 _ _ z2, hc2 _ _ z1, hc1 _ _ (by simp; try omega)]; simp)) d os
  have r5 : ∀ d os, (grow (redrawn (w3.alloc (.cells #[.int .i64 1, .int .i64 1, .string ⟨#[]⟩] 23)) d) os).cell? ⟨w.heap.size + 1, 2, none⟩ = some (.string s1) := fun d os => cell_regrown ((hw4.cell (p := ⟨w.heap.size + 1, 2, none⟩) z4).trans (by rw [hc3 _ _ z2, hc2 _ _ z1, hc1 _ _ (by simp; try omega)]; simp)) d os
  have c0 : ∀ i, (w3.alloc (.cells #[.int .i64 1, .int .i64 1, .string ⟨#[]⟩] 23)).cell? ⟨w3.heap.size, i, none⟩ = (#[.int .i64 1, .int .i64 1, .string ⟨#[]⟩] : Array Value)[i]? := fun i => World.cell?_alloc_mark w3 _ _ (0, 0) i
  have q4 : Below w.heap.size w (w3.alloc (.cells #[.int .i64 1, .int .i64 1, .string ⟨#[]⟩] 23)) := q3.alloc q3.size _
  have zz : w3.heap.size < (w3.alloc (.cells #[.int .i64 1, .int .i64 1, .string ⟨#[]⟩] 23)).heap.size := by simp
  clear hc1 hc2 hc3 hf1 hf2 hf3 hw4 q3
  have c1 := c0 0; have c2 := c0 1; have c3 := c0 2
  clear c0
  generalize w3.alloc (.cells #[.int .i64 1, .int .i64 1, .string ⟨#[]⟩] 23) = w4 at *
  refine wp_region_quiet_below (by kernel_rfl) (by kernel_rfl) ?_
  repeat (go_big_quiet_step (first
      | (go_at_call 15; exact Calls.regrown_of (ref_any _ _ _ _))
      | (go_at_call 30; exact Calls.regrown_of (HH.out _))))
  refine wpQuiet_nil ?_
  intro _ hw'
  obtain ⟨⟨dq, osq⟩, hw''⟩ := hw'
  subst hw''
  have q5 := q4.trans ((below_regrown w4 dq osq).mono q4.size)
  have e1 := cell_regrown c1 dq osq
  have e2 := cell_regrown c2 dq osq
  have e3 := cell_regrown c3 dq osq
  clear r0 r1 r2 r3 r4 r5 c1 c2 c3 q4
  generalize grow (redrawn w4 dq) osq = w5 at *
  go_wp2_with fail
  have q6 := q5
  have s1' := fun d os => cell_regrown e1 d os
  have s2' := fun d os => cell_regrown e2 d os
  have s3' := fun d os => cell_regrown e3 d os
  have HTq := Lib.hid (fun d os => HT.out.stays (q6.trans ((below_regrown w5 d os).mono q6.size)) (Nat.le_refl _))
  clear e1 e2 e3
  refine wp_region_quiet_below (by kernel_rfl) (by kernel_rfl) ?_
  repeat (go_big_quiet_step (first
      | (go_at_call 24; exact Calls.regrown_of (of_any _ _))
      | (go_at_call 12; exact Calls.regrown_of (awake_any _ (HTq.out _ _)))))
  refine wpQuiet_nil ?_
  intro _ hw'
  obtain ⟨⟨dr, osr⟩, hw''⟩ := hw'
  subst hw''
  have q9 := q6.trans ((below_regrown w5 dr osr).mono q6.size)
  go_wp2_with fail
  go_ret
  exact ⟨rfl, q9⟩
set_option maxRecDepth 100000 in
set_option maxHeartbeats 4000000 in
theorem fails (op k0 n0 : Int) (s0 : ByteArray) (k1 n1 : Int) (s1 : ByteArray) (w : World) (ht : Tab w) (hs0 : s0.size ≤ maxLen) (hs1 : s1.size ≤ maxLen) (hr0 : rightV k0 n0 s0 = true) (hr1 : rightV k1 n1 s1 = true) (hk : (k0 == 0) = false) (hl : (k1 == 0) = false) (ho : ¬ op < 1) (ho2 : ¬ 6 < op) (hA : ∀ w, Calls Tryd.prog 29 #[.int .i64 op, vVal k0 n0 s0, vVal k1 n1 s1] w fun e w' => e = .returned (vInt 0) ∧ Below w.heap.size w w')
    (hH : ∀ w, Calls Tryd.prog 30 #[.int .i64 op, vVal k0 n0 s0, vVal k1 n1 s1] w fun e w' => e = .returned (.bool false) ∧ Below w.heap.size w w') : Done op k0 n0 s0 k1 n1 s1 w := by
  have HS0 := Lib.hid hs0; have HR0 := Lib.hid hr0; have HT := Lib.hid ht; clear hs0 hr0 ht
  have HS1 := Lib.hid hs1; have HR1 := Lib.hid hr1; clear hs1 hr1
  have HA := Lib.hid hA; clear hA
  have HH := Lib.hid hH; clear hH
  go_enter Tryd.func10, Tryd.ntmps10
  go_wp2_with fail
  refine (lawRight_any k0 n0 s0 _ HS0.out).mono ?_
  rintro e w1 ⟨rfl, hb1⟩
  rw [HR0.out]
  have q1 : Below w.heap.size w w1 := (by go_grown : Below w.heap.size w _).trans (hb1.mono (by simp; omega))
  obtain ⟨hc1, hf1⟩ := bcell hb1
  have z1 : w.heap.size + 1 < w1.heap.size := by have := hb1.size; simp at this; omega
  have z0 : w.heap.size < w1.heap.size := by omega
  clear hb1
  go_wp2_with fail
  refine (lawRight_any k1 n1 s1 _ HS1.out).mono ?_
  rintro e w2 ⟨rfl, hb2⟩
  rw [HR1.out]
  have q2 : Below w.heap.size w w2 := q1.trans (hb2.mono q1.size)
  obtain ⟨hc2, hf2⟩ := bcell hb2
  have z2 : w.heap.size + 1 < w2.heap.size := Nat.lt_of_lt_of_le z1 hb2.size
  have z3 : w.heap.size < w2.heap.size := by omega
  clear hb2
  go_wp2_with fail
  refine (HA.out _).mono ?_
  rintro e w3 ⟨rfl, hb3⟩
  have q3 : Below w.heap.size w w3 := q2.trans (hb3.mono q2.size)
  obtain ⟨hc3, hf3⟩ := bcell hb3
  have z4 : w.heap.size + 1 < w3.heap.size := Nat.lt_of_lt_of_le z2 hb3.size
  have z5 : w.heap.size < w3.heap.size := by omega
  clear hb3
  go_wp2_with fail
  have hw4 := Joins.below_alloc1 w3 (.cells #[.int .i64 1, .int .i64 0, .string ⟨#[]⟩] 23)
  have r0 : ∀ d os, (grow (redrawn (w3.alloc (.cells #[.int .i64 1, .int .i64 0, .string ⟨#[]⟩] 23)) d) os).cell? ⟨w.heap.size, 0, none⟩ = some (.int .i64 k0) := fun d os => cell_regrown ((hw4.cell (p := ⟨w.heap.size, 0, none⟩) z5).trans (by rw [hc3 _ _ z3, hc2 _ _ z0, hc1 _ _ (by simp; try omega)]; simp)) d os
  have r1 : ∀ d os, (grow (redrawn (w3.alloc (.cells #[.int .i64 1, .int .i64 0, .string ⟨#[]⟩] 23)) d) os).cell? ⟨w.heap.size, 1, none⟩ = some (.int .i64 n0) := fun d os => cell_regrown ((hw4.cell (p := ⟨w.heap.size, 1, none⟩) z5).trans (by rw [hc3 _ _ z3, hc2 _ _ z0, hc1 _ _ (by simp; try omega)]; simp)) d os
  have r2 : ∀ d os, (grow (redrawn (w3.alloc (.cells #[.int .i64 1, .int .i64 0, .string ⟨#[]⟩] 23)) d) os).cell? ⟨w.heap.size, 2, none⟩ = some (.string s0) := fun d os => cell_regrown ((hw4.cell (p := ⟨w.heap.size, 2, none⟩) z5).trans (by rw [hc3 _ _ z3, hc2 _ _ z0, hc1 _ _ (by simp; try omega)]; simp)) d os
  have r3 : ∀ d os, (grow (redrawn (w3.alloc (.cells #[.int .i64 1, .int .i64 0, .string ⟨#[]⟩] 23)) d) os).cell? ⟨w.heap.size + 1, 0, none⟩ = some (.int .i64 k1) := fun d os => cell_regrown ((hw4.cell (p := ⟨w.heap.size + 1, 0, none⟩) z4).trans (by rw [hc3 _ _ z2, hc2 _ _ z1, hc1 _ _ (by simp; try omega)]; simp)) d os
  have r4 : ∀ d os, (grow (redrawn (w3.alloc (.cells #[.int .i64 1, .int .i64 0, .string ⟨#[]⟩] 23)) d) os).cell? ⟨w.heap.size + 1, 1, none⟩ = some (.int .i64 n1) := fun d os => cell_regrown ((hw4.cell (p := ⟨w.heap.size + 1, 1, none⟩) z4).trans (by rw [hc3 _ _ z2, hc2 _ _ z1, hc1 _ _ (by simp; try omega)]; simp)) d os
  have r5 : ∀ d os, (grow (redrawn (w3.alloc (.cells #[.int .i64 1, .int .i64 0, .string ⟨#[]⟩] 23)) d) os).cell? ⟨w.heap.size + 1, 2, none⟩ = some (.string s1) := fun d os => cell_regrown ((hw4.cell (p := ⟨w.heap.size + 1, 2, none⟩) z4).trans (by rw [hc3 _ _ z2, hc2 _ _ z1, hc1 _ _ (by simp; try omega)]; simp)) d os
  have c0 : ∀ i, (w3.alloc (.cells #[.int .i64 1, .int .i64 0, .string ⟨#[]⟩] 23)).cell? ⟨w3.heap.size, i, none⟩ = (#[.int .i64 1, .int .i64 0, .string ⟨#[]⟩] : Array Value)[i]? := fun i => World.cell?_alloc_mark w3 _ _ (0, 0) i
  have q4 : Below w.heap.size w (w3.alloc (.cells #[.int .i64 1, .int .i64 0, .string ⟨#[]⟩] 23)) := q3.alloc q3.size _
  have zz : w3.heap.size < (w3.alloc (.cells #[.int .i64 1, .int .i64 0, .string ⟨#[]⟩] 23)).heap.size := by simp
  clear hc1 hc2 hc3 hf1 hf2 hf3 hw4 q3
  have c1 := c0 0; have c2 := c0 1; have c3 := c0 2
  clear c0
  generalize w3.alloc (.cells #[.int .i64 1, .int .i64 0, .string ⟨#[]⟩] 23) = w4 at *
  refine wp_region_quiet_below (by kernel_rfl) (by kernel_rfl) ?_
  repeat (go_big_quiet_step (first
      | (go_at_call 15; exact Calls.regrown_of (ref_any _ _ _ _))
      | (go_at_call 30; exact Calls.regrown_of (HH.out _))))
  refine wpQuiet_nil ?_
  intro _ hw'
  obtain ⟨⟨dq, osq⟩, hw''⟩ := hw'
  subst hw''
  have q5 := q4.trans ((below_regrown w4 dq osq).mono q4.size)
  have e1 := cell_regrown c1 dq osq
  have e2 := cell_regrown c2 dq osq
  have e3 := cell_regrown c3 dq osq
  clear r0 r1 r2 r3 r4 r5 c1 c2 c3 q4
  generalize grow (redrawn w4 dq) osq = w5 at *
  go_wp2_with fail
  have q6 := q5
  have s1' := fun d os => cell_regrown e1 d os
  have s2' := fun d os => cell_regrown e2 d os
  have s3' := fun d os => cell_regrown e3 d os
  have HTq := Lib.hid (fun d os => HT.out.stays (q6.trans ((below_regrown w5 d os).mono q6.size)) (Nat.le_refl _))
  clear e1 e2 e3
  refine wp_region_quiet_below (by kernel_rfl) (by kernel_rfl) ?_
  repeat (go_big_quiet_step (first
      | (go_at_call 24; exact Calls.regrown_of (of_any _ _))
      | (go_at_call 12; exact Calls.regrown_of (awake_any _ (HTq.out _ _)))))
  refine wpQuiet_nil ?_
  intro _ hw'
  obtain ⟨⟨dr, osr⟩, hw''⟩ := hw'
  subst hw''
  have q9 := q6.trans ((below_regrown w5 dr osr).mono q6.size)
  go_wp2_with fail
  go_ret
  exact ⟨rfl, q9⟩
end Go.Proofs.YthjlfhkmbhcpaaaDoor.valueCompares
