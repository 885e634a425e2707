/-
  The walk of ValueQuotients.
-/
import Derived.Test.YthjlfhkmbhcpaaaDoorOps
import Derived.Test.YthjlfhkmbhcpaaaDoorFits
import Derived.Deep.RegionHeld3
namespace Go.Proofs.YthjlfhkmbhcpaaaDoor.valueQuotients
open Go.RowKit

abbrev Done (a b : Int) (w : World) : Prop := Calls Tryd.prog 8 #[.int .i64 a, .int .i64 b] w fun e w' => e = .returned (.bool true) ∧ Below w.heap.size w w'
set_option maxRecDepth 100000 in
set_option maxHeartbeats 2000000 in
theorem zero (a b : Int) (w : World) (ht : Tab w) (hz : b = 0) : Done a b w := by
  have HA : Hid (∀ w, Calls Tryd.prog 26 #[.int .u8 47, vInt a, vInt b] w fun e w' => e = .returned (vErr 11) ∧ Below w.heap.size w w') := Lib.hid fun w => arith_quo_zero 47 a b w opIx_47 rfl (by simpa using hz)
  have HB : Hid (∀ w, Calls Tryd.prog 26 #[.int .u8 37, vInt a, vInt b] w fun e w' => e = .returned (vErr 11) ∧ Below w.heap.size w w') := Lib.hid fun w => arith_rem_zero 37 a b w opIx_37 rfl rfl (by simpa using hz)
  have hbz : (b == 0) = true := by simpa using hz
  have HT := Lib.hid ht; clear ht hz
  go_enter Tryd.func8, Tryd.ntmps8
  go_wp2_with fail
  refine (of_any a _).mono ?_
  rintro e w1 ⟨rfl, hb1⟩
  go_wp2_with fail
  refine (of_any b _).mono ?_
  rintro e w2 ⟨rfl, hb2⟩
  go_wp2_with fail
  refine (HA.out _).mono ?_
  rintro e w3 ⟨rfl, hb3⟩
  have q3 : Below w.heap.size w w3 := (hb1.trans (hb2.mono hb1.size)).trans (hb3.mono (Nat.le_trans hb1.size hb2.size))
  clear hb1 hb2 hb3
  go_wp2_with fail
  refine (of_any a _).mono ?_
  rintro e w4 ⟨rfl, hb4⟩
  go_wp2_with fail
  refine (of_any b _).mono ?_
  rintro e w5 ⟨rfl, hb5⟩
  go_wp2_with fail
  refine (HB.out _).mono ?_
  rintro e w6 ⟨rfl, hb6⟩
  have r6 : Below (w3.alloc (.cells #[.int .i64 0, .int .i64 0, .string ⟨#[]⟩] 23)).heap.size _ w6 := (hb4.trans (hb5.mono hb4.size)).trans (hb6.mono (Nat.le_trans hb4.size hb5.size))
  clear hb4 hb5 hb6
  have q6 : Below w.heap.size w w6 := (q3.alloc q3.size _).trans (r6.mono (by have := q3.size; simp; omega))
  obtain ⟨hc, hf⟩ := bcell r6
  have x0 : w6.cell? ⟨w3.heap.size, 0, none⟩ = some (.int .i64 0) := by rw [hc _ _ (by simp)]; simp
  have x1 : w6.cell? ⟨w3.heap.size, 1, none⟩ = some (.int .i64 0) := by rw [hc _ _ (by simp)]; simp
  have x2 : w6.cell? ⟨w3.heap.size, 2, none⟩ = some (.string ⟨#[]⟩) := by rw [hc _ _ (by simp)]; simp
  have z6 : w3.heap.size < w6.heap.size := by have := r6.size; simp at this; omega
  clear hc hf r6 q3
  go_wp2_with fail
  refine (awake_any _ (HT.out.stays (q6.alloc q6.size _) (Nat.le_refl _))).mono ?_
  rintro e wa ⟨rfl, hba⟩
  have qa : Below w.heap.size w wa := (q6.alloc q6.size _).trans (hba.mono (q6.alloc q6.size _).size)
  clear hba
  go_wp2_with fail
  go_ret
  exact ⟨rfl, qa⟩
set_option maxRecDepth 100000 in
set_option maxHeartbeats 2000000 in
theorem least (a b : Int) (w : World) (ht : Tab w) (hb : b = -1) (ha : a = -9223372036854775808) : Done a b w := by
  have n1 : ¬ I64 (a.tdiv b) := by rw [hb, ha, Int.tdiv_neg, Int.tdiv_one]; unfold I64; omega
  have n2 : a.tmod b = 0 := by rw [hb, Int.tmod_neg, Int.tmod_one]
  have HA : Hid (∀ w, Calls Tryd.prog 26 #[.int .u8 47, vInt a, vInt b] w fun e w' => e = .returned (vErr 10) ∧ Below w.heap.size w w') := Lib.hid fun w => by have h := arith_div a b w (by rw [ha]; unfold I64; omega) (by omega); rw [arRes_no n1] at h; exact h
  have HB : Hid (∀ w, Calls Tryd.prog 26 #[.int .u8 37, vInt a, vInt b] w fun e w' => e = .returned (.tuple #[vInt 0, .int .i64 0]) ∧ Below w.heap.size w w') := Lib.hid fun w => by have h := arith_rem a b w (by omega); rw [n2] at h; exact h
  have hb0 : (b == 0) = false := by rw [hb]; decide
  have hb1 : (b == -1) = true := by rw [hb]; decide
  have ha1 : (a == -9223372036854775808) = true := by rw [ha]; decide
  have HT := Lib.hid ht; clear ht hb ha n1 n2
  go_enter Tryd.func8, Tryd.ntmps8
  go_wp2_with fail
  refine (of_any a _).mono ?_
  rintro e w1 ⟨rfl, hb1⟩
  go_wp2_with fail
  refine (of_any b _).mono ?_
  rintro e w2 ⟨rfl, hb2⟩
  go_wp2_with fail
  refine (HA.out _).mono ?_
  rintro e w3 ⟨rfl, hb3⟩
  have q3 : Below w.heap.size w w3 := (hb1.trans (hb2.mono hb1.size)).trans (hb3.mono (Nat.le_trans hb1.size hb2.size))
  clear hb1 hb2 hb3
  go_wp2_with fail
  refine (of_any a _).mono ?_
  rintro e w4 ⟨rfl, hb4⟩
  go_wp2_with fail
  refine (of_any b _).mono ?_
  rintro e w5 ⟨rfl, hb5⟩
  go_wp2_with fail
  refine (HB.out _).mono ?_
  rintro e w6 ⟨rfl, hb6⟩
  have r6 : Below (w3.alloc (.cells #[.int .i64 0, .int .i64 0, .string ⟨#[]⟩] 23)).heap.size _ w6 := (hb4.trans (hb5.mono hb4.size)).trans (hb6.mono (Nat.le_trans hb4.size hb5.size))
  clear hb4 hb5 hb6
  have q6 : Below w.heap.size w w6 := (q3.alloc q3.size _).trans (r6.mono (by have := q3.size; simp; omega))
  obtain ⟨hc, hf⟩ := bcell r6
  have x0 : w6.cell? ⟨w3.heap.size, 0, none⟩ = some (.int .i64 0) := by rw [hc _ _ (by simp)]; simp
  have x1 : w6.cell? ⟨w3.heap.size, 1, none⟩ = some (.int .i64 0) := by rw [hc _ _ (by simp)]; simp
  have x2 : w6.cell? ⟨w3.heap.size, 2, none⟩ = some (.string ⟨#[]⟩) := by rw [hc _ _ (by simp)]; simp
  have z6 : w3.heap.size < w6.heap.size := by have := r6.size; simp at this; omega
  clear hc hf r6 q3
  go_wp2_with fail
  go_region_held3 (fun w' => w'.cell? ⟨w3.heap.size, 0, none⟩ = some (.int .i64 0) ∧ w'.cell? ⟨w3.heap.size, 1, none⟩ = some (.int .i64 0) ∧ w'.cell? ⟨w3.heap.size, 2, none⟩ = some (.string ⟨#[]⟩) ∧ w'.cell? ⟨w6.heap.size, 0, none⟩ = some (.int .i64 1) ∧ w'.cell? ⟨w6.heap.size, 1, none⟩ = some (.int .i64 (0)) ∧ w'.cell? ⟨w6.heap.size, 2, none⟩ = some (.string ⟨#[]⟩) ∧ w6.heap.size < w'.heap.size ∧ Below w.heap.size w w')
    (first
      | (exact firstS2 z6 x0 x1 x2 q6)
      | (go_split_ands; refine keepS2 hw z6 ?_ ?_ ?_ ?_ ?_ ?_ ?_ ?_ <;> assumption))
    (first
      | (go_at_call 24; refine (of_any _ _).mono ?_; rintro e w' ⟨rfl, hw⟩)
      | (go_at_call 12; refine (awake_any _ (Tab.stays HT.out ?_ (Nat.le_refl _))).mono ?_; (go_split_ands; assumption); rintro e w' ⟨rfl, hw⟩))
  go_split_ands
  have q9 : Below w.heap.size w w' := by assumption
  go_wp2_with fail
  go_ret
  exact ⟨rfl, q9⟩

set_option maxRecDepth 100000 in
set_option maxHeartbeats 2000000 in
theorem minus (a b : Int) (w : World) (ht : Tab w) (hia : I64 a) (hb : b = -1) (ha : a ≠ -9223372036854775808) : Done a b w := by
  have n0 : a.tdiv b = -a := by rw [hb, Int.tdiv_neg, Int.tdiv_one]
  have n1 : I64 (a.tdiv b) := by rw [n0]; unfold I64 at *; omega
  have n2 : a.tmod b = 0 := by rw [hb, Int.tmod_neg, Int.tmod_one]
  have n3 : IntKind.i64.wrap (-a) = -a := by rw [n0] at n1; unfold I64 at n1; exact IntWalk.i64_in _ (by omega)
  have HA : Hid (∀ w, Calls Tryd.prog 26 #[.int .u8 47, vInt a, vInt b] w fun e w' => e = .returned (.tuple #[vInt (-a), .int .i64 0]) ∧ Below w.heap.size w w') := Lib.hid fun w => by have h := arith_div a b w hia (by omega); rw [arRes_yes n1, n0] at h; exact h
  have HB : Hid (∀ w, Calls Tryd.prog 26 #[.int .u8 37, vInt a, vInt b] w fun e w' => e = .returned (.tuple #[vInt 0, .int .i64 0]) ∧ Below w.heap.size w w') := Lib.hid fun w => by have h := arith_rem a b w (by omega); rw [n2] at h; exact h
  have hb0 : (b == 0) = false := by rw [hb]; decide
  have hb1 : (b == -1) = true := by rw [hb]; decide
  have ha1 : (a == -9223372036854775808) = false := by simpa using ha
  have HT := Lib.hid ht; clear ht hb ha n1 n2 n0 hia
  go_enter Tryd.func8, Tryd.ntmps8
  go_wp2_with fail
  refine (of_any a _).mono ?_
  rintro e w1 ⟨rfl, hb1⟩
  go_wp2_with fail
  refine (of_any b _).mono ?_
  rintro e w2 ⟨rfl, hb2⟩
  go_wp2_with fail
  refine (HA.out _).mono ?_
  rintro e w3 ⟨rfl, hb3⟩
  have q3 : Below w.heap.size w w3 := (hb1.trans (hb2.mono hb1.size)).trans (hb3.mono (Nat.le_trans hb1.size hb2.size))
  clear hb1 hb2 hb3
  go_wp2_with fail
  refine (of_any a _).mono ?_
  rintro e w4 ⟨rfl, hb4⟩
  go_wp2_with fail
  refine (of_any b _).mono ?_
  rintro e w5 ⟨rfl, hb5⟩
  go_wp2_with fail
  refine (HB.out _).mono ?_
  rintro e w6 ⟨rfl, hb6⟩
  have r6 : Below (w3.alloc (.cells #[.int .i64 1, .int .i64 (-a), .string ⟨#[]⟩] 23)).heap.size _ w6 := (hb4.trans (hb5.mono hb4.size)).trans (hb6.mono (Nat.le_trans hb4.size hb5.size))
  clear hb4 hb5 hb6
  have q6 : Below w.heap.size w w6 := (q3.alloc q3.size _).trans (r6.mono (by have := q3.size; simp; omega))
  obtain ⟨hc, hf⟩ := bcell r6
  have x0 : w6.cell? ⟨w3.heap.size, 0, none⟩ = some (.int .i64 1) := by rw [hc _ _ (by simp)]; simp
  have x1 : w6.cell? ⟨w3.heap.size, 1, none⟩ = some (.int .i64 (-a)) := by rw [hc _ _ (by simp)]; simp
  have x2 : w6.cell? ⟨w3.heap.size, 2, none⟩ = some (.string ⟨#[]⟩) := by rw [hc _ _ (by simp)]; simp
  have z6 : w3.heap.size < w6.heap.size := by have := r6.size; simp at this; omega
  clear hc hf r6 q3
  go_wp2_with fail
  go_region_held3 (fun w' => w'.cell? ⟨w3.heap.size, 0, none⟩ = some (.int .i64 1) ∧ w'.cell? ⟨w3.heap.size, 1, none⟩ = some (.int .i64 (-a)) ∧ w'.cell? ⟨w3.heap.size, 2, none⟩ = some (.string ⟨#[]⟩) ∧ w'.cell? ⟨w6.heap.size, 0, none⟩ = some (.int .i64 1) ∧ w'.cell? ⟨w6.heap.size, 1, none⟩ = some (.int .i64 (0)) ∧ w'.cell? ⟨w6.heap.size, 2, none⟩ = some (.string ⟨#[]⟩) ∧ w6.heap.size < w'.heap.size ∧ Below w.heap.size w w')
    (first
      | (exact firstS2 z6 x0 x1 x2 q6)
      | (go_split_ands; refine keepS2 hw z6 ?_ ?_ ?_ ?_ ?_ ?_ ?_ ?_ <;> assumption))
    (first
      | (go_at_call 24; refine (of_any _ _).mono ?_; rintro e w' ⟨rfl, hw⟩)
      | (go_at_call 12; refine (awake_any _ (Tab.stays HT.out ?_ (Nat.le_refl _))).mono ?_; (go_split_ands; assumption); rintro e w' ⟨rfl, hw⟩))
  go_split_ands
  have q9 : Below w.heap.size w w' := by assumption
  go_wp2_with fail
  go_ret
  exact ⟨rfl, q9⟩

set_option maxRecDepth 100000 in
set_option maxHeartbeats 2000000 in
theorem usual (a b : Int) (w : World) (ht : Tab w) (hia : I64 a) (hib : I64 b) (hz : b ≠ 0) (hm : b ≠ -1) : Done a b w := by
  have n1 : I64 (a.tdiv b) := tdiv_fit hia hm
  have HA : Hid (∀ w, Calls Tryd.prog 26 #[.int .u8 47, vInt a, vInt b] w fun e w' => e = .returned (.tuple #[vInt (a.tdiv b), .int .i64 0]) ∧ Below w.heap.size w w') := Lib.hid fun w => by have h := arith_div a b w hia hz; rw [arRes_yes n1] at h; exact h
  have HB : Hid (∀ w, Calls Tryd.prog 26 #[.int .u8 37, vInt a, vInt b] w fun e w' => e = .returned (.tuple #[vInt (a.tmod b), .int .i64 0]) ∧ Below w.heap.size w w') := Lib.hid fun w => arith_rem a b w hz
  have HF := Lib.hid fun w => fits_any a b w hia hib hz
  have hb0 : (b == 0) = false := by simpa using hz
  have hb1 : (b == -1) = false := by simpa using hm
  have HT := Lib.hid ht; clear ht hz hm n1 hia hib
  generalize hq : a.tdiv b = q at *
  generalize hr : a.tmod b = r at *
  clear hq hr
  go_enter Tryd.func8, Tryd.ntmps8
  go_wp2_with fail
  refine (of_any a _).mono ?_
  rintro e w1 ⟨rfl, hb1⟩
  go_wp2_with fail
  refine (of_any b _).mono ?_
  rintro e w2 ⟨rfl, hb2⟩
  go_wp2_with fail
  refine (HA.out _).mono ?_
  rintro e w3 ⟨rfl, hb3⟩
  have q3 : Below w.heap.size w w3 := (hb1.trans (hb2.mono hb1.size)).trans (hb3.mono (Nat.le_trans hb1.size hb2.size))
  clear hb1 hb2 hb3
  go_wp2_with fail
  refine (of_any a _).mono ?_
  rintro e w4 ⟨rfl, hb4⟩
  go_wp2_with fail
  refine (of_any b _).mono ?_
  rintro e w5 ⟨rfl, hb5⟩
  go_wp2_with fail
  refine (HB.out _).mono ?_
  rintro e w6 ⟨rfl, hb6⟩
  have r6 : Below (w3.alloc (.cells #[.int .i64 1, .int .i64 (q), .string ⟨#[]⟩] 23)).heap.size _ w6 := (hb4.trans (hb5.mono hb4.size)).trans (hb6.mono (Nat.le_trans hb4.size hb5.size))
  clear hb4 hb5 hb6
  have q6 : Below w.heap.size w w6 := (q3.alloc q3.size _).trans (r6.mono (by have := q3.size; simp; omega))
  obtain ⟨hc, hf⟩ := bcell r6
  have x0 : w6.cell? ⟨w3.heap.size, 0, none⟩ = some (.int .i64 1) := by rw [hc _ _ (by simp)]; simp
  have x1 : w6.cell? ⟨w3.heap.size, 1, none⟩ = some (.int .i64 (q)) := by rw [hc _ _ (by simp)]; simp
  have x2 : w6.cell? ⟨w3.heap.size, 2, none⟩ = some (.string ⟨#[]⟩) := by rw [hc _ _ (by simp)]; simp
  have z6 : w3.heap.size < w6.heap.size := by have := r6.size; simp at this; omega
  clear hc hf r6 q3
  go_wp2_with fail
  refine (HF.out _).mono ?_
  rintro e w7 ⟨rfl, rfl⟩
  go_wp2_with fail
  refine (awake_any _ (HT.out.stays (q6.alloc q6.size _) (Nat.le_refl _))).mono ?_
  rintro e wa ⟨rfl, hba⟩
  have qa : Below w.heap.size w wa := (q6.alloc q6.size _).trans (hba.mono (q6.alloc q6.size _).size)
  clear hba
  go_wp2_with fail
  go_ret
  exact ⟨rfl, qa⟩

theorem valueQuotients_walk (a b : Int) (w : World) (ha : I64 a) (hb : I64 b) (ht : Tab w) : Done a b w := by
  by_cases hz : b = 0
  · exact zero a b w ht hz
  by_cases hm : b = -1
  · by_cases hl : a = -9223372036854775808
    · exact least a b w ht hm hl
    · exact minus a b w ht ha hm hl
  · exact usual a b w ht ha hb hz hm
end Go.Proofs.YthjlfhkmbhcpaaaDoor.valueQuotients
