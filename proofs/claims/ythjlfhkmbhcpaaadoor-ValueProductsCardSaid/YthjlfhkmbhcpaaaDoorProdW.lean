/-
  The walk of ValueProducts.
-/
import Derived.Test.YthjlfhkmbhcpaaaDoorOps
import Derived.Test.YthjlfhkmbhcpaaaDoorBig
import Derived.Deep.RegionHeld3
namespace Go.Proofs.YthjlfhkmbhcpaaaDoor.valueProducts
open Go.RowKit

abbrev Done (a b : Int) (w : World) : Prop := Calls Tryd.prog 9 #[.int .i64 a, .int .i64 b] w fun e w' => e = .returned (.bool true) ∧ Below w.heap.size w w'
set_option maxRecDepth 100000 in
set_option maxHeartbeats 2000000 in
theorem zero1 (a b : Int) (w : World) (ht : Tab w) (hia : I64 a) (hib : I64 b) (hz : a = 0) : Done a b w := by
  have n0 : a * b = 0 := by rw [hz]; simp
  have n1 : b * a = 0 := by rw [Int.mul_comm]; exact n0
  have n2 : I64 0 := by unfold I64; omega
  have HA : Hid (∀ w, Calls Tryd.prog 26 #[.int .u8 42, vInt a, vInt b] w fun e w' => e = .returned (.tuple #[vInt 0, .int .i64 0]) ∧ Below w.heap.size w w') := Lib.hid fun w => by have h := arith_mul a b w hia hib; rw [n0, arRes_yes n2] at h; exact h
  have HB : Hid (∀ w, Calls Tryd.prog 26 #[.int .u8 42, vInt b, vInt a] w fun e w' => e = .returned (.tuple #[vInt 0, .int .i64 0]) ∧ Below w.heap.size w w') := Lib.hid fun w => by have h := arith_mul b a w hib hia; rw [n1, arRes_yes n2] at h; exact h
  have hbz : (a == 0) = true := by simpa using hz
  have HT := Lib.hid ht; clear ht hz hia hib n0 n1 n2
  go_enter Tryd.func9, Tryd.ntmps9
  go_wp2_with fail
  refine (of_any a _).mono ?_
  rintro e w1 ⟨rfl, hb1⟩
  go_wp2_with fail
  refine (of_any b _).mono ?_
  rintro e w2 ⟨rfl, hb2⟩
  go_wp2_with fail
  refine (HA.out _).mono ?_
  rintro e w3 ⟨rfl, hb3⟩
  have q3 : Below w.heap.size w w3 := (hb1.trans (hb2.mono hb1.size)).trans (hb3.mono (Nat.le_trans hb1.size hb2.size))
  clear hb1 hb2 hb3
  go_wp2_with fail
  refine (of_any b _).mono ?_
  rintro e w4 ⟨rfl, hb4⟩
  go_wp2_with fail
  refine (of_any a _).mono ?_
  rintro e w5 ⟨rfl, hb5⟩
  go_wp2_with fail
  refine (HB.out _).mono ?_
  rintro e w6 ⟨rfl, hb6⟩
  have r6 : Below (w3.alloc (.cells #[.int .i64 1, .int .i64 (0), .string ⟨#[]⟩] 23)).heap.size _ w6 := (hb4.trans (hb5.mono hb4.size)).trans (hb6.mono (Nat.le_trans hb4.size hb5.size))
  clear hb4 hb5 hb6
  have q6 : Below w.heap.size w w6 := (q3.alloc q3.size _).trans (r6.mono (by have := q3.size; simp; omega))
  obtain ⟨hc, hf⟩ := bcell r6
  have x0 : w6.cell? ⟨w3.heap.size, 0, none⟩ = some (.int .i64 1) := by rw [hc _ _ (by simp)]; simp
  have x1 : w6.cell? ⟨w3.heap.size, 1, none⟩ = some (.int .i64 (0)) := by rw [hc _ _ (by simp)]; simp
  have x2 : w6.cell? ⟨w3.heap.size, 2, none⟩ = some (.string ⟨#[]⟩) := by rw [hc _ _ (by simp)]; simp
  have z6 : w3.heap.size < w6.heap.size := by have := r6.size; simp at this; omega
  clear hc hf r6 q3
  go_wp2_with fail
  go_region_held3 (fun w' => w'.cell? ⟨w3.heap.size, 0, none⟩ = some (.int .i64 1) ∧ w'.cell? ⟨w3.heap.size, 1, none⟩ = some (.int .i64 (0)) ∧ w'.cell? ⟨w3.heap.size, 2, none⟩ = some (.string ⟨#[]⟩) ∧ w'.cell? ⟨w6.heap.size, 0, none⟩ = some (.int .i64 1) ∧ w'.cell? ⟨w6.heap.size, 1, none⟩ = some (.int .i64 (0)) ∧ w'.cell? ⟨w6.heap.size, 2, none⟩ = some (.string ⟨#[]⟩) ∧ w6.heap.size < w'.heap.size ∧ Below w.heap.size w w')
    (first
      | (exact firstS2 z6 x0 x1 x2 q6)
      | (go_split_ands; refine ⟨?_, ?_, ?_, ?_, ?_, ?_, ?_, ?_⟩ <;> assumption)
      | (go_split_ands; refine keepS2 hw z6 ?_ ?_ ?_ ?_ ?_ ?_ ?_ ?_ <;> assumption))
    (first
      | (go_at_call 24; refine (of_any _ _).mono ?_; rintro e w' ⟨rfl, hw⟩)
      | (go_at_call 12; refine (awake_any _ (Tab.stays HT.out ?_ (Nat.le_refl _))).mono ?_; (go_split_ands; assumption); rintro e w' ⟨rfl, hw⟩))
  go_split_ands
  have q9 : Below w.heap.size w w' := by assumption
  go_wp2_with fail
  go_ret
  exact ⟨rfl, q9⟩

set_option maxRecDepth 100000 in
set_option maxHeartbeats 2000000 in
theorem zero2 (a b : Int) (w : World) (ht : Tab w) (hia : I64 a) (hib : I64 b) (hy : a ≠ 0) (hz : b = 0) : Done a b w := by
  have n0 : a * b = 0 := by rw [hz]; simp
  have n1 : b * a = 0 := by rw [Int.mul_comm]; exact n0
  have n2 : I64 0 := by unfold I64; omega
  have HA : Hid (∀ w, Calls Tryd.prog 26 #[.int .u8 42, vInt a, vInt b] w fun e w' => e = .returned (.tuple #[vInt 0, .int .i64 0]) ∧ Below w.heap.size w w') := Lib.hid fun w => by have h := arith_mul a b w hia hib; rw [n0, arRes_yes n2] at h; exact h
  have HB : Hid (∀ w, Calls Tryd.prog 26 #[.int .u8 42, vInt b, vInt a] w fun e w' => e = .returned (.tuple #[vInt 0, .int .i64 0]) ∧ Below w.heap.size w w') := Lib.hid fun w => by have h := arith_mul b a w hib hia; rw [n1, arRes_yes n2] at h; exact h
  have hby : (a == 0) = false := by simpa using hy
  have hbz : (b == 0) = true := by simpa using hz
  have HT := Lib.hid ht; clear ht hz hia hib n0 n1 n2 hy
  go_enter Tryd.func9, Tryd.ntmps9
  go_wp2_with fail
  refine (of_any a _).mono ?_
  rintro e w1 ⟨rfl, hb1⟩
  go_wp2_with fail
  refine (of_any b _).mono ?_
  rintro e w2 ⟨rfl, hb2⟩
  go_wp2_with fail
  refine (HA.out _).mono ?_
  rintro e w3 ⟨rfl, hb3⟩
  have q3 : Below w.heap.size w w3 := (hb1.trans (hb2.mono hb1.size)).trans (hb3.mono (Nat.le_trans hb1.size hb2.size))
  clear hb1 hb2 hb3
  go_wp2_with fail
  refine (of_any b _).mono ?_
  rintro e w4 ⟨rfl, hb4⟩
  go_wp2_with fail
  refine (of_any a _).mono ?_
  rintro e w5 ⟨rfl, hb5⟩
  go_wp2_with fail
  refine (HB.out _).mono ?_
  rintro e w6 ⟨rfl, hb6⟩
  have r6 : Below (w3.alloc (.cells #[.int .i64 1, .int .i64 (0), .string ⟨#[]⟩] 23)).heap.size _ w6 := (hb4.trans (hb5.mono hb4.size)).trans (hb6.mono (Nat.le_trans hb4.size hb5.size))
  clear hb4 hb5 hb6
  have q6 : Below w.heap.size w w6 := (q3.alloc q3.size _).trans (r6.mono (by have := q3.size; simp; omega))
  obtain ⟨hc, hf⟩ := bcell r6
  have x0 : w6.cell? ⟨w3.heap.size, 0, none⟩ = some (.int .i64 1) := by rw [hc _ _ (by simp)]; simp
  have x1 : w6.cell? ⟨w3.heap.size, 1, none⟩ = some (.int .i64 (0)) := by rw [hc _ _ (by simp)]; simp
  have x2 : w6.cell? ⟨w3.heap.size, 2, none⟩ = some (.string ⟨#[]⟩) := by rw [hc _ _ (by simp)]; simp
  have z6 : w3.heap.size < w6.heap.size := by have := r6.size; simp at this; omega
  clear hc hf r6 q3
  go_wp2_with fail
  go_region_held3 (fun w' => w'.cell? ⟨w3.heap.size, 0, none⟩ = some (.int .i64 1) ∧ w'.cell? ⟨w3.heap.size, 1, none⟩ = some (.int .i64 (0)) ∧ w'.cell? ⟨w3.heap.size, 2, none⟩ = some (.string ⟨#[]⟩) ∧ w'.cell? ⟨w6.heap.size, 0, none⟩ = some (.int .i64 1) ∧ w'.cell? ⟨w6.heap.size, 1, none⟩ = some (.int .i64 (0)) ∧ w'.cell? ⟨w6.heap.size, 2, none⟩ = some (.string ⟨#[]⟩) ∧ w6.heap.size < w'.heap.size ∧ Below w.heap.size w w')
    (first
      | (exact firstS2 z6 x0 x1 x2 q6)
      | (go_split_ands; refine ⟨?_, ?_, ?_, ?_, ?_, ?_, ?_, ?_⟩ <;> assumption)
      | (go_split_ands; refine keepS2 hw z6 ?_ ?_ ?_ ?_ ?_ ?_ ?_ ?_ <;> assumption))
    (first
      | (go_at_call 24; refine (of_any _ _).mono ?_; rintro e w' ⟨rfl, hw⟩)
      | (go_at_call 12; refine (awake_any _ (Tab.stays HT.out ?_ (Nat.le_refl _))).mono ?_; (go_split_ands; assumption); rintro e w' ⟨rfl, hw⟩))
  go_split_ands
  have q9 : Below w.heap.size w w' := by assumption
  go_wp2_with fail
  go_ret
  exact ⟨rfl, q9⟩

set_option maxRecDepth 100000 in
set_option maxHeartbeats 2000000 in
theorem over (a b : Int) (w : World) (ht : Tab w) (hia : I64 a) (hib : I64 b) (hy : a ≠ 0) (hz : b ≠ 0) (hn : ¬ I64 (a * b)) : Done a b w := by
  have HA : Hid (∀ w, Calls Tryd.prog 26 #[.int .u8 42, vInt a, vInt b] w fun e w' => e = .returned (vErr 10) ∧ Below w.heap.size w w') := Lib.hid fun w => by have h := arith_mul a b w hia hib; rw [arRes_no hn] at h; exact h
  have HB : Hid (∀ w, Calls Tryd.prog 26 #[.int .u8 42, vInt b, vInt a] w fun e w' => e = .returned (vErr 10) ∧ Below w.heap.size w w') := Lib.hid fun w => by have h := arith_mul b a w hib hia; rw [Int.mul_comm, arRes_no hn] at h; exact h
  have HG : Hid (∀ w, Calls Tryd.prog 28 #[.int .i64 a, .int .i64 b] w fun e w' => e = .returned (.bool true) ∧ w = w') := Lib.hid fun w => by have h := big_any a b w hia hib hy hz; rw [show decide (¬ I64 (a * b)) = true by simpa using hn] at h; exact h
  have hby : (a == 0) = false := by simpa using hy
  have hbz : (b == 0) = false := by simpa using hz
  have HT := Lib.hid ht; clear ht hz hia hib hy hn
  go_enter Tryd.func9, Tryd.ntmps9
  go_wp2_with fail
  refine (of_any a _).mono ?_
  rintro e w1 ⟨rfl, hb1⟩
  go_wp2_with fail
  refine (of_any b _).mono ?_
  rintro e w2 ⟨rfl, hb2⟩
  go_wp2_with fail
  refine (HA.out _).mono ?_
  rintro e w3 ⟨rfl, hb3⟩
  have q3 : Below w.heap.size w w3 := (hb1.trans (hb2.mono hb1.size)).trans (hb3.mono (Nat.le_trans hb1.size hb2.size))
  clear hb1 hb2 hb3
  go_wp2_with fail
  refine (of_any b _).mono ?_
  rintro e w4 ⟨rfl, hb4⟩
  go_wp2_with fail
  refine (of_any a _).mono ?_
  rintro e w5 ⟨rfl, hb5⟩
  go_wp2_with fail
  refine (HB.out _).mono ?_
  rintro e w6 ⟨rfl, hb6⟩
  have r6 : Below (w3.alloc (.cells #[.int .i64 0, .int .i64 0, .string ⟨#[]⟩] 23)).heap.size _ w6 := (hb4.trans (hb5.mono hb4.size)).trans (hb6.mono (Nat.le_trans hb4.size hb5.size))
  clear hb4 hb5 hb6
  have q6 : Below w.heap.size w w6 := (q3.alloc q3.size _).trans (r6.mono (by have := q3.size; simp; omega))
  obtain ⟨hc, hf⟩ := bcell r6
  have x0 : w6.cell? ⟨w3.heap.size, 0, none⟩ = some (.int .i64 0) := by rw [hc _ _ (by simp)]; simp
  have x1 : w6.cell? ⟨w3.heap.size, 1, none⟩ = some (.int .i64 0) := by rw [hc _ _ (by simp)]; simp
  have x2 : w6.cell? ⟨w3.heap.size, 2, none⟩ = some (.string ⟨#[]⟩) := by rw [hc _ _ (by simp)]; simp
  have z6 : w3.heap.size < w6.heap.size := by have := r6.size; simp at this; omega
  clear hc hf r6 q3
  go_wp2_with fail
  refine (HG.out _).mono ?_
  rintro e w7 ⟨rfl, rfl⟩
  go_wp2_with fail
  refine (awake_any _ (HT.out.stays (q6.alloc q6.size _) (Nat.le_refl _))).mono ?_
  rintro e wa ⟨rfl, hba⟩
  have qa : Below w.heap.size w wa := (q6.alloc q6.size _).trans (hba.mono (q6.alloc q6.size _).size)
  clear hba
  go_wp2_with fail
  go_ret
  exact ⟨rfl, qa⟩
set_option maxRecDepth 100000 in
set_option maxHeartbeats 2000000 in
theorem fits (a b : Int) (w : World) (ht : Tab w) (hia : I64 a) (hib : I64 b) (hy : a ≠ 0) (hz : b ≠ 0) (hn : I64 (a * b)) : Done a b w := by
  have HA : Hid (∀ w, Calls Tryd.prog 26 #[.int .u8 42, vInt a, vInt b] w fun e w' => e = .returned (.tuple #[vInt (a * b), .int .i64 0]) ∧ Below w.heap.size w w') := Lib.hid fun w => by have h := arith_mul a b w hia hib; rw [arRes_yes hn] at h; exact h
  have HB : Hid (∀ w, Calls Tryd.prog 26 #[.int .u8 42, vInt b, vInt a] w fun e w' => e = .returned (.tuple #[vInt (a * b), .int .i64 0]) ∧ Below w.heap.size w w') := Lib.hid fun w => by have h := arith_mul b a w hib hia; rw [Int.mul_comm, arRes_yes hn] at h; exact h
  have HG : Hid (∀ w, Calls Tryd.prog 28 #[.int .i64 a, .int .i64 b] w fun e w' => e = .returned (.bool false) ∧ w = w') := Lib.hid fun w => by have h := big_any a b w hia hib hy hz; rw [show decide (¬ I64 (a * b)) = false by simpa using hn] at h; exact h
  have hby : (a == 0) = false := by simpa using hy
  have hbz : (b == 0) = false := by simpa using hz
  have e1 : IntKind.i64.wrap (a * b) = a * b := by unfold I64 at hn; exact IntWalk.i64_in _ (by omega)
  have HT := Lib.hid ht; clear ht hz hia hib hy hn
  go_enter Tryd.func9, Tryd.ntmps9
  go_wp2_with fail
  refine (of_any a _).mono ?_
  rintro e w1 ⟨rfl, hb1⟩
  go_wp2_with fail
  refine (of_any b _).mono ?_
  rintro e w2 ⟨rfl, hb2⟩
  go_wp2_with fail
  refine (HA.out _).mono ?_
  rintro e w3 ⟨rfl, hb3⟩
  have q3 : Below w.heap.size w w3 := (hb1.trans (hb2.mono hb1.size)).trans (hb3.mono (Nat.le_trans hb1.size hb2.size))
  clear hb1 hb2 hb3
  go_wp2_with fail
  refine (of_any b _).mono ?_
  rintro e w4 ⟨rfl, hb4⟩
  go_wp2_with fail
  refine (of_any a _).mono ?_
  rintro e w5 ⟨rfl, hb5⟩
  go_wp2_with fail
  refine (HB.out _).mono ?_
  rintro e w6 ⟨rfl, hb6⟩
  have r6 : Below (w3.alloc (.cells #[.int .i64 1, .int .i64 (a * b), .string ⟨#[]⟩] 23)).heap.size _ w6 := (hb4.trans (hb5.mono hb4.size)).trans (hb6.mono (Nat.le_trans hb4.size hb5.size))
  clear hb4 hb5 hb6
  have q6 : Below w.heap.size w w6 := (q3.alloc q3.size _).trans (r6.mono (by have := q3.size; simp; omega))
  obtain ⟨hc, hf⟩ := bcell r6
  have x0 : w6.cell? ⟨w3.heap.size, 0, none⟩ = some (.int .i64 1) := by rw [hc _ _ (by simp)]; simp
  have x1 : w6.cell? ⟨w3.heap.size, 1, none⟩ = some (.int .i64 (a * b)) := by rw [hc _ _ (by simp)]; simp
  have x2 : w6.cell? ⟨w3.heap.size, 2, none⟩ = some (.string ⟨#[]⟩) := by rw [hc _ _ (by simp)]; simp
  have z6 : w3.heap.size < w6.heap.size := by have := r6.size; simp at this; omega
  clear hc hf r6 q3
  go_wp2_with fail
  go_region_held3 (fun w' => w'.cell? ⟨w3.heap.size, 0, none⟩ = some (.int .i64 1) ∧ w'.cell? ⟨w3.heap.size, 1, none⟩ = some (.int .i64 (a * b)) ∧ w'.cell? ⟨w3.heap.size, 2, none⟩ = some (.string ⟨#[]⟩) ∧ w'.cell? ⟨w6.heap.size, 0, none⟩ = some (.int .i64 1) ∧ w'.cell? ⟨w6.heap.size, 1, none⟩ = some (.int .i64 (a * b)) ∧ w'.cell? ⟨w6.heap.size, 2, none⟩ = some (.string ⟨#[]⟩) ∧ w6.heap.size < w'.heap.size ∧ Below w.heap.size w w')
    (first
      | (exact firstS2 z6 x0 x1 x2 q6)
      | (go_split_ands; refine ⟨?_, ?_, ?_, ?_, ?_, ?_, ?_, ?_⟩ <;> assumption)
      | (go_split_ands; refine keepS2 hw z6 ?_ ?_ ?_ ?_ ?_ ?_ ?_ ?_ <;> assumption))
    (first
      | (go_at_call 24; refine (of_any _ _).mono ?_; rintro e w' ⟨rfl, hw⟩)
      | (go_at_call 12; refine (awake_any _ (Tab.stays HT.out ?_ (Nat.le_refl _))).mono ?_; (go_split_ands; assumption); rintro e w' ⟨rfl, hw⟩)
      | (go_at_call 28; refine (HG.out _).mono ?_; rintro e w' ⟨rfl, rfl⟩))
  go_split_ands
  have q9 : Below w.heap.size w w' := by assumption
  go_wp2_with fail
  go_ret
  exact ⟨rfl, q9⟩

theorem valueProducts_walk (a b : Int) (w : World) (ha : I64 a) (hb : I64 b) (ht : Tab w) : Done a b w := by
  by_cases hy : a = 0
  · exact zero1 a b w ht ha hb hy
  by_cases hz : b = 0
  · exact zero2 a b w ht ha hb hy hz
  by_cases hn : I64 (a * b)
  · exact fits a b w ht ha hb hy hz hn
  · exact over a b w ht ha hb hy hz hn
end Go.Proofs.YthjlfhkmbhcpaaaDoor.valueProducts
