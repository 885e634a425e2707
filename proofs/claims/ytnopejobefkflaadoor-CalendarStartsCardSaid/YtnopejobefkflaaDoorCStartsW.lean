/-
  The walk of CalendarStarts.
-/
import Derived.Test.YtnopejobefkflaaDoorCAwake
import Derived.Test.YtnopejobefkflaaDoorCRef
namespace Go.Proofs.YtnopejobefkflaaDoor
open Go.RowKit Go.Sort CM

set_option maxHeartbeats 2000000 in
theorem starts_neg (m : Int) (w : World) (h : m < 0) (hS : (∀ w', Below w.heap.size w w' → Calls Tryd.prog 22 #[.int .i64 m] w' fun e w2 => e = .returned (.int .i64 (-1)) ∧ Below w'.heap.size w' w2)) (hA : (∀ w', Below w.heap.size w w' → Calls Tryd.prog 11 #[] w' fun e w2 => e = .returned (.bool true) ∧ Below w'.heap.size w' w2)) : Calls Tryd.prog 8 #[.int .i64 m] w fun e w' => e = .returned (.bool true) ∧ Below w.heap.size w w' := by
  have HS := hide hS
  have HA := hide hA
  clear hS hA
  have HB0 := hide (Below.refl w.heap.size w)
  go_enter Tryd.func8, Tryd.ntmps8
  go_wp2_with fail
  refine (HS.out _ HB0.out).mono ?_
  rintro e w1 ⟨rfl, hb⟩
  have HB1 := hide (HB0.out.trans (hb.mono HB0.out.size))
  clear hb
  go_wp2_with fail
  refine (HA.out _ HB1.out).mono ?_
  rintro e w2 ⟨rfl, hb⟩
  have HB2 := hide (HB1.out.trans (hb.mono HB1.out.size))
  clear hb
  go_wp2_with fail
  go_ret
  exact ⟨rfl, HB2.out⟩
set_option maxHeartbeats 2000000 in
theorem starts_far (m : Int) (w : World) (h : 49000 < m) (hS : (∀ w', Below w.heap.size w w' → Calls Tryd.prog 22 #[.int .i64 m] w' fun e w2 => e = .returned (.int .i64 (-1)) ∧ Below w'.heap.size w' w2)) (hA : (∀ w', Below w.heap.size w w' → Calls Tryd.prog 11 #[] w' fun e w2 => e = .returned (.bool true) ∧ Below w'.heap.size w' w2)) : Calls Tryd.prog 8 #[.int .i64 m] w fun e w' => e = .returned (.bool true) ∧ Below w.heap.size w w' := by
  have HS := hide hS
  have HA := hide hA
  clear hS hA
  have HB0 := hide (Below.refl w.heap.size w)
  have h' : ¬ m < 0 := by omega
  go_enter Tryd.func8, Tryd.ntmps8
  go_wp2_with fail
  refine (HS.out _ HB0.out).mono ?_
  rintro e w1 ⟨rfl, hb⟩
  have HB1 := hide (HB0.out.trans (hb.mono HB0.out.size))
  clear hb
  go_wp2_with fail
  refine (HA.out _ HB1.out).mono ?_
  rintro e w2 ⟨rfl, hb⟩
  have HB2 := hide (HB1.out.trans (hb.mono HB1.out.size))
  clear hb
  go_wp2_with fail
  go_ret
  exact ⟨rfl, HB2.out⟩
set_option maxHeartbeats 2000000 in
theorem starts_no (m : Int) (w : World) (h : 48996 < m) (h1 : m ≤ 49000) (hS : (∀ w', Below w.heap.size w w' → Calls Tryd.prog 22 #[.int .i64 m] w' fun e w2 => e = .returned (.int .i64 (-1)) ∧ Below w'.heap.size w' w2)) (hA : (∀ w', Below w.heap.size w w' → Calls Tryd.prog 11 #[] w' fun e w2 => e = .returned (.bool true) ∧ Below w'.heap.size w' w2)) : Calls Tryd.prog 8 #[.int .i64 m] w fun e w' => e = .returned (.bool true) ∧ Below w.heap.size w w' := by
  have HS := hide hS
  have HA := hide hA
  clear hS hA
  have HB0 := hide (Below.refl w.heap.size w)
  have h' : 0 ≤ m := by omega
  go_enter Tryd.func8, Tryd.ntmps8
  go_wp2_with fail
  refine (HS.out _ HB0.out).mono ?_
  rintro e w1 ⟨rfl, hb⟩
  have HB1 := hide (HB0.out.trans (hb.mono HB0.out.size))
  clear hb
  go_wp2_with fail
  refine (HA.out _ HB1.out).mono ?_
  rintro e w2 ⟨rfl, hb⟩
  have HB2 := hide (HB1.out.trans (hb.mono HB1.out.size))
  clear hb
  go_wp2_with fail
  go_ret
  exact ⟨rfl, HB2.out⟩
set_option maxHeartbeats 2000000 in
theorem starts_first  (w : World) (hS : (∀ w', Below w.heap.size w w' → Calls Tryd.prog 22 #[.int .i64 0] w' fun e w2 => e = .returned (.int .i64 (0)) ∧ Below w'.heap.size w' w2)) (hA : (∀ w', Below w.heap.size w w' → Calls Tryd.prog 11 #[] w' fun e w2 => e = .returned (.bool true) ∧ Below w'.heap.size w' w2)) : Calls Tryd.prog 8 #[.int .i64 0] w fun e w' => e = .returned (.bool true) ∧ Below w.heap.size w w' := by
  have HS := hide hS
  have HA := hide hA
  clear hS hA
  have HB0 := hide (Below.refl w.heap.size w)
  go_enter Tryd.func8, Tryd.ntmps8
  go_wp2_with fail
  refine (HS.out _ HB0.out).mono ?_
  rintro e w1 ⟨rfl, hb⟩
  have HB1 := hide (HB0.out.trans (hb.mono HB0.out.size))
  clear hb
  go_wp2_with fail
  refine (HA.out _ HB1.out).mono ?_
  rintro e w2 ⟨rfl, hb⟩
  have HB2 := hide (HB1.out.trans (hb.mono HB1.out.size))
  clear hb
  go_wp2_with fail
  go_ret
  exact ⟨rfl, HB2.out⟩
set_option maxHeartbeats 2000000 in
theorem starts_yes (m s0 dd : Int) (w : World) (h0 : 1 ≤ m) (h1 : m ≤ 48996) (s0a : 0 ≤ s0) (s0b : s0 ≤ 2147483648) (d0 : 28 ≤ dd) (d1 : dd ≤ 31)
    (hS : (∀ w', Below w.heap.size w w' → Calls Tryd.prog 22 #[.int .i64 m] w' fun e w2 => e = .returned (.int .i64 (s0 + dd * 1440)) ∧ Below w'.heap.size w' w2))
    (hP : (∀ w', Below w.heap.size w w' → Calls Tryd.prog 22 #[.int .i64 (m - 1)] w' fun e w2 => e = .returned (.int .i64 s0) ∧ Below w'.heap.size w' w2))
    (hD : (∀ w', Below w.heap.size w w' → Calls Tryd.prog 23 #[.int .i64 (2000 + (m - 1) / 12), .int .i64 ((m - 1) % 12 + 1)] w' fun e w2 => e = .returned (.int .i64 dd) ∧ Below w'.heap.size w' w2))
    (hR : (∀ w', Below w.heap.size w w' → Calls Tryd.prog 15 #[.int .i64 (2000 + (m - 1) / 12), .int .i64 ((m - 1) % 12 + 1)] w' fun e w2 => e = .returned (.int .i64 dd) ∧ Below w'.heap.size w' w2))
    (hA : (∀ w', Below w.heap.size w w' → Calls Tryd.prog 11 #[] w' fun e w2 => e = .returned (.bool true) ∧ Below w'.heap.size w' w2)) : Calls Tryd.prog 8 #[.int .i64 m] w fun e w' => e = .returned (.bool true) ∧ Below w.heap.size w w' := by
  have HS := hide hS
  have HP := hide hP
  have HD := hide hD
  have HR := hide hR
  have HA := hide hA
  clear hS hP hD hR hA
  have HB0 := hide (Below.refl w.heap.size w)
  go_enter Tryd.func8, Tryd.ntmps8
  go_wp2_with fail
  refine (HS.out _ HB0.out).mono ?_
  rintro e w1 ⟨rfl, hb⟩
  have HB1 := hide (HB0.out.trans (hb.mono HB0.out.size))
  clear hb
  go_wp2_with fail
  refine (HP.out _ HB1.out).mono ?_
  rintro e w2 ⟨rfl, hb⟩
  have HB2 := hide (HB1.out.trans (hb.mono HB1.out.size))
  clear hb
  go_wp2_with fail
  refine (HD.out _ HB2.out).mono ?_
  rintro e w3 ⟨rfl, hb⟩
  have HB3 := hide (HB2.out.trans (hb.mono HB2.out.size))
  clear hb
  go_wp2_with fail
  refine (HD.out _ HB3.out).mono ?_
  rintro e w4 ⟨rfl, hb⟩
  have HB4 := hide (HB3.out.trans (hb.mono HB3.out.size))
  clear hb
  go_wp2_with fail
  refine (HR.out _ HB4.out).mono ?_
  rintro e w5 ⟨rfl, hb⟩
  have HB5 := hide (HB4.out.trans (hb.mono HB4.out.size))
  clear hb
  go_wp2_with fail
  refine (HA.out _ HB5.out).mono ?_
  rintro e w6 ⟨rfl, hb⟩
  have HB6 := hide (HB5.out.trans (hb.mono HB5.out.size))
  clear hb
  go_wp2_with fail
  go_ret
  exact ⟨rfl, HB6.out⟩
theorem calendarStarts_walk (m : Int) (w : World) (_ : -9223372036854775808 ≤ m) (_ : m ≤ 9223372036854775807) (ht : Tab w) (hM : Mon w) : Calls Tryd.prog 8 #[.int .i64 m] w fun e w' => e = .returned (.bool true) ∧ Below w.heap.size w w' := by
  have hA := fun w' (hb : Below w.heap.size w w') => awake_any w' (ht.on hb) (hM.on hb)
  by_cases h0 : m < 0
  · exact starts_neg m w h0 (fun w' hb => mst_no m w' (.inl h0) (hM.on hb)) hA
  by_cases h1 : 49000 < m
  · exact starts_far m w h1 (fun w' hb => mst_no m w' (.inr (by omega)) (hM.on hb)) hA
  by_cases h2 : 48996 < m
  · exact starts_no m w h2 (by omega) (fun w' hb => mst_no m w' (.inr h2) (hM.on hb)) hA
  by_cases h3 : m = 0
  · subst h3
    refine starts_first w (fun w' hb => ?_) hA
    have := mst_yes 0 w' (by omega) (by omega) (hM.on hb)
    rw [show mst 0 = 0 from by unfold mst; simp [ys, cum]] at this
    exact this
  · have e := mst_succ (m := m - 1) (by omega)
    rw [Int.sub_add_cancel] at e
    have hd := dm_bd (2000 + (m - 1) / 12) ((m - 1) % 12 + 1)
    have hl := (mst_parts (m := m - 1) (by omega)).1
    have hh := mst_hi (m := m - 1) (by omega) (by omega)
    have hk : (((m - 1) % 12).toNat : Int) = (m - 1) % 12 := by omega
    refine starts_yes m (mst (m - 1)) (dm (2000 + (m - 1) / 12) ((m - 1) % 12 + 1)) w (by omega) (by omega) hl (by omega) hd.1 hd.2 (fun w' hb => ?_) (fun w' hb => mst_yes (m - 1) w' (by omega) (by omega) (hM.on hb)) (fun w' hb => ?_) (fun w' hb => ?_) hA
    · have := mst_yes m w' (by omega) (by omega) (hM.on hb)
      rw [e] at this; exact this
    · have := days_any (2000 + (m - 1) / 12) ((m - 1) % 12).toNat w' (by omega) (hM.on hb)
      rw [hk] at this
      exact this.mono fun e w2 hh => ⟨hh.1, hh.2 ▸ Below.refl _ _⟩
    · have := rdays_any (2000 + (m - 1) / 12) ((m - 1) % 12).toNat w' (by omega)
      rw [hk] at this
      exact this.mono fun e w2 hh => ⟨hh.1, hh.2 ▸ Below.refl _ _⟩
end Go.Proofs.YtnopejobefkflaaDoor
