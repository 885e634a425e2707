/-
  CronParses, walked.
-/
import Derived.Test.YtldbmkmicaihhaaDoorHAwake
import Derived.Test.YtldbmkmicaihhaaDoorHRight
import Derived.Test.YtldbmkmicaihhaaDoorHRParse
import Derived.Test.YtldbmkmicaihhaaDoorHREq
import Derived.OrdersHeld
import Derived.Deep.MidRow
namespace Go.Proofs.YtldbmkmicaihhaaDoor
open Go.RowKit CM HM

theorem row_guard : Tryd.prog.eqGuardType Tryd.prog.depth 35 = false := by kernel_rfl
/-- Both Parses, in one form. -/
theorem both_parse (s : ByteArray) (hs : s.size ≤ 300) : ∃ c0 : Sp, c0.wf ∧ (parseE s.data.toList = 0 → validB c0 = true) ∧
    (∀ w, Rd w → Calls Tryd.prog 15 #[.string s] w fun e w' => e = .returned (.tuple #[vC c0, .int .i64 (parseE s.data.toList)]) ∧ Below w.heap.size w w') ∧
    (∀ w, Calls Tryd.prog 16 #[.string s] w fun e w' => e = .returned (.tuple #[.agg (fCells c0), .int .i64 (parseE s.data.toList)]) ∧ Below w.heap.size w w') := by
  by_cases h : parseE s.data.toList = 0
  · refine ⟨parseC s.data.toList, (parse_ok h).2, fun _ => (parse_ok h).1, fun w hR => (par_any s w (by omega) hR.2.1).mono fun e w' hp => ?_, fun w => ?_⟩
    · obtain ⟨⟨_, he⟩ | ⟨he, _⟩, hb⟩ := hp
      · rw [h]; exact ⟨he, hb⟩
      · exact absurd h he
    · have := rparse_any s w hs
      rw [rCells_yes h] at this
      exact this
  · refine ⟨zSp, z_wf, fun h2 => absurd h2 h, fun w hR => (par_any s w (by omega) hR.2.1).mono fun e w' hp => ?_, fun w => ?_⟩
    · obtain ⟨⟨he, _⟩ | ⟨_, he⟩, hb⟩ := hp
      · exact absurd he h
      · exact ⟨he, hb⟩
    · have := rparse_any s w hs
      rw [rCells_no rfl h, zCells_zSp] at this
      exact this
set_option maxRecDepth 100000 in
set_option maxHeartbeats 4000000 in
theorem cronParses_walk (s : ByteArray) (w : World) (_ : s.size ≤ maxLen) (hR : Rd w) : Calls Tryd.prog 4 #[.string s] w fun e w' => e = .returned (.bool true) ∧ Below w.heap.size w w' := by
  have HAw := hide awake_any
  have HR := hide hR
  clear hR
  by_cases hs : s.size ≤ 300
  · obtain ⟨c0, hc, hv, hp, hq⟩ := both_parse s hs
    have HP := hide hp
    have HQ := hide hq
    have HV := hide hv
    have HRt := hide (fun w => right_any c0 w hc)
    have HCk := hide (fun w hB => check_any c0 w hc hB)
    have HRf := hide (fun w => ref_any c0 w hc)
    have hz := row_zero
    have hsI : ¬ ((300 : Int) < (s.size : Int)) := by omega
    clear hp hq hv hc hs
    generalize parseE s.data.toList = pe at *
    go_enter Tryd.func4, Tryd.ntmps4
    go_wp2_with fail
    refine (HP.out _ HR.out).mono ?_
    rintro e w1 ⟨rfl, hb1⟩
    have HB1 : Hid (Below w.heap.size w (boxC w1 c0)) := hide (hb1.alloc hb1.size _)
    have HA1 := hide (AtC.box w1 c0)
    clear hb1
    go_wp2_with fail
    refine (HQ.out _).mono ?_
    rintro e w2 ⟨rfl, hb2⟩
    have HA2 := hide (HA1.out.on hb2)
    have HB2 := hide (HB1.out.trans (Below.mono hb2 HB1.out.size))
    have hi : (Tryd.prog.info? tF).map (·.size) = some (fCells c0).size := by rw [fCells_size]; exact row_size
    have hsc := run_storeCells_new (P := Tryd.prog) w2 tF zCells (fCells c0) hi (by rw [fCells_size, zCells_size]) (fCells_one c0)
    have hsz := fCells_size c0
    clear hb2 hi
    go_wp2_with fail
    obtain ⟨W, hW⟩ : ∃ W, W = w2.alloc (.cells (fCells c0) tF) := ⟨_, rfl⟩
    have HWB : Hid (Below w.heap.size w W) := hide (by rw [hW]; exact HB2.out.alloc HB2.out.size _)
    have HWA : Hid (AtC W w1.heap.size c0) := hide (by rw [hW]; exact HA2.out.on ((Below.refl _ _).alloc (Nat.le_refl _) _))
    have HWR : Hid (∀ w', Below W.heap.size W w' → w'.rangeAt w2.heap.size 0 (fCells c0).toList) := hide (fun w' hb j v hv => by
      have h1 : w'.heap[w2.heap.size]? = some (.cells (fCells c0) tF (0, 0)) := (hb.block _ (by rw [hW]; simp)).trans (by rw [hW]; exact heap_alloc_last w2 _)
      rw [Nat.zero_add, cell_of_row w' _ j _ _ (0, 0) h1, ← hv]
      simp)
    have HALL : Hid (∀ w', Below W.heap.size W w' → (w'.cell? ⟨w1.heap.size, 0, none⟩ = some (.int .u64 (c0.S 0 : Nat)) ∧ w'.cell? ⟨w1.heap.size, 1, none⟩ = some (.int .u64 (c0.S 1 : Nat)) ∧ w'.cell? ⟨w1.heap.size, 2, none⟩ = some (.int .u64 (c0.S 2 : Nat)) ∧ w'.cell? ⟨w1.heap.size, 3, none⟩ = some (.int .u64 (c0.S 3 : Nat)) ∧ w'.cell? ⟨w1.heap.size, 4, none⟩ = some (.int .u64 (c0.S 4 : Nat)) ∧ w'.cell? ⟨w1.heap.size, 5, none⟩ = some (.bool (c0.A 0)) ∧ w'.cell? ⟨w1.heap.size, 6, none⟩ = some (.bool (c0.A 1)) ∧ w'.cell? ⟨w1.heap.size, 7, none⟩ = some (.bool (c0.A 2)) ∧ w'.cell? ⟨w1.heap.size, 8, none⟩ = some (.bool (c0.A 3)) ∧ w'.cell? ⟨w1.heap.size, 9, none⟩ = some (.bool (c0.A 4)) ∧ w'.rangeAt w2.heap.size 0 (fCells c0).toList ∧ Below W.heap.size W w')) := hide (fun w' hb => by
      obtain ⟨z9, d0, d1, d2, d3, d4, d5, d6, d7, d8, d9⟩ := HWA.out.on hb
      exact ⟨d0, d1, d2, d3, d4, d5, d6, d7, d8, d9, HWR.out w' hb, hb⟩)
    rw [← hW]
    clear hW hsc hsz hz
    have hu := row_under
    have hi : (Tryd.prog.info? tF).map (·.size) = some (fCells c0).toList.length := by rw [Array.length_toList, fCells_size]; exact row_size
    have hl : (fCells c0).toList.length = 325 := by rw [Array.length_toList, fCells_size]
    have h1 : ∀ v ∈ (fCells c0).toList, v.oneCell' = true := fun v hv => (Array.all_eq_true_iff_forall_mem.1 (fCells_one c0)) v (by simpa using hv)
    have heq := row_same c0
    have hgd := row_guard
    refine wp_region_held_drew (S := fun w' => Below W.heap.size W w') (by kernel_rfl) ((Below.refl _ _).drew) (fun hS => ?_)
    refine wpAnyH_take (i := 0) (oi := ⟨some 21, _, _, _, _, _⟩) (v := ?_) rfl (by kernel_rfl) (by kernel_rfl) (by kernel_rfl) (fun _ _ _ h => h) (Or.inl ⟨by rfl, ?_⟩) hS ?_
    rotate_left 1
    · intro w' hw'
      obtain ⟨z9, d0, d1, d2, d3, d4, d5, d6, d7, d8, d9⟩ := HWA.out.on hw'
      go_simp
      all_goals with_reducible rfl
    try simp only [Act.put, List.setIfInBounds_toArray, List.set_cons_zero, List.set_cons_succ]
    refine wpAnyH_take (i := 1) (oi := ⟨some 22, _, _, _, _, _⟩) (v := ?_) rfl (by kernel_rfl) (by kernel_rfl) (by kernel_rfl) (fun _ _ _ h => h) (Or.inl ⟨by rfl, ?_⟩) hS ?_
    rotate_left 1
    · intro w' hw'
      obtain ⟨z9, d0, d1, d2, d3, d4, d5, d6, d7, d8, d9⟩ := HWA.out.on hw'
      go_simp
      all_goals with_reducible rfl
    try simp only [Act.put, List.setIfInBounds_toArray, List.set_cons_zero, List.set_cons_succ]
    refine wpAnyH_take (i := 2) (oi := ⟨some 23, _, _, _, _, _⟩) (v := ?_) rfl (by kernel_rfl) (by kernel_rfl) (by kernel_rfl) (fun _ _ _ h => h) (Or.inl ⟨by rfl, ?_⟩) hS ?_
    rotate_left 1
    · intro w' hw'
      obtain ⟨z9, d0, d1, d2, d3, d4, d5, d6, d7, d8, d9⟩ := HWA.out.on hw'
      go_simp
      all_goals with_reducible rfl
    try simp only [Act.put, List.setIfInBounds_toArray, List.set_cons_zero, List.set_cons_succ]
    refine wpAnyH_take (i := 3) (oi := ⟨some 24, _, _, _, _, _⟩) (v := ?_) rfl (by kernel_rfl) (by kernel_rfl) (by kernel_rfl) (fun _ _ _ h => h) (Or.inl ⟨by rfl, ?_⟩) hS ?_
    rotate_left 1
    · intro w' hw'
      obtain ⟨z9, d0, d1, d2, d3, d4, d5, d6, d7, d8, d9⟩ := HWA.out.on hw'
      go_simp
      all_goals with_reducible rfl
    try simp only [Act.put, List.setIfInBounds_toArray, List.set_cons_zero, List.set_cons_succ]
    refine wpAnyH_take (i := 4) (oi := ⟨some 25, _, _, _, _, _⟩) (v := ?_) rfl (by kernel_rfl) (by kernel_rfl) (by kernel_rfl) (fun _ _ _ h => h) (Or.inl ⟨by rfl, ?_⟩) hS ?_
    rotate_left 1
    · intro w' hw'
      obtain ⟨z9, d0, d1, d2, d3, d4, d5, d6, d7, d8, d9⟩ := HWA.out.on hw'
      go_simp
      all_goals with_reducible rfl
    try simp only [Act.put, List.setIfInBounds_toArray, List.set_cons_zero, List.set_cons_succ]
    refine wpAnyH_take (i := 6) (oi := ⟨some 27, _, _, _, _, _⟩) (v := .agg (fCells c0).toList.toArray) rfl (by kernel_rfl) (by kernel_rfl) (by kernel_rfl) (fun _ _ _ h => h) (yieldsIf_load_mid (by rfl) tF (.tmp 5) rfl w2.heap.size 0 rfl (fCells c0).toList _ (fun w' hw' => HWR.out w' hw') hu rfl hi) hS ?_
    try simp only [Act.put, List.setIfInBounds_toArray, List.set_cons_zero, List.set_cons_succ]
    rw [Array.toArray_toList]
    refine wpAnyH_ready (rs := [5]) (by kernel_rfl) (by simp) ?_
    refine AllReadyH.cons (o := ⟨some 26, _, _, _, _, _⟩) rfl (fun K hK => ?_) AllReadyH.nil
    go_simp
    refine (HRf.out _).mono ?_
    rintro e w3 ⟨rfl, hb3⟩
    refine hK.out _ _ (hS.trans (Below.mono hb3 hS.size)) (fun hS => ?_)
    clear hK K
    try simp only [Act.put, List.setIfInBounds_toArray, List.set_cons_zero, List.set_cons_succ]
    refine wpAnyH_take (i := 7) (oi := ⟨some 28, _, _, _, _, _⟩) (v := ?_) rfl (by kernel_rfl) (by kernel_rfl) (by kernel_rfl) (fun _ _ _ h => h) (Or.inl ⟨by rfl, ?_⟩) hS ?_
    rotate_left 1
    · intro w' hw'
      obtain ⟨z9, d0, d1, d2, d3, d4, d5, d6, d7, d8, d9⟩ := HWA.out.on hw'
      go_simp
      all_goals with_reducible rfl
    try simp only [Act.put, List.setIfInBounds_toArray, List.set_cons_zero, List.set_cons_succ]
    refine wpAnyH_take (i := 8) (oi := ⟨some 29, _, _, _, _, _⟩) (v := ?_) rfl (by kernel_rfl) (by kernel_rfl) (by kernel_rfl) (fun _ _ _ h => h) (Or.inl ⟨by rfl, ?_⟩) hS ?_
    rotate_left 1
    · intro w' hw'
      obtain ⟨z9, d0, d1, d2, d3, d4, d5, d6, d7, d8, d9⟩ := HWA.out.on hw'
      go_simp
      all_goals with_reducible rfl
    try simp only [Act.put, List.setIfInBounds_toArray, List.set_cons_zero, List.set_cons_succ]
    refine wpAnyH_done (by kernel_rfl) ?_ _
    have HB3 := hide (HWB.out.trans (Below.mono hS HWB.out.size))
    have HA3 := hide (HWA.out.on hS)
    clear hS hu hi hl h1 heq hgd
    by_cases hpe : pe = 0
    · have hvv := HV.out hpe
      subst hpe
      obtain ⟨z9, d0, d1, d2, d3, d4, d5, d6, d7, d8, d9⟩ := HA3.out
      go_wp2_with fail
      refine (HRt.out _).mono ?_
      rintro e w4 ⟨rfl, hb4⟩
      rw [hvv]
      have HB4 := hide (HB3.out.trans (Below.mono hb4 HB3.out.size))
      have HA4 := hide (HA3.out.on hb4)
      clear z9 d0 d1 d2 d3 d4 d5 d6 d7 d8 d9 hb4
      have HC0 := hide (chk_yes hvv)
      clear hvv
      obtain ⟨z9, d0, d1, d2, d3, d4, d5, d6, d7, d8, d9⟩ := HA4.out
      go_wp2_with fail
      refine (HCk.out _ (HR.out.on HB4.out).2.1).mono ?_
      rintro e w5 ⟨rfl, hb5⟩
      rw [HC0.out]
      have HB5 := hide (HB4.out.trans (Below.mono hb5 HB4.out.size))
      clear z9 d0 d1 d2 d3 d4 d5 d6 d7 d8 d9 hb5
      go_wp2_with fail
      refine (HAw.out _ (HR.out.on HB5.out)).mono ?_
      rintro e w6 ⟨rfl, hb6⟩
      have HB6 := hide (HB5.out.trans (Below.mono hb6 HB5.out.size))
      clear hb6
      go_wp2_with fail
      go_ret
      exact ⟨rfl, HB6.out⟩
    · have hpeB : (pe == 0) = false := by rw [beq_eq_false_iff_ne]; exact hpe
      have hpeC : (pe != 0) = true := by unfold bne; rw [hpeB]; rfl
      clear hpe
      go_wp2_with fail
      refine (HAw.out _ (HR.out.on HB3.out)).mono ?_
      rintro e w6 ⟨rfl, hb6⟩
      have HB6 := hide (HB3.out.trans (Below.mono hb6 HB3.out.size))
      clear hb6
      go_wp2_with fail
      go_ret
      exact ⟨rfl, HB6.out⟩
  · have hsI : (300 : Int) < (s.size : Int) := by omega
    clear hs
    go_enter Tryd.func4, Tryd.ntmps4
    go_wp2_with fail
    refine (HAw.out _ HR.out).mono ?_
    rintro e w1 ⟨rfl, hb1⟩
    have HB1 := hide hb1
    clear hb1
    go_wp2_with fail
    go_ret
    exact ⟨rfl, HB1.out⟩
end Go.Proofs.YtldbmkmicaihhaaDoor
