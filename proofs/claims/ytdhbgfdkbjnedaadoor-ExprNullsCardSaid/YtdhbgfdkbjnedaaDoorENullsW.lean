/-
  The walk of ExprNulls.
-/
import Derived.Test.YtdhbgfdkbjnedaaDoorENullsV
namespace Go.Proofs.YtdhbgfdkbjnedaaDoor
open Go.RowKit

theorem bytes_lit {o : ByteArray} {l : List UInt8} (h : (o.toList == l) = true) : o = ⟨l.toArray⟩ := bytes_eq (by rw [beq_iff_eq.1 h, lit_toList])
theorem nul_any (w : World) : Calls Tryd.prog 27 #[vVal 0 0 ⟨#[]⟩] w fun e w' => e = .returned (vX nulX) ∧ Below w.heap.size w w' := const_any 0 0 ⟨#[]⟩ w
theorem lawTruth_any (b : Bool) (w : World) : Calls Tryd.prog 33 #[.bool b] w fun e w' => e = .returned (vVal 1 (if b then 1 else 0) ⟨#[]⟩) ∧ Below w.heap.size w w' := by
  cases b
  · go_enter Tryd.func33, Tryd.ntmps33
    go_wp2_with fail
    refine (of_any 0 _).mono ?_
    rintro e w2 ⟨rfl, hb⟩
    obtain ⟨hc, hf⟩ := bcell hb
    have hb0 : Below w.heap.size w w2 := (Joins.below_alloc1 w _).trans (hb.mono (by simp))
    have hz : w.heap.size < w2.heap.size := by have := hb.size; simp at this; omega
    clear hb
    go_wp2_with fail
    refine bodyPost_ret (v := vVal 1 0 ⟨#[]⟩) (by simp [results, Tryd.results33, go_sem, hc]) rfl ⟨rfl, ?_⟩
    go_grown
  · go_enter Tryd.func33, Tryd.ntmps33
    go_wp2_with fail
    refine (of_any 1 _).mono ?_
    rintro e w2 ⟨rfl, hb⟩
    obtain ⟨hc, hf⟩ := bcell hb
    have hb0 : Below w.heap.size w w2 := (Joins.below_alloc1 w _).trans (hb.mono (by simp))
    have hz : w.heap.size < w2.heap.size := by have := hb.size; simp at this; omega
    clear hb
    go_wp2_with fail
    refine bodyPost_ret (v := vVal 1 1 ⟨#[]⟩) (by simp [results, Tryd.results33, go_sem, hc]) rfl ⟨rfl, ?_⟩
    go_grown

set_option maxHeartbeats 3200000 in
set_option maxRecDepth 100000 in
theorem exprNulls_walk (o : ByteArray) (n : Int) (left : Bool) (w : World) (hs : o.size ≤ maxLen) (h1 : -9223372036854775808 ≤ n) (h2 : n ≤ 9223372036854775807) (hR : Rls w) (hM : Cmps w) :
    Calls Tryd.prog 8 #[.string o, .int .i64 n, .bool left] w fun e w' => e = .returned (.bool true) ∧ Below w.heap.size w w' := by
  have HR := hide hR
  have HM := hide hM
  unfold maxLen at hs
  by_cases hl : 20 < o.size
  · have hl' : (20 : Int) < (o.size : Int) := by omega
    clear hR hM
    go_enter Tryd.func8, Tryd.ntmps8
    go_wp2_with fail
    refine (awake_any w HR.out HM.out).mono ?_
    rintro e w2 ⟨rfl, hb⟩
    go_wp2_with fail
    go_ret
    exact ⟨rfl, hb⟩
  have hl' : ¬ (20 : Int) < (o.size : Int) := by omega
  have HI := hide (show I64 n from ⟨h1, h2⟩)
  have hal := Joins.below_alloc1 w (.cells #[.string ⟨#[97]⟩, .int .i64 1] 64)
  have HR1 := hide (hR.stays hal)
  have HM1 := hide (hM.stays hal)
  have HC1 := hide (colsA (w := w))
  have HL0 := hide hal
  obtain ⟨W1, hW⟩ : ∃ W, W = w.alloc (.cells #[.string ⟨#[97]⟩, .int .i64 1] 64) := ⟨_, rfl⟩
  have HWE := hide hW
  rw [← hW] at HR1 HM1 HC1 HL0
  have HB1 := hide (Below.refl W1.heap.size W1)
  clear hal hR hM hW hl h1 h2 hs
  cases left
  · go_enter Tryd.func8, Tryd.ntmps8
    go_wp2_with fail
    rw [← HWE.out]
    refine (null_any _).mono ?_
    rintro e v1 ⟨rfl, hb⟩
    have HV1 := hide (then_below HB1.out hb)
    clear hb
    go_wp2_with fail
    refine (nul_any _).mono ?_
    rintro e v2 ⟨rfl, hb⟩
    have HV2 := hide (then_below HV1.out hb)
    clear hb
    go_wp2_with fail
    refine (colA_any _).mono ?_
    rintro e v3 ⟨rfl, hb⟩
    have HV3 := hide (then_below HV2.out hb)
    clear hb
    rw [show vX nulX = .agg #[.int .i64 2, .string ⟨#[]⟩, .int .i64 0, .int .i64 0, .string ⟨#[]⟩, .string ⟨#[]⟩, .slice none 0 0] from rfl, show vX colA = .agg #[.int .i64 1, .string ⟨#[97]⟩, .int .i64 0, .int .i64 0, .string ⟨#[]⟩, .string ⟨#[]⟩, .slice none 0 0] from rfl]
    go_wp2_with fail
    refine (binary_any o colA nulX _ (by decide) (lies_leaf _ _ _ _ _ _) (lies_leaf _ _ _ _ _ _)).mono ?_
    rintro e v4 ⟨⟨A1, c1, x1, y1, rfl, hx1, hy1, hl1, -⟩, hb⟩
    have HS1 := hide (show stripX (.mk 4 ⟨#[]⟩ (0, 0, ⟨#[]⟩) o A1 c1 [x1, y1]) = stripX (lrX false o) from strip_bin hx1 hy1)
    have HLa := hide hl1
    have HV4 := hide (then_below (then_below HV3.out (Joins.below_alloc2 v3 _ _)) hb)
    clear hb hx1 hy1 hl1
    generalize XT.mk 4 ⟨#[]⟩ (0, 0, ⟨#[]⟩) o A1 c1 [x1, y1] = X1 at *
    go_wp2_with fail
    refine (of_any n _).mono ?_
    rintro e v5 ⟨rfl, hb⟩
    have HV5 := hide (then_below HV4.out hb)
    have HLb := hide (HLa.out.on hb)
    clear hb
    go_wp2_with fail
    refine (one_any (1, n, ⟨#[]⟩) _).mono ?_
    rintro e v6 ⟨⟨b1, c2, rfl, -, hrow⟩, hb⟩
    have HV6 := hide (then_below HV5.out hb)
    have HLc := hide (HLb.out.on hb)
    have HRw := hide hrow
    clear hb hrow HLa HLb
    go_wp2_with fail
    have HE1 := hide (evalTop_any (some ⟨w.heap.size, 0, none⟩) 1 csA wfA (some ⟨b1, 0, none⟩) c2 [(1, n, ⟨#[]⟩)] (wfR1 HI.out) X1 _ (by rw [same_sz HS1.out, szLr]; decide) HLc.out ((same_wf HS1.out).1 (wfLr false o).1) ((same_wf HS1.out).2 (wfLr false o).2) (HC1.out.on HV6.out) HRw.out (HM1.out.stays HV6.out) (HR1.out.stays HV6.out))
    rw [same_top HS1.out] at HE1
    clear HLc HRw HS1
    cases k0 : (o.toList == [43])
    · cases k1 : (o.toList == [45])
      · cases k2 : (o.toList == [42])
        · cases k3 : (o.toList == [47])
          · cases k4 : (o.toList == [37])
            · cases k5 : (o.toList == [61])
              · cases k6 : (o.toList == [33, 61])
                · cases k7 : (o.toList == [60])
                  · cases k8 : (o.toList == [60, 61])
                    · cases k9 : (o.toList == [62])
                      · cases k10 : (o.toList == [62, 61])
                        · cases k11 : (o.toList == [97, 110, 100])
                          · cases k12 : (o.toList == [111, 114])
                            · rw [nulls_no (o := o) (by simp only [elevenL, List.cons_append, List.nil_append, List.forall_mem_cons, lit_toList]; simp [*]) false n] at HE1
                              refine HE1.out.mono ?_
                              rintro e v7 ⟨rfl, hb⟩
                              have HV7 := hide (then_below HV6.out hb)
                              clear hb HE1
                              have hal := Joins.below_alloc1 v7 (.cells #[.int .i64 0, .int .i64 0, .string ⟨#[]⟩] 29)
                              have HV8 := hide (then_below HV7.out hal)
                              have hq1 : ∀ w, (binOp .eql 29 (vVal 0 0 ⟨#[]⟩) (vVal 0 0 ⟨#[]⟩)).run Tryd.prog w = .ok (.bool true) w := fun w => by rw [run_eql_val]; simp
                              have hg1 := fun u u' w => run_guard_val 0 0 0 0 ⟨#[]⟩ ⟨#[]⟩ u u' w
                              have y0 : (v7.alloc (.cells #[.int .i64 0, .int .i64 0, .string ⟨#[]⟩] 29)).cell? ⟨v7.heap.size, 0, none⟩ = some (.int .i64 0) := by simp
                              have y1 : (v7.alloc (.cells #[.int .i64 0, .int .i64 0, .string ⟨#[]⟩] 29)).cell? ⟨v7.heap.size, 1, none⟩ = some (.int .i64 (0)) := by simp
                              have y2 : (v7.alloc (.cells #[.int .i64 0, .int .i64 0, .string ⟨#[]⟩] 29)).cell? ⟨v7.heap.size, 2, none⟩ = some (.string ⟨#[]⟩) := by simp
                              clear hal
                              go_wp2_with fail
                              refine (awake_any _ (HR1.out.stays HV8.out) (HM1.out.stays HV8.out)).mono ?_
                              rintro e v9 ⟨rfl, hb⟩
                              have HV9 := hide (then_below HV8.out hb)
                              clear hb
                              go_wp2_with fail
                              go_ret
                              exact ⟨rfl, HL0.out.trans (HV9.out.mono HL0.out.size)⟩
                            · clear k0 k1 k2 k3 k4 k5 k6 k7 k8 k9 k10 k11
                              obtain rfl : o = ⟨#[111, 114]⟩ := bytes_lit k12
                              rw [nulls_or false n] at HE1
                              unfold truthV at HE1
                              cases hn : (n != 0)
                              all_goals
                                rw [hn] at HE1
                                simp only [Bool.false_eq_true, if_false, if_true] at HE1
                              · refine HE1.out.mono ?_
                                rintro e v7 ⟨rfl, hb⟩
                                have HV7 := hide (then_below HV6.out hb)
                                clear hb HE1
                                have hal := Joins.below_alloc1 v7 (.cells #[.int .i64 1, .int .i64 0, .string ⟨#[]⟩] 29)
                                have HV8 := hide (then_below HV7.out hal)
                                have hq1 : ∀ w, (binOp .eql 29 (vVal 1 0 ⟨#[]⟩) (vVal 1 0 ⟨#[]⟩)).run Tryd.prog w = .ok (.bool true) w := fun w => by rw [run_eql_val]; simp
                                have hg1 := fun u u' w => run_guard_val 1 0 1 0 ⟨#[]⟩ ⟨#[]⟩ u u' w
                                have y0 : (v7.alloc (.cells #[.int .i64 1, .int .i64 0, .string ⟨#[]⟩] 29)).cell? ⟨v7.heap.size, 0, none⟩ = some (.int .i64 1) := by simp
                                have y1 : (v7.alloc (.cells #[.int .i64 1, .int .i64 0, .string ⟨#[]⟩] 29)).cell? ⟨v7.heap.size, 1, none⟩ = some (.int .i64 (0)) := by simp
                                have y2 : (v7.alloc (.cells #[.int .i64 1, .int .i64 0, .string ⟨#[]⟩] 29)).cell? ⟨v7.heap.size, 2, none⟩ = some (.string ⟨#[]⟩) := by simp
                                have p3 := fun d os => cell_regrown y0 d os
                                have p4 := fun d os => cell_regrown y1 d os
                                have p5 := fun d os => cell_regrown y2 d os
                                have HAw := hide (fun w' (h : Below W1.heap.size W1 w') => awake_any w' (HR1.out.stays h) (HM1.out.stays h))
                                clear hal y0 y1 y2
                                go_wp2_with fail
                                refine wp_region_quiet_below (by kernel_rfl) (by kernel_rfl) ?_
                                repeat (go_big_quiet_step (first | (go_at_call 33; exact Calls.regrown_of (lawTruth_any _ _)) | (go_at_call 11; exact Calls.regrown_of (HAw.out _ (then_below HV8.out (below_regrown _ _ _))))))
                                refine wpQuiet_nil ?_
                                intro _ hw'
                                obtain ⟨⟨dq, osq⟩, hw''⟩ := hw'
                                subst hw''
                                have q9 := then_below HV8.out (below_regrown _ dq osq)
                                go_wp2_with fail
                                go_ret
                                exact ⟨rfl, HL0.out.trans (q9.mono HL0.out.size)⟩
                              · refine HE1.out.mono ?_
                                rintro e v7 ⟨rfl, hb⟩
                                have HV7 := hide (then_below HV6.out hb)
                                clear hb HE1
                                have hal := Joins.below_alloc1 v7 (.cells #[.int .i64 1, .int .i64 1, .string ⟨#[]⟩] 29)
                                have HV8 := hide (then_below HV7.out hal)
                                have hq1 : ∀ w, (binOp .eql 29 (vVal 1 1 ⟨#[]⟩) (vVal 1 1 ⟨#[]⟩)).run Tryd.prog w = .ok (.bool true) w := fun w => by rw [run_eql_val]; simp
                                have hg1 := fun u u' w => run_guard_val 1 1 1 1 ⟨#[]⟩ ⟨#[]⟩ u u' w
                                have y0 : (v7.alloc (.cells #[.int .i64 1, .int .i64 1, .string ⟨#[]⟩] 29)).cell? ⟨v7.heap.size, 0, none⟩ = some (.int .i64 1) := by simp
                                have y1 : (v7.alloc (.cells #[.int .i64 1, .int .i64 1, .string ⟨#[]⟩] 29)).cell? ⟨v7.heap.size, 1, none⟩ = some (.int .i64 (1)) := by simp
                                have y2 : (v7.alloc (.cells #[.int .i64 1, .int .i64 1, .string ⟨#[]⟩] 29)).cell? ⟨v7.heap.size, 2, none⟩ = some (.string ⟨#[]⟩) := by simp
                                have p3 := fun d os => cell_regrown y0 d os
                                have p4 := fun d os => cell_regrown y1 d os
                                have p5 := fun d os => cell_regrown y2 d os
                                have HAw := hide (fun w' (h : Below W1.heap.size W1 w') => awake_any w' (HR1.out.stays h) (HM1.out.stays h))
                                clear hal y0 y1 y2
                                go_wp2_with fail
                                refine wp_region_quiet_below (by kernel_rfl) (by kernel_rfl) ?_
                                repeat (go_big_quiet_step (first | (go_at_call 33; exact Calls.regrown_of (lawTruth_any _ _)) | (go_at_call 11; exact Calls.regrown_of (HAw.out _ (then_below HV8.out (below_regrown _ _ _))))))
                                refine wpQuiet_nil ?_
                                intro _ hw'
                                obtain ⟨⟨dq, osq⟩, hw''⟩ := hw'
                                subst hw''
                                have q9 := then_below HV8.out (below_regrown _ dq osq)
                                go_wp2_with fail
                                go_ret
                                exact ⟨rfl, HL0.out.trans (q9.mono HL0.out.size)⟩
                          · clear k0 k1 k2 k3 k4 k5 k6 k7 k8 k9 k10
                            obtain rfl : o = ⟨#[97, 110, 100]⟩ := bytes_lit k11
                            rw [nulls_and false n] at HE1
                            refine HE1.out.mono ?_
                            rintro e v7 ⟨rfl, hb⟩
                            have HV7 := hide (then_below HV6.out hb)
                            clear hb HE1
                            have hal := Joins.below_alloc1 v7 (.cells #[.int .i64 1, .int .i64 0, .string ⟨#[]⟩] 29)
                            have HV8 := hide (then_below HV7.out hal)
                            have hq1 : ∀ w, (binOp .eql 29 (vVal 1 0 ⟨#[]⟩) (vVal 1 0 ⟨#[]⟩)).run Tryd.prog w = .ok (.bool true) w := fun w => by rw [run_eql_val]; simp
                            have hg1 := fun u u' w => run_guard_val 1 0 1 0 ⟨#[]⟩ ⟨#[]⟩ u u' w
                            have y0 : (v7.alloc (.cells #[.int .i64 1, .int .i64 0, .string ⟨#[]⟩] 29)).cell? ⟨v7.heap.size, 0, none⟩ = some (.int .i64 1) := by simp
                            have y1 : (v7.alloc (.cells #[.int .i64 1, .int .i64 0, .string ⟨#[]⟩] 29)).cell? ⟨v7.heap.size, 1, none⟩ = some (.int .i64 (0)) := by simp
                            have y2 : (v7.alloc (.cells #[.int .i64 1, .int .i64 0, .string ⟨#[]⟩] 29)).cell? ⟨v7.heap.size, 2, none⟩ = some (.string ⟨#[]⟩) := by simp
                            have p3 := fun d os => cell_regrown y0 d os
                            have p4 := fun d os => cell_regrown y1 d os
                            have p5 := fun d os => cell_regrown y2 d os
                            have HAw := hide (fun w' (h : Below W1.heap.size W1 w') => awake_any w' (HR1.out.stays h) (HM1.out.stays h))
                            clear hal y0 y1 y2
                            go_wp2_with fail
                            refine wp_region_quiet_below (by kernel_rfl) (by kernel_rfl) ?_
                            repeat (go_big_quiet_step (first | (go_at_call 28; exact Calls.regrown_of (of_any 0 _)) | (go_at_call 11; exact Calls.regrown_of (HAw.out _ (then_below HV8.out (below_regrown _ _ _))))))
                            refine wpQuiet_nil ?_
                            intro _ hw'
                            obtain ⟨⟨dq, osq⟩, hw''⟩ := hw'
                            subst hw''
                            have q9 := then_below HV8.out (below_regrown _ dq osq)
                            go_wp2_with fail
                            go_ret
                            exact ⟨rfl, HL0.out.trans (q9.mono HL0.out.size)⟩
                        · clear k0 k1 k2 k3 k4 k5 k6 k7 k8 k9
                          obtain rfl : o = ⟨#[62, 61]⟩ := bytes_lit k10
                          rw [nulls_11 (by simp [elevenL]) false n] at HE1
                          refine HE1.out.mono ?_
                          rintro e v7 ⟨rfl, hb⟩
                          have HV7 := hide (then_below HV6.out hb)
                          clear hb HE1
                          have hal := Joins.below_alloc1 v7 (.cells #[.int .i64 0, .int .i64 0, .string ⟨#[]⟩] 29)
                          have HV8 := hide (then_below HV7.out hal)
                          have hq1 : ∀ w, (binOp .eql 29 (vVal 0 0 ⟨#[]⟩) (vVal 0 0 ⟨#[]⟩)).run Tryd.prog w = .ok (.bool true) w := fun w => by rw [run_eql_val]; simp
                          have hg1 := fun u u' w => run_guard_val 0 0 0 0 ⟨#[]⟩ ⟨#[]⟩ u u' w
                          have y0 : (v7.alloc (.cells #[.int .i64 0, .int .i64 0, .string ⟨#[]⟩] 29)).cell? ⟨v7.heap.size, 0, none⟩ = some (.int .i64 0) := by simp
                          have y1 : (v7.alloc (.cells #[.int .i64 0, .int .i64 0, .string ⟨#[]⟩] 29)).cell? ⟨v7.heap.size, 1, none⟩ = some (.int .i64 (0)) := by simp
                          have y2 : (v7.alloc (.cells #[.int .i64 0, .int .i64 0, .string ⟨#[]⟩] 29)).cell? ⟨v7.heap.size, 2, none⟩ = some (.string ⟨#[]⟩) := by simp
                          clear hal
                          go_wp2_with fail
                          refine (awake_any _ (HR1.out.stays HV8.out) (HM1.out.stays HV8.out)).mono ?_
                          rintro e v9 ⟨rfl, hb⟩
                          have HV9 := hide (then_below HV8.out hb)
                          clear hb
                          go_wp2_with fail
                          go_ret
                          exact ⟨rfl, HL0.out.trans (HV9.out.mono HL0.out.size)⟩
                      · clear k0 k1 k2 k3 k4 k5 k6 k7 k8
                        obtain rfl : o = ⟨#[62]⟩ := bytes_lit k9
                        rw [nulls_11 (by simp [elevenL]) false n] at HE1
                        refine HE1.out.mono ?_
                        rintro e v7 ⟨rfl, hb⟩
                        have HV7 := hide (then_below HV6.out hb)
                        clear hb HE1
                        have hal := Joins.below_alloc1 v7 (.cells #[.int .i64 0, .int .i64 0, .string ⟨#[]⟩] 29)
                        have HV8 := hide (then_below HV7.out hal)
                        have hq1 : ∀ w, (binOp .eql 29 (vVal 0 0 ⟨#[]⟩) (vVal 0 0 ⟨#[]⟩)).run Tryd.prog w = .ok (.bool true) w := fun w => by rw [run_eql_val]; simp
                        have hg1 := fun u u' w => run_guard_val 0 0 0 0 ⟨#[]⟩ ⟨#[]⟩ u u' w
                        have y0 : (v7.alloc (.cells #[.int .i64 0, .int .i64 0, .string ⟨#[]⟩] 29)).cell? ⟨v7.heap.size, 0, none⟩ = some (.int .i64 0) := by simp
                        have y1 : (v7.alloc (.cells #[.int .i64 0, .int .i64 0, .string ⟨#[]⟩] 29)).cell? ⟨v7.heap.size, 1, none⟩ = some (.int .i64 (0)) := by simp
                        have y2 : (v7.alloc (.cells #[.int .i64 0, .int .i64 0, .string ⟨#[]⟩] 29)).cell? ⟨v7.heap.size, 2, none⟩ = some (.string ⟨#[]⟩) := by simp
                        clear hal
                        go_wp2_with fail
                        refine (awake_any _ (HR1.out.stays HV8.out) (HM1.out.stays HV8.out)).mono ?_
                        rintro e v9 ⟨rfl, hb⟩
                        have HV9 := hide (then_below HV8.out hb)
                        clear hb
                        go_wp2_with fail
                        go_ret
                        exact ⟨rfl, HL0.out.trans (HV9.out.mono HL0.out.size)⟩
                    · clear k0 k1 k2 k3 k4 k5 k6 k7
                      obtain rfl : o = ⟨#[60, 61]⟩ := bytes_lit k8
                      rw [nulls_11 (by simp [elevenL]) false n] at HE1
                      refine HE1.out.mono ?_
                      rintro e v7 ⟨rfl, hb⟩
                      have HV7 := hide (then_below HV6.out hb)
                      clear hb HE1
                      have hal := Joins.below_alloc1 v7 (.cells #[.int .i64 0, .int .i64 0, .string ⟨#[]⟩] 29)
                      have HV8 := hide (then_below HV7.out hal)
                      have hq1 : ∀ w, (binOp .eql 29 (vVal 0 0 ⟨#[]⟩) (vVal 0 0 ⟨#[]⟩)).run Tryd.prog w = .ok (.bool true) w := fun w => by rw [run_eql_val]; simp
                      have hg1 := fun u u' w => run_guard_val 0 0 0 0 ⟨#[]⟩ ⟨#[]⟩ u u' w
                      have y0 : (v7.alloc (.cells #[.int .i64 0, .int .i64 0, .string ⟨#[]⟩] 29)).cell? ⟨v7.heap.size, 0, none⟩ = some (.int .i64 0) := by simp
                      have y1 : (v7.alloc (.cells #[.int .i64 0, .int .i64 0, .string ⟨#[]⟩] 29)).cell? ⟨v7.heap.size, 1, none⟩ = some (.int .i64 (0)) := by simp
                      have y2 : (v7.alloc (.cells #[.int .i64 0, .int .i64 0, .string ⟨#[]⟩] 29)).cell? ⟨v7.heap.size, 2, none⟩ = some (.string ⟨#[]⟩) := by simp
                      clear hal
                      go_wp2_with fail
                      refine (awake_any _ (HR1.out.stays HV8.out) (HM1.out.stays HV8.out)).mono ?_
                      rintro e v9 ⟨rfl, hb⟩
                      have HV9 := hide (then_below HV8.out hb)
                      clear hb
                      go_wp2_with fail
                      go_ret
                      exact ⟨rfl, HL0.out.trans (HV9.out.mono HL0.out.size)⟩
                  · clear k0 k1 k2 k3 k4 k5 k6
                    obtain rfl : o = ⟨#[60]⟩ := bytes_lit k7
                    rw [nulls_11 (by simp [elevenL]) false n] at HE1
                    refine HE1.out.mono ?_
                    rintro e v7 ⟨rfl, hb⟩
                    have HV7 := hide (then_below HV6.out hb)
                    clear hb HE1
                    have hal := Joins.below_alloc1 v7 (.cells #[.int .i64 0, .int .i64 0, .string ⟨#[]⟩] 29)
                    have HV8 := hide (then_below HV7.out hal)
                    have hq1 : ∀ w, (binOp .eql 29 (vVal 0 0 ⟨#[]⟩) (vVal 0 0 ⟨#[]⟩)).run Tryd.prog w = .ok (.bool true) w := fun w => by rw [run_eql_val]; simp
                    have hg1 := fun u u' w => run_guard_val 0 0 0 0 ⟨#[]⟩ ⟨#[]⟩ u u' w
                    have y0 : (v7.alloc (.cells #[.int .i64 0, .int .i64 0, .string ⟨#[]⟩] 29)).cell? ⟨v7.heap.size, 0, none⟩ = some (.int .i64 0) := by simp
                    have y1 : (v7.alloc (.cells #[.int .i64 0, .int .i64 0, .string ⟨#[]⟩] 29)).cell? ⟨v7.heap.size, 1, none⟩ = some (.int .i64 (0)) := by simp
                    have y2 : (v7.alloc (.cells #[.int .i64 0, .int .i64 0, .string ⟨#[]⟩] 29)).cell? ⟨v7.heap.size, 2, none⟩ = some (.string ⟨#[]⟩) := by simp
                    clear hal
                    go_wp2_with fail
                    refine (awake_any _ (HR1.out.stays HV8.out) (HM1.out.stays HV8.out)).mono ?_
                    rintro e v9 ⟨rfl, hb⟩
                    have HV9 := hide (then_below HV8.out hb)
                    clear hb
                    go_wp2_with fail
                    go_ret
                    exact ⟨rfl, HL0.out.trans (HV9.out.mono HL0.out.size)⟩
                · clear k0 k1 k2 k3 k4 k5
                  obtain rfl : o = ⟨#[33, 61]⟩ := bytes_lit k6
                  rw [nulls_11 (by simp [elevenL]) false n] at HE1
                  refine HE1.out.mono ?_
                  rintro e v7 ⟨rfl, hb⟩
                  have HV7 := hide (then_below HV6.out hb)
                  clear hb HE1
                  have hal := Joins.below_alloc1 v7 (.cells #[.int .i64 0, .int .i64 0, .string ⟨#[]⟩] 29)
                  have HV8 := hide (then_below HV7.out hal)
                  have hq1 : ∀ w, (binOp .eql 29 (vVal 0 0 ⟨#[]⟩) (vVal 0 0 ⟨#[]⟩)).run Tryd.prog w = .ok (.bool true) w := fun w => by rw [run_eql_val]; simp
                  have hg1 := fun u u' w => run_guard_val 0 0 0 0 ⟨#[]⟩ ⟨#[]⟩ u u' w
                  have y0 : (v7.alloc (.cells #[.int .i64 0, .int .i64 0, .string ⟨#[]⟩] 29)).cell? ⟨v7.heap.size, 0, none⟩ = some (.int .i64 0) := by simp
                  have y1 : (v7.alloc (.cells #[.int .i64 0, .int .i64 0, .string ⟨#[]⟩] 29)).cell? ⟨v7.heap.size, 1, none⟩ = some (.int .i64 (0)) := by simp
                  have y2 : (v7.alloc (.cells #[.int .i64 0, .int .i64 0, .string ⟨#[]⟩] 29)).cell? ⟨v7.heap.size, 2, none⟩ = some (.string ⟨#[]⟩) := by simp
                  clear hal
                  go_wp2_with fail
                  refine (awake_any _ (HR1.out.stays HV8.out) (HM1.out.stays HV8.out)).mono ?_
                  rintro e v9 ⟨rfl, hb⟩
                  have HV9 := hide (then_below HV8.out hb)
                  clear hb
                  go_wp2_with fail
                  go_ret
                  exact ⟨rfl, HL0.out.trans (HV9.out.mono HL0.out.size)⟩
              · clear k0 k1 k2 k3 k4
                obtain rfl : o = ⟨#[61]⟩ := bytes_lit k5
                rw [nulls_11 (by simp [elevenL]) false n] at HE1
                refine HE1.out.mono ?_
                rintro e v7 ⟨rfl, hb⟩
                have HV7 := hide (then_below HV6.out hb)
                clear hb HE1
                have hal := Joins.below_alloc1 v7 (.cells #[.int .i64 0, .int .i64 0, .string ⟨#[]⟩] 29)
                have HV8 := hide (then_below HV7.out hal)
                have hq1 : ∀ w, (binOp .eql 29 (vVal 0 0 ⟨#[]⟩) (vVal 0 0 ⟨#[]⟩)).run Tryd.prog w = .ok (.bool true) w := fun w => by rw [run_eql_val]; simp
                have hg1 := fun u u' w => run_guard_val 0 0 0 0 ⟨#[]⟩ ⟨#[]⟩ u u' w
                have y0 : (v7.alloc (.cells #[.int .i64 0, .int .i64 0, .string ⟨#[]⟩] 29)).cell? ⟨v7.heap.size, 0, none⟩ = some (.int .i64 0) := by simp
                have y1 : (v7.alloc (.cells #[.int .i64 0, .int .i64 0, .string ⟨#[]⟩] 29)).cell? ⟨v7.heap.size, 1, none⟩ = some (.int .i64 (0)) := by simp
                have y2 : (v7.alloc (.cells #[.int .i64 0, .int .i64 0, .string ⟨#[]⟩] 29)).cell? ⟨v7.heap.size, 2, none⟩ = some (.string ⟨#[]⟩) := by simp
                clear hal
                go_wp2_with fail
                refine (awake_any _ (HR1.out.stays HV8.out) (HM1.out.stays HV8.out)).mono ?_
                rintro e v9 ⟨rfl, hb⟩
                have HV9 := hide (then_below HV8.out hb)
                clear hb
                go_wp2_with fail
                go_ret
                exact ⟨rfl, HL0.out.trans (HV9.out.mono HL0.out.size)⟩
            · clear k0 k1 k2 k3
              obtain rfl : o = ⟨#[37]⟩ := bytes_lit k4
              rw [nulls_11 (by simp [elevenL]) false n] at HE1
              refine HE1.out.mono ?_
              rintro e v7 ⟨rfl, hb⟩
              have HV7 := hide (then_below HV6.out hb)
              clear hb HE1
              have hal := Joins.below_alloc1 v7 (.cells #[.int .i64 0, .int .i64 0, .string ⟨#[]⟩] 29)
              have HV8 := hide (then_below HV7.out hal)
              have hq1 : ∀ w, (binOp .eql 29 (vVal 0 0 ⟨#[]⟩) (vVal 0 0 ⟨#[]⟩)).run Tryd.prog w = .ok (.bool true) w := fun w => by rw [run_eql_val]; simp
              have hg1 := fun u u' w => run_guard_val 0 0 0 0 ⟨#[]⟩ ⟨#[]⟩ u u' w
              have y0 : (v7.alloc (.cells #[.int .i64 0, .int .i64 0, .string ⟨#[]⟩] 29)).cell? ⟨v7.heap.size, 0, none⟩ = some (.int .i64 0) := by simp
              have y1 : (v7.alloc (.cells #[.int .i64 0, .int .i64 0, .string ⟨#[]⟩] 29)).cell? ⟨v7.heap.size, 1, none⟩ = some (.int .i64 (0)) := by simp
              have y2 : (v7.alloc (.cells #[.int .i64 0, .int .i64 0, .string ⟨#[]⟩] 29)).cell? ⟨v7.heap.size, 2, none⟩ = some (.string ⟨#[]⟩) := by simp
              clear hal
              go_wp2_with fail
              refine (awake_any _ (HR1.out.stays HV8.out) (HM1.out.stays HV8.out)).mono ?_
              rintro e v9 ⟨rfl, hb⟩
              have HV9 := hide (then_below HV8.out hb)
              clear hb
              go_wp2_with fail
              go_ret
              exact ⟨rfl, HL0.out.trans (HV9.out.mono HL0.out.size)⟩
          · clear k0 k1 k2
            obtain rfl : o = ⟨#[47]⟩ := bytes_lit k3
            rw [nulls_11 (by simp [elevenL]) false n] at HE1
            refine HE1.out.mono ?_
            rintro e v7 ⟨rfl, hb⟩
            have HV7 := hide (then_below HV6.out hb)
            clear hb HE1
            have hal := Joins.below_alloc1 v7 (.cells #[.int .i64 0, .int .i64 0, .string ⟨#[]⟩] 29)
            have HV8 := hide (then_below HV7.out hal)
            have hq1 : ∀ w, (binOp .eql 29 (vVal 0 0 ⟨#[]⟩) (vVal 0 0 ⟨#[]⟩)).run Tryd.prog w = .ok (.bool true) w := fun w => by rw [run_eql_val]; simp
            have hg1 := fun u u' w => run_guard_val 0 0 0 0 ⟨#[]⟩ ⟨#[]⟩ u u' w
            have y0 : (v7.alloc (.cells #[.int .i64 0, .int .i64 0, .string ⟨#[]⟩] 29)).cell? ⟨v7.heap.size, 0, none⟩ = some (.int .i64 0) := by simp
            have y1 : (v7.alloc (.cells #[.int .i64 0, .int .i64 0, .string ⟨#[]⟩] 29)).cell? ⟨v7.heap.size, 1, none⟩ = some (.int .i64 (0)) := by simp
            have y2 : (v7.alloc (.cells #[.int .i64 0, .int .i64 0, .string ⟨#[]⟩] 29)).cell? ⟨v7.heap.size, 2, none⟩ = some (.string ⟨#[]⟩) := by simp
            clear hal
            go_wp2_with fail
            refine (awake_any _ (HR1.out.stays HV8.out) (HM1.out.stays HV8.out)).mono ?_
            rintro e v9 ⟨rfl, hb⟩
            have HV9 := hide (then_below HV8.out hb)
            clear hb
            go_wp2_with fail
            go_ret
            exact ⟨rfl, HL0.out.trans (HV9.out.mono HL0.out.size)⟩
        · clear k0 k1
          obtain rfl : o = ⟨#[42]⟩ := bytes_lit k2
          rw [nulls_11 (by simp [elevenL]) false n] at HE1
          refine HE1.out.mono ?_
          rintro e v7 ⟨rfl, hb⟩
          have HV7 := hide (then_below HV6.out hb)
          clear hb HE1
          have hal := Joins.below_alloc1 v7 (.cells #[.int .i64 0, .int .i64 0, .string ⟨#[]⟩] 29)
          have HV8 := hide (then_below HV7.out hal)
          have hq1 : ∀ w, (binOp .eql 29 (vVal 0 0 ⟨#[]⟩) (vVal 0 0 ⟨#[]⟩)).run Tryd.prog w = .ok (.bool true) w := fun w => by rw [run_eql_val]; simp
          have hg1 := fun u u' w => run_guard_val 0 0 0 0 ⟨#[]⟩ ⟨#[]⟩ u u' w
          have y0 : (v7.alloc (.cells #[.int .i64 0, .int .i64 0, .string ⟨#[]⟩] 29)).cell? ⟨v7.heap.size, 0, none⟩ = some (.int .i64 0) := by simp
          have y1 : (v7.alloc (.cells #[.int .i64 0, .int .i64 0, .string ⟨#[]⟩] 29)).cell? ⟨v7.heap.size, 1, none⟩ = some (.int .i64 (0)) := by simp
          have y2 : (v7.alloc (.cells #[.int .i64 0, .int .i64 0, .string ⟨#[]⟩] 29)).cell? ⟨v7.heap.size, 2, none⟩ = some (.string ⟨#[]⟩) := by simp
          clear hal
          go_wp2_with fail
          refine (awake_any _ (HR1.out.stays HV8.out) (HM1.out.stays HV8.out)).mono ?_
          rintro e v9 ⟨rfl, hb⟩
          have HV9 := hide (then_below HV8.out hb)
          clear hb
          go_wp2_with fail
          go_ret
          exact ⟨rfl, HL0.out.trans (HV9.out.mono HL0.out.size)⟩
      · clear k0
        obtain rfl : o = ⟨#[45]⟩ := bytes_lit k1
        rw [nulls_11 (by simp [elevenL]) false n] at HE1
        refine HE1.out.mono ?_
        rintro e v7 ⟨rfl, hb⟩
        have HV7 := hide (then_below HV6.out hb)
        clear hb HE1
        have hal := Joins.below_alloc1 v7 (.cells #[.int .i64 0, .int .i64 0, .string ⟨#[]⟩] 29)
        have HV8 := hide (then_below HV7.out hal)
        have hq1 : ∀ w, (binOp .eql 29 (vVal 0 0 ⟨#[]⟩) (vVal 0 0 ⟨#[]⟩)).run Tryd.prog w = .ok (.bool true) w := fun w => by rw [run_eql_val]; simp
        have hg1 := fun u u' w => run_guard_val 0 0 0 0 ⟨#[]⟩ ⟨#[]⟩ u u' w
        have y0 : (v7.alloc (.cells #[.int .i64 0, .int .i64 0, .string ⟨#[]⟩] 29)).cell? ⟨v7.heap.size, 0, none⟩ = some (.int .i64 0) := by simp
        have y1 : (v7.alloc (.cells #[.int .i64 0, .int .i64 0, .string ⟨#[]⟩] 29)).cell? ⟨v7.heap.size, 1, none⟩ = some (.int .i64 (0)) := by simp
        have y2 : (v7.alloc (.cells #[.int .i64 0, .int .i64 0, .string ⟨#[]⟩] 29)).cell? ⟨v7.heap.size, 2, none⟩ = some (.string ⟨#[]⟩) := by simp
        clear hal
        go_wp2_with fail
        refine (awake_any _ (HR1.out.stays HV8.out) (HM1.out.stays HV8.out)).mono ?_
        rintro e v9 ⟨rfl, hb⟩
        have HV9 := hide (then_below HV8.out hb)
        clear hb
        go_wp2_with fail
        go_ret
        exact ⟨rfl, HL0.out.trans (HV9.out.mono HL0.out.size)⟩
    · obtain rfl : o = ⟨#[43]⟩ := bytes_lit k0
      rw [nulls_11 (by simp [elevenL]) false n] at HE1
      refine HE1.out.mono ?_
      rintro e v7 ⟨rfl, hb⟩
      have HV7 := hide (then_below HV6.out hb)
      clear hb HE1
      have hal := Joins.below_alloc1 v7 (.cells #[.int .i64 0, .int .i64 0, .string ⟨#[]⟩] 29)
      have HV8 := hide (then_below HV7.out hal)
      have hq1 : ∀ w, (binOp .eql 29 (vVal 0 0 ⟨#[]⟩) (vVal 0 0 ⟨#[]⟩)).run Tryd.prog w = .ok (.bool true) w := fun w => by rw [run_eql_val]; simp
      have hg1 := fun u u' w => run_guard_val 0 0 0 0 ⟨#[]⟩ ⟨#[]⟩ u u' w
      have y0 : (v7.alloc (.cells #[.int .i64 0, .int .i64 0, .string ⟨#[]⟩] 29)).cell? ⟨v7.heap.size, 0, none⟩ = some (.int .i64 0) := by simp
      have y1 : (v7.alloc (.cells #[.int .i64 0, .int .i64 0, .string ⟨#[]⟩] 29)).cell? ⟨v7.heap.size, 1, none⟩ = some (.int .i64 (0)) := by simp
      have y2 : (v7.alloc (.cells #[.int .i64 0, .int .i64 0, .string ⟨#[]⟩] 29)).cell? ⟨v7.heap.size, 2, none⟩ = some (.string ⟨#[]⟩) := by simp
      clear hal
      go_wp2_with fail
      refine (awake_any _ (HR1.out.stays HV8.out) (HM1.out.stays HV8.out)).mono ?_
      rintro e v9 ⟨rfl, hb⟩
      have HV9 := hide (then_below HV8.out hb)
      clear hb
      go_wp2_with fail
      go_ret
      exact ⟨rfl, HL0.out.trans (HV9.out.mono HL0.out.size)⟩
  · go_enter Tryd.func8, Tryd.ntmps8
    go_wp2_with fail
    rw [← HWE.out]
    refine (null_any _).mono ?_
    rintro e v1 ⟨rfl, hb⟩
    have HV1 := hide (then_below HB1.out hb)
    clear hb
    go_wp2_with fail
    refine (nul_any _).mono ?_
    rintro e v2 ⟨rfl, hb⟩
    have HV2 := hide (then_below HV1.out hb)
    clear hb
    go_wp2_with fail
    refine (colA_any _).mono ?_
    rintro e v3 ⟨rfl, hb⟩
    have HV3 := hide (then_below HV2.out hb)
    clear hb
    rw [show vX nulX = .agg #[.int .i64 2, .string ⟨#[]⟩, .int .i64 0, .int .i64 0, .string ⟨#[]⟩, .string ⟨#[]⟩, .slice none 0 0] from rfl, show vX colA = .agg #[.int .i64 1, .string ⟨#[97]⟩, .int .i64 0, .int .i64 0, .string ⟨#[]⟩, .string ⟨#[]⟩, .slice none 0 0] from rfl]
    go_wp2_with fail
    refine (binary_any o nulX colA _ (by decide) (lies_leaf _ _ _ _ _ _) (lies_leaf _ _ _ _ _ _)).mono ?_
    rintro e v4 ⟨⟨A1, c1, x1, y1, rfl, hx1, hy1, hl1, -⟩, hb⟩
    have HS1 := hide (show stripX (.mk 4 ⟨#[]⟩ (0, 0, ⟨#[]⟩) o A1 c1 [x1, y1]) = stripX (lrX true o) from strip_bin hx1 hy1)
    have HLa := hide hl1
    have HV4 := hide (then_below (then_below HV3.out (Joins.below_alloc2 v3 _ _)) hb)
    clear hb hx1 hy1 hl1
    generalize XT.mk 4 ⟨#[]⟩ (0, 0, ⟨#[]⟩) o A1 c1 [x1, y1] = X1 at *
    go_wp2_with fail
    refine (of_any n _).mono ?_
    rintro e v5 ⟨rfl, hb⟩
    have HV5 := hide (then_below HV4.out hb)
    have HLb := hide (HLa.out.on hb)
    clear hb
    go_wp2_with fail
    refine (one_any (1, n, ⟨#[]⟩) _).mono ?_
    rintro e v6 ⟨⟨b1, c2, rfl, -, hrow⟩, hb⟩
    have HV6 := hide (then_below HV5.out hb)
    have HLc := hide (HLb.out.on hb)
    have HRw := hide hrow
    clear hb hrow HLa HLb
    go_wp2_with fail
    have HE1 := hide (evalTop_any (some ⟨w.heap.size, 0, none⟩) 1 csA wfA (some ⟨b1, 0, none⟩) c2 [(1, n, ⟨#[]⟩)] (wfR1 HI.out) X1 _ (by rw [same_sz HS1.out, szLr]; decide) HLc.out ((same_wf HS1.out).1 (wfLr true o).1) ((same_wf HS1.out).2 (wfLr true o).2) (HC1.out.on HV6.out) HRw.out (HM1.out.stays HV6.out) (HR1.out.stays HV6.out))
    rw [same_top HS1.out] at HE1
    clear HLc HRw HS1
    cases k0 : (o.toList == [43])
    · cases k1 : (o.toList == [45])
      · cases k2 : (o.toList == [42])
        · cases k3 : (o.toList == [47])
          · cases k4 : (o.toList == [37])
            · cases k5 : (o.toList == [61])
              · cases k6 : (o.toList == [33, 61])
                · cases k7 : (o.toList == [60])
                  · cases k8 : (o.toList == [60, 61])
                    · cases k9 : (o.toList == [62])
                      · cases k10 : (o.toList == [62, 61])
                        · cases k11 : (o.toList == [97, 110, 100])
                          · cases k12 : (o.toList == [111, 114])
                            · rw [nulls_no (o := o) (by simp only [elevenL, List.cons_append, List.nil_append, List.forall_mem_cons, lit_toList]; simp [*]) true n] at HE1
                              refine HE1.out.mono ?_
                              rintro e v7 ⟨rfl, hb⟩
                              have HV7 := hide (then_below HV6.out hb)
                              clear hb HE1
                              have hal := Joins.below_alloc1 v7 (.cells #[.int .i64 0, .int .i64 0, .string ⟨#[]⟩] 29)
                              have HV8 := hide (then_below HV7.out hal)
                              have hq1 : ∀ w, (binOp .eql 29 (vVal 0 0 ⟨#[]⟩) (vVal 0 0 ⟨#[]⟩)).run Tryd.prog w = .ok (.bool true) w := fun w => by rw [run_eql_val]; simp
                              have hg1 := fun u u' w => run_guard_val 0 0 0 0 ⟨#[]⟩ ⟨#[]⟩ u u' w
                              have y0 : (v7.alloc (.cells #[.int .i64 0, .int .i64 0, .string ⟨#[]⟩] 29)).cell? ⟨v7.heap.size, 0, none⟩ = some (.int .i64 0) := by simp
                              have y1 : (v7.alloc (.cells #[.int .i64 0, .int .i64 0, .string ⟨#[]⟩] 29)).cell? ⟨v7.heap.size, 1, none⟩ = some (.int .i64 (0)) := by simp
                              have y2 : (v7.alloc (.cells #[.int .i64 0, .int .i64 0, .string ⟨#[]⟩] 29)).cell? ⟨v7.heap.size, 2, none⟩ = some (.string ⟨#[]⟩) := by simp
                              clear hal
                              go_wp2_with fail
                              refine (awake_any _ (HR1.out.stays HV8.out) (HM1.out.stays HV8.out)).mono ?_
                              rintro e v9 ⟨rfl, hb⟩
                              have HV9 := hide (then_below HV8.out hb)
                              clear hb
                              go_wp2_with fail
                              go_ret
                              exact ⟨rfl, HL0.out.trans (HV9.out.mono HL0.out.size)⟩
                            · clear k0 k1 k2 k3 k4 k5 k6 k7 k8 k9 k10 k11
                              obtain rfl : o = ⟨#[111, 114]⟩ := bytes_lit k12
                              rw [nulls_or true n] at HE1
                              unfold truthV at HE1
                              cases hn : (n != 0)
                              all_goals
                                rw [hn] at HE1
                                simp only [Bool.false_eq_true, if_false, if_true] at HE1
                              · refine HE1.out.mono ?_
                                rintro e v7 ⟨rfl, hb⟩
                                have HV7 := hide (then_below HV6.out hb)
                                clear hb HE1
                                have hal := Joins.below_alloc1 v7 (.cells #[.int .i64 1, .int .i64 0, .string ⟨#[]⟩] 29)
                                have HV8 := hide (then_below HV7.out hal)
                                have hq1 : ∀ w, (binOp .eql 29 (vVal 1 0 ⟨#[]⟩) (vVal 1 0 ⟨#[]⟩)).run Tryd.prog w = .ok (.bool true) w := fun w => by rw [run_eql_val]; simp
                                have hg1 := fun u u' w => run_guard_val 1 0 1 0 ⟨#[]⟩ ⟨#[]⟩ u u' w
                                have y0 : (v7.alloc (.cells #[.int .i64 1, .int .i64 0, .string ⟨#[]⟩] 29)).cell? ⟨v7.heap.size, 0, none⟩ = some (.int .i64 1) := by simp
                                have y1 : (v7.alloc (.cells #[.int .i64 1, .int .i64 0, .string ⟨#[]⟩] 29)).cell? ⟨v7.heap.size, 1, none⟩ = some (.int .i64 (0)) := by simp
                                have y2 : (v7.alloc (.cells #[.int .i64 1, .int .i64 0, .string ⟨#[]⟩] 29)).cell? ⟨v7.heap.size, 2, none⟩ = some (.string ⟨#[]⟩) := by simp
                                have p3 := fun d os => cell_regrown y0 d os
                                have p4 := fun d os => cell_regrown y1 d os
                                have p5 := fun d os => cell_regrown y2 d os
                                have HAw := hide (fun w' (h : Below W1.heap.size W1 w') => awake_any w' (HR1.out.stays h) (HM1.out.stays h))
                                clear hal y0 y1 y2
                                go_wp2_with fail
                                refine wp_region_quiet_below (by kernel_rfl) (by kernel_rfl) ?_
                                repeat (go_big_quiet_step (first | (go_at_call 33; exact Calls.regrown_of (lawTruth_any _ _)) | (go_at_call 11; exact Calls.regrown_of (HAw.out _ (then_below HV8.out (below_regrown _ _ _))))))
                                refine wpQuiet_nil ?_
                                intro _ hw'
                                obtain ⟨⟨dq, osq⟩, hw''⟩ := hw'
                                subst hw''
                                have q9 := then_below HV8.out (below_regrown _ dq osq)
                                go_wp2_with fail
                                go_ret
                                exact ⟨rfl, HL0.out.trans (q9.mono HL0.out.size)⟩
                              · refine HE1.out.mono ?_
                                rintro e v7 ⟨rfl, hb⟩
                                have HV7 := hide (then_below HV6.out hb)
                                clear hb HE1
                                have hal := Joins.below_alloc1 v7 (.cells #[.int .i64 1, .int .i64 1, .string ⟨#[]⟩] 29)
                                have HV8 := hide (then_below HV7.out hal)
                                have hq1 : ∀ w, (binOp .eql 29 (vVal 1 1 ⟨#[]⟩) (vVal 1 1 ⟨#[]⟩)).run Tryd.prog w = .ok (.bool true) w := fun w => by rw [run_eql_val]; simp
                                have hg1 := fun u u' w => run_guard_val 1 1 1 1 ⟨#[]⟩ ⟨#[]⟩ u u' w
                                have y0 : (v7.alloc (.cells #[.int .i64 1, .int .i64 1, .string ⟨#[]⟩] 29)).cell? ⟨v7.heap.size, 0, none⟩ = some (.int .i64 1) := by simp
                                have y1 : (v7.alloc (.cells #[.int .i64 1, .int .i64 1, .string ⟨#[]⟩] 29)).cell? ⟨v7.heap.size, 1, none⟩ = some (.int .i64 (1)) := by simp
                                have y2 : (v7.alloc (.cells #[.int .i64 1, .int .i64 1, .string ⟨#[]⟩] 29)).cell? ⟨v7.heap.size, 2, none⟩ = some (.string ⟨#[]⟩) := by simp
                                have p3 := fun d os => cell_regrown y0 d os
                                have p4 := fun d os => cell_regrown y1 d os
                                have p5 := fun d os => cell_regrown y2 d os
                                have HAw := hide (fun w' (h : Below W1.heap.size W1 w') => awake_any w' (HR1.out.stays h) (HM1.out.stays h))
                                clear hal y0 y1 y2
                                go_wp2_with fail
                                refine wp_region_quiet_below (by kernel_rfl) (by kernel_rfl) ?_
                                repeat (go_big_quiet_step (first | (go_at_call 33; exact Calls.regrown_of (lawTruth_any _ _)) | (go_at_call 11; exact Calls.regrown_of (HAw.out _ (then_below HV8.out (below_regrown _ _ _))))))
                                refine wpQuiet_nil ?_
                                intro _ hw'
                                obtain ⟨⟨dq, osq⟩, hw''⟩ := hw'
                                subst hw''
                                have q9 := then_below HV8.out (below_regrown _ dq osq)
                                go_wp2_with fail
                                go_ret
                                exact ⟨rfl, HL0.out.trans (q9.mono HL0.out.size)⟩
                          · clear k0 k1 k2 k3 k4 k5 k6 k7 k8 k9 k10
                            obtain rfl : o = ⟨#[97, 110, 100]⟩ := bytes_lit k11
                            rw [nulls_and true n] at HE1
                            refine HE1.out.mono ?_
                            rintro e v7 ⟨rfl, hb⟩
                            have HV7 := hide (then_below HV6.out hb)
                            clear hb HE1
                            have hal := Joins.below_alloc1 v7 (.cells #[.int .i64 1, .int .i64 0, .string ⟨#[]⟩] 29)
                            have HV8 := hide (then_below HV7.out hal)
                            have hq1 : ∀ w, (binOp .eql 29 (vVal 1 0 ⟨#[]⟩) (vVal 1 0 ⟨#[]⟩)).run Tryd.prog w = .ok (.bool true) w := fun w => by rw [run_eql_val]; simp
                            have hg1 := fun u u' w => run_guard_val 1 0 1 0 ⟨#[]⟩ ⟨#[]⟩ u u' w
                            have y0 : (v7.alloc (.cells #[.int .i64 1, .int .i64 0, .string ⟨#[]⟩] 29)).cell? ⟨v7.heap.size, 0, none⟩ = some (.int .i64 1) := by simp
                            have y1 : (v7.alloc (.cells #[.int .i64 1, .int .i64 0, .string ⟨#[]⟩] 29)).cell? ⟨v7.heap.size, 1, none⟩ = some (.int .i64 (0)) := by simp
                            have y2 : (v7.alloc (.cells #[.int .i64 1, .int .i64 0, .string ⟨#[]⟩] 29)).cell? ⟨v7.heap.size, 2, none⟩ = some (.string ⟨#[]⟩) := by simp
                            have p3 := fun d os => cell_regrown y0 d os
                            have p4 := fun d os => cell_regrown y1 d os
                            have p5 := fun d os => cell_regrown y2 d os
                            have HAw := hide (fun w' (h : Below W1.heap.size W1 w') => awake_any w' (HR1.out.stays h) (HM1.out.stays h))
                            clear hal y0 y1 y2
                            go_wp2_with fail
                            refine wp_region_quiet_below (by kernel_rfl) (by kernel_rfl) ?_
                            repeat (go_big_quiet_step (first | (go_at_call 28; exact Calls.regrown_of (of_any 0 _)) | (go_at_call 11; exact Calls.regrown_of (HAw.out _ (then_below HV8.out (below_regrown _ _ _))))))
                            refine wpQuiet_nil ?_
                            intro _ hw'
                            obtain ⟨⟨dq, osq⟩, hw''⟩ := hw'
                            subst hw''
                            have q9 := then_below HV8.out (below_regrown _ dq osq)
                            go_wp2_with fail
                            go_ret
                            exact ⟨rfl, HL0.out.trans (q9.mono HL0.out.size)⟩
                        · clear k0 k1 k2 k3 k4 k5 k6 k7 k8 k9
                          obtain rfl : o = ⟨#[62, 61]⟩ := bytes_lit k10
                          rw [nulls_11 (by simp [elevenL]) true n] at HE1
                          refine HE1.out.mono ?_
                          rintro e v7 ⟨rfl, hb⟩
                          have HV7 := hide (then_below HV6.out hb)
                          clear hb HE1
                          have hal := Joins.below_alloc1 v7 (.cells #[.int .i64 0, .int .i64 0, .string ⟨#[]⟩] 29)
                          have HV8 := hide (then_below HV7.out hal)
                          have hq1 : ∀ w, (binOp .eql 29 (vVal 0 0 ⟨#[]⟩) (vVal 0 0 ⟨#[]⟩)).run Tryd.prog w = .ok (.bool true) w := fun w => by rw [run_eql_val]; simp
                          have hg1 := fun u u' w => run_guard_val 0 0 0 0 ⟨#[]⟩ ⟨#[]⟩ u u' w
                          have y0 : (v7.alloc (.cells #[.int .i64 0, .int .i64 0, .string ⟨#[]⟩] 29)).cell? ⟨v7.heap.size, 0, none⟩ = some (.int .i64 0) := by simp
                          have y1 : (v7.alloc (.cells #[.int .i64 0, .int .i64 0, .string ⟨#[]⟩] 29)).cell? ⟨v7.heap.size, 1, none⟩ = some (.int .i64 (0)) := by simp
                          have y2 : (v7.alloc (.cells #[.int .i64 0, .int .i64 0, .string ⟨#[]⟩] 29)).cell? ⟨v7.heap.size, 2, none⟩ = some (.string ⟨#[]⟩) := by simp
                          clear hal
                          go_wp2_with fail
                          refine (awake_any _ (HR1.out.stays HV8.out) (HM1.out.stays HV8.out)).mono ?_
                          rintro e v9 ⟨rfl, hb⟩
                          have HV9 := hide (then_below HV8.out hb)
                          clear hb
                          go_wp2_with fail
                          go_ret
                          exact ⟨rfl, HL0.out.trans (HV9.out.mono HL0.out.size)⟩
                      · clear k0 k1 k2 k3 k4 k5 k6 k7 k8
                        obtain rfl : o = ⟨#[62]⟩ := bytes_lit k9
                        rw [nulls_11 (by simp [elevenL]) true n] at HE1
                        refine HE1.out.mono ?_
                        rintro e v7 ⟨rfl, hb⟩
                        have HV7 := hide (then_below HV6.out hb)
                        clear hb HE1
                        have hal := Joins.below_alloc1 v7 (.cells #[.int .i64 0, .int .i64 0, .string ⟨#[]⟩] 29)
                        have HV8 := hide (then_below HV7.out hal)
                        have hq1 : ∀ w, (binOp .eql 29 (vVal 0 0 ⟨#[]⟩) (vVal 0 0 ⟨#[]⟩)).run Tryd.prog w = .ok (.bool true) w := fun w => by rw [run_eql_val]; simp
                        have hg1 := fun u u' w => run_guard_val 0 0 0 0 ⟨#[]⟩ ⟨#[]⟩ u u' w
                        have y0 : (v7.alloc (.cells #[.int .i64 0, .int .i64 0, .string ⟨#[]⟩] 29)).cell? ⟨v7.heap.size, 0, none⟩ = some (.int .i64 0) := by simp
                        have y1 : (v7.alloc (.cells #[.int .i64 0, .int .i64 0, .string ⟨#[]⟩] 29)).cell? ⟨v7.heap.size, 1, none⟩ = some (.int .i64 (0)) := by simp
                        have y2 : (v7.alloc (.cells #[.int .i64 0, .int .i64 0, .string ⟨#[]⟩] 29)).cell? ⟨v7.heap.size, 2, none⟩ = some (.string ⟨#[]⟩) := by simp
                        clear hal
                        go_wp2_with fail
                        refine (awake_any _ (HR1.out.stays HV8.out) (HM1.out.stays HV8.out)).mono ?_
                        rintro e v9 ⟨rfl, hb⟩
                        have HV9 := hide (then_below HV8.out hb)
                        clear hb
                        go_wp2_with fail
                        go_ret
                        exact ⟨rfl, HL0.out.trans (HV9.out.mono HL0.out.size)⟩
                    · clear k0 k1 k2 k3 k4 k5 k6 k7
                      obtain rfl : o = ⟨#[60, 61]⟩ := bytes_lit k8
                      rw [nulls_11 (by simp [elevenL]) true n] at HE1
                      refine HE1.out.mono ?_
                      rintro e v7 ⟨rfl, hb⟩
                      have HV7 := hide (then_below HV6.out hb)
                      clear hb HE1
                      have hal := Joins.below_alloc1 v7 (.cells #[.int .i64 0, .int .i64 0, .string ⟨#[]⟩] 29)
                      have HV8 := hide (then_below HV7.out hal)
                      have hq1 : ∀ w, (binOp .eql 29 (vVal 0 0 ⟨#[]⟩) (vVal 0 0 ⟨#[]⟩)).run Tryd.prog w = .ok (.bool true) w := fun w => by rw [run_eql_val]; simp
                      have hg1 := fun u u' w => run_guard_val 0 0 0 0 ⟨#[]⟩ ⟨#[]⟩ u u' w
                      have y0 : (v7.alloc (.cells #[.int .i64 0, .int .i64 0, .string ⟨#[]⟩] 29)).cell? ⟨v7.heap.size, 0, none⟩ = some (.int .i64 0) := by simp
                      have y1 : (v7.alloc (.cells #[.int .i64 0, .int .i64 0, .string ⟨#[]⟩] 29)).cell? ⟨v7.heap.size, 1, none⟩ = some (.int .i64 (0)) := by simp
                      have y2 : (v7.alloc (.cells #[.int .i64 0, .int .i64 0, .string ⟨#[]⟩] 29)).cell? ⟨v7.heap.size, 2, none⟩ = some (.string ⟨#[]⟩) := by simp
                      clear hal
                      go_wp2_with fail
                      refine (awake_any _ (HR1.out.stays HV8.out) (HM1.out.stays HV8.out)).mono ?_
                      rintro e v9 ⟨rfl, hb⟩
                      have HV9 := hide (then_below HV8.out hb)
                      clear hb
                      go_wp2_with fail
                      go_ret
                      exact ⟨rfl, HL0.out.trans (HV9.out.mono HL0.out.size)⟩
                  · clear k0 k1 k2 k3 k4 k5 k6
                    obtain rfl : o = ⟨#[60]⟩ := bytes_lit k7
                    rw [nulls_11 (by simp [elevenL]) true n] at HE1
                    refine HE1.out.mono ?_
                    rintro e v7 ⟨rfl, hb⟩
                    have HV7 := hide (then_below HV6.out hb)
                    clear hb HE1
                    have hal := Joins.below_alloc1 v7 (.cells #[.int .i64 0, .int .i64 0, .string ⟨#[]⟩] 29)
                    have HV8 := hide (then_below HV7.out hal)
                    have hq1 : ∀ w, (binOp .eql 29 (vVal 0 0 ⟨#[]⟩) (vVal 0 0 ⟨#[]⟩)).run Tryd.prog w = .ok (.bool true) w := fun w => by rw [run_eql_val]; simp
                    have hg1 := fun u u' w => run_guard_val 0 0 0 0 ⟨#[]⟩ ⟨#[]⟩ u u' w
                    have y0 : (v7.alloc (.cells #[.int .i64 0, .int .i64 0, .string ⟨#[]⟩] 29)).cell? ⟨v7.heap.size, 0, none⟩ = some (.int .i64 0) := by simp
                    have y1 : (v7.alloc (.cells #[.int .i64 0, .int .i64 0, .string ⟨#[]⟩] 29)).cell? ⟨v7.heap.size, 1, none⟩ = some (.int .i64 (0)) := by simp
                    have y2 : (v7.alloc (.cells #[.int .i64 0, .int .i64 0, .string ⟨#[]⟩] 29)).cell? ⟨v7.heap.size, 2, none⟩ = some (.string ⟨#[]⟩) := by simp
                    clear hal
                    go_wp2_with fail
                    refine (awake_any _ (HR1.out.stays HV8.out) (HM1.out.stays HV8.out)).mono ?_
                    rintro e v9 ⟨rfl, hb⟩
                    have HV9 := hide (then_below HV8.out hb)
                    clear hb
                    go_wp2_with fail
                    go_ret
                    exact ⟨rfl, HL0.out.trans (HV9.out.mono HL0.out.size)⟩
                · clear k0 k1 k2 k3 k4 k5
                  obtain rfl : o = ⟨#[33, 61]⟩ := bytes_lit k6
                  rw [nulls_11 (by simp [elevenL]) true n] at HE1
                  refine HE1.out.mono ?_
                  rintro e v7 ⟨rfl, hb⟩
                  have HV7 := hide (then_below HV6.out hb)
                  clear hb HE1
                  have hal := Joins.below_alloc1 v7 (.cells #[.int .i64 0, .int .i64 0, .string ⟨#[]⟩] 29)
                  have HV8 := hide (then_below HV7.out hal)
                  have hq1 : ∀ w, (binOp .eql 29 (vVal 0 0 ⟨#[]⟩) (vVal 0 0 ⟨#[]⟩)).run Tryd.prog w = .ok (.bool true) w := fun w => by rw [run_eql_val]; simp
                  have hg1 := fun u u' w => run_guard_val 0 0 0 0 ⟨#[]⟩ ⟨#[]⟩ u u' w
                  have y0 : (v7.alloc (.cells #[.int .i64 0, .int .i64 0, .string ⟨#[]⟩] 29)).cell? ⟨v7.heap.size, 0, none⟩ = some (.int .i64 0) := by simp
                  have y1 : (v7.alloc (.cells #[.int .i64 0, .int .i64 0, .string ⟨#[]⟩] 29)).cell? ⟨v7.heap.size, 1, none⟩ = some (.int .i64 (0)) := by simp
                  have y2 : (v7.alloc (.cells #[.int .i64 0, .int .i64 0, .string ⟨#[]⟩] 29)).cell? ⟨v7.heap.size, 2, none⟩ = some (.string ⟨#[]⟩) := by simp
                  clear hal
                  go_wp2_with fail
                  refine (awake_any _ (HR1.out.stays HV8.out) (HM1.out.stays HV8.out)).mono ?_
                  rintro e v9 ⟨rfl, hb⟩
                  have HV9 := hide (then_below HV8.out hb)
                  clear hb
                  go_wp2_with fail
                  go_ret
                  exact ⟨rfl, HL0.out.trans (HV9.out.mono HL0.out.size)⟩
              · clear k0 k1 k2 k3 k4
                obtain rfl : o = ⟨#[61]⟩ := bytes_lit k5
                rw [nulls_11 (by simp [elevenL]) true n] at HE1
                refine HE1.out.mono ?_
                rintro e v7 ⟨rfl, hb⟩
                have HV7 := hide (then_below HV6.out hb)
                clear hb HE1
                have hal := Joins.below_alloc1 v7 (.cells #[.int .i64 0, .int .i64 0, .string ⟨#[]⟩] 29)
                have HV8 := hide (then_below HV7.out hal)
                have hq1 : ∀ w, (binOp .eql 29 (vVal 0 0 ⟨#[]⟩) (vVal 0 0 ⟨#[]⟩)).run Tryd.prog w = .ok (.bool true) w := fun w => by rw [run_eql_val]; simp
                have hg1 := fun u u' w => run_guard_val 0 0 0 0 ⟨#[]⟩ ⟨#[]⟩ u u' w
                have y0 : (v7.alloc (.cells #[.int .i64 0, .int .i64 0, .string ⟨#[]⟩] 29)).cell? ⟨v7.heap.size, 0, none⟩ = some (.int .i64 0) := by simp
                have y1 : (v7.alloc (.cells #[.int .i64 0, .int .i64 0, .string ⟨#[]⟩] 29)).cell? ⟨v7.heap.size, 1, none⟩ = some (.int .i64 (0)) := by simp
                have y2 : (v7.alloc (.cells #[.int .i64 0, .int .i64 0, .string ⟨#[]⟩] 29)).cell? ⟨v7.heap.size, 2, none⟩ = some (.string ⟨#[]⟩) := by simp
                clear hal
                go_wp2_with fail
                refine (awake_any _ (HR1.out.stays HV8.out) (HM1.out.stays HV8.out)).mono ?_
                rintro e v9 ⟨rfl, hb⟩
                have HV9 := hide (then_below HV8.out hb)
                clear hb
                go_wp2_with fail
                go_ret
                exact ⟨rfl, HL0.out.trans (HV9.out.mono HL0.out.size)⟩
            · clear k0 k1 k2 k3
              obtain rfl : o = ⟨#[37]⟩ := bytes_lit k4
              rw [nulls_11 (by simp [elevenL]) true n] at HE1
              refine HE1.out.mono ?_
              rintro e v7 ⟨rfl, hb⟩
              have HV7 := hide (then_below HV6.out hb)
              clear hb HE1
              have hal := Joins.below_alloc1 v7 (.cells #[.int .i64 0, .int .i64 0, .string ⟨#[]⟩] 29)
              have HV8 := hide (then_below HV7.out hal)
              have hq1 : ∀ w, (binOp .eql 29 (vVal 0 0 ⟨#[]⟩) (vVal 0 0 ⟨#[]⟩)).run Tryd.prog w = .ok (.bool true) w := fun w => by rw [run_eql_val]; simp
              have hg1 := fun u u' w => run_guard_val 0 0 0 0 ⟨#[]⟩ ⟨#[]⟩ u u' w
              have y0 : (v7.alloc (.cells #[.int .i64 0, .int .i64 0, .string ⟨#[]⟩] 29)).cell? ⟨v7.heap.size, 0, none⟩ = some (.int .i64 0) := by simp
              have y1 : (v7.alloc (.cells #[.int .i64 0, .int .i64 0, .string ⟨#[]⟩] 29)).cell? ⟨v7.heap.size, 1, none⟩ = some (.int .i64 (0)) := by simp
              have y2 : (v7.alloc (.cells #[.int .i64 0, .int .i64 0, .string ⟨#[]⟩] 29)).cell? ⟨v7.heap.size, 2, none⟩ = some (.string ⟨#[]⟩) := by simp
              clear hal
              go_wp2_with fail
              refine (awake_any _ (HR1.out.stays HV8.out) (HM1.out.stays HV8.out)).mono ?_
              rintro e v9 ⟨rfl, hb⟩
              have HV9 := hide (then_below HV8.out hb)
              clear hb
              go_wp2_with fail
              go_ret
              exact ⟨rfl, HL0.out.trans (HV9.out.mono HL0.out.size)⟩
          · clear k0 k1 k2
            obtain rfl : o = ⟨#[47]⟩ := bytes_lit k3
            rw [nulls_11 (by simp [elevenL]) true n] at HE1
            refine HE1.out.mono ?_
            rintro e v7 ⟨rfl, hb⟩
            have HV7 := hide (then_below HV6.out hb)
            clear hb HE1
            have hal := Joins.below_alloc1 v7 (.cells #[.int .i64 0, .int .i64 0, .string ⟨#[]⟩] 29)
            have HV8 := hide (then_below HV7.out hal)
            have hq1 : ∀ w, (binOp .eql 29 (vVal 0 0 ⟨#[]⟩) (vVal 0 0 ⟨#[]⟩)).run Tryd.prog w = .ok (.bool true) w := fun w => by rw [run_eql_val]; simp
            have hg1 := fun u u' w => run_guard_val 0 0 0 0 ⟨#[]⟩ ⟨#[]⟩ u u' w
            have y0 : (v7.alloc (.cells #[.int .i64 0, .int .i64 0, .string ⟨#[]⟩] 29)).cell? ⟨v7.heap.size, 0, none⟩ = some (.int .i64 0) := by simp
            have y1 : (v7.alloc (.cells #[.int .i64 0, .int .i64 0, .string ⟨#[]⟩] 29)).cell? ⟨v7.heap.size, 1, none⟩ = some (.int .i64 (0)) := by simp
            have y2 : (v7.alloc (.cells #[.int .i64 0, .int .i64 0, .string ⟨#[]⟩] 29)).cell? ⟨v7.heap.size, 2, none⟩ = some (.string ⟨#[]⟩) := by simp
            clear hal
            go_wp2_with fail
            refine (awake_any _ (HR1.out.stays HV8.out) (HM1.out.stays HV8.out)).mono ?_
            rintro e v9 ⟨rfl, hb⟩
            have HV9 := hide (then_below HV8.out hb)
            clear hb
            go_wp2_with fail
            go_ret
            exact ⟨rfl, HL0.out.trans (HV9.out.mono HL0.out.size)⟩
        · clear k0 k1
          obtain rfl : o = ⟨#[42]⟩ := bytes_lit k2
          rw [nulls_11 (by simp [elevenL]) true n] at HE1
          refine HE1.out.mono ?_
          rintro e v7 ⟨rfl, hb⟩
          have HV7 := hide (then_below HV6.out hb)
          clear hb HE1
          have hal := Joins.below_alloc1 v7 (.cells #[.int .i64 0, .int .i64 0, .string ⟨#[]⟩] 29)
          have HV8 := hide (then_below HV7.out hal)
          have hq1 : ∀ w, (binOp .eql 29 (vVal 0 0 ⟨#[]⟩) (vVal 0 0 ⟨#[]⟩)).run Tryd.prog w = .ok (.bool true) w := fun w => by rw [run_eql_val]; simp
          have hg1 := fun u u' w => run_guard_val 0 0 0 0 ⟨#[]⟩ ⟨#[]⟩ u u' w
          have y0 : (v7.alloc (.cells #[.int .i64 0, .int .i64 0, .string ⟨#[]⟩] 29)).cell? ⟨v7.heap.size, 0, none⟩ = some (.int .i64 0) := by simp
          have y1 : (v7.alloc (.cells #[.int .i64 0, .int .i64 0, .string ⟨#[]⟩] 29)).cell? ⟨v7.heap.size, 1, none⟩ = some (.int .i64 (0)) := by simp
          have y2 : (v7.alloc (.cells #[.int .i64 0, .int .i64 0, .string ⟨#[]⟩] 29)).cell? ⟨v7.heap.size, 2, none⟩ = some (.string ⟨#[]⟩) := by simp
          clear hal
          go_wp2_with fail
          refine (awake_any _ (HR1.out.stays HV8.out) (HM1.out.stays HV8.out)).mono ?_
          rintro e v9 ⟨rfl, hb⟩
          have HV9 := hide (then_below HV8.out hb)
          clear hb
          go_wp2_with fail
          go_ret
          exact ⟨rfl, HL0.out.trans (HV9.out.mono HL0.out.size)⟩
      · clear k0
        obtain rfl : o = ⟨#[45]⟩ := bytes_lit k1
        rw [nulls_11 (by simp [elevenL]) true n] at HE1
        refine HE1.out.mono ?_
        rintro e v7 ⟨rfl, hb⟩
        have HV7 := hide (then_below HV6.out hb)
        clear hb HE1
        have hal := Joins.below_alloc1 v7 (.cells #[.int .i64 0, .int .i64 0, .string ⟨#[]⟩] 29)
        have HV8 := hide (then_below HV7.out hal)
        have hq1 : ∀ w, (binOp .eql 29 (vVal 0 0 ⟨#[]⟩) (vVal 0 0 ⟨#[]⟩)).run Tryd.prog w = .ok (.bool true) w := fun w => by rw [run_eql_val]; simp
        have hg1 := fun u u' w => run_guard_val 0 0 0 0 ⟨#[]⟩ ⟨#[]⟩ u u' w
        have y0 : (v7.alloc (.cells #[.int .i64 0, .int .i64 0, .string ⟨#[]⟩] 29)).cell? ⟨v7.heap.size, 0, none⟩ = some (.int .i64 0) := by simp
        have y1 : (v7.alloc (.cells #[.int .i64 0, .int .i64 0, .string ⟨#[]⟩] 29)).cell? ⟨v7.heap.size, 1, none⟩ = some (.int .i64 (0)) := by simp
        have y2 : (v7.alloc (.cells #[.int .i64 0, .int .i64 0, .string ⟨#[]⟩] 29)).cell? ⟨v7.heap.size, 2, none⟩ = some (.string ⟨#[]⟩) := by simp
        clear hal
        go_wp2_with fail
        refine (awake_any _ (HR1.out.stays HV8.out) (HM1.out.stays HV8.out)).mono ?_
        rintro e v9 ⟨rfl, hb⟩
        have HV9 := hide (then_below HV8.out hb)
        clear hb
        go_wp2_with fail
        go_ret
        exact ⟨rfl, HL0.out.trans (HV9.out.mono HL0.out.size)⟩
    · obtain rfl : o = ⟨#[43]⟩ := bytes_lit k0
      rw [nulls_11 (by simp [elevenL]) true n] at HE1
      refine HE1.out.mono ?_
      rintro e v7 ⟨rfl, hb⟩
      have HV7 := hide (then_below HV6.out hb)
      clear hb HE1
      have hal := Joins.below_alloc1 v7 (.cells #[.int .i64 0, .int .i64 0, .string ⟨#[]⟩] 29)
      have HV8 := hide (then_below HV7.out hal)
      have hq1 : ∀ w, (binOp .eql 29 (vVal 0 0 ⟨#[]⟩) (vVal 0 0 ⟨#[]⟩)).run Tryd.prog w = .ok (.bool true) w := fun w => by rw [run_eql_val]; simp
      have hg1 := fun u u' w => run_guard_val 0 0 0 0 ⟨#[]⟩ ⟨#[]⟩ u u' w
      have y0 : (v7.alloc (.cells #[.int .i64 0, .int .i64 0, .string ⟨#[]⟩] 29)).cell? ⟨v7.heap.size, 0, none⟩ = some (.int .i64 0) := by simp
      have y1 : (v7.alloc (.cells #[.int .i64 0, .int .i64 0, .string ⟨#[]⟩] 29)).cell? ⟨v7.heap.size, 1, none⟩ = some (.int .i64 (0)) := by simp
      have y2 : (v7.alloc (.cells #[.int .i64 0, .int .i64 0, .string ⟨#[]⟩] 29)).cell? ⟨v7.heap.size, 2, none⟩ = some (.string ⟨#[]⟩) := by simp
      clear hal
      go_wp2_with fail
      refine (awake_any _ (HR1.out.stays HV8.out) (HM1.out.stays HV8.out)).mono ?_
      rintro e v9 ⟨rfl, hb⟩
      have HV9 := hide (then_below HV8.out hb)
      clear hb
      go_wp2_with fail
      go_ret
      exact ⟨rfl, HL0.out.trans (HV9.out.mono HL0.out.size)⟩
end Go.Proofs.YtdhbgfdkbjnedaaDoor
