/-
  Is an expression's form right: the walk of formed.
-/
import Derived.Test.YtpohofcfmllghaaDoorERuleW
import Derived.Test.YtpohofcfmllghaaDoorSHolds
namespace Go.Proofs.YtpohofcfmllghaaDoor
open Go.RowKit

def nullV (v : Int × Int × ByteArray) : Bool := v.1 == 0 && (v.2.1 == 0 && v.2.2.toList == (⟨#[]⟩ : ByteArray).toList)
def tailF (x : XT) : Bool :=
  if x.kind = 2 then x.name.toList == [] && (x.op.toList == [] && rightV x.val.1 x.val.2.1 x.val.2.2)
  else if x.kind = 3 ∨ x.kind = 4 then x.name.toList == [] && nullV x.val else x.op.toList == [] && nullV x.val
def formedX (x : XT) : Bool := (ruleX x).2 && ((x.args.length : Int) == (ruleX x).1.n && tailF x)

set_option maxHeartbeats 3200000 in
set_option maxRecDepth 100000 in
theorem formed_any (x : XT) (w : World) (hR : Rls w) (hv : x.val.2.2.size ≤ maxLen) :
    Calls Tryd.prog 32 #[vX x] w fun e w' => e = .returned (.bool (formedX x)) ∧ Below w.heap.size w w' := by
  have hal := boxE_below w x
  have HBox := hide (fun w' => boxE_at (w := w) (x := x) (w' := w'))
  have HRu := hide (rule_any x _ (hR.stays hal))
  have HF := hide (show formedX x = ((ruleX x).2 && ((x.args.length : Int) == (ruleX x).1.n && tailF x)) from rfl)
  obtain ⟨kd, nm, v, o, A, c, ts⟩ := x
  obtain ⟨v1, v2, v3⟩ := v
  have HWE := hide (show boxE w (.mk kd nm (v1, v2, v3) o A c ts) = w.alloc (.cells (eCells kd nm (v1, v2, v3) o A ts.length c) 29) from rfl)
  have HT := hide (show tailF (.mk kd nm (v1, v2, v3) o A c ts) = if kd = 2 then nm.toList == [] && (o.toList == [] && rightV v1 v2 v3) else if kd = 3 ∨ kd = 4 then nm.toList == [] && nullV (v1, v2, v3) else o.toList == [] && nullV (v1, v2, v3) from rfl)
  have HL := hide hal
  simp only [XT.val] at hv
  have HRt := hide (fun w' => right_any v1 v2 v3 w' hv)
  have hq := fun w => run_eql_val v1 v2 0 0 v3 ⟨#[]⟩ w
  have hg := fun u u' w => run_guard_val v1 v2 0 0 v3 ⟨#[]⟩ u u' w
  rw [show (v1 == 0 && (v2 == 0 && v3.toList == (⟨#[]⟩ : ByteArray).toList)) = nullV (v1, v2, v3) from rfl] at hq
  generalize nullV (v1, v2, v3) = nv at *
  generalize rightV v1 v2 v3 = rv at *
  have HVx : vX (.mk kd nm (v1, v2, v3) o A c ts) = .agg (eCells kd nm (v1, v2, v3) o A ts.length c) := rfl
  rw [HVx] at HRu
  show Calls Tryd.prog 32 #[.agg (eCells kd nm (v1, v2, v3) o A ts.length c)] w _
  generalize formedX (.mk kd nm (v1, v2, v3) o A c ts) = q at HF ⊢
  generalize tailF (.mk kd nm (v1, v2, v3) o A c ts) = tl at HF HT
  generalize ruleX (.mk kd nm (v1, v2, v3) o A c ts) = ru at HF HRu
  obtain ⟨r, ok⟩ := ru
  simp only [XT.args] at HF
  simp only [XT.kind, XT.name, XT.val, XT.op, XT.adr, XT.args, XT.cap] at HBox
  generalize boxE w (.mk kd nm (v1, v2, v3) o A c ts) = W at *
  clear hal hR HVx
  simp only at HRu
  cases ok
  · have HQ := hide (show q = false by rw [HF.out]; rfl)
    clear HF HT
    obtain ⟨c0, c1, c2, c3, c4, c5, c6, cz⟩ := HBox.out _ (Below.refl _ _)
    go_enter Tryd.func32, Tryd.ntmps32
    go_wp2_with fail
    rw [← HWE.out]
    refine HRu.out.mono ?_
    rintro e w2 ⟨rfl, hb2⟩
    have HB := hide (then_below HL.out (hb2.alloc hb2.size (.cells (rCells r) 75)))
    clear hb2 c0 c1 c2 c3 c4 c5 c6 cz
    go_wp2_with fail
    go_ret
    exact ⟨ret_bool HQ.out.symm, HB.out⟩
  by_cases hn : (ts.length : Int) = r.n
  · have HFt := hide (show q = tl by rw [HF.out, hn]; simp)
    have hne : ((ts.length : Int) != r.n) = false := by rw [bne_eq_false_iff_eq]; exact hn
    clear hn HF
    cases hN : (nm.toList == []) <;> cases hO : (o.toList == [])
    all_goals
      rw [hN, hO] at HT
    all_goals
      by_cases hk : kd = 2
      · have bk : (kd == 2) = true := by rw [beq_iff_eq]; exact hk
        have HQ := hide (show q = _ from HFt.out.trans (HT.out.trans (if_pos hk)))
        simp only [Bool.false_and, Bool.true_and] at HQ
        clear hk HT HFt
        go_enter Tryd.func32, Tryd.ntmps32
        go_wp2_with fail
        rw [← HWE.out]
        refine HRu.out.mono ?_
        rintro e w2 ⟨rfl, hb2⟩
        have hb3 := hb2.alloc hb2.size (.cells (rCells r) 75)
        have HB := hide (then_below HL.out hb3)
        have hk2 : (w2.alloc (.cells (rCells r) 75)).cell? ⟨w2.heap.size, 2, none⟩ = some (.int .i64 r.n) := by simp [rCells]
        obtain ⟨c0, c1, c2, c3, c4, c5, c6, cz⟩ := HBox.out _ hb3
        clear hb2 hb3
        first
          | (go_wp2_with fail
             go_ret
             exact ⟨ret_bool HQ.out.symm, HB.out⟩)
          | (go_wp2_with fail
             refine (HRt.out _).mono ?_
             rintro e w4 ⟨rfl, hb4⟩
             have hq9 := hide (HB.out.trans (hb4.mono HB.out.size))
             clear hb4
             go_wp2_with fail
             go_ret
             exact ⟨ret_bool HQ.out.symm, hq9.out⟩)
    all_goals
      have bk : (kd == 2) = false := by rw [beq_eq_false_iff_ne]; exact hk
      by_cases h3 : kd = 3
      · have b3 : (kd == 3) = true := by rw [beq_iff_eq]; exact h3
        have HQ := hide (show q = _ from HFt.out.trans (HT.out.trans ((if_neg hk).trans (if_pos (.inl h3)))))
        simp only [Bool.false_and, Bool.true_and] at HQ
        clear hk h3 HT HFt
        go_enter Tryd.func32, Tryd.ntmps32
        go_wp2_with fail
        rw [← HWE.out]
        refine HRu.out.mono ?_
        rintro e w2 ⟨rfl, hb2⟩
        have hb3 := hb2.alloc hb2.size (.cells (rCells r) 75)
        have HB := hide (then_below HL.out hb3)
        have hk2 : (w2.alloc (.cells (rCells r) 75)).cell? ⟨w2.heap.size, 2, none⟩ = some (.int .i64 r.n) := by simp [rCells]
        obtain ⟨c0, c1, c2, c3, c4, c5, c6, cz⟩ := HBox.out _ hb3
        clear hb2 hb3
        have e0 := fun d os => cell_regrown c0 d os
        have e1 := fun d os => cell_regrown c1 d os
        have e2 := fun d os => cell_regrown c2 d os
        have e3 := fun d os => cell_regrown c3 d os
        have e4 := fun d os => cell_regrown c4 d os
        have e5 := fun d os => cell_regrown c5 d os
        go_wp2_with fail
        refine wp_region_quiet_below (by kernel_rfl) (by kernel_rfl) ?_
        repeat (go_big_quiet_step (first | (go_at_call 37; exact Calls.regrown_of (null_any _))))
        refine wpQuiet_nil ?_
        intro _ hw'
        obtain ⟨⟨dq, osq⟩, hw''⟩ := hw'
        subst hw''
        have hq9 := hide (HB.out.trans ((below_regrown _ dq osq).mono HB.out.size))
        clear c0 c1 c2 c3 c4 c5 c6 cz e0 e1 e2 e3 e4 e5 hk2
        go_wp2_with fail
        go_ret
        exact ⟨ret_bool HQ.out.symm, hq9.out⟩
      have b3 : (kd == 3) = false := by rw [beq_eq_false_iff_ne]; exact h3
      by_cases h4 : kd = 4
      · have b4 : (kd == 4) = true := by rw [beq_iff_eq]; exact h4
        have HQ := hide (show q = _ from HFt.out.trans (HT.out.trans ((if_neg hk).trans (if_pos (.inr h4)))))
        simp only [Bool.false_and, Bool.true_and] at HQ
        clear hk h3 h4 HT HFt
        go_enter Tryd.func32, Tryd.ntmps32
        go_wp2_with fail
        rw [← HWE.out]
        refine HRu.out.mono ?_
        rintro e w2 ⟨rfl, hb2⟩
        have hb3 := hb2.alloc hb2.size (.cells (rCells r) 75)
        have HB := hide (then_below HL.out hb3)
        have hk2 : (w2.alloc (.cells (rCells r) 75)).cell? ⟨w2.heap.size, 2, none⟩ = some (.int .i64 r.n) := by simp [rCells]
        obtain ⟨c0, c1, c2, c3, c4, c5, c6, cz⟩ := HBox.out _ hb3
        clear hb2 hb3
        have e0 := fun d os => cell_regrown c0 d os
        have e1 := fun d os => cell_regrown c1 d os
        have e2 := fun d os => cell_regrown c2 d os
        have e3 := fun d os => cell_regrown c3 d os
        have e4 := fun d os => cell_regrown c4 d os
        have e5 := fun d os => cell_regrown c5 d os
        go_wp2_with fail
        refine wp_region_quiet_below (by kernel_rfl) (by kernel_rfl) ?_
        repeat (go_big_quiet_step (first | (go_at_call 37; exact Calls.regrown_of (null_any _))))
        refine wpQuiet_nil ?_
        intro _ hw'
        obtain ⟨⟨dq, osq⟩, hw''⟩ := hw'
        subst hw''
        have hq9 := hide (HB.out.trans ((below_regrown _ dq osq).mono HB.out.size))
        clear c0 c1 c2 c3 c4 c5 c6 cz e0 e1 e2 e3 e4 e5 hk2
        go_wp2_with fail
        go_ret
        exact ⟨ret_bool HQ.out.symm, hq9.out⟩
      · have b4 : (kd == 4) = false := by rw [beq_eq_false_iff_ne]; exact h4
        have HQ := hide (show q = _ from HFt.out.trans (HT.out.trans ((if_neg hk).trans (if_neg (by rintro (h | h); exact h3 h; exact h4 h)))))
        simp only [Bool.false_and, Bool.true_and] at HQ
        clear hk h3 h4 HT HFt
        go_enter Tryd.func32, Tryd.ntmps32
        go_wp2_with fail
        rw [← HWE.out]
        refine HRu.out.mono ?_
        rintro e w2 ⟨rfl, hb2⟩
        have hb3 := hb2.alloc hb2.size (.cells (rCells r) 75)
        have HB := hide (then_below HL.out hb3)
        have hk2 : (w2.alloc (.cells (rCells r) 75)).cell? ⟨w2.heap.size, 2, none⟩ = some (.int .i64 r.n) := by simp [rCells]
        obtain ⟨c0, c1, c2, c3, c4, c5, c6, cz⟩ := HBox.out _ hb3
        clear hb2 hb3
        have e0 := fun d os => cell_regrown c0 d os
        have e1 := fun d os => cell_regrown c1 d os
        have e2 := fun d os => cell_regrown c2 d os
        have e3 := fun d os => cell_regrown c3 d os
        have e4 := fun d os => cell_regrown c4 d os
        have e5 := fun d os => cell_regrown c5 d os
        go_wp2_with fail
        refine wp_region_quiet_below (by kernel_rfl) (by kernel_rfl) ?_
        repeat (go_big_quiet_step (first | (go_at_call 37; exact Calls.regrown_of (null_any _))))
        refine wpQuiet_nil ?_
        intro _ hw'
        obtain ⟨⟨dq, osq⟩, hw''⟩ := hw'
        subst hw''
        have hq9 := hide (HB.out.trans ((below_regrown _ dq osq).mono HB.out.size))
        clear c0 c1 c2 c3 c4 c5 c6 cz e0 e1 e2 e3 e4 e5 hk2
        go_wp2_with fail
        go_ret
        exact ⟨ret_bool HQ.out.symm, hq9.out⟩
  · have hne : ((ts.length : Int) != r.n) = true := by rw [bne_iff_ne]; exact hn
    have HQ := hide (show q = false by rw [HF.out, show ((ts.length : Int) == r.n) = false by rw [beq_eq_false_iff_ne]; exact hn]; rfl)
    clear HF HT hn
    go_enter Tryd.func32, Tryd.ntmps32
    go_wp2_with fail
    rw [← HWE.out]
    refine HRu.out.mono ?_
    rintro e w2 ⟨rfl, hb2⟩
    have HB := hide (then_below HL.out (hb2.alloc hb2.size (.cells (rCells r) 75)))
    obtain ⟨c0, c1, c2, c3, c4, c5, c6, cz⟩ := HBox.out _ hb2
    clear hb2
    go_wp2_with fail
    go_ret
    exact ⟨ret_bool HQ.out.symm, HB.out⟩
end Go.Proofs.YtpohofcfmllghaaDoor
