/-
  The law's step at Crash, Limit, Arm, and at anything else.
-/
import Derived.Test.YtpjibiimakclfabPStep
namespace Go.Proofs.Ytpjibiimakclfab
open Go.RowKit

theorem lim_ok {p : PD} (h : p.Ok) (n : Int) : (limP p n).Ok := by
  unfold limP
  split
  · rename_i hc
    unfold capB at hc
    simp only [Bool.and_eq_true, decide_eq_true_eq] at hc
    exact ⟨hc.1, hc.2, h.used, h.s0, h.s1, h.done0, h.left0, h.left1⟩
  · exact h
theorem crash_done (p : PD) (ks : List Int) : (crashP p ks).done = p.done := rfl
set_option maxHeartbeats 6400000 in
set_option maxRecDepth 100000 in
theorem step_else {base g gx : Nat} {D : DS} {R : RS} (o : OpR) (w : World) (hk : ¬ (1 ≤ o.k ∧ o.k ≤ 7)) (hS : ∀ H, w.heap.size = H → St base g gx H o (w.alloc (.cells (oCells o) 37)) D R) (hO : D.p.Ok) (hr : Rel D.p R.p) (hbase : base ≤ w.heap.size) :
    Calls Try.prog 7 #[vD g, vD gx, .agg (oCells o)] w fun e w' => e = .returned (.bool true) ∧ StepOut base g gx D w w' := by
  have HS0 := hide (hS _ rfl)
  obtain ⟨k, f, n, dA, dc, dl, kA, kc, kl⟩ := o
  have hk1 : ¬ (1 ≤ k ∧ k ≤ 7) := hk
  have e1 : (k == 1) = false := by rw [beq_eq_false_iff_ne]; omega
  have e2 : (k == 2) = false := by rw [beq_eq_false_iff_ne]; omega
  have e3 : (k == 3) = false := by rw [beq_eq_false_iff_ne]; omega
  have e4 : (k == 4) = false := by rw [beq_eq_false_iff_ne]; omega
  have e5 : (k == 5) = false := by rw [beq_eq_false_iff_ne]; omega
  have e6 : (k == 6) = false := by rw [beq_eq_false_iff_ne]; omega
  have e7 : (k == 7) = false := by rw [beq_eq_false_iff_ne]; omega
  have HF := hide ((HS0.out).out (D0 := D) hO hr (by omega) ((Below.refl base w).alloc hbase _))
  clear hS hr hO hk hk1
  go_enter Try.func7, Try.ntmps7
  go_wp2_with fail
  obtain ⟨b0, b1, b2, b3, b4⟩ := HS0.out.cells
  go_wp2_with fail
  go_ret
  exact ⟨rfl, HF.out⟩
set_option maxHeartbeats 6400000 in
set_option maxRecDepth 100000 in
theorem step_limit {base g gx : Nat} {D : DS} {R : RS} (o : OpR) (w : World) (hk : o.k = 7) (hS : ∀ H, w.heap.size = H → St base g gx H o (w.alloc (.cells (oCells o) 37)) D R) (hO : D.p.Ok) (hr : Rel D.p R.p) (hbase : base ≤ w.heap.size) :
    Calls Try.prog 7 #[vD g, vD gx, .agg (oCells o)] w fun e w' => e = .returned (.bool true) ∧ StepOut base g gx D w w' := by
  have HS0 := hide (hS _ rfl)
  obtain ⟨k, f, n, dA, dc, dl, kA, kc, kl⟩ := o
  cases hk
  have HD := hide (limit_any n _ HS0.out.d)
  have hq := hr.lim n
  have HB0 := hide (show Below base w (w.alloc (.cells (oCells ⟨7, f, n, dA, dc, dl, kA, kc, kl⟩) 37)) from (Below.refl base w).alloc hbase _)
  have HO := hide (show (limP D.p n).Ok from lim_ok hO n)
  have HDn := hide (show (limP D.p n).done ≤ D.p.done + 1 by unfold limP; split <;> (show D.p.done ≤ _; omega))
  clear hS hr hO
  by_cases h0 : 0 ≤ n
  · by_cases h1 : n ≤ 1073741824
    · rw [if_pos ⟨h0, h1⟩] at hq
      have HQ := hide hq
      clear hq
      go_enter Try.func7, Try.ntmps7
      go_wp2_with fail
      obtain ⟨b0, b1, b2, b3, b4⟩ := HS0.out.cells
      go_wp2_with fail
      refine HD.out.mono ?_
      rintro e w1 ⟨rfl, D1, e1, h1, h2⟩
      have hs1 := HS0.out.disk h1 h2
      have HS1 := hide hs1
      have HB1 := hide (HB0.out.trans (h2.below HS0.out.d))
      have HE1 := hide e1
      obtain ⟨a0, a1, a2, a3, a4⟩ := hs1.cells
      have f8 := hs1.x.frozen 8
      have hlt := hs1.x.lt
      obtain ⟨n8, n9, n10, n11, n12⟩ := hs1.x.nums
      have HX := hide (hs1.x.set 8 (.int .i64 n) { R.p with cap := n } rfl rfl (by simp))
      clear e1 h1 h2 hs1
      go_wp2_with fail
      go_ret
      exact ⟨rfl, (HS1.out.ref HX.out.1 HX.out.2).out (by rw [HE1.out]; exact HO.out) (by rw [HE1.out]; exact HQ.out) (by rw [HE1.out]; exact HDn.out) (HB1.out.trans (HX.out.2.below HS1.out.x))⟩
    · rw [if_neg (by omega)] at hq
      have HQ := hide hq
      clear hq
      go_enter Try.func7, Try.ntmps7
      go_wp2_with fail
      obtain ⟨b0, b1, b2, b3, b4⟩ := HS0.out.cells
      go_wp2_with fail
      refine HD.out.mono ?_
      rintro e w1 ⟨rfl, D1, e1, h1, h2⟩
      have hs1 := HS0.out.disk h1 h2
      have HS1 := hide hs1
      have HB1 := hide (HB0.out.trans (h2.below HS0.out.d))
      have HE1 := hide e1
      obtain ⟨a0, a1, a2, a3, a4⟩ := hs1.cells
      have f8 := hs1.x.frozen 8
      have hlt := hs1.x.lt
      obtain ⟨n8, n9, n10, n11, n12⟩ := hs1.x.nums
      clear e1 h1 h2 hs1
      go_wp2_with fail
      go_ret
      exact ⟨rfl, HS1.out.out (by rw [HE1.out]; exact HO.out) (by rw [HE1.out]; exact HQ.out) (by rw [HE1.out]; exact HDn.out) HB1.out⟩
  · rw [if_neg (by omega)] at hq
    have HQ := hide hq
    clear hq
    go_enter Try.func7, Try.ntmps7
    go_wp2_with fail
    obtain ⟨b0, b1, b2, b3, b4⟩ := HS0.out.cells
    go_wp2_with fail
    refine HD.out.mono ?_
    rintro e w1 ⟨rfl, D1, e1, h1, h2⟩
    have hs1 := HS0.out.disk h1 h2
    have HS1 := hide hs1
    have HB1 := hide (HB0.out.trans (h2.below HS0.out.d))
    have HE1 := hide e1
    obtain ⟨a0, a1, a2, a3, a4⟩ := hs1.cells
    have f8 := hs1.x.frozen 8
    have hlt := hs1.x.lt
    obtain ⟨n8, n9, n10, n11, n12⟩ := hs1.x.nums
    clear e1 h1 h2 hs1
    go_wp2_with fail
    go_ret
    exact ⟨rfl, HS1.out.out (by rw [HE1.out]; exact HO.out) (by rw [HE1.out]; exact HQ.out) (by rw [HE1.out]; exact HDn.out) HB1.out⟩
theorem IntsAt.keepAt {base g : Nat} {D : DS} {w : World} {A : Option Addr} {ks : List Int} (h : IntsAt base w A ks) (hD : DiskAt base g w D) : KeepAt g D w A ks := fun j hj => by
  obtain ⟨b, off, e, h1, h2⟩ := h j hj
  have := hD.hg
  have := hD.lt
  exact ⟨b, off, e, by omega, by omega, fun i hi e2 => by have := (hD.row i hi).lt b e2; omega, h2⟩
theorem IntsAt.rkeepAt {base g : Nat} {R : RS} {w : World} {A : Option Addr} {ks : List Int} (h : IntsAt base w A ks) (hD : RefAt base g w R) : RKeepAt g R w A ks := fun j hj => by
  obtain ⟨b, off, e, h1, h2⟩ := h j hj
  have := hD.hg
  have := hD.lt
  exact ⟨b, off, e, by omega, by omega, fun i hi e2 => by have := (hD.row i hi).lt b e2; omega, h2⟩
set_option maxHeartbeats 6400000 in
set_option maxRecDepth 100000 in
theorem step_crash {base g gx : Nat} {D : DS} {R : RS} (o : OpR) (w : World) (hk : o.k = 6) (hS : ∀ H, w.heap.size = H → St base g gx H o (w.alloc (.cells (oCells o) 37)) D R) (hO : D.p.Ok) (hr : Rel D.p R.p) (hKA : IntsAt base w o.kA o.kl) (hW : WfO o) (h20 : o.kl.length ≤ 20) (hbase : base ≤ w.heap.size) :
    Calls Try.prog 7 #[vD g, vD gx, .agg (oCells o)] w fun e w' => e = .returned (.bool true) ∧ StepOut base g gx D w w' := by
  have HS0 := hide (hS _ rfl)
  obtain ⟨k, f, n, dA, dc, dl, kA, kc, kl⟩ := o
  cases hk
  have HB0 := hide (show Below base w (w.alloc (.cells (oCells ⟨6, f, n, dA, dc, dl, kA, kc, kl⟩) 37)) from (Below.refl base w).alloc hbase _)
  have hlen : kl.length ≤ 140737488355328 := Nat.le_trans h20 (by decide)
  have HD := hide (crash_any kA kc kl _ HS0.out.d hO ((hKA.below HB0.out).keepAt HS0.out.d) hlen hW.ks)
  have HX := hide (fun w' D' (h : St base g gx w.heap.size ⟨6, f, n, dA, dc, dl, kA, kc, kl⟩ w' D' R) (hb : Below base w w') => rcrash_any kA kc kl w' h.x (hr.ok hO).fit ((hKA.below hb).rkeepAt h.x) hW.ks)
  have HQ := hide (hr.crash hO kl)
  have HO := hide (show (crashP D.p kl).Ok from crash_ok hO kl)
  have HDn := hide (show (crashP D.p kl).done ≤ D.p.done + 1 by rw [crash_done]; omega)
  clear hS hr hO hW hKA hlen h20
  go_enter Try.func7, Try.ntmps7
  go_wp2_with fail
  obtain ⟨b0, b1, b2, b3, b4⟩ := HS0.out.cells
  go_wp2_with fail
  refine HD.out.mono ?_
  rintro e w1 ⟨rfl, D1, e1, h1, h2⟩
  have hs1 := HS0.out.disk h1 h2
  have HS1 := hide hs1
  have HB1 := hide (HB0.out.trans (h2.below HS0.out.d))
  have HE1 := hide e1
  obtain ⟨a0, a1, a2, a3, a4⟩ := hs1.cells
  clear e1 h1 h2 hs1
  go_wp2_with fail
  refine (HX.out _ _ HS1.out HB1.out).mono ?_
  rintro e w2 ⟨rfl, R2, e2, h1, h2⟩
  have hs2 := HS1.out.ref h1 h2
  have HF := hide (hs2.out (D0 := D) (by rw [HE1.out]; exact HO.out) (by rw [HE1.out, e2]; exact HQ.out) (by rw [HE1.out]; exact HDn.out) (HB1.out.trans (h2.below HS1.out.x)))
  clear e2 h1 h2 hs2
  go_wp2_with fail
  go_ret
  exact ⟨rfl, HF.out⟩
set_option maxHeartbeats 6400000 in
set_option maxRecDepth 100000 in
theorem step_arm {base g gx : Nat} {D : DS} {R : RS} (o : OpR) (w : World) (hk : o.k = 5) (hS : ∀ H, w.heap.size = H → St base g gx H o (w.alloc (.cells (oCells o) 37)) D R) (hO : D.p.Ok) (hr : Rel D.p R.p) (hW : WfO o) (hbase : base ≤ w.heap.size) :
    Calls Try.prog 7 #[vD g, vD gx, .agg (oCells o)] w fun e w' => e = .returned (.bool true) ∧ StepOut base g gx D w w' := by
  have HS0 := hide (hS _ rfl)
  obtain ⟨k, f, n, dA, dc, dl, kA, kc, kl⟩ := o
  cases hk
  have HB0 := hide (show Below base w (w.alloc (.cells (oCells ⟨5, f, n, dA, dc, dl, kA, kc, kl⟩) 37)) from (Below.refl base w).alloc hbase _)
  have HD := hide (arm_any n _ HS0.out.d)
  have HQ := hide (hr.arm n hW.n0 hW.n1)
  have HO := hide (show ({ D.p with left := n } : PD).Ok from ⟨hO.cap0, hO.cap1, hO.used, hO.s0, hO.s1, hO.done0, hW.n0, hW.n1⟩)
  clear hS hr hO hW
  go_enter Try.func7, Try.ntmps7
  go_wp2_with fail
  obtain ⟨b0, b1, b2, b3, b4⟩ := HS0.out.cells
  go_wp2_with fail
  refine HD.out.mono ?_
  rintro e w1 ⟨rfl, D1, e1, -, h1, h2⟩
  have hs1 := HS0.out.disk h1 h2
  have HS1 := hide hs1
  have HB1 := hide (HB0.out.trans (h2.below HS0.out.d))
  have HE1 := hide e1
  obtain ⟨a0, a1, a2, a3, a4⟩ := hs1.cells
  have f9 := hs1.x.frozen 9
  have f11 := hs1.x.frozen 11
  have hlt := hs1.x.lt
  obtain ⟨n8, n9, n10, n11, n12⟩ := hs1.x.nums
  have hx0 := hs1.x.below ((Below.refl _ w1).drew)
  have k1 := hx0.set 11 (.bool (decide (0 ≤ n))) { R.p with armed := decide (0 ≤ n) } rfl rfl (by simp)
  have k2 := k1.1.set 9 (.int .i64 n) { R.p with armed := decide (0 ≤ n), left := n } rfl rfl (by simp)
  have HK := hide (show RefAt base gx _ _ ∧ RTurned gx R _ _ _ from ⟨k2.1, k1.2.trans k2.2⟩)
  have m1 := hx0.set 9 (.int .i64 n) { R.p with left := n } rfl rfl (by simp)
  have m2 := m1.1.set 11 (.bool (decide (0 ≤ n))) { R.p with armed := decide (0 ≤ n), left := n } rfl rfl (by simp)
  have HM := hide (show RefAt base gx _ _ ∧ RTurned gx R _ _ _ from ⟨m2.1, m1.2.trans m2.2⟩)
  have HSd := hide (hs1.below ((Below.refl _ w1).drew))
  clear e1 h1 h2 hs1 hx0 k1 k2 m1 m2
  go_wp2_with fail
  go_region
  all_goals
    go_wp2_with fail
    go_ret
    first
    | exact ⟨rfl, (HSd.out.ref HK.out.1 HK.out.2).out (by rw [HE1.out]; exact HO.out) (by rw [HE1.out]; exact HQ.out) (by rw [HE1.out]; show D.p.done ≤ _; omega) ((HB1.out.trans ((Below.refl base w1).drew)).trans (HK.out.2.below HSd.out.x))⟩
    | exact ⟨rfl, (HSd.out.ref HM.out.1 HM.out.2).out (by rw [HE1.out]; exact HO.out) (by rw [HE1.out]; exact HQ.out) (by rw [HE1.out]; show D.p.done ≤ _; omega) ((HB1.out.trans ((Below.refl base w1).drew)).trans (HM.out.2.below HSd.out.x))⟩
end Go.Proofs.Ytpjibiimakclfab
