/-
  The walk of DiskPlays: whole.
-/
import Derived.Test.YtpjibiimakclfabPBoth
import Derived.Deep.DeepCutAuto
import Derived.Deep.RegionLaw
namespace Go.Proofs.Ytpjibiimakclfab
open Go.RowKit

theorem oBoxP {w w' : World} {o : OpR} (h : Below (w.alloc (.cells (oCells o) 37)).heap.size (w.alloc (.cells (oCells o) 37)) w') :
    w'.cell? ⟨w.heap.size, 0, none⟩ = some (.int .i64 o.k) ∧ w'.cell? ⟨w.heap.size, 1, none⟩ = some (.int .i64 o.f) ∧ w'.cell? ⟨w.heap.size, 2, none⟩ = some (.int .i64 o.n) ∧ w'.cell? ⟨w.heap.size, 3, none⟩ = some (.slice o.dA o.dl.length o.dc) ∧ w'.cell? ⟨w.heap.size, 4, none⟩ = some (.slice o.kA o.kl.length o.kc) := by
  have hz : (w.alloc (.cells (oCells o) 37)).heap.size = w.heap.size + 1 := by simp
  have k := (h.block w.heap.size (by omega)).trans (heap_alloc_new w _)
  exact ⟨Lib.cell_of_heap k 0, Lib.cell_of_heap k 1, Lib.cell_of_heap k 2, Lib.cell_of_heap k 3, Lib.cell_of_heap k 4⟩
theorem run_rfile0 (w : World) (v0 v1 v2 v3 v4 v5 v6 v7 : Value) : (Instr.index 32 (.agg #[v0, v1, v2, v3, v4, v5, v6, v7]) (.int .i64 0)).run Try.prog w = .ok (.agg #[v0, v1]) w := by kernel_rfl
theorem run_rfile1 (w : World) (v0 v1 v2 v3 v4 v5 v6 v7 : Value) : (Instr.index 32 (.agg #[v0, v1, v2, v3, v4, v5, v6, v7]) (.int .i64 1)).run Try.prog w = .ok (.agg #[v2, v3]) w := by kernel_rfl
theorem run_rfile2 (w : World) (v0 v1 v2 v3 v4 v5 v6 v7 : Value) : (Instr.index 32 (.agg #[v0, v1, v2, v3, v4, v5, v6, v7]) (.int .i64 2)).run Try.prog w = .ok (.agg #[v4, v5]) w := by kernel_rfl
theorem run_rfile3 (w : World) (v0 v1 v2 v3 v4 v5 v6 v7 : Value) : (Instr.index 32 (.agg #[v0, v1, v2, v3, v4, v5, v6, v7]) (.int .i64 3)).run Try.prog w = .ok (.agg #[v6, v7]) w := by kernel_rfl
/-- Both disks, and a box that holds a file. -/
structure FB (base g gx bx : Nat) (n : Int) (x0 x1 : Value) (D : DS) (R : RS) (W0 W : World) : Prop where
  both : Both base g gx n W D R
  lt : bx < W.heap.size
  hb : base ≤ bx
  c0 : W.cell? ⟨bx, 0, none⟩ = some x0
  c1 : W.cell? ⟨bx, 1, none⟩ = some x1
  low : Below base W0 W
theorem FB.below {base g gx bx : Nat} {n : Int} {x0 x1 : Value} {D : DS} {R : RS} {W0 W W' : World} (h : FB base g gx bx n x0 x1 D R W0 W) (hb : Below W.heap.size W W') : FB base g gx bx n x0 x1 D R W0 W' :=
  ⟨h.both.below hb, Nat.lt_of_lt_of_le h.lt hb.size, h.hb, (hb.cell (p := ⟨bx, 0, none⟩) h.lt).trans h.c0, (hb.cell (p := ⟨bx, 1, none⟩) h.lt).trans h.c1, h.low.trans (hb.mono h.both.le)⟩
theorem size_f {base g gx bx : Nat} {n : Int} {x0 x1 : Value} {D : DS} {R : RS} {W0 W : World} (m : Nat) (hm : m < 4) (h : FB base g gx bx n x0 x1 D R W0 W) :
    Calls Try.prog 13 #[vD g, .int .i64 m] W fun e W' => e = .returned (.int .i64 ((D.p.xs m).length : Nat)) ∧ FB base g gx bx n x0 x1 D R W0 W' :=
  (size_any (m : Int) W h.both.two.d).mono fun _ _ hh => ⟨by rw [hh.1]; unfold sizeD; rw [show fileB (m : Int) = true by unfold fileB; simp; omega]; rfl, h.below hh.2⟩
theorem safe_f {base g gx bx : Nat} {n : Int} {x0 x1 : Value} {D : DS} {R : RS} {W0 W : World} (m : Nat) (hm : m < 4) (h : FB base g gx bx n x0 x1 D R W0 W) :
    Calls Try.prog 14 #[vD g, .int .i64 m] W fun e W' => e = .returned (.int .i64 (D.p.s m)) ∧ FB base g gx bx n x0 x1 D R W0 W' :=
  (safe_any (m : Int) W h.both.two.d).mono fun _ _ hh => ⟨by rw [hh.1]; unfold safeD; rw [show fileB (m : Int) = true by unfold fileB; simp; omega]; rfl, h.below hh.2⟩
theorem rsafe_f {base g gx bx : Nat} {n : Int} {x0 x1 : Value} {D : DS} {R : RS} {W0 W : World} (m : Nat) (hm : m < 4) (vB : Value) {A1 : Option Addr} {n1 c1 : Nat} (e1 : R.v (m * 2 + 1) = .slice A1 n1 c1) (h : FB base g gx bx n x0 x1 D R W0 W) :
    Calls Try.prog 15 #[.agg #[vB, .slice A1 n1 c1]] W fun e W' => e = .returned (.int .i64 (D.p.s m)) ∧ FB base g gx bx n x0 x1 D R W0 W' := by
  obtain ⟨A, c, e, hB⟩ := rbools hm h.both.two.x
  have hO := h.both.ok
  rw [← e1, e]
  refine (rsafe_any vB A c (R.p.sf m) W ?_ hB).mono fun _ _ hh => ⟨?_, h.below hh.2⟩
  · rw [(h.both.rel.ok hO).len m hm, h.both.rel.bs m hm]; exact hO.len hm
  · rw [hh.1, h.both.rel.heads hm]
    have := hO.s0 m hm
    exact ret_int (by omega)
theorem safe_slice {base g gx : Nat} {n : Int} {D : DS} {R : RS} {W : World} (m : Nat) (hm : m < 4) (h : Both base g gx n W D R) : ∃ A n1 c, R.v (m * 2 + 1) = .slice A n1 c := by
  obtain ⟨A, c, e, _⟩ := rbools hm h.two.x
  exact ⟨A, _, c, e⟩
theorem file_slice {base g gx : Nat} {n : Int} {D : DS} {R : RS} {W : World} (m : Nat) (hm : m < 4) (h : Both base g gx n W D R) : ∃ A c, R.v (m * 2) = .slice A (D.p.xs m).length c := by
  obtain ⟨A, c, e, _⟩ := row_slice (h.two.x.row (m * 2) (by omega))
  rw [show m * 2 = 2 * m by omega, rowC_even, byC_len, h.rel.bs m hm] at e
  exact ⟨A, c, by rw [show m * 2 = 2 * m by omega]; exact e⟩
set_option maxHeartbeats 1600000 in
set_option maxRecDepth 100000 in
theorem done_q {base g gx : Nat} {n : Int} {w : World} {D : DS} {R : RS} (h : Both base g gx n w D R) : Calls Try.prog 8 #[vD g] w fun e w' => e = .returned (.int .i64 D.p.done) ∧ w = w' := by
  obtain ⟨c0, c1, c2, c3, c4, c5, c6, c7, c8, c9, c10, c11⟩ := h.two.d.cells
  clear h
  go_enter Try.func8, Try.ntmps8
  go_wp2_with fail
  go_ret
  exact ⟨rfl, rfl⟩
set_option maxHeartbeats 1600000 in
set_option maxRecDepth 100000 in
theorem down_q {base g gx : Nat} {n : Int} {w : World} {D : DS} {R : RS} (h : Both base g gx n w D R) : Calls Try.prog 9 #[vD g] w fun e w' => e = .returned (.bool D.p.down) ∧ w = w' := by
  obtain ⟨c0, c1, c2, c3, c4, c5, c6, c7, c8, c9, c10, c11⟩ := h.two.d.cells
  clear h
  go_enter Try.func9, Try.ntmps9
  go_wp2_with fail
  go_ret
  exact ⟨rfl, rfl⟩
set_option maxHeartbeats 1600000 in
set_option maxRecDepth 100000 in
theorem cap_q {base g gx : Nat} {n : Int} {w : World} {D : DS} {R : RS} (h : Both base g gx n w D R) : Calls Try.prog 12 #[vD g] w fun e w' => e = .returned (.int .i64 D.p.cap) ∧ w = w' := by
  obtain ⟨c0, c1, c2, c3, c4, c5, c6, c7, c8, c9, c10, c11⟩ := h.two.d.cells
  clear h
  go_enter Try.func12, Try.ntmps12
  go_wp2_with fail
  go_ret
  exact ⟨rfl, rfl⟩
set_option maxHeartbeats 40000000 in
set_option maxRecDepth 100000 in
theorem diskPlays_walk (cap : Int) (A : Option Addr) (c : Nat) (l : List OpR) (w : World) (hO : OpsAt w.heap.size w A l) (hw : WfOs l) :
    Calls Try.prog 3 #[.int .i64 cap, .slice A l.length c] w fun e w' => e = .returned (.bool true) ∧ Below w.heap.size w w' := by
  have HAw := hide (fun w' => awake_any w')
  have HO := hide hO
  have HW := hide hw
  have hl := hw.1
  unfold maxLen at hl
  have HSm := hide (fun w' (h : Below w.heap.size w w') => small_any A c l 60 w' (fun j hj => by
    obtain ⟨b, off, e, hlt, h0⟩ := (HO.out.below h) j hj
    exact ⟨b, off, e, Nat.lt_of_lt_of_le hlt h.size, h0.c0, h0.c1, h0.c2, h0.c3, h0.c4, h0.d.mono h.size, h0.k.mono h.size⟩) HW.out)
  clear hO hw
  by_cases hcap : 0 ≤ cap ∧ cap ≤ 1073741824
  · obtain ⟨hc0, hc1⟩ := hcap
    have HCp := hide (show capB cap = true by unfold capB; simp [hc0, hc1])
    have HNew := hide (new_yes cap w HCp.out)
    cases hs : smallO l 60
    · rw [hs] at HSm
      clear hs
      go_enter Try.func3, Try.ntmps3
      go_wp2_with fail
      refine HNew.out.mono ?_
      rintro e w1 ⟨⟨g, rfl, hD0⟩, hb1⟩
      have HB1 := hide hb1
      clear hD0 hb1 HNew
      go_wp2_with fail
      refine (HSm.out _ HB1.out).mono ?_
      rintro e w2 ⟨rfl, hb2⟩
      have HB2 := hide (HB1.out.trans (hb2.mono HB1.out.size))
      clear hb2
      go_wp2_with fail
      refine (HAw.out _).mono ?_
      rintro e wa ⟨rfl, hba⟩
      have HBA := hide (HB2.out.trans (hba.mono HB2.out.size))
      clear hba
      go_wp2_with fail
      go_ret
      exact ⟨rfl, HBA.out⟩
    obtain ⟨hlen, hsz⟩ := smallO_at hs
    rw [hs] at HSm
    have HSz := hide hsz
    clear hs hsz
    go_enter Try.func3, Try.ntmps3
    go_wp2_with fail
    refine HNew.out.mono ?_
    rintro e w1 ⟨⟨g, rfl, hD0⟩, hb1⟩
    have HB1 := hide hb1
    have HD0 := hide hD0
    clear hD0 hb1 HNew
    go_wp2_with fail
    refine (HSm.out _ HB1.out).mono ?_
    rintro e w2 ⟨rfl, hb2⟩
    have HB2 := hide (HB1.out.trans (hb2.mono HB1.out.size))
    have hD2 := HD0.out.below hb2
    have hgl := hD2.lt
    have HSt := hide (both_new hD2 HCp.out)
    have HL0 := hide (HB2.out.alloc HB2.out.size (.cells (rCells ⟨rnewP cap, fun _ => .slice none 0 0⟩) 34))
    clear hb2 HSm hD2 HD0 HB1
    go_wp2_with fail
    go_loopw [41] (fun iv wr => ∃ (k : Nat) (D : DS) (R : RS), k ≤ l.length ∧ iv = .int .i64 k ∧ Both w.heap.size g w2.heap.size k wr D R ∧ Below w.heap.size w wr) (fun iv _ => l.length - (intOf iv).toNat)
    case atStart => exact ⟨0, _, _, Nat.zero_le _, rfl, HSt.out, HL0.out⟩
    case round =>
      obtain ⟨k, D, R, hk, rfl, hBo, hbw⟩ := hrel
      have HBr := hide hBo
      have HLr := hide hbw
      clear HSt HL0
      by_cases hlt : k < l.length
      · have HK := hide hlt
        obtain ⟨b, off, rfl, hbb, hx⟩ := (HO.out.below hbw) k hlt
        have hsm := HSz.out k hlt
        have hwk := HW.out.2 k hlt
        have hs1 := hbw.size
        generalize l.getD k dO = o at *
        have g0 := hx.c0; have g1 := hx.c1; have g2 := hx.c2; have g3 := hx.c3; have g4 := hx.c4
        have hb' : b < wr.heap.size := Nat.lt_of_lt_of_le hbb hs1
        have hal := (Joins.below_alloc1 wr (.cells (oCells o) 37))
        have HL := hide (hbw.trans ((hal.mono hs1).drew))
        have HStep := hide (step_any o _ (hBo.below hal.drew) (by omega) (hx.d.below (hal.mono hs1).drew) (hx.k.below (hal.mono hs1).drew) hwk hsm.1 hsm.2)
        obtain ⟨t0, t1, t2, t3, t4⟩ := oBoxP (w := wr) (o := o) (Below.refl _ _)
        clear hx hwk hsm hal hBo hbw
        go_upto_region 10 with fail
        go_cut [83] from 45 to 83 (fun s wx => s = .bool false ∧ ∃ D5 R5, Both w.heap.size g w2.heap.size ((k : Int) + 1) wx D5 R5 ∧ Below w.heap.size w wx)
        case first =>
          clear HO HW HAw HCp HSz HB2 HBr HLr HK g0 g1 g2 g3 g4
          go_region_law (first
            | (go_simp; go_at_call 7; refine HStep.out.mono ?_; rintro e wq ⟨rfl, D5, R5, hbq, hlq⟩; clear HStep t0 t1 t2 t3 t4; obtain ⟨n8, n10, n12⟩ := hbq.nums; have HBo := hide hbq; have HL := hide (HL.out.trans hlq); clear hbq hlq)
            | (go_simp; go_at_call 8; refine (done_q HBo.out).mono ?_; rintro e wq ⟨rfl, rfl⟩)
            | (go_simp; go_at_call 9; refine (down_q HBo.out).mono ?_; rintro e wq ⟨rfl, rfl⟩)
            | (go_simp; go_at_call 10; refine (used_b HBo.out).mono ?_; rintro e wq ⟨rfl, hbq, hlq⟩; clear n8 n10 n12; obtain ⟨n8, n10, n12⟩ := hbq.nums; have HBo1 := hide hbq; clear HBo; have HBo := HBo1; clear HBo1; have HL1 := hide (HL.out.trans hlq); clear HL; have HL := HL1; clear HL1; clear hbq hlq)
            | (go_simp; go_at_call 11; refine (rused_b HBo.out).mono ?_; rintro e wq ⟨rfl, hbq, hlq⟩; clear n8 n10 n12; obtain ⟨n8, n10, n12⟩ := hbq.nums; have HBo1 := hide hbq; clear HBo; have HBo := HBo1; clear HBo1; have HL1 := hide (HL.out.trans hlq); clear HL; have HL := HL1; clear HL1; clear hbq hlq)
            | (go_simp; go_at_call 12; refine (cap_q HBo.out).mono ?_; rintro e wq ⟨rfl, rfl⟩))
          all_goals
            go_wp2_with fail
            go_meet
            exact ⟨rfl, _, _, HBo.out, HL.out⟩
        case rest =>
          obtain ⟨rfl, D5, R5, hB5, hL5⟩ := hcut
          have HB5 := hide hB5
          have HL5 := hide hL5
          have q0 := hB5.two.x.at (j := 0) (by decide); have q1 := hB5.two.x.at (j := 1) (by decide); have q2 := hB5.two.x.at (j := 2) (by decide); have q3 := hB5.two.x.at (j := 3) (by decide)
          have q4 := hB5.two.x.at (j := 4) (by decide); have q5 := hB5.two.x.at (j := 5) (by decide); have q6 := hB5.two.x.at (j := 6) (by decide); have q7 := hB5.two.x.at (j := 7) (by decide)
          clear hB5 hL5 HStep HBr HLr HL
          go_wp2_with fail
          clear hs1 hb' q0 q1 q2 q3 q4 q5 q6 q7 g0 g1 g2 g3 g4 t0 t1 t2 t3 t4
          go_loopw [88] (fun iv wx => ∃ m : Nat, m ≤ 4 ∧ iv = .int .i64 m ∧ Both w.heap.size g w2.heap.size ((k : Int) + 1) wx D5 R5 ∧ Below w.heap.size w wx) (fun iv _ => 4 - (intOf iv).toNat)
          case atStart => exact ⟨0, by omega, rfl, HB5.out, HL5.out⟩
          case round =>
            obtain ⟨m, hm, rfl, hBx, hLx⟩ := hrel
            have HX := hide hBx
            have HLx := hide hLx
            clear hBx hLx HB5 HL5
            by_cases hm4 : m < 4
            · obtain ⟨Af, cf, ef⟩ := file_slice m hm4 HX.out
              obtain ⟨Ag, ng, cg, eg⟩ := safe_slice m hm4 HX.out
              have HG := hide eg
              have rf : ∀ w' : World, (Instr.index 32 (.agg #[R5.v 0, R5.v 1, R5.v 2, R5.v 3, R5.v 4, R5.v 5, R5.v 6, R5.v 7]) (.int .i64 m)).run Try.prog w' = .ok (.agg #[.slice Af (D5.p.xs m).length cf, .slice Ag ng cg]) w' := fun w' => by
                rw [← ef, ← eg]
                rcases (by omega : m = 0 ∨ m = 1 ∨ m = 2 ∨ m = 3) with rfl | rfl | rfl | rfl
                · exact run_rfile0 _ _ _ _ _ _ _ _ _
                · exact run_rfile1 _ _ _ _ _ _ _ _ _
                · exact run_rfile2 _ _ _ _ _ _ _ _ _
                · exact run_rfile3 _ _ _ _ _ _ _ _ _
              have hxl : (D5.p.xs m).length ≤ 1073741824 := HX.out.ok.len hm4
              have hal := Joins.below_alloc1 wr (.cells #[.slice Af (D5.p.xs m).length cf, .slice Ag ng cg] 31)
              have hnew := heap_alloc_new wr (.cells #[.slice Af (D5.p.xs m).length cf, .slice Ag ng cg] 31)
              have HF := hide (show FB w.heap.size g w2.heap.size wr.heap.size ((k : Int) + 1) (.slice Af (D5.p.xs m).length cf) ((.slice Ag ng cg)) D5 R5 w (wr.alloc (.cells #[.slice Af (D5.p.xs m).length cf, .slice Ag ng cg] 31)).drew from ⟨(HX.out.below hal).below (Below.refl _ _).drew, by simp, HLx.out.size, Lib.cell_of_heap hnew 0, Lib.cell_of_heap hnew 1, (HLx.out.alloc HLx.out.size _).drew⟩)
              have p0 := HF.out.c0
              have p1 := HF.out.c1
              have HM4 := hide hm4
              clear hal hnew ef eg
              go_wp2_with fail
              go_region_law (first
              | (go_simp; go_at_call 13; refine (size_f m HM4.out HF.out).mono ?_; rintro e wq ⟨rfl, hq⟩; clear p0 p1; have p0 := hq.c0; have p1 := hq.c1; have HF1 := hide hq; clear HF; have HF := HF1; clear HF1 hq)
              | (go_simp; go_at_call 14; refine (safe_f m HM4.out HF.out).mono ?_; rintro e wq ⟨rfl, hq⟩; clear p0 p1; have p0 := hq.c0; have p1 := hq.c1; have HF1 := hide hq; clear HF; have HF := HF1; clear HF1 hq)
              | (go_simp; go_at_call 15; refine (rsafe_f m HM4.out _ HG.out HF.out).mono ?_; rintro e wq ⟨rfl, hq⟩; clear p0 p1; have p0 := hq.c0; have p1 := hq.c1; have HF1 := hide hq; clear HF; have HF := HF1; clear HF1 hq))
              all_goals
                go_wp2_with fail
                go_roundw
                case rel => exact ⟨m + 1, by omega, by go_num, HF.out.both, HF.out.low⟩
                case measure => simp [intOf]; omega
            · obtain rfl : m = 4 := by omega
              go_wp2_with fail
              go_roundw
              case rel => exact ⟨k + 1, D5, R5, by omega, by go_num, HX.out, HLx.out⟩
              case measure => simp [intOf]; omega
      · have HS1 := hide ((size_any (-1) wr hBo.two.d).mono (R' := fun e w' => e = .returned (.int .i64 0) ∧ Below wr.heap.size wr w') fun e w' hh => ⟨by rw [hh.1]; rfl, hh.2⟩)
        have HS2 := hide (fun w' (h : Below wr.heap.size wr w') => (safe_any 4 w' (hBo.two.d.below h)).mono (R' := fun e w'' => e = .returned (.int .i64 0) ∧ Below w'.heap.size w' w'') fun e w'' hh => ⟨by rw [hh.1]; rfl, hh.2⟩)
        have hge : (l.length : Int) ≤ (k : Int) := by omega
        clear hBo hbw
        go_wp2_with fail
        refine HS1.out.mono ?_
        rintro e w3 ⟨rfl, hb3⟩
        have HB3 := hide hb3
        have HS3 := hide (HS2.out w3 hb3)
        clear hb3
        go_wp2_with fail
        refine HS3.out.mono ?_
        rintro e w4 ⟨rfl, hb4⟩
        have HB4 := hide (HB3.out.trans (hb4.mono HB3.out.size))
        clear hb4
        go_wp2_with fail
        refine (HAw.out _).mono ?_
        rintro e wa ⟨rfl, hba⟩
        have HBA := hide ((HLr.out.trans (HB4.out.mono HLr.out.size)).trans (hba.mono (Nat.le_trans HLr.out.size HB4.out.size)))
        clear hba
        go_wp2_with fail
        go_ret
        exact ⟨rfl, HBA.out⟩
  · have HCp := hide (show capB cap = false by unfold capB; simp only [Bool.and_eq_false_iff, decide_eq_false_iff_not]; omega)
    have HNew := hide (new_no cap w HCp.out)
    by_cases hc0 : cap < 0
    · clear hcap
      go_enter Try.func3, Try.ntmps3
      go_wp2_with fail
      refine HNew.out.mono ?_
      rintro e w1 ⟨rfl, hb1⟩
      have HB1 := hide hb1
      clear hb1 HNew
      go_wp2_with fail
      refine (HAw.out _).mono ?_
      rintro e wa ⟨rfl, hba⟩
      have HBA := hide (HB1.out.trans (hba.mono HB1.out.size))
      clear hba
      go_wp2_with fail
      go_ret
      exact ⟨rfl, HBA.out⟩
    · have hc1 : 1073741824 < cap := by omega
      clear hcap
      go_enter Try.func3, Try.ntmps3
      go_wp2_with fail
      refine HNew.out.mono ?_
      rintro e w1 ⟨rfl, hb1⟩
      have HB1 := hide hb1
      clear hb1 HNew
      go_wp2_with fail
      refine (HAw.out _).mono ?_
      rintro e wa ⟨rfl, hba⟩
      have HBA := hide (HB1.out.trans (hba.mono HB1.out.size))
      clear hba
      go_wp2_with fail
      go_ret
      exact ⟨rfl, HBA.out⟩
end Go.Proofs.Ytpjibiimakclfab
