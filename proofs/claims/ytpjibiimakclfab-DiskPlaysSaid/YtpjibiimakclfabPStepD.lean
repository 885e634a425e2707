/-
  The law's step at Read.
-/
import Derived.Test.YtpjibiimakclfabPRead
namespace Go.Proofs.Ytpjibiimakclfab
open Go.RowKit

set_option maxHeartbeats 6400000 in
set_option maxRecDepth 100000 in
theorem step_read {base g gx : Nat} {D : DS} {R : RS} (o : OpR) (w : World) (hk : o.k = 4) (hS : ∀ H, w.heap.size = H → St base g gx H o (w.alloc (.cells (oCells o) 37)) D R) (hO : D.p.Ok) (hr : Rel D.p R.p) (hbase : base ≤ w.heap.size) :
    Calls Try.prog 7 #[vD g, vD gx, .agg (oCells o)] w fun e w' => e = .returned (.bool true) ∧ StepOut base g gx D w w' := by
  have HS0 := hide (hS _ rfl)
  obtain ⟨k, f, n, dA, dc, dl, kA, kc, kl⟩ := o
  have hk1 : k = 4 := hk
  subst hk1
  have HB0 := hide (show Below base w (w.alloc (.cells (oCells ⟨4, f, n, dA, dc, dl, kA, kc, kl⟩) 37)) from (Below.refl base w).alloc hbase _)
  have hsz1 : (w.alloc (.cells (oCells ⟨4, f, n, dA, dc, dl, kA, kc, kl⟩) 37)).heap.size = w.heap.size + 1 := by simp
  have HO := hide hO
  have HQ := hide hr
  have HD := hide (read_row f _ HS0.out.d hO)
  have hdw := hr.down
  by_cases hdn : D.p.down = true
  · have hc : checkE D.p f = 40 := if_pos hdn
    have hl : rdL D.p f = [] := if_neg (by rw [hc]; decide)
    rw [hc, hl] at HD
    have HDn := hide (show R.p.down = true by rw [hdw, hdn])
    clear hS hr hO hdw hdn hc hl
    go_enter Try.func7, Try.ntmps7
    go_wp2_with fail
    obtain ⟨b0, b1, b2, b3, b4⟩ := HS0.out.cells
    go_wp2_with fail
    refine HD.out.mono ?_
    rintro e w2 ⟨⟨A, c, rfl, hrow⟩, hb2⟩
    have hs2 := HS0.out.below hb2
    have HS2 := hide hs2
    have HRow := hide hrow
    have HB2 := hide (HB0.out.trans (hb2.mono (by rw [hsz1]; omega)))
    obtain ⟨a0, a1, a2, a3, a4⟩ := hs2.cells
    obtain ⟨n8, n9, n10, n11, n12⟩ := hs2.x.nums
    rw [HDn.out] at n12
    clear hs2 hrow hb2
    go_wp2_with fail
    go_ret
    exact ⟨rfl, HS2.out.out HO.out HQ.out (by omega) HB2.out⟩
  · have HDn := hide (show R.p.down = false by rw [hdw]; simpa using hdn)
    by_cases hf : f < 0 ∨ 3 < f
    · have hc : checkE D.p f = 30 := by rw [← hr.check f]; unfold wrE; rw [if_neg (by rw [HDn.out]; decide), if_pos hf]
      have hl : rdL D.p f = [] := if_neg (by rw [hc]; decide)
      rw [hc, hl] at HD
      clear hS hr hO hdw hdn hc hl
      by_cases hf0 : f < 0
      · clear hf
        go_enter Try.func7, Try.ntmps7
        go_wp2_with fail
        obtain ⟨b0, b1, b2, b3, b4⟩ := HS0.out.cells
        go_wp2_with fail
        refine HD.out.mono ?_
        rintro e w2 ⟨⟨A, c, rfl, hrow⟩, hb2⟩
        have hs2 := HS0.out.below hb2
        have HS2 := hide hs2
        have HRow := hide hrow
        have HB2 := hide (HB0.out.trans (hb2.mono (by rw [hsz1]; omega)))
        obtain ⟨a0, a1, a2, a3, a4⟩ := hs2.cells
        obtain ⟨n8, n9, n10, n11, n12⟩ := hs2.x.nums
        rw [HDn.out] at n12
        clear hs2 hrow hb2
        go_wp2_with fail
        go_ret
        exact ⟨rfl, HS2.out.out HO.out HQ.out (by omega) HB2.out⟩
      · have hf1 : 3 < f := by omega
        clear hf
        go_enter Try.func7, Try.ntmps7
        go_wp2_with fail
        obtain ⟨b0, b1, b2, b3, b4⟩ := HS0.out.cells
        go_wp2_with fail
        refine HD.out.mono ?_
        rintro e w2 ⟨⟨A, c, rfl, hrow⟩, hb2⟩
        have hs2 := HS0.out.below hb2
        have HS2 := hide hs2
        have HRow := hide hrow
        have HB2 := hide (HB0.out.trans (hb2.mono (by rw [hsz1]; omega)))
        obtain ⟨a0, a1, a2, a3, a4⟩ := hs2.cells
        obtain ⟨n8, n9, n10, n11, n12⟩ := hs2.x.nums
        rw [HDn.out] at n12
        clear hs2 hrow hb2
        go_wp2_with fail
        go_ret
        exact ⟨rfl, HS2.out.out HO.out HQ.out (by omega) HB2.out⟩
    · have hc : checkE D.p f = 0 := by rw [← hr.check f]; unfold wrE; rw [if_neg (by rw [HDn.out]; decide), if_neg hf]
      have hf0 : 0 ≤ f := by omega
      have hf1 : f < 4 := by omega
      obtain ⟨i, rfl⟩ : ∃ i : Nat, f = i := ⟨f.toNat, by omega⟩
      have hi4 : i < 4 := by omega
      have hl : rdL D.p i = D.p.xs i := by unfold rdL; rw [if_pos hc, Int.toNat_natCast]
      rw [hc, hl] at HD
      have HBs := hide (show R.p.bs i = D.p.xs i from hr.bs i hi4)
      have hlen := hO.len hi4
      clear hS hr hO hdw hdn hc hl hf
      go_enter Try.func7, Try.ntmps7
      go_wp2_with fail
      obtain ⟨b0, b1, b2, b3, b4⟩ := HS0.out.cells
      go_wp2_with fail
      refine HD.out.mono ?_
      rintro e w2 ⟨⟨A, c, rfl, hrow⟩, hb2⟩
      have hs2 := HS0.out.below hb2
      have HS2 := hide hs2
      have HRow := hide hrow
      have HB2 := hide (HB0.out.trans (hb2.mono (by rw [hsz1]; omega)))
      obtain ⟨a0, a1, a2, a3, a4⟩ := hs2.cells
      obtain ⟨n8, n9, n10, n11, n12⟩ := hs2.x.nums
      rw [HDn.out] at n12
      obtain ⟨Ax, cx, evx, hyx⟩ := rbytes hi4 hs2.x
      rw [HBs.out] at evx hyx
      have cvx := hs2.x.at (j := i * 2) (by omega)
      rw [evx] at cvx
      obtain ⟨A9, c9, e9, hy, -, -⟩ := bytes_of_row hrow
      injection e9 with e91 e92 e93
      subst e91
      have hcv1 := fun d os => conv_bytes A c (D.p.xs i) (Go.Sort.grow (redrawn w2 d) os) (fun j hj => by
        obtain ⟨b, off, e, h1, h2⟩ := hy j hj
        exact ⟨b, off, e, by have := (below_regrown w2 d os).size; omega, by rw [World.cell?_of_block ((below_regrown w2 d os).block b h1)]; exact h2⟩)
      have hcv2 := fun d os => conv_bytes Ax cx (D.p.xs i) (Go.Sort.grow (redrawn w2 d) os) (fun j hj => by
        obtain ⟨b, off, e, h1, h2⟩ := hyx j hj
        exact ⟨b, off, e, by have := (below_regrown w2 d os).size; omega, by rw [World.cell?_of_block ((below_regrown w2 d os).block b h1)]; exact h2⟩)
      have hlt2 := hs2.x.lt
      have q1 := fun d os => cell_regrown a1 d os
      have qx := fun d os => cell_regrown cvx d os
      have HAp := hide (Apart.new (N := w.heap.size + 1) HS0.out (by rw [hsz1]; exact Nat.le_refl _) (v := .slice A (D.p.xs i).length c) (fun b e => by have := (hrow.lt b e).1; rw [hsz1] at this; exact this))
      have HRow := hide (show w2.ownsRow (w.heap.size + 1) 5 1 (.slice A (D.p.xs i).length c) (D.p.xs i).length (byC (D.p.xs i)) by rw [← hsz1]; exact hrow)
      generalize D.p.xs i = l at *
      clear hs2 hrow hb2 hy hyx evx e92 e93
      go_wp2_with fail
      refine wp_region_quiet_below (by kernel_rfl) (by kernel_rfl) ?_
      repeat (go_big_quiet_step (fail))
      refine wpQuiet_nil ?_
      intro _ hw'
      obtain ⟨⟨dq, osq⟩, hw''⟩ := hw'
      subst hw''
      have HBq := hide (below_regrown w2 dq osq)
      have HS3 := hide (HS2.out.below HBq.out)
      have hrow3 : (Go.Sort.grow (redrawn w2 dq) osq).ownsRow (w.heap.size + 1) 5 1 (.slice A l.length c) l.length (byC l) := row_same HRow.out fun b e => HBq.out.block b (HRow.out.lt b e).2
      have HI := hide (show ∃ zs : List Int, zs.length = l.length ∧ (Go.Sort.grow (redrawn w2 dq) osq).ownsRow (w.heap.size + 1) 5 1 (.slice A l.length c) l.length (zs.map (Value.int .u8)) ∧ St base g gx w.heap.size ⟨4, i, n, dA, dc, dl, kA, kc, kl⟩ (Go.Sort.grow (redrawn w2 dq) osq) D R ∧ Below base w (Go.Sort.grow (redrawn w2 dq) osq) from ⟨l.map fun y => (y.toNat : Int), by simp, by rw [List.map_map]; exact hrow3, HS3.out, HB2.out.trans (HBq.out.mono (by have := HS2.out.d.hg; have := HS2.out.d.lt; omega))⟩)
      clear hcv1 hcv2 q1 qx hrow3
      generalize Go.Sort.grow (redrawn w2 dq) osq = w3 at *
      clear a0 a1 a2 a3 a4 n8 n9 n10 n11 n12 cvx
      go_wp2_with fail
      go_loopw [123] (fun iv wr => ∃ k : Nat, k ≤ l.length ∧ iv = .int .i64 k ∧ ∃ zs : List Int, zs.length = l.length ∧ wr.ownsRow (w.heap.size + 1) 5 1 (.slice A l.length c) l.length (zs.map (Value.int .u8)) ∧ St base g gx w.heap.size ⟨4, i, n, dA, dc, dl, kA, kc, kl⟩ wr D R ∧ Below base w wr) (fun iv _ => l.length - (intOf iv).toNat)
      case atStart => exact ⟨0, Nat.zero_le _, rfl, HI.out⟩
      case round =>
        obtain ⟨k, hk, rfl, zs, hz, hrow, hst, hbel⟩ := hrel
        have HZ := hide hz
        have HRow := hide hrow
        have HSt := hide hst
        have HBel := hide hbel
        by_cases hlt : k < l.length
        · have HK := hide hlt
          obtain ⟨b, rfl⟩ : ∃ b, A = some ⟨b, 0, none⟩ := by
            rcases hrow.2 with ⟨e, h0⟩ | ⟨g', cap, cur, e, _⟩
            · omega
            · injection e with e; exact ⟨g', e⟩
          have hc : wr.cell? ⟨b, k, none⟩ = some (.int .u8 (zs.getD k 0)) := by
            rw [hrow.cellAt k (by omega), List.getElem?_map, List.getElem?_eq_getElem (by omega), List.getD_eq_getElem?_getD, List.getElem?_eq_getElem (by omega)]
            rfl
          have hf := hrow.frozenAt k
          have hblt := (hrow.lt b rfl).2
          obtain ⟨p1, p2, p3, p4, p5⟩ := HAp.out b rfl
          have HStep := hide (fun u : Int => (⟨by rw [List.length_set]; exact hz, by rw [List.map_set]; exact (hrow.stored k (.int .u8 u)).1, hst.away b (fun c hc => Below.heap_setCell _ _ _ _ hc) p1 p2 p3 p4 p5, hbel.setCell (by have := (hrow.lt b rfl).1; simp only; omega) _⟩ : (zs.set k u).length = l.length ∧ (wr.setCell ⟨b, k, none⟩ (.int .u8 u)).ownsRow (w.heap.size + 1) 5 1 (.slice (some ⟨b, 0, none⟩) l.length c) l.length ((zs.set k u).map (Value.int .u8)) ∧ St base g gx w.heap.size ⟨4, i, n, dA, dc, dl, kA, kc, kl⟩ (wr.setCell ⟨b, k, none⟩ (.int .u8 u)) D R ∧ Below base w (wr.setCell ⟨b, k, none⟩ (.int .u8 u))))
          generalize zs.getD k 0 = z at *
          clear hz hrow hst hbel p1 p2 p3 p4 p5 HI
          go_wp2_with fail
          go_roundw
          case rel => exact ⟨k + 1, HK.out, by go_num, _, (HStep.out _).1, (HStep.out _).2.1, (HStep.out _).2.2.1, (HStep.out _).2.2.2⟩
          case measure => have := HK.out; simp only [intOf]; omega
        · clear hz hrow hst hbel HI
          go_wp2_with fail
          go_ret
          exact ⟨rfl, HSt.out.out HO.out HQ.out (by omega) HBel.out⟩
end Go.Proofs.Ytpjibiimakclfab
