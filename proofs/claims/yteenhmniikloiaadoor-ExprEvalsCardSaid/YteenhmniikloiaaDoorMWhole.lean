/-
  The law's whole: the ways without a drawn region.
  The law's whole: the ways through Arith.
  The law's whole: the ways of either, null, len, abs.
  The law's whole: the ways of the comparisons.
  The law's whole: the ways of cat.
  The law's whole: what all arguments say is what the expression comes to.
-/
import Derived.Test.YteenhmniikloiaaDoorMEval
import Derived.Deep.RegionLaw
import Derived.Test.YteenhmniikloiaaDoorSCheck
import Derived.Maps.OwnOps
namespace Go.Proofs.YteenhmniikloiaaDoor
open Go.RowKit

set_option maxHeartbeats 800000 in
theorem lawTruth_ok (b : Bool) (w : World) : Calls Tryd.prog 63 #[.bool b] w fun e w' => e = .returned (vVal (truthV b).1 (truthV b).2.1 (truthV b).2.2) ∧ Below w.heap.size w w' := by
  cases b
  · go_enter Tryd.func63, Tryd.ntmps63
    go_wp2_with fail
    refine (of_any 0 _).mono ?_
    rintro e w2 ⟨rfl, hb⟩
    obtain ⟨hc, hf⟩ := bcell hb
    have hb0 : Below w.heap.size w w2 := (Joins.below_alloc1 w _).trans (hb.mono (by simp))
    have hz : w.heap.size < w2.heap.size := by have := hb.size; simp at this; omega
    clear hb
    go_wp2_with fail
    refine bodyPost_ret (v := vVal 1 0 ⟨#[]⟩) (by simp [results, Tryd.results63, go_sem, hc]) rfl ⟨rfl, ?_⟩
    go_grown
  · go_enter Tryd.func63, Tryd.ntmps63
    go_wp2_with fail
    refine (of_any 1 _).mono ?_
    rintro e w2 ⟨rfl, hb⟩
    obtain ⟨hc, hf⟩ := bcell hb
    have hb0 : Below w.heap.size w w2 := (Joins.below_alloc1 w _).trans (hb.mono (by simp))
    have hz : w.heap.size < w2.heap.size := by have := hb.size; simp at this; omega
    clear hb
    go_wp2_with fail
    refine bodyPost_ret (v := vVal 1 1 ⟨#[]⟩) (by simp [results, Tryd.results63, go_sem, hc]) rfl ⟨rfl, ?_⟩
    go_grown
set_option maxHeartbeats 3200000 in
set_option maxRecDepth 100000 in
theorem whole_not (x : XT) (Ra : Option Addr) (cr : Nat) (vs : List (Int × Int × ByteArray)) (k n : Int) (s : ByteArray) (xe : Int) (w : World) (hR : RowAt w.heap.size w Ra vs) (e1 : (x.op.toList == [97, 110, 100]) = false) (e2 : (x.op.toList == [111, 114]) = false) (e3 : (x.op.toList == [110, 111, 116]) = true) (hl : vs.length = 1) (hv : truthV (!trueV (vs.getD 0 d3)) = (k, n, s)) (hx : xe = 0) :
    Calls Tryd.prog 44 #[vX x, .slice Ra vs.length cr, vVal k n s, .int .i64 xe] w fun e w' => e = .returned (.bool true) ∧ Below w.heap.size w w' := by
  subst hx
  have HTr := hide (show ∀ w', Calls Tryd.prog 42 #[vVal (vs.getD 0 d3).1 (vs.getD 0 d3).2.1 (vs.getD 0 d3).2.2] w' fun e w1 => e = .returned (.bool (trueV (vs.getD 0 d3))) ∧ Below w'.heap.size w' w1 from fun w' => true_any (vs.getD 0 d3).1 (vs.getD 0 d3).2.1 (vs.getD 0 d3).2.2 w')
  have HTt := hide (fun w' => lawTruth_ok (!trueV (vs.getD 0 d3)) w')
  rw [hv] at HTt
  clear hv
  have hq : ∀ w : World, (binOp .eql 29 (vVal k n s) (vVal k n s)).run Tryd.prog w = .ok (.bool true) w := fun w => (run_eql_val k n k n s s w).trans (by simp)
  have hg := fun u u' w => run_guard_val k n k n s s u u' w
  have hal := evW_below w x (k, n, s)
  have HAt := hide (fun w' => evW_at (w := w) (x := x) (v := (k, n, s)) (w' := w'))
  have HL := hide hal
  obtain ⟨kd, nm, xv, o, A, c, ts⟩ := x
  have HWE := hide (show evW w (.mk kd nm xv o A c ts) (k, n, s) = ((w.alloc (.cells (eCells kd nm xv o A ts.length c) 32)).alloc (.cells #[.int .i64 k, .int .i64 n, .string s] 29)).alloc (.cells #[.int .i64 0, .int .i64 0, .string ⟨#[]⟩] 29) from rfl)
  simp only [XT.kind, XT.name, XT.val, XT.op, XT.adr, XT.args, XT.cap] at *
  show Calls Tryd.prog 44 #[.agg (eCells kd nm xv o A ts.length c), .slice Ra vs.length cr, vVal k n s, .int .i64 _] w _
  generalize evW w (.mk kd nm xv o A c ts) (k, n, s) = W at *
  have HR0 := hide hR
  clear hal hR
  obtain ⟨b, off, rfl, hb, g0, g1, g2⟩ := HR0.out 0 (by omega)
  clear HR0
  rw [show vs.getD 0 (0, 0, ⟨#[]⟩) = vs.getD 0 d3 from rfl] at g0 g1 g2
  simp only [Nat.zero_mul, Nat.add_zero] at g0 g1 g2
  have hl0 : ((0 : Int) < (vs.length : Int)) := by omega
  have hn0 : 0 < vs.length := by omega
  generalize vs.getD 0 d3 = a at *
  generalize vs.length = m at *
  clear hl
  have gc0 : (((w.alloc (.cells (eCells kd nm xv o A ts.length c) 32)).alloc (.cells #[.int .i64 k, .int .i64 n, .string s] 29)).alloc (.cells #[.int .i64 0, .int .i64 0, .string ⟨#[]⟩] 29)).cell? ⟨b, off, none⟩ = some (.int .i64 a.1) := by rw [← HWE.out]; exact (HL.out.cell (p := ⟨b, off, none⟩) hb).trans g0
  have gc1 : (((w.alloc (.cells (eCells kd nm xv o A ts.length c) 32)).alloc (.cells #[.int .i64 k, .int .i64 n, .string s] 29)).alloc (.cells #[.int .i64 0, .int .i64 0, .string ⟨#[]⟩] 29)).cell? ⟨b, off + 1, none⟩ = some (.int .i64 a.2.1) := by rw [← HWE.out]; exact (HL.out.cell (p := ⟨b, off + 1, none⟩) hb).trans g1
  have gc2 : (((w.alloc (.cells (eCells kd nm xv o A ts.length c) 32)).alloc (.cells #[.int .i64 k, .int .i64 n, .string s] 29)).alloc (.cells #[.int .i64 0, .int .i64 0, .string ⟨#[]⟩] 29)).cell? ⟨b, off + 2, none⟩ = some (.string a.2.2) := by rw [← HWE.out]; exact (HL.out.cell (p := ⟨b, off + 2, none⟩) hb).trans g2
  have HG := hide (fun w' (h : Below W.heap.size W w') => (⟨((HL.out.trans (h.mono HL.out.size)).cell (p := ⟨b, off, none⟩) hb).trans g0, ((HL.out.trans (h.mono HL.out.size)).cell (p := ⟨b, off + 1, none⟩) hb).trans g1, ((HL.out.trans (h.mono HL.out.size)).cell (p := ⟨b, off + 2, none⟩) hb).trans g2⟩ : w'.cell? ⟨b, off, none⟩ = some (.int .i64 a.1) ∧ w'.cell? ⟨b, off + 1, none⟩ = some (.int .i64 a.2.1) ∧ w'.cell? ⟨b, off + 2, none⟩ = some (.string a.2.2)))
  generalize trueV a = t at *
  go_enter Tryd.func44, Tryd.ntmps44
  go_wp2_with fail
  rw [← HWE.out]
  refine (HTr.out _).mono ?_
  rintro e w2 ⟨rfl, hbx⟩
  have HB2 := hide hbx
  clear hbx
  go_wp2_with fail
  refine (HTt.out _).mono ?_
  rintro e w3 ⟨rfl, hbx⟩
  have HB3 := hide (then_below HB2.out hbx)
  clear hbx
  obtain ⟨a0, a1, a2, a3, a4, a5, a6, b0, b1, b2, r0, r1, r2, f0, f1, f2, hz⟩ := HAt.out _ HB3.out
  obtain ⟨zg0, zg1, zg2⟩ := HG.out _ HB3.out
  go_wp2_with fail
  go_ret
  refine ⟨rfl, ?_⟩
  have hfin := HL.out.trans (HB3.out.mono HL.out.size)
  exact ((hfin.setCell (p := ⟨w.heap.size + 2, 0, none⟩) (by simp only; omega) _).setCell (p := ⟨w.heap.size + 2, 1, none⟩) (by simp only; omega) _).setCell (p := ⟨w.heap.size + 2, 2, none⟩) (by simp only; omega) _

set_option maxHeartbeats 3200000 in
set_option maxRecDepth 100000 in
theorem whole_and (x : XT) (Ra : Option Addr) (cr : Nat) (vs : List (Int × Int × ByteArray)) (k n : Int) (s : ByteArray) (xe : Int) (w : World) (hR : RowAt w.heap.size w Ra vs) (e1 : (x.op.toList == [97, 110, 100]) = true) (hl : vs.length = 2) (hv : truthV (trueV (vs.getD 1 d3)) = (k, n, s)) (hx : xe = 0) :
    Calls Tryd.prog 44 #[vX x, .slice Ra vs.length cr, vVal k n s, .int .i64 xe] w fun e w' => e = .returned (.bool true) ∧ Below w.heap.size w w' := by
  subst hx
  have HTr := hide (show ∀ w', Calls Tryd.prog 42 #[vVal (vs.getD 1 d3).1 (vs.getD 1 d3).2.1 (vs.getD 1 d3).2.2] w' fun e w1 => e = .returned (.bool (trueV (vs.getD 1 d3))) ∧ Below w'.heap.size w' w1 from fun w' => true_any (vs.getD 1 d3).1 (vs.getD 1 d3).2.1 (vs.getD 1 d3).2.2 w')
  have HTt := hide (fun w' => lawTruth_ok (trueV (vs.getD 1 d3)) w')
  rw [hv] at HTt
  clear hv
  have hq : ∀ w : World, (binOp .eql 29 (vVal k n s) (vVal k n s)).run Tryd.prog w = .ok (.bool true) w := fun w => (run_eql_val k n k n s s w).trans (by simp)
  have hg := fun u u' w => run_guard_val k n k n s s u u' w
  have hal := evW_below w x (k, n, s)
  have HAt := hide (fun w' => evW_at (w := w) (x := x) (v := (k, n, s)) (w' := w'))
  have HL := hide hal
  obtain ⟨kd, nm, xv, o, A, c, ts⟩ := x
  have HWE := hide (show evW w (.mk kd nm xv o A c ts) (k, n, s) = ((w.alloc (.cells (eCells kd nm xv o A ts.length c) 32)).alloc (.cells #[.int .i64 k, .int .i64 n, .string s] 29)).alloc (.cells #[.int .i64 0, .int .i64 0, .string ⟨#[]⟩] 29) from rfl)
  simp only [XT.kind, XT.name, XT.val, XT.op, XT.adr, XT.args, XT.cap] at *
  show Calls Tryd.prog 44 #[.agg (eCells kd nm xv o A ts.length c), .slice Ra vs.length cr, vVal k n s, .int .i64 _] w _
  generalize evW w (.mk kd nm xv o A c ts) (k, n, s) = W at *
  have HR0 := hide hR
  clear hal hR
  obtain ⟨b, off, rfl, hb, p0, p1, p2⟩ := HR0.out 1 (by omega)
  clear HR0
  rw [show vs.getD 1 (0, 0, ⟨#[]⟩) = vs.getD 1 d3 from rfl] at p0 p1 p2
  simp only [Nat.one_mul, Nat.add_assoc, Nat.reduceAdd] at p0 p1 p2
  have hl1 : ((1 : Int) < (vs.length : Int)) := by omega
  have hn1 : 1 < vs.length := by omega
  generalize vs.getD 1 d3 = d at *
  generalize vs.length = m at *
  clear hl
  have pc0 : (((w.alloc (.cells (eCells kd nm xv o A ts.length c) 32)).alloc (.cells #[.int .i64 k, .int .i64 n, .string s] 29)).alloc (.cells #[.int .i64 0, .int .i64 0, .string ⟨#[]⟩] 29)).cell? ⟨b, off + 3, none⟩ = some (.int .i64 d.1) := by rw [← HWE.out]; exact (HL.out.cell (p := ⟨b, off + 3, none⟩) hb).trans p0
  have pc1 : (((w.alloc (.cells (eCells kd nm xv o A ts.length c) 32)).alloc (.cells #[.int .i64 k, .int .i64 n, .string s] 29)).alloc (.cells #[.int .i64 0, .int .i64 0, .string ⟨#[]⟩] 29)).cell? ⟨b, off + 4, none⟩ = some (.int .i64 d.2.1) := by rw [← HWE.out]; exact (HL.out.cell (p := ⟨b, off + 4, none⟩) hb).trans p1
  have pc2 : (((w.alloc (.cells (eCells kd nm xv o A ts.length c) 32)).alloc (.cells #[.int .i64 k, .int .i64 n, .string s] 29)).alloc (.cells #[.int .i64 0, .int .i64 0, .string ⟨#[]⟩] 29)).cell? ⟨b, off + 5, none⟩ = some (.string d.2.2) := by rw [← HWE.out]; exact (HL.out.cell (p := ⟨b, off + 5, none⟩) hb).trans p2
  have HG := hide (fun w' (h : Below W.heap.size W w') => (⟨((HL.out.trans (h.mono HL.out.size)).cell (p := ⟨b, off + 3, none⟩) hb).trans p0, ((HL.out.trans (h.mono HL.out.size)).cell (p := ⟨b, off + 4, none⟩) hb).trans p1, ((HL.out.trans (h.mono HL.out.size)).cell (p := ⟨b, off + 5, none⟩) hb).trans p2⟩ : w'.cell? ⟨b, off + 3, none⟩ = some (.int .i64 d.1) ∧ w'.cell? ⟨b, off + 4, none⟩ = some (.int .i64 d.2.1) ∧ w'.cell? ⟨b, off + 5, none⟩ = some (.string d.2.2)))
  generalize trueV d = t at *
  go_enter Tryd.func44, Tryd.ntmps44
  go_wp2_with fail
  rw [← HWE.out]
  refine (HTr.out _).mono ?_
  rintro e w2 ⟨rfl, hbx⟩
  have HB2 := hide hbx
  clear hbx
  go_wp2_with fail
  refine (HTt.out _).mono ?_
  rintro e w3 ⟨rfl, hbx⟩
  have HB3 := hide (then_below HB2.out hbx)
  clear hbx
  obtain ⟨a0, a1, a2, a3, a4, a5, a6, b0, b1, b2, r0, r1, r2, f0, f1, f2, hz⟩ := HAt.out _ HB3.out
  obtain ⟨zp0, zp1, zp2⟩ := HG.out _ HB3.out
  go_wp2_with fail
  go_ret
  refine ⟨rfl, ?_⟩
  have hfin := HL.out.trans (HB3.out.mono HL.out.size)
  exact ((hfin.setCell (p := ⟨w.heap.size + 2, 0, none⟩) (by simp only; omega) _).setCell (p := ⟨w.heap.size + 2, 1, none⟩) (by simp only; omega) _).setCell (p := ⟨w.heap.size + 2, 2, none⟩) (by simp only; omega) _

set_option maxHeartbeats 3200000 in
set_option maxRecDepth 100000 in
theorem whole_or (x : XT) (Ra : Option Addr) (cr : Nat) (vs : List (Int × Int × ByteArray)) (k n : Int) (s : ByteArray) (xe : Int) (w : World) (hR : RowAt w.heap.size w Ra vs) (e1 : (x.op.toList == [97, 110, 100]) = false) (e2 : (x.op.toList == [111, 114]) = true) (hl : vs.length = 2) (hv : truthV (trueV (vs.getD 1 d3)) = (k, n, s)) (hx : xe = 0) :
    Calls Tryd.prog 44 #[vX x, .slice Ra vs.length cr, vVal k n s, .int .i64 xe] w fun e w' => e = .returned (.bool true) ∧ Below w.heap.size w w' := by
  subst hx
  have HTr := hide (show ∀ w', Calls Tryd.prog 42 #[vVal (vs.getD 1 d3).1 (vs.getD 1 d3).2.1 (vs.getD 1 d3).2.2] w' fun e w1 => e = .returned (.bool (trueV (vs.getD 1 d3))) ∧ Below w'.heap.size w' w1 from fun w' => true_any (vs.getD 1 d3).1 (vs.getD 1 d3).2.1 (vs.getD 1 d3).2.2 w')
  have HTt := hide (fun w' => lawTruth_ok (trueV (vs.getD 1 d3)) w')
  rw [hv] at HTt
  clear hv
  have hq : ∀ w : World, (binOp .eql 29 (vVal k n s) (vVal k n s)).run Tryd.prog w = .ok (.bool true) w := fun w => (run_eql_val k n k n s s w).trans (by simp)
  have hg := fun u u' w => run_guard_val k n k n s s u u' w
  have hal := evW_below w x (k, n, s)
  have HAt := hide (fun w' => evW_at (w := w) (x := x) (v := (k, n, s)) (w' := w'))
  have HL := hide hal
  obtain ⟨kd, nm, xv, o, A, c, ts⟩ := x
  have HWE := hide (show evW w (.mk kd nm xv o A c ts) (k, n, s) = ((w.alloc (.cells (eCells kd nm xv o A ts.length c) 32)).alloc (.cells #[.int .i64 k, .int .i64 n, .string s] 29)).alloc (.cells #[.int .i64 0, .int .i64 0, .string ⟨#[]⟩] 29) from rfl)
  simp only [XT.kind, XT.name, XT.val, XT.op, XT.adr, XT.args, XT.cap] at *
  show Calls Tryd.prog 44 #[.agg (eCells kd nm xv o A ts.length c), .slice Ra vs.length cr, vVal k n s, .int .i64 _] w _
  generalize evW w (.mk kd nm xv o A c ts) (k, n, s) = W at *
  have HR0 := hide hR
  clear hal hR
  obtain ⟨b, off, rfl, hb, p0, p1, p2⟩ := HR0.out 1 (by omega)
  clear HR0
  rw [show vs.getD 1 (0, 0, ⟨#[]⟩) = vs.getD 1 d3 from rfl] at p0 p1 p2
  simp only [Nat.one_mul, Nat.add_assoc, Nat.reduceAdd] at p0 p1 p2
  have hl1 : ((1 : Int) < (vs.length : Int)) := by omega
  have hn1 : 1 < vs.length := by omega
  generalize vs.getD 1 d3 = d at *
  generalize vs.length = m at *
  clear hl
  have pc0 : (((w.alloc (.cells (eCells kd nm xv o A ts.length c) 32)).alloc (.cells #[.int .i64 k, .int .i64 n, .string s] 29)).alloc (.cells #[.int .i64 0, .int .i64 0, .string ⟨#[]⟩] 29)).cell? ⟨b, off + 3, none⟩ = some (.int .i64 d.1) := by rw [← HWE.out]; exact (HL.out.cell (p := ⟨b, off + 3, none⟩) hb).trans p0
  have pc1 : (((w.alloc (.cells (eCells kd nm xv o A ts.length c) 32)).alloc (.cells #[.int .i64 k, .int .i64 n, .string s] 29)).alloc (.cells #[.int .i64 0, .int .i64 0, .string ⟨#[]⟩] 29)).cell? ⟨b, off + 4, none⟩ = some (.int .i64 d.2.1) := by rw [← HWE.out]; exact (HL.out.cell (p := ⟨b, off + 4, none⟩) hb).trans p1
  have pc2 : (((w.alloc (.cells (eCells kd nm xv o A ts.length c) 32)).alloc (.cells #[.int .i64 k, .int .i64 n, .string s] 29)).alloc (.cells #[.int .i64 0, .int .i64 0, .string ⟨#[]⟩] 29)).cell? ⟨b, off + 5, none⟩ = some (.string d.2.2) := by rw [← HWE.out]; exact (HL.out.cell (p := ⟨b, off + 5, none⟩) hb).trans p2
  have HG := hide (fun w' (h : Below W.heap.size W w') => (⟨((HL.out.trans (h.mono HL.out.size)).cell (p := ⟨b, off + 3, none⟩) hb).trans p0, ((HL.out.trans (h.mono HL.out.size)).cell (p := ⟨b, off + 4, none⟩) hb).trans p1, ((HL.out.trans (h.mono HL.out.size)).cell (p := ⟨b, off + 5, none⟩) hb).trans p2⟩ : w'.cell? ⟨b, off + 3, none⟩ = some (.int .i64 d.1) ∧ w'.cell? ⟨b, off + 4, none⟩ = some (.int .i64 d.2.1) ∧ w'.cell? ⟨b, off + 5, none⟩ = some (.string d.2.2)))
  generalize trueV d = t at *
  go_enter Tryd.func44, Tryd.ntmps44
  go_wp2_with fail
  rw [← HWE.out]
  refine (HTr.out _).mono ?_
  rintro e w2 ⟨rfl, hbx⟩
  have HB2 := hide hbx
  clear hbx
  go_wp2_with fail
  refine (HTt.out _).mono ?_
  rintro e w3 ⟨rfl, hbx⟩
  have HB3 := hide (then_below HB2.out hbx)
  clear hbx
  obtain ⟨a0, a1, a2, a3, a4, a5, a6, b0, b1, b2, r0, r1, r2, f0, f1, f2, hz⟩ := HAt.out _ HB3.out
  obtain ⟨zp0, zp1, zp2⟩ := HG.out _ HB3.out
  go_wp2_with fail
  go_ret
  refine ⟨rfl, ?_⟩
  have hfin := HL.out.trans (HB3.out.mono HL.out.size)
  exact ((hfin.setCell (p := ⟨w.heap.size + 2, 0, none⟩) (by simp only; omega) _).setCell (p := ⟨w.heap.size + 2, 1, none⟩) (by simp only; omega) _).setCell (p := ⟨w.heap.size + 2, 2, none⟩) (by simp only; omega) _

set_option maxHeartbeats 3200000 in
set_option maxRecDepth 100000 in
theorem whole_isnull (x : XT) (Ra : Option Addr) (cr : Nat) (vs : List (Int × Int × ByteArray)) (k n : Int) (s : ByteArray) (xe : Int) (w : World) (hR : RowAt w.heap.size w Ra vs) (e1 : (x.op.toList == [97, 110, 100]) = false) (e2 : (x.op.toList == [111, 114]) = false) (e3 : (x.op.toList == [110, 111, 116]) = false) (k3 : (x.kind == 3) = false) (q0 : (x.op.toList == [61]) = false) (q1 : (x.op.toList == [33, 61]) = false) (q2 : (x.op.toList == [60]) = false) (q3 : (x.op.toList == [60, 61]) = false) (q4 : (x.op.toList == [62]) = false) (q5 : (x.op.toList == [62, 61]) = false) (k4 : (x.kind == 4) = false) (n1 : (x.name.toList == [105, 115, 110, 117, 108, 108]) = true) (hl : vs.length = 1) (hv : truthV ((vs.getD 0 d3).1 == 0) = (k, n, s)) (hx : xe = 0) :
    Calls Tryd.prog 44 #[vX x, .slice Ra vs.length cr, vVal k n s, .int .i64 xe] w fun e w' => e = .returned (.bool true) ∧ Below w.heap.size w w' := by
  subst hx
  have HTt := hide (fun w' => lawTruth_ok ((vs.getD 0 d3).1 == 0) w')
  rw [hv] at HTt
  clear hv
  have hq : ∀ w : World, (binOp .eql 29 (vVal k n s) (vVal k n s)).run Tryd.prog w = .ok (.bool true) w := fun w => (run_eql_val k n k n s s w).trans (by simp)
  have hg := fun u u' w => run_guard_val k n k n s s u u' w
  have hal := evW_below w x (k, n, s)
  have HAt := hide (fun w' => evW_at (w := w) (x := x) (v := (k, n, s)) (w' := w'))
  have HL := hide hal
  obtain ⟨kd, nm, xv, o, A, c, ts⟩ := x
  have HWE := hide (show evW w (.mk kd nm xv o A c ts) (k, n, s) = ((w.alloc (.cells (eCells kd nm xv o A ts.length c) 32)).alloc (.cells #[.int .i64 k, .int .i64 n, .string s] 29)).alloc (.cells #[.int .i64 0, .int .i64 0, .string ⟨#[]⟩] 29) from rfl)
  simp only [XT.kind, XT.name, XT.val, XT.op, XT.adr, XT.args, XT.cap] at *
  show Calls Tryd.prog 44 #[.agg (eCells kd nm xv o A ts.length c), .slice Ra vs.length cr, vVal k n s, .int .i64 _] w _
  generalize evW w (.mk kd nm xv o A c ts) (k, n, s) = W at *
  have HR0 := hide hR
  clear hal hR
  obtain ⟨b, off, rfl, hb, g0, g1, g2⟩ := HR0.out 0 (by omega)
  clear HR0
  rw [show vs.getD 0 (0, 0, ⟨#[]⟩) = vs.getD 0 d3 from rfl] at g0 g1 g2
  simp only [Nat.zero_mul, Nat.add_zero] at g0 g1 g2
  have hl0 : ((0 : Int) < (vs.length : Int)) := by omega
  have hn0 : 0 < vs.length := by omega
  generalize vs.getD 0 d3 = a at *
  generalize vs.length = m at *
  clear hl
  have gc0 : (((w.alloc (.cells (eCells kd nm xv o A ts.length c) 32)).alloc (.cells #[.int .i64 k, .int .i64 n, .string s] 29)).alloc (.cells #[.int .i64 0, .int .i64 0, .string ⟨#[]⟩] 29)).cell? ⟨b, off, none⟩ = some (.int .i64 a.1) := by rw [← HWE.out]; exact (HL.out.cell (p := ⟨b, off, none⟩) hb).trans g0
  have gc1 : (((w.alloc (.cells (eCells kd nm xv o A ts.length c) 32)).alloc (.cells #[.int .i64 k, .int .i64 n, .string s] 29)).alloc (.cells #[.int .i64 0, .int .i64 0, .string ⟨#[]⟩] 29)).cell? ⟨b, off + 1, none⟩ = some (.int .i64 a.2.1) := by rw [← HWE.out]; exact (HL.out.cell (p := ⟨b, off + 1, none⟩) hb).trans g1
  have gc2 : (((w.alloc (.cells (eCells kd nm xv o A ts.length c) 32)).alloc (.cells #[.int .i64 k, .int .i64 n, .string s] 29)).alloc (.cells #[.int .i64 0, .int .i64 0, .string ⟨#[]⟩] 29)).cell? ⟨b, off + 2, none⟩ = some (.string a.2.2) := by rw [← HWE.out]; exact (HL.out.cell (p := ⟨b, off + 2, none⟩) hb).trans g2
  have HG := hide (fun w' (h : Below W.heap.size W w') => (⟨((HL.out.trans (h.mono HL.out.size)).cell (p := ⟨b, off, none⟩) hb).trans g0, ((HL.out.trans (h.mono HL.out.size)).cell (p := ⟨b, off + 1, none⟩) hb).trans g1, ((HL.out.trans (h.mono HL.out.size)).cell (p := ⟨b, off + 2, none⟩) hb).trans g2⟩ : w'.cell? ⟨b, off, none⟩ = some (.int .i64 a.1) ∧ w'.cell? ⟨b, off + 1, none⟩ = some (.int .i64 a.2.1) ∧ w'.cell? ⟨b, off + 2, none⟩ = some (.string a.2.2)))
  go_enter Tryd.func44, Tryd.ntmps44
  go_wp2_with fail
  rw [← HWE.out]
  refine (HTt.out _).mono ?_
  rintro e w3 ⟨rfl, hbx⟩
  have HB3 := hide hbx
  clear hbx
  obtain ⟨a0, a1, a2, a3, a4, a5, a6, b0, b1, b2, r0, r1, r2, f0, f1, f2, hz⟩ := HAt.out _ HB3.out
  obtain ⟨zg0, zg1, zg2⟩ := HG.out _ HB3.out
  go_wp2_with fail
  go_ret
  refine ⟨rfl, ?_⟩
  have hfin := HL.out.trans (HB3.out.mono HL.out.size)
  exact ((hfin.setCell (p := ⟨w.heap.size + 2, 0, none⟩) (by simp only; omega) _).setCell (p := ⟨w.heap.size + 2, 1, none⟩) (by simp only; omega) _).setCell (p := ⟨w.heap.size + 2, 2, none⟩) (by simp only; omega) _

end Go.Proofs.YteenhmniikloiaaDoor
namespace Go.Proofs.YteenhmniikloiaaDoor
open Go.RowKit

set_option maxHeartbeats 3200000 in
set_option maxRecDepth 100000 in
theorem whole_neg (x : XT) (Ra : Option Addr) (cr : Nat) (vs : List (Int × Int × ByteArray)) (k n : Int) (s : ByteArray) (xe : Int) (w : World) (hR : RowAt w.heap.size w Ra vs) (e1 : (x.op.toList == [97, 110, 100]) = false) (e2 : (x.op.toList == [111, 114]) = false) (e3 : (x.op.toList == [110, 111, 116]) = false) (k3 : (x.kind == 3) = true) (hl : vs.length = 1) (hA : ∀ w, Calls Tryd.prog 64 #[.int .u8 45, vVal 1 0 ⟨#[]⟩, vVal (vs.getD 0 d3).1 (vs.getD 0 d3).2.1 (vs.getD 0 d3).2.2] w fun e w' => e = .returned (.tuple #[vVal k n s, .int .i64 xe]) ∧ Below w.heap.size w w') :
    Calls Tryd.prog 44 #[vX x, .slice Ra vs.length cr, vVal k n s, .int .i64 xe] w fun e w' => e = .returned (.bool true) ∧ Below w.heap.size w w' := by
  have HAr := hide hA
  clear hA
  have hq : ∀ w : World, (binOp .eql 29 (vVal k n s) (vVal k n s)).run Tryd.prog w = .ok (.bool true) w := fun w => (run_eql_val k n k n s s w).trans (by simp)
  have hg := fun u u' w => run_guard_val k n k n s s u u' w
  have hal := evW_below w x (k, n, s)
  have HAt := hide (fun w' => evW_at (w := w) (x := x) (v := (k, n, s)) (w' := w'))
  have HL := hide hal
  obtain ⟨kd, nm, xv, o, A, c, ts⟩ := x
  have HWE := hide (show evW w (.mk kd nm xv o A c ts) (k, n, s) = ((w.alloc (.cells (eCells kd nm xv o A ts.length c) 32)).alloc (.cells #[.int .i64 k, .int .i64 n, .string s] 29)).alloc (.cells #[.int .i64 0, .int .i64 0, .string ⟨#[]⟩] 29) from rfl)
  simp only [XT.kind, XT.name, XT.val, XT.op, XT.adr, XT.args, XT.cap] at *
  show Calls Tryd.prog 44 #[.agg (eCells kd nm xv o A ts.length c), .slice Ra vs.length cr, vVal k n s, .int .i64 _] w _
  generalize evW w (.mk kd nm xv o A c ts) (k, n, s) = W at *
  have HR0 := hide hR
  clear hal hR
  obtain ⟨b, off, rfl, hb, g0, g1, g2⟩ := HR0.out 0 (by omega)
  clear HR0
  rw [show vs.getD 0 (0, 0, ⟨#[]⟩) = vs.getD 0 d3 from rfl] at g0 g1 g2
  simp only [Nat.zero_mul, Nat.add_zero] at g0 g1 g2
  have hl0 : ((0 : Int) < (vs.length : Int)) := by omega
  have hn0 : 0 < vs.length := by omega
  generalize vs.getD 0 d3 = a at *
  generalize vs.length = m at *
  clear hl
  have gc0 : (((w.alloc (.cells (eCells kd nm xv o A ts.length c) 32)).alloc (.cells #[.int .i64 k, .int .i64 n, .string s] 29)).alloc (.cells #[.int .i64 0, .int .i64 0, .string ⟨#[]⟩] 29)).cell? ⟨b, off, none⟩ = some (.int .i64 a.1) := by rw [← HWE.out]; exact (HL.out.cell (p := ⟨b, off, none⟩) hb).trans g0
  have gc1 : (((w.alloc (.cells (eCells kd nm xv o A ts.length c) 32)).alloc (.cells #[.int .i64 k, .int .i64 n, .string s] 29)).alloc (.cells #[.int .i64 0, .int .i64 0, .string ⟨#[]⟩] 29)).cell? ⟨b, off + 1, none⟩ = some (.int .i64 a.2.1) := by rw [← HWE.out]; exact (HL.out.cell (p := ⟨b, off + 1, none⟩) hb).trans g1
  have gc2 : (((w.alloc (.cells (eCells kd nm xv o A ts.length c) 32)).alloc (.cells #[.int .i64 k, .int .i64 n, .string s] 29)).alloc (.cells #[.int .i64 0, .int .i64 0, .string ⟨#[]⟩] 29)).cell? ⟨b, off + 2, none⟩ = some (.string a.2.2) := by rw [← HWE.out]; exact (HL.out.cell (p := ⟨b, off + 2, none⟩) hb).trans g2
  have HG := hide (fun w' (h : Below W.heap.size W w') => (⟨((HL.out.trans (h.mono HL.out.size)).cell (p := ⟨b, off, none⟩) hb).trans g0, ((HL.out.trans (h.mono HL.out.size)).cell (p := ⟨b, off + 1, none⟩) hb).trans g1, ((HL.out.trans (h.mono HL.out.size)).cell (p := ⟨b, off + 2, none⟩) hb).trans g2⟩ : w'.cell? ⟨b, off, none⟩ = some (.int .i64 a.1) ∧ w'.cell? ⟨b, off + 1, none⟩ = some (.int .i64 a.2.1) ∧ w'.cell? ⟨b, off + 2, none⟩ = some (.string a.2.2)))
  go_enter Tryd.func44, Tryd.ntmps44
  go_wp2_with fail
  rw [← HWE.out]
  clear gc0 gc1 gc2
  obtain ⟨a0, a1, a2, a3, a4, a5, a6, b0, b1, b2, r0, r1, r2, f0, f1, f2, hz⟩ := HAt.out _ (Below.refl _ _)
  obtain ⟨zg0, zg1, zg2⟩ := HG.out _ (Below.refl _ _)
  have hD : Below W.heap.size W W.drew := (Below.refl _ _).drew
  clear g0 g1 g2
  focus
    (go_region_law (first
      | (go_simp; go_at_call 64; refine (HAr.out _).mono ?_; rintro e wB ⟨rfl, hbB⟩; have hB := then_below hA hbB; have ⟨Ba0, Ba1, Ba2, Ba3, Ba4, Ba5, Ba6, Bb0, Bb1, Bb2, Br0, Br1, Br2, Bf0, Bf1, Bf2, Bhz⟩ := HAt.out _ hB; clear hbB)
      | (go_simp; go_at_call 27; refine (of_any 0 _).mono ?_; rintro e wA ⟨rfl, hbA⟩; have hA := then_below hD hbA; have ⟨Ag0, Ag1, Ag2⟩ := HG.out _ hA; clear hbA)))
  all_goals
    go_wp2_with fail
    go_ret
    refine ⟨rfl, ?_⟩
    have hfin := HL.out.trans (hB.mono HL.out.size)
    exact ((hfin.setCell (p := ⟨w.heap.size + 2, 0, none⟩) (by simp only; omega) _).setCell (p := ⟨w.heap.size + 2, 1, none⟩) (by simp only; omega) _).setCell (p := ⟨w.heap.size + 2, 2, none⟩) (by simp only; omega) _

set_option maxHeartbeats 3200000 in
set_option maxRecDepth 100000 in
theorem whole_absneg (x : XT) (Ra : Option Addr) (cr : Nat) (vs : List (Int × Int × ByteArray)) (k n : Int) (s : ByteArray) (xe : Int) (w : World) (hR : RowAt w.heap.size w Ra vs) (e1 : (x.op.toList == [97, 110, 100]) = false) (e2 : (x.op.toList == [111, 114]) = false) (e3 : (x.op.toList == [110, 111, 116]) = false) (k3 : (x.kind == 3) = false) (q0 : (x.op.toList == [61]) = false) (q1 : (x.op.toList == [33, 61]) = false) (q2 : (x.op.toList == [60]) = false) (q3 : (x.op.toList == [60, 61]) = false) (q4 : (x.op.toList == [62]) = false) (q5 : (x.op.toList == [62, 61]) = false) (k4 : (x.kind == 4) = false) (n1 : (x.name.toList == [105, 115, 110, 117, 108, 108]) = false) (n2 : (x.name.toList == [101, 105, 116, 104, 101, 114]) = false) (n3 : (x.name.toList == [99, 97, 116]) = false) (n4 : (x.name.toList == [108, 101, 110]) = false) (n5 : (x.name.toList == [97, 98, 115]) = true) (hl : vs.length = 1) (h0 : ((vs.getD 0 d3).1 == 0) = false) (h1 : (vs.getD 0 d3).2.1 < 0) (hA : ∀ w, Calls Tryd.prog 64 #[.int .u8 45, vVal 1 0 ⟨#[]⟩, vVal (vs.getD 0 d3).1 (vs.getD 0 d3).2.1 (vs.getD 0 d3).2.2] w fun e w' => e = .returned (.tuple #[vVal k n s, .int .i64 xe]) ∧ Below w.heap.size w w') :
    Calls Tryd.prog 44 #[vX x, .slice Ra vs.length cr, vVal k n s, .int .i64 xe] w fun e w' => e = .returned (.bool true) ∧ Below w.heap.size w w' := by
  have HAr := hide hA
  clear hA
  have hq : ∀ w : World, (binOp .eql 29 (vVal k n s) (vVal k n s)).run Tryd.prog w = .ok (.bool true) w := fun w => (run_eql_val k n k n s s w).trans (by simp)
  have hg := fun u u' w => run_guard_val k n k n s s u u' w
  have hal := evW_below w x (k, n, s)
  have HAt := hide (fun w' => evW_at (w := w) (x := x) (v := (k, n, s)) (w' := w'))
  have HL := hide hal
  obtain ⟨kd, nm, xv, o, A, c, ts⟩ := x
  have HWE := hide (show evW w (.mk kd nm xv o A c ts) (k, n, s) = ((w.alloc (.cells (eCells kd nm xv o A ts.length c) 32)).alloc (.cells #[.int .i64 k, .int .i64 n, .string s] 29)).alloc (.cells #[.int .i64 0, .int .i64 0, .string ⟨#[]⟩] 29) from rfl)
  simp only [XT.kind, XT.name, XT.val, XT.op, XT.adr, XT.args, XT.cap] at *
  show Calls Tryd.prog 44 #[.agg (eCells kd nm xv o A ts.length c), .slice Ra vs.length cr, vVal k n s, .int .i64 _] w _
  generalize evW w (.mk kd nm xv o A c ts) (k, n, s) = W at *
  have HR0 := hide hR
  clear hal hR
  obtain ⟨b, off, rfl, hb, g0, g1, g2⟩ := HR0.out 0 (by omega)
  clear HR0
  rw [show vs.getD 0 (0, 0, ⟨#[]⟩) = vs.getD 0 d3 from rfl] at g0 g1 g2
  simp only [Nat.zero_mul, Nat.add_zero] at g0 g1 g2
  have hl0 : ((0 : Int) < (vs.length : Int)) := by omega
  have hn0 : 0 < vs.length := by omega
  generalize vs.getD 0 d3 = a at *
  generalize vs.length = m at *
  clear hl
  have gc0 : (((w.alloc (.cells (eCells kd nm xv o A ts.length c) 32)).alloc (.cells #[.int .i64 k, .int .i64 n, .string s] 29)).alloc (.cells #[.int .i64 0, .int .i64 0, .string ⟨#[]⟩] 29)).cell? ⟨b, off, none⟩ = some (.int .i64 a.1) := by rw [← HWE.out]; exact (HL.out.cell (p := ⟨b, off, none⟩) hb).trans g0
  have gc1 : (((w.alloc (.cells (eCells kd nm xv o A ts.length c) 32)).alloc (.cells #[.int .i64 k, .int .i64 n, .string s] 29)).alloc (.cells #[.int .i64 0, .int .i64 0, .string ⟨#[]⟩] 29)).cell? ⟨b, off + 1, none⟩ = some (.int .i64 a.2.1) := by rw [← HWE.out]; exact (HL.out.cell (p := ⟨b, off + 1, none⟩) hb).trans g1
  have gc2 : (((w.alloc (.cells (eCells kd nm xv o A ts.length c) 32)).alloc (.cells #[.int .i64 k, .int .i64 n, .string s] 29)).alloc (.cells #[.int .i64 0, .int .i64 0, .string ⟨#[]⟩] 29)).cell? ⟨b, off + 2, none⟩ = some (.string a.2.2) := by rw [← HWE.out]; exact (HL.out.cell (p := ⟨b, off + 2, none⟩) hb).trans g2
  have HG := hide (fun w' (h : Below W.heap.size W w') => (⟨((HL.out.trans (h.mono HL.out.size)).cell (p := ⟨b, off, none⟩) hb).trans g0, ((HL.out.trans (h.mono HL.out.size)).cell (p := ⟨b, off + 1, none⟩) hb).trans g1, ((HL.out.trans (h.mono HL.out.size)).cell (p := ⟨b, off + 2, none⟩) hb).trans g2⟩ : w'.cell? ⟨b, off, none⟩ = some (.int .i64 a.1) ∧ w'.cell? ⟨b, off + 1, none⟩ = some (.int .i64 a.2.1) ∧ w'.cell? ⟨b, off + 2, none⟩ = some (.string a.2.2)))
  go_enter Tryd.func44, Tryd.ntmps44
  go_wp2_with fail
  rw [← HWE.out]
  clear gc0 gc1 gc2
  obtain ⟨a0, a1, a2, a3, a4, a5, a6, b0, b1, b2, r0, r1, r2, f0, f1, f2, hz⟩ := HAt.out _ (Below.refl _ _)
  obtain ⟨zg0, zg1, zg2⟩ := HG.out _ (Below.refl _ _)
  have hD : Below W.heap.size W W.drew := (Below.refl _ _).drew
  clear g0 g1 g2
  focus
    (go_region_law (first
      | (go_simp; go_at_call 64; refine (HAr.out _).mono ?_; rintro e wB ⟨rfl, hbB⟩; have hB := then_below hA hbB; have ⟨Ba0, Ba1, Ba2, Ba3, Ba4, Ba5, Ba6, Bb0, Bb1, Bb2, Br0, Br1, Br2, Bf0, Bf1, Bf2, Bhz⟩ := HAt.out _ hB; clear hbB)
      | (go_simp; go_at_call 27; refine (of_any 0 _).mono ?_; rintro e wA ⟨rfl, hbA⟩; have hA := then_below hD hbA; have ⟨Ag0, Ag1, Ag2⟩ := HG.out _ hA; clear hbA)))
  all_goals
    go_wp2_with fail
    go_ret
    refine ⟨rfl, ?_⟩
    have hfin := HL.out.trans (hB.mono HL.out.size)
    exact ((hfin.setCell (p := ⟨w.heap.size + 2, 0, none⟩) (by simp only; omega) _).setCell (p := ⟨w.heap.size + 2, 1, none⟩) (by simp only; omega) _).setCell (p := ⟨w.heap.size + 2, 2, none⟩) (by simp only; omega) _

set_option maxHeartbeats 3200000 in
set_option maxRecDepth 100000 in
theorem whole_arith (x : XT) (Ra : Option Addr) (cr : Nat) (vs : List (Int × Int × ByteArray)) (k n : Int) (s : ByteArray) (xe : Int) (w : World) (hR : RowAt w.heap.size w Ra vs) (e1 : (x.op.toList == [97, 110, 100]) = false) (e2 : (x.op.toList == [111, 114]) = false) (e3 : (x.op.toList == [110, 111, 116]) = false) (k3 : (x.kind == 3) = false) (q0 : (x.op.toList == [61]) = false) (q1 : (x.op.toList == [33, 61]) = false) (q2 : (x.op.toList == [60]) = false) (q3 : (x.op.toList == [60, 61]) = false) (q4 : (x.op.toList == [62]) = false) (q5 : (x.op.toList == [62, 61]) = false) (k4 : (x.kind == 4) = true) (hl : vs.length = 2) (hop0 : 0 < x.op.size) (hA : ∀ w, Calls Tryd.prog 64 #[.int .u8 (byte0 x.op), vVal (vs.getD 0 d3).1 (vs.getD 0 d3).2.1 (vs.getD 0 d3).2.2, vVal (vs.getD 1 d3).1 (vs.getD 1 d3).2.1 (vs.getD 1 d3).2.2] w fun e w' => e = .returned (.tuple #[vVal k n s, .int .i64 xe]) ∧ Below w.heap.size w w') :
    Calls Tryd.prog 44 #[vX x, .slice Ra vs.length cr, vVal k n s, .int .i64 xe] w fun e w' => e = .returned (.bool true) ∧ Below w.heap.size w w' := by
  have HA0 := hide hA
  clear hA
  have hq : ∀ w : World, (binOp .eql 29 (vVal k n s) (vVal k n s)).run Tryd.prog w = .ok (.bool true) w := fun w => (run_eql_val k n k n s s w).trans (by simp)
  have hg := fun u u' w => run_guard_val k n k n s s u u' w
  have hal := evW_below w x (k, n, s)
  have HAt := hide (fun w' => evW_at (w := w) (x := x) (v := (k, n, s)) (w' := w'))
  have HL := hide hal
  obtain ⟨kd, nm, xv, o, A, c, ts⟩ := x
  have HWE := hide (show evW w (.mk kd nm xv o A c ts) (k, n, s) = ((w.alloc (.cells (eCells kd nm xv o A ts.length c) 32)).alloc (.cells #[.int .i64 k, .int .i64 n, .string s] 29)).alloc (.cells #[.int .i64 0, .int .i64 0, .string ⟨#[]⟩] 29) from rfl)
  simp only [XT.kind, XT.name, XT.val, XT.op, XT.adr, XT.args, XT.cap] at *
  show Calls Tryd.prog 44 #[.agg (eCells kd nm xv o A ts.length c), .slice Ra vs.length cr, vVal k n s, .int .i64 _] w _
  generalize evW w (.mk kd nm xv o A c ts) (k, n, s) = W at *
  have HR0 := hide hR
  clear hal hR
  have hop1 : 0 < o.size := hop0
  clear hop0
  have hbyte : byte0 o = (o[0].toNat : Int) := by unfold byte0; rw [getD_at o 0 hop1]
  have hA := HA0.out
  rw [hbyte] at hA
  have HAr := hide hA
  clear hA hbyte HA0
  obtain ⟨b, off, rfl, hb, g0, g1, g2⟩ := HR0.out 0 (by omega)
  obtain ⟨b', off', hbe, -, p0, p1, p2⟩ := HR0.out 1 (by omega)
  obtain ⟨rfl, rfl⟩ : b = b' ∧ off = off' := by injection hbe with e1; injection e1 with e2 e3 e4; exact ⟨e2, e3⟩
  clear hbe
  clear HR0
  rw [show vs.getD 0 (0, 0, ⟨#[]⟩) = vs.getD 0 d3 from rfl] at g0 g1 g2
  simp only [Nat.zero_mul, Nat.add_zero] at g0 g1 g2
  have hl0 : ((0 : Int) < (vs.length : Int)) := by omega
  have hn0 : 0 < vs.length := by omega
  rw [show vs.getD 1 (0, 0, ⟨#[]⟩) = vs.getD 1 d3 from rfl] at p0 p1 p2
  simp only [Nat.one_mul, Nat.add_assoc, Nat.reduceAdd] at p0 p1 p2
  have hl1 : ((1 : Int) < (vs.length : Int)) := by omega
  have hn1 : 1 < vs.length := by omega
  generalize vs.getD 0 d3 = a at *
  generalize vs.getD 1 d3 = d at *
  generalize vs.length = m at *
  clear hl
  have gc0 : (((w.alloc (.cells (eCells kd nm xv o A ts.length c) 32)).alloc (.cells #[.int .i64 k, .int .i64 n, .string s] 29)).alloc (.cells #[.int .i64 0, .int .i64 0, .string ⟨#[]⟩] 29)).cell? ⟨b, off, none⟩ = some (.int .i64 a.1) := by rw [← HWE.out]; exact (HL.out.cell (p := ⟨b, off, none⟩) hb).trans g0
  have gc1 : (((w.alloc (.cells (eCells kd nm xv o A ts.length c) 32)).alloc (.cells #[.int .i64 k, .int .i64 n, .string s] 29)).alloc (.cells #[.int .i64 0, .int .i64 0, .string ⟨#[]⟩] 29)).cell? ⟨b, off + 1, none⟩ = some (.int .i64 a.2.1) := by rw [← HWE.out]; exact (HL.out.cell (p := ⟨b, off + 1, none⟩) hb).trans g1
  have gc2 : (((w.alloc (.cells (eCells kd nm xv o A ts.length c) 32)).alloc (.cells #[.int .i64 k, .int .i64 n, .string s] 29)).alloc (.cells #[.int .i64 0, .int .i64 0, .string ⟨#[]⟩] 29)).cell? ⟨b, off + 2, none⟩ = some (.string a.2.2) := by rw [← HWE.out]; exact (HL.out.cell (p := ⟨b, off + 2, none⟩) hb).trans g2
  have pc0 : (((w.alloc (.cells (eCells kd nm xv o A ts.length c) 32)).alloc (.cells #[.int .i64 k, .int .i64 n, .string s] 29)).alloc (.cells #[.int .i64 0, .int .i64 0, .string ⟨#[]⟩] 29)).cell? ⟨b, off + 3, none⟩ = some (.int .i64 d.1) := by rw [← HWE.out]; exact (HL.out.cell (p := ⟨b, off + 3, none⟩) hb).trans p0
  have pc1 : (((w.alloc (.cells (eCells kd nm xv o A ts.length c) 32)).alloc (.cells #[.int .i64 k, .int .i64 n, .string s] 29)).alloc (.cells #[.int .i64 0, .int .i64 0, .string ⟨#[]⟩] 29)).cell? ⟨b, off + 4, none⟩ = some (.int .i64 d.2.1) := by rw [← HWE.out]; exact (HL.out.cell (p := ⟨b, off + 4, none⟩) hb).trans p1
  have pc2 : (((w.alloc (.cells (eCells kd nm xv o A ts.length c) 32)).alloc (.cells #[.int .i64 k, .int .i64 n, .string s] 29)).alloc (.cells #[.int .i64 0, .int .i64 0, .string ⟨#[]⟩] 29)).cell? ⟨b, off + 5, none⟩ = some (.string d.2.2) := by rw [← HWE.out]; exact (HL.out.cell (p := ⟨b, off + 5, none⟩) hb).trans p2
  have HG := hide (fun w' (h : Below W.heap.size W w') => (⟨((HL.out.trans (h.mono HL.out.size)).cell (p := ⟨b, off, none⟩) hb).trans g0, ((HL.out.trans (h.mono HL.out.size)).cell (p := ⟨b, off + 1, none⟩) hb).trans g1, ((HL.out.trans (h.mono HL.out.size)).cell (p := ⟨b, off + 2, none⟩) hb).trans g2, ((HL.out.trans (h.mono HL.out.size)).cell (p := ⟨b, off + 3, none⟩) hb).trans p0, ((HL.out.trans (h.mono HL.out.size)).cell (p := ⟨b, off + 4, none⟩) hb).trans p1, ((HL.out.trans (h.mono HL.out.size)).cell (p := ⟨b, off + 5, none⟩) hb).trans p2⟩ : w'.cell? ⟨b, off, none⟩ = some (.int .i64 a.1) ∧ w'.cell? ⟨b, off + 1, none⟩ = some (.int .i64 a.2.1) ∧ w'.cell? ⟨b, off + 2, none⟩ = some (.string a.2.2) ∧ w'.cell? ⟨b, off + 3, none⟩ = some (.int .i64 d.1) ∧ w'.cell? ⟨b, off + 4, none⟩ = some (.int .i64 d.2.1) ∧ w'.cell? ⟨b, off + 5, none⟩ = some (.string d.2.2)))
  go_enter Tryd.func44, Tryd.ntmps44
  go_wp2_with fail
  rw [← HWE.out]
  clear gc0 gc1 gc2 pc0 pc1 pc2
  obtain ⟨a0, a1, a2, a3, a4, a5, a6, b0, b1, b2, r0, r1, r2, f0, f1, f2, hz⟩ := HAt.out _ (Below.refl _ _)
  obtain ⟨zg0, zg1, zg2, zp0, zp1, zp2⟩ := HG.out _ (Below.refl _ _)
  have hD : Below W.heap.size W W.drew := (Below.refl _ _).drew
  clear g0 g1 g2 p0 p1 p2
  focus
    (go_region_law (first
      | (go_simp; go_at_call 64; refine (HAr.out _).mono ?_; rintro e wB ⟨rfl, hbB⟩; have hB := then_below hD hbB; have ⟨Ba0, Ba1, Ba2, Ba3, Ba4, Ba5, Ba6, Bb0, Bb1, Bb2, Br0, Br1, Br2, Bf0, Bf1, Bf2, Bhz⟩ := HAt.out _ hB; clear hbB)))
  all_goals
    go_wp2_with fail
    go_ret
    refine ⟨rfl, ?_⟩
    have hfin := HL.out.trans (hB.mono HL.out.size)
    exact ((hfin.setCell (p := ⟨w.heap.size + 2, 0, none⟩) (by simp only; omega) _).setCell (p := ⟨w.heap.size + 2, 1, none⟩) (by simp only; omega) _).setCell (p := ⟨w.heap.size + 2, 2, none⟩) (by simp only; omega) _

end Go.Proofs.YteenhmniikloiaaDoor
namespace Go.Proofs.YteenhmniikloiaaDoor
open Go.RowKit

set_option maxHeartbeats 3200000 in
set_option maxRecDepth 100000 in
theorem whole_either (x : XT) (Ra : Option Addr) (cr : Nat) (vs : List (Int × Int × ByteArray)) (k n : Int) (s : ByteArray) (xe : Int) (w : World) (hR : RowAt w.heap.size w Ra vs) (e1 : (x.op.toList == [97, 110, 100]) = false) (e2 : (x.op.toList == [111, 114]) = false) (e3 : (x.op.toList == [110, 111, 116]) = false) (k3 : (x.kind == 3) = false) (q0 : (x.op.toList == [61]) = false) (q1 : (x.op.toList == [33, 61]) = false) (q2 : (x.op.toList == [60]) = false) (q3 : (x.op.toList == [60, 61]) = false) (q4 : (x.op.toList == [62]) = false) (q5 : (x.op.toList == [62, 61]) = false) (k4 : (x.kind == 4) = false) (n1 : (x.name.toList == [105, 115, 110, 117, 108, 108]) = false) (n2 : (x.name.toList == [101, 105, 116, 104, 101, 114]) = true) (hl : vs.length = 2) (hv : vs.getD 1 d3 = (k, n, s)) (hx : xe = 0) :
    Calls Tryd.prog 44 #[vX x, .slice Ra vs.length cr, vVal k n s, .int .i64 xe] w fun e w' => e = .returned (.bool true) ∧ Below w.heap.size w w' := by
  subst hx
  have hq : ∀ w : World, (binOp .eql 29 (vVal k n s) (vVal k n s)).run Tryd.prog w = .ok (.bool true) w := fun w => (run_eql_val k n k n s s w).trans (by simp)
  have hg := fun u u' w => run_guard_val k n k n s s u u' w
  have hal := evW_below w x (k, n, s)
  have HAt := hide (fun w' => evW_at (w := w) (x := x) (v := (k, n, s)) (w' := w'))
  have HL := hide hal
  obtain ⟨kd, nm, xv, o, A, c, ts⟩ := x
  have HWE := hide (show evW w (.mk kd nm xv o A c ts) (k, n, s) = ((w.alloc (.cells (eCells kd nm xv o A ts.length c) 32)).alloc (.cells #[.int .i64 k, .int .i64 n, .string s] 29)).alloc (.cells #[.int .i64 0, .int .i64 0, .string ⟨#[]⟩] 29) from rfl)
  simp only [XT.kind, XT.name, XT.val, XT.op, XT.adr, XT.args, XT.cap] at *
  show Calls Tryd.prog 44 #[.agg (eCells kd nm xv o A ts.length c), .slice Ra vs.length cr, vVal k n s, .int .i64 _] w _
  generalize evW w (.mk kd nm xv o A c ts) (k, n, s) = W at *
  have HR0 := hide hR
  clear hal hR
  obtain ⟨b, off, rfl, hb, p0, p1, p2⟩ := HR0.out 1 (by omega)
  clear HR0
  rw [show vs.getD 1 (0, 0, ⟨#[]⟩) = vs.getD 1 d3 from rfl] at p0 p1 p2
  simp only [Nat.one_mul, Nat.add_assoc, Nat.reduceAdd] at p0 p1 p2
  have hl1 : ((1 : Int) < (vs.length : Int)) := by omega
  have hn1 : 1 < vs.length := by omega
  generalize vs.getD 1 d3 = d at *
  generalize vs.length = m at *
  clear hl
  subst hv
  simp only at *
  have pc0 : (((w.alloc (.cells (eCells kd nm xv o A ts.length c) 32)).alloc (.cells #[.int .i64 k, .int .i64 n, .string s] 29)).alloc (.cells #[.int .i64 0, .int .i64 0, .string ⟨#[]⟩] 29)).cell? ⟨b, off + 3, none⟩ = some (.int .i64 k) := by rw [← HWE.out]; exact (HL.out.cell (p := ⟨b, off + 3, none⟩) hb).trans p0
  have pc1 : (((w.alloc (.cells (eCells kd nm xv o A ts.length c) 32)).alloc (.cells #[.int .i64 k, .int .i64 n, .string s] 29)).alloc (.cells #[.int .i64 0, .int .i64 0, .string ⟨#[]⟩] 29)).cell? ⟨b, off + 4, none⟩ = some (.int .i64 n) := by rw [← HWE.out]; exact (HL.out.cell (p := ⟨b, off + 4, none⟩) hb).trans p1
  have pc2 : (((w.alloc (.cells (eCells kd nm xv o A ts.length c) 32)).alloc (.cells #[.int .i64 k, .int .i64 n, .string s] 29)).alloc (.cells #[.int .i64 0, .int .i64 0, .string ⟨#[]⟩] 29)).cell? ⟨b, off + 5, none⟩ = some (.string s) := by rw [← HWE.out]; exact (HL.out.cell (p := ⟨b, off + 5, none⟩) hb).trans p2
  have HG := hide (fun w' (h : Below W.heap.size W w') => (⟨((HL.out.trans (h.mono HL.out.size)).cell (p := ⟨b, off + 3, none⟩) hb).trans p0, ((HL.out.trans (h.mono HL.out.size)).cell (p := ⟨b, off + 4, none⟩) hb).trans p1, ((HL.out.trans (h.mono HL.out.size)).cell (p := ⟨b, off + 5, none⟩) hb).trans p2⟩ : w'.cell? ⟨b, off + 3, none⟩ = some (.int .i64 k) ∧ w'.cell? ⟨b, off + 4, none⟩ = some (.int .i64 n) ∧ w'.cell? ⟨b, off + 5, none⟩ = some (.string s)))
  go_enter Tryd.func44, Tryd.ntmps44
  go_wp2_with fail
  go_ret
  exact ⟨rfl, by go_grown⟩

set_option maxHeartbeats 3200000 in
set_option maxRecDepth 100000 in
theorem whole_null0 (x : XT) (Ra : Option Addr) (cr : Nat) (vs : List (Int × Int × ByteArray)) (w : World) (hR : RowAt w.heap.size w Ra vs) (e1 : (x.op.toList == [97, 110, 100]) = false) (e2 : (x.op.toList == [111, 114]) = false) (e3 : (x.op.toList == [110, 111, 116]) = false) (k3 : (x.kind == 3) = false) (q0 : (x.op.toList == [61]) = false) (q1 : (x.op.toList == [33, 61]) = false) (q2 : (x.op.toList == [60]) = false) (q3 : (x.op.toList == [60, 61]) = false) (q4 : (x.op.toList == [62]) = false) (q5 : (x.op.toList == [62, 61]) = false) (k4 : (x.kind == 4) = false) (n1 : (x.name.toList == [105, 115, 110, 117, 108, 108]) = false) (n2 : (x.name.toList == [101, 105, 116, 104, 101, 114]) = false) (hl : 0 < vs.length) (h0 : ((vs.getD 0 d3).1 == 0) = true) :
    Calls Tryd.prog 44 #[vX x, .slice Ra vs.length cr, vVal 0 0 ⟨#[]⟩, .int .i64 0] w fun e w' => e = .returned (.bool true) ∧ Below w.heap.size w w' := by
  have hq : ∀ w : World, (binOp .eql 29 (vVal 0 0 ⟨#[]⟩) (vVal 0 0 ⟨#[]⟩)).run Tryd.prog w = .ok (.bool true) w := fun w => (run_eql_val 0 0 0 0 ⟨#[]⟩ ⟨#[]⟩ w).trans (by simp)
  have hg := fun u u' w => run_guard_val 0 0 0 0 ⟨#[]⟩ ⟨#[]⟩ u u' w
  have hal := evW_below w x (0, 0, ⟨#[]⟩)
  have HAt := hide (fun w' => evW_at (w := w) (x := x) (v := (0, 0, ⟨#[]⟩)) (w' := w'))
  have HL := hide hal
  obtain ⟨kd, nm, xv, o, A, c, ts⟩ := x
  have HWE := hide (show evW w (.mk kd nm xv o A c ts) (0, 0, ⟨#[]⟩) = ((w.alloc (.cells (eCells kd nm xv o A ts.length c) 32)).alloc (.cells #[.int .i64 0, .int .i64 0, .string ⟨#[]⟩] 29)).alloc (.cells #[.int .i64 0, .int .i64 0, .string ⟨#[]⟩] 29) from rfl)
  simp only [XT.kind, XT.name, XT.val, XT.op, XT.adr, XT.args, XT.cap] at *
  show Calls Tryd.prog 44 #[.agg (eCells kd nm xv o A ts.length c), .slice Ra vs.length cr, vVal 0 0 ⟨#[]⟩, .int .i64 _] w _
  generalize evW w (.mk kd nm xv o A c ts) (0, 0, ⟨#[]⟩) = W at *
  have HR0 := hide hR
  clear hal hR
  obtain ⟨b, off, rfl, hb, g0, g1, g2⟩ := HR0.out 0 (by omega)
  clear HR0
  rw [show vs.getD 0 (0, 0, ⟨#[]⟩) = vs.getD 0 d3 from rfl] at g0 g1 g2
  simp only [Nat.zero_mul, Nat.add_zero] at g0 g1 g2
  have hl0 : ((0 : Int) < (vs.length : Int)) := by omega
  have hn0 : 0 < vs.length := by omega
  generalize vs.getD 0 d3 = a at *
  generalize vs.length = m at *
  clear hl
  have gc0 : (((w.alloc (.cells (eCells kd nm xv o A ts.length c) 32)).alloc (.cells #[.int .i64 0, .int .i64 0, .string ⟨#[]⟩] 29)).alloc (.cells #[.int .i64 0, .int .i64 0, .string ⟨#[]⟩] 29)).cell? ⟨b, off, none⟩ = some (.int .i64 a.1) := by rw [← HWE.out]; exact (HL.out.cell (p := ⟨b, off, none⟩) hb).trans g0
  have gc1 : (((w.alloc (.cells (eCells kd nm xv o A ts.length c) 32)).alloc (.cells #[.int .i64 0, .int .i64 0, .string ⟨#[]⟩] 29)).alloc (.cells #[.int .i64 0, .int .i64 0, .string ⟨#[]⟩] 29)).cell? ⟨b, off + 1, none⟩ = some (.int .i64 a.2.1) := by rw [← HWE.out]; exact (HL.out.cell (p := ⟨b, off + 1, none⟩) hb).trans g1
  have gc2 : (((w.alloc (.cells (eCells kd nm xv o A ts.length c) 32)).alloc (.cells #[.int .i64 0, .int .i64 0, .string ⟨#[]⟩] 29)).alloc (.cells #[.int .i64 0, .int .i64 0, .string ⟨#[]⟩] 29)).cell? ⟨b, off + 2, none⟩ = some (.string a.2.2) := by rw [← HWE.out]; exact (HL.out.cell (p := ⟨b, off + 2, none⟩) hb).trans g2
  have HG := hide (fun w' (h : Below W.heap.size W w') => (⟨((HL.out.trans (h.mono HL.out.size)).cell (p := ⟨b, off, none⟩) hb).trans g0, ((HL.out.trans (h.mono HL.out.size)).cell (p := ⟨b, off + 1, none⟩) hb).trans g1, ((HL.out.trans (h.mono HL.out.size)).cell (p := ⟨b, off + 2, none⟩) hb).trans g2⟩ : w'.cell? ⟨b, off, none⟩ = some (.int .i64 a.1) ∧ w'.cell? ⟨b, off + 1, none⟩ = some (.int .i64 a.2.1) ∧ w'.cell? ⟨b, off + 2, none⟩ = some (.string a.2.2)))
  go_enter Tryd.func44, Tryd.ntmps44
  go_wp2_with fail
  go_ret
  exact ⟨rfl, by go_grown⟩

set_option maxHeartbeats 3200000 in
set_option maxRecDepth 100000 in
theorem whole_null1 (x : XT) (Ra : Option Addr) (cr : Nat) (vs : List (Int × Int × ByteArray)) (w : World) (hR : RowAt w.heap.size w Ra vs) (e1 : (x.op.toList == [97, 110, 100]) = false) (e2 : (x.op.toList == [111, 114]) = false) (e3 : (x.op.toList == [110, 111, 116]) = false) (k3 : (x.kind == 3) = false) (q0 : (x.op.toList == [61]) = false) (q1 : (x.op.toList == [33, 61]) = false) (q2 : (x.op.toList == [60]) = false) (q3 : (x.op.toList == [60, 61]) = false) (q4 : (x.op.toList == [62]) = false) (q5 : (x.op.toList == [62, 61]) = false) (k4 : (x.kind == 4) = false) (n1 : (x.name.toList == [105, 115, 110, 117, 108, 108]) = false) (n2 : (x.name.toList == [101, 105, 116, 104, 101, 114]) = false) (n3 : (x.name.toList == [99, 97, 116]) = true) (hl : vs.length = 2) (h0 : ((vs.getD 0 d3).1 == 0) = false) (h1 : ((vs.getD 1 d3).1 == 0) = true) :
    Calls Tryd.prog 44 #[vX x, .slice Ra vs.length cr, vVal 0 0 ⟨#[]⟩, .int .i64 0] w fun e w' => e = .returned (.bool true) ∧ Below w.heap.size w w' := by
  have hq : ∀ w : World, (binOp .eql 29 (vVal 0 0 ⟨#[]⟩) (vVal 0 0 ⟨#[]⟩)).run Tryd.prog w = .ok (.bool true) w := fun w => (run_eql_val 0 0 0 0 ⟨#[]⟩ ⟨#[]⟩ w).trans (by simp)
  have hg := fun u u' w => run_guard_val 0 0 0 0 ⟨#[]⟩ ⟨#[]⟩ u u' w
  have hal := evW_below w x (0, 0, ⟨#[]⟩)
  have HAt := hide (fun w' => evW_at (w := w) (x := x) (v := (0, 0, ⟨#[]⟩)) (w' := w'))
  have HL := hide hal
  obtain ⟨kd, nm, xv, o, A, c, ts⟩ := x
  have HWE := hide (show evW w (.mk kd nm xv o A c ts) (0, 0, ⟨#[]⟩) = ((w.alloc (.cells (eCells kd nm xv o A ts.length c) 32)).alloc (.cells #[.int .i64 0, .int .i64 0, .string ⟨#[]⟩] 29)).alloc (.cells #[.int .i64 0, .int .i64 0, .string ⟨#[]⟩] 29) from rfl)
  simp only [XT.kind, XT.name, XT.val, XT.op, XT.adr, XT.args, XT.cap] at *
  show Calls Tryd.prog 44 #[.agg (eCells kd nm xv o A ts.length c), .slice Ra vs.length cr, vVal 0 0 ⟨#[]⟩, .int .i64 _] w _
  generalize evW w (.mk kd nm xv o A c ts) (0, 0, ⟨#[]⟩) = W at *
  have HR0 := hide hR
  clear hal hR
  obtain ⟨b, off, rfl, hb, g0, g1, g2⟩ := HR0.out 0 (by omega)
  obtain ⟨b', off', hbe, -, p0, p1, p2⟩ := HR0.out 1 (by omega)
  obtain ⟨rfl, rfl⟩ : b = b' ∧ off = off' := by injection hbe with e1; injection e1 with e2 e3 e4; exact ⟨e2, e3⟩
  clear hbe
  clear HR0
  rw [show vs.getD 0 (0, 0, ⟨#[]⟩) = vs.getD 0 d3 from rfl] at g0 g1 g2
  simp only [Nat.zero_mul, Nat.add_zero] at g0 g1 g2
  have hl0 : ((0 : Int) < (vs.length : Int)) := by omega
  have hn0 : 0 < vs.length := by omega
  rw [show vs.getD 1 (0, 0, ⟨#[]⟩) = vs.getD 1 d3 from rfl] at p0 p1 p2
  simp only [Nat.one_mul, Nat.add_assoc, Nat.reduceAdd] at p0 p1 p2
  have hl1 : ((1 : Int) < (vs.length : Int)) := by omega
  have hn1 : 1 < vs.length := by omega
  generalize vs.getD 0 d3 = a at *
  generalize vs.getD 1 d3 = d at *
  generalize vs.length = m at *
  clear hl
  have gc0 : (((w.alloc (.cells (eCells kd nm xv o A ts.length c) 32)).alloc (.cells #[.int .i64 0, .int .i64 0, .string ⟨#[]⟩] 29)).alloc (.cells #[.int .i64 0, .int .i64 0, .string ⟨#[]⟩] 29)).cell? ⟨b, off, none⟩ = some (.int .i64 a.1) := by rw [← HWE.out]; exact (HL.out.cell (p := ⟨b, off, none⟩) hb).trans g0
  have gc1 : (((w.alloc (.cells (eCells kd nm xv o A ts.length c) 32)).alloc (.cells #[.int .i64 0, .int .i64 0, .string ⟨#[]⟩] 29)).alloc (.cells #[.int .i64 0, .int .i64 0, .string ⟨#[]⟩] 29)).cell? ⟨b, off + 1, none⟩ = some (.int .i64 a.2.1) := by rw [← HWE.out]; exact (HL.out.cell (p := ⟨b, off + 1, none⟩) hb).trans g1
  have gc2 : (((w.alloc (.cells (eCells kd nm xv o A ts.length c) 32)).alloc (.cells #[.int .i64 0, .int .i64 0, .string ⟨#[]⟩] 29)).alloc (.cells #[.int .i64 0, .int .i64 0, .string ⟨#[]⟩] 29)).cell? ⟨b, off + 2, none⟩ = some (.string a.2.2) := by rw [← HWE.out]; exact (HL.out.cell (p := ⟨b, off + 2, none⟩) hb).trans g2
  have pc0 : (((w.alloc (.cells (eCells kd nm xv o A ts.length c) 32)).alloc (.cells #[.int .i64 0, .int .i64 0, .string ⟨#[]⟩] 29)).alloc (.cells #[.int .i64 0, .int .i64 0, .string ⟨#[]⟩] 29)).cell? ⟨b, off + 3, none⟩ = some (.int .i64 d.1) := by rw [← HWE.out]; exact (HL.out.cell (p := ⟨b, off + 3, none⟩) hb).trans p0
  have pc1 : (((w.alloc (.cells (eCells kd nm xv o A ts.length c) 32)).alloc (.cells #[.int .i64 0, .int .i64 0, .string ⟨#[]⟩] 29)).alloc (.cells #[.int .i64 0, .int .i64 0, .string ⟨#[]⟩] 29)).cell? ⟨b, off + 4, none⟩ = some (.int .i64 d.2.1) := by rw [← HWE.out]; exact (HL.out.cell (p := ⟨b, off + 4, none⟩) hb).trans p1
  have pc2 : (((w.alloc (.cells (eCells kd nm xv o A ts.length c) 32)).alloc (.cells #[.int .i64 0, .int .i64 0, .string ⟨#[]⟩] 29)).alloc (.cells #[.int .i64 0, .int .i64 0, .string ⟨#[]⟩] 29)).cell? ⟨b, off + 5, none⟩ = some (.string d.2.2) := by rw [← HWE.out]; exact (HL.out.cell (p := ⟨b, off + 5, none⟩) hb).trans p2
  have HG := hide (fun w' (h : Below W.heap.size W w') => (⟨((HL.out.trans (h.mono HL.out.size)).cell (p := ⟨b, off, none⟩) hb).trans g0, ((HL.out.trans (h.mono HL.out.size)).cell (p := ⟨b, off + 1, none⟩) hb).trans g1, ((HL.out.trans (h.mono HL.out.size)).cell (p := ⟨b, off + 2, none⟩) hb).trans g2, ((HL.out.trans (h.mono HL.out.size)).cell (p := ⟨b, off + 3, none⟩) hb).trans p0, ((HL.out.trans (h.mono HL.out.size)).cell (p := ⟨b, off + 4, none⟩) hb).trans p1, ((HL.out.trans (h.mono HL.out.size)).cell (p := ⟨b, off + 5, none⟩) hb).trans p2⟩ : w'.cell? ⟨b, off, none⟩ = some (.int .i64 a.1) ∧ w'.cell? ⟨b, off + 1, none⟩ = some (.int .i64 a.2.1) ∧ w'.cell? ⟨b, off + 2, none⟩ = some (.string a.2.2) ∧ w'.cell? ⟨b, off + 3, none⟩ = some (.int .i64 d.1) ∧ w'.cell? ⟨b, off + 4, none⟩ = some (.int .i64 d.2.1) ∧ w'.cell? ⟨b, off + 5, none⟩ = some (.string d.2.2)))
  go_enter Tryd.func44, Tryd.ntmps44
  go_wp2_with fail
  go_ret
  exact ⟨rfl, by go_grown⟩

set_option maxHeartbeats 3200000 in
set_option maxRecDepth 100000 in
theorem whole_abs (x : XT) (Ra : Option Addr) (cr : Nat) (vs : List (Int × Int × ByteArray)) (k n : Int) (s : ByteArray) (xe : Int) (w : World) (hR : RowAt w.heap.size w Ra vs) (e1 : (x.op.toList == [97, 110, 100]) = false) (e2 : (x.op.toList == [111, 114]) = false) (e3 : (x.op.toList == [110, 111, 116]) = false) (k3 : (x.kind == 3) = false) (q0 : (x.op.toList == [61]) = false) (q1 : (x.op.toList == [33, 61]) = false) (q2 : (x.op.toList == [60]) = false) (q3 : (x.op.toList == [60, 61]) = false) (q4 : (x.op.toList == [62]) = false) (q5 : (x.op.toList == [62, 61]) = false) (k4 : (x.kind == 4) = false) (n1 : (x.name.toList == [105, 115, 110, 117, 108, 108]) = false) (n2 : (x.name.toList == [101, 105, 116, 104, 101, 114]) = false) (n3 : (x.name.toList == [99, 97, 116]) = false) (n4 : (x.name.toList == [108, 101, 110]) = false) (n5 : (x.name.toList == [97, 98, 115]) = true) (hl : vs.length = 1) (h0 : ((vs.getD 0 d3).1 == 0) = false) (h1 : ¬ (vs.getD 0 d3).2.1 < 0) (hv : vs.getD 0 d3 = (k, n, s)) (hx : xe = 0) :
    Calls Tryd.prog 44 #[vX x, .slice Ra vs.length cr, vVal k n s, .int .i64 xe] w fun e w' => e = .returned (.bool true) ∧ Below w.heap.size w w' := by
  subst hx
  have hq : ∀ w : World, (binOp .eql 29 (vVal k n s) (vVal k n s)).run Tryd.prog w = .ok (.bool true) w := fun w => (run_eql_val k n k n s s w).trans (by simp)
  have hg := fun u u' w => run_guard_val k n k n s s u u' w
  have hal := evW_below w x (k, n, s)
  have HAt := hide (fun w' => evW_at (w := w) (x := x) (v := (k, n, s)) (w' := w'))
  have HL := hide hal
  obtain ⟨kd, nm, xv, o, A, c, ts⟩ := x
  have HWE := hide (show evW w (.mk kd nm xv o A c ts) (k, n, s) = ((w.alloc (.cells (eCells kd nm xv o A ts.length c) 32)).alloc (.cells #[.int .i64 k, .int .i64 n, .string s] 29)).alloc (.cells #[.int .i64 0, .int .i64 0, .string ⟨#[]⟩] 29) from rfl)
  simp only [XT.kind, XT.name, XT.val, XT.op, XT.adr, XT.args, XT.cap] at *
  show Calls Tryd.prog 44 #[.agg (eCells kd nm xv o A ts.length c), .slice Ra vs.length cr, vVal k n s, .int .i64 _] w _
  generalize evW w (.mk kd nm xv o A c ts) (k, n, s) = W at *
  have HR0 := hide hR
  clear hal hR
  obtain ⟨b, off, rfl, hb, g0, g1, g2⟩ := HR0.out 0 (by omega)
  clear HR0
  rw [show vs.getD 0 (0, 0, ⟨#[]⟩) = vs.getD 0 d3 from rfl] at g0 g1 g2
  simp only [Nat.zero_mul, Nat.add_zero] at g0 g1 g2
  have hl0 : ((0 : Int) < (vs.length : Int)) := by omega
  have hn0 : 0 < vs.length := by omega
  generalize vs.getD 0 d3 = a at *
  generalize vs.length = m at *
  clear hl
  subst hv
  simp only at *
  have gc0 : (((w.alloc (.cells (eCells kd nm xv o A ts.length c) 32)).alloc (.cells #[.int .i64 k, .int .i64 n, .string s] 29)).alloc (.cells #[.int .i64 0, .int .i64 0, .string ⟨#[]⟩] 29)).cell? ⟨b, off, none⟩ = some (.int .i64 k) := by rw [← HWE.out]; exact (HL.out.cell (p := ⟨b, off, none⟩) hb).trans g0
  have gc1 : (((w.alloc (.cells (eCells kd nm xv o A ts.length c) 32)).alloc (.cells #[.int .i64 k, .int .i64 n, .string s] 29)).alloc (.cells #[.int .i64 0, .int .i64 0, .string ⟨#[]⟩] 29)).cell? ⟨b, off + 1, none⟩ = some (.int .i64 n) := by rw [← HWE.out]; exact (HL.out.cell (p := ⟨b, off + 1, none⟩) hb).trans g1
  have gc2 : (((w.alloc (.cells (eCells kd nm xv o A ts.length c) 32)).alloc (.cells #[.int .i64 k, .int .i64 n, .string s] 29)).alloc (.cells #[.int .i64 0, .int .i64 0, .string ⟨#[]⟩] 29)).cell? ⟨b, off + 2, none⟩ = some (.string s) := by rw [← HWE.out]; exact (HL.out.cell (p := ⟨b, off + 2, none⟩) hb).trans g2
  have HG := hide (fun w' (h : Below W.heap.size W w') => (⟨((HL.out.trans (h.mono HL.out.size)).cell (p := ⟨b, off, none⟩) hb).trans g0, ((HL.out.trans (h.mono HL.out.size)).cell (p := ⟨b, off + 1, none⟩) hb).trans g1, ((HL.out.trans (h.mono HL.out.size)).cell (p := ⟨b, off + 2, none⟩) hb).trans g2⟩ : w'.cell? ⟨b, off, none⟩ = some (.int .i64 k) ∧ w'.cell? ⟨b, off + 1, none⟩ = some (.int .i64 n) ∧ w'.cell? ⟨b, off + 2, none⟩ = some (.string s)))
  go_enter Tryd.func44, Tryd.ntmps44
  go_wp2_with fail
  go_ret
  exact ⟨rfl, by go_grown⟩

set_option maxHeartbeats 3200000 in
set_option maxRecDepth 100000 in
theorem whole_len (x : XT) (Ra : Option Addr) (cr : Nat) (vs : List (Int × Int × ByteArray)) (k n : Int) (s : ByteArray) (xe : Int) (w : World) (hR : RowAt w.heap.size w Ra vs) (e1 : (x.op.toList == [97, 110, 100]) = false) (e2 : (x.op.toList == [111, 114]) = false) (e3 : (x.op.toList == [110, 111, 116]) = false) (k3 : (x.kind == 3) = false) (q0 : (x.op.toList == [61]) = false) (q1 : (x.op.toList == [33, 61]) = false) (q2 : (x.op.toList == [60]) = false) (q3 : (x.op.toList == [60, 61]) = false) (q4 : (x.op.toList == [62]) = false) (q5 : (x.op.toList == [62, 61]) = false) (k4 : (x.kind == 4) = false) (n1 : (x.name.toList == [105, 115, 110, 117, 108, 108]) = false) (n2 : (x.name.toList == [101, 105, 116, 104, 101, 114]) = false) (n3 : (x.name.toList == [99, 97, 116]) = false) (n4 : (x.name.toList == [108, 101, 110]) = true) (hl : vs.length = 1) (h0 : ((vs.getD 0 d3).1 == 0) = false) (hv : ((1, ((vs.getD 0 d3).2.2.size : Int), ⟨#[]⟩) : Int × Int × ByteArray) = (k, n, s)) (hx : xe = 0) :
    Calls Tryd.prog 44 #[vX x, .slice Ra vs.length cr, vVal k n s, .int .i64 xe] w fun e w' => e = .returned (.bool true) ∧ Below w.heap.size w w' := by
  subst hx
  have HOf := hide (show ∀ w', Calls Tryd.prog 27 #[.int .i64 ((vs.getD 0 d3).2.2.size : Nat)] w' fun e w1 => e = .returned (vVal k n s) ∧ Below w'.heap.size w' w1 from fun w' => by
    injection hv with h1 h2; injection h2 with h2 h3
    subst h1 h2 h3
    exact of_any _ w')
  clear hv
  have hq : ∀ w : World, (binOp .eql 29 (vVal k n s) (vVal k n s)).run Tryd.prog w = .ok (.bool true) w := fun w => (run_eql_val k n k n s s w).trans (by simp)
  have hg := fun u u' w => run_guard_val k n k n s s u u' w
  have hal := evW_below w x (k, n, s)
  have HAt := hide (fun w' => evW_at (w := w) (x := x) (v := (k, n, s)) (w' := w'))
  have HL := hide hal
  obtain ⟨kd, nm, xv, o, A, c, ts⟩ := x
  have HWE := hide (show evW w (.mk kd nm xv o A c ts) (k, n, s) = ((w.alloc (.cells (eCells kd nm xv o A ts.length c) 32)).alloc (.cells #[.int .i64 k, .int .i64 n, .string s] 29)).alloc (.cells #[.int .i64 0, .int .i64 0, .string ⟨#[]⟩] 29) from rfl)
  simp only [XT.kind, XT.name, XT.val, XT.op, XT.adr, XT.args, XT.cap] at *
  show Calls Tryd.prog 44 #[.agg (eCells kd nm xv o A ts.length c), .slice Ra vs.length cr, vVal k n s, .int .i64 _] w _
  generalize evW w (.mk kd nm xv o A c ts) (k, n, s) = W at *
  have HR0 := hide hR
  clear hal hR
  obtain ⟨b, off, rfl, hb, g0, g1, g2⟩ := HR0.out 0 (by omega)
  clear HR0
  rw [show vs.getD 0 (0, 0, ⟨#[]⟩) = vs.getD 0 d3 from rfl] at g0 g1 g2
  simp only [Nat.zero_mul, Nat.add_zero] at g0 g1 g2
  have hl0 : ((0 : Int) < (vs.length : Int)) := by omega
  have hn0 : 0 < vs.length := by omega
  generalize vs.getD 0 d3 = a at *
  generalize vs.length = m at *
  clear hl
  have gc0 : (((w.alloc (.cells (eCells kd nm xv o A ts.length c) 32)).alloc (.cells #[.int .i64 k, .int .i64 n, .string s] 29)).alloc (.cells #[.int .i64 0, .int .i64 0, .string ⟨#[]⟩] 29)).cell? ⟨b, off, none⟩ = some (.int .i64 a.1) := by rw [← HWE.out]; exact (HL.out.cell (p := ⟨b, off, none⟩) hb).trans g0
  have gc1 : (((w.alloc (.cells (eCells kd nm xv o A ts.length c) 32)).alloc (.cells #[.int .i64 k, .int .i64 n, .string s] 29)).alloc (.cells #[.int .i64 0, .int .i64 0, .string ⟨#[]⟩] 29)).cell? ⟨b, off + 1, none⟩ = some (.int .i64 a.2.1) := by rw [← HWE.out]; exact (HL.out.cell (p := ⟨b, off + 1, none⟩) hb).trans g1
  have gc2 : (((w.alloc (.cells (eCells kd nm xv o A ts.length c) 32)).alloc (.cells #[.int .i64 k, .int .i64 n, .string s] 29)).alloc (.cells #[.int .i64 0, .int .i64 0, .string ⟨#[]⟩] 29)).cell? ⟨b, off + 2, none⟩ = some (.string a.2.2) := by rw [← HWE.out]; exact (HL.out.cell (p := ⟨b, off + 2, none⟩) hb).trans g2
  have HG := hide (fun w' (h : Below W.heap.size W w') => (⟨((HL.out.trans (h.mono HL.out.size)).cell (p := ⟨b, off, none⟩) hb).trans g0, ((HL.out.trans (h.mono HL.out.size)).cell (p := ⟨b, off + 1, none⟩) hb).trans g1, ((HL.out.trans (h.mono HL.out.size)).cell (p := ⟨b, off + 2, none⟩) hb).trans g2⟩ : w'.cell? ⟨b, off, none⟩ = some (.int .i64 a.1) ∧ w'.cell? ⟨b, off + 1, none⟩ = some (.int .i64 a.2.1) ∧ w'.cell? ⟨b, off + 2, none⟩ = some (.string a.2.2)))
  go_enter Tryd.func44, Tryd.ntmps44
  go_wp2_with fail
  rw [← HWE.out]
  refine (HOf.out _).mono ?_
  rintro e w3 ⟨rfl, hbx⟩
  have HB3 := hide hbx
  clear hbx
  obtain ⟨a0, a1, a2, a3, a4, a5, a6, b0, b1, b2, r0, r1, r2, f0, f1, f2, hz⟩ := HAt.out _ HB3.out
  obtain ⟨zg0, zg1, zg2⟩ := HG.out _ HB3.out
  go_wp2_with fail
  go_ret
  refine ⟨rfl, ?_⟩
  have hfin := HL.out.trans (HB3.out.mono HL.out.size)
  exact ((hfin.setCell (p := ⟨w.heap.size + 2, 0, none⟩) (by simp only; omega) _).setCell (p := ⟨w.heap.size + 2, 1, none⟩) (by simp only; omega) _).setCell (p := ⟨w.heap.size + 2, 2, none⟩) (by simp only; omega) _

end Go.Proofs.YteenhmniikloiaaDoor
namespace Go.Proofs.YteenhmniikloiaaDoor
open Go.RowKit

theorem wpList_insert_own {H : Type} {P : Program} (w : World) {ops : Array Oper} {rest : List Oper} {o : Oper} {a : Act} {Q : Exit → Act → World → Prop}
    (hg : o.guard = none) (m x v : Operand) (t : TypeId) (hop : o.op = Op.insert t m x v)
    (k e : TypeId) (K : Go.Maps.Keyed P k) (ht : P.underlying t = some (.map k e)) (R : Value → Option (DataW H × List MemPlace)) (b n : Nat) (D : DataW H)
    (hm : a.eval m = .map (some b)) (hown : w.ownsMap P k R b n D) (hn : n < maxLen) (key val : Value) (kl : Lit) (hx : a.eval x = key) (hv : a.eval v = val) (hkey : keyOf P k key = some kl)
    (d : DataW H) (ps : List MemPlace) (hval : R val = some (d, ps))
    (hK : ∀ w', w'.ownsMap P k R b (n + 1) (D.put kl d) → w.grownBy w' (some b) → wpList P ops Q rest (a.put o.dst undef) w') :
    wpList P ops Q (o :: rest) a w := by
  refine wpList_plain hg fun K' hK' => ?_
  obtain ⟨w', hrun, r1, r2⟩ := hown.update K ht hn hkey hval
  unfold Oper.wp
  simp [execOp, hop, hm, hx, hv, hrun, Result.andThen]
  exact hK' _ _ (hK w' r1 r2)
theorem zeroI (w : World) : (zeroValue 3).run Tryd.prog w = .ok (.int .i64 0) w := by kernel_rfl
/-- The numbers of the comparisons, as the law's map has them after k of them. -/
def cmpD0 : DataW Unit := .map []
def cmpD1 : DataW Unit := cmpD0.put (.string [61]) (.lit (.int .i64 1))
def cmpD2 : DataW Unit := cmpD1.put (.string [33, 61]) (.lit (.int .i64 2))
def cmpD3 : DataW Unit := cmpD2.put (.string [60]) (.lit (.int .i64 3))
def cmpD4 : DataW Unit := cmpD3.put (.string [60, 61]) (.lit (.int .i64 4))
def cmpD5 : DataW Unit := cmpD4.put (.string [62]) (.lit (.int .i64 5))
def cmpD6 : DataW Unit := cmpD5.put (.string [62, 61]) (.lit (.int .i64 6))
theorem num_of {a b : Int} (h : (DataW.lit (.int .i64 a) : DataW Unit) = .lit (.int .i64 b)) : a = b := by injection h with h; injection h
theorem cmpD_at0 : cmpD6.atKey (.string [61]) (.lit (.int .i64 0)) = .lit (.int .i64 1) := by kernel_rfl
theorem cmpD_at1 : cmpD6.atKey (.string [33, 61]) (.lit (.int .i64 0)) = .lit (.int .i64 2) := by kernel_rfl
theorem cmpD_at2 : cmpD6.atKey (.string [60]) (.lit (.int .i64 0)) = .lit (.int .i64 3) := by kernel_rfl
theorem cmpD_at3 : cmpD6.atKey (.string [60, 61]) (.lit (.int .i64 0)) = .lit (.int .i64 4) := by kernel_rfl
theorem cmpD_at4 : cmpD6.atKey (.string [62]) (.lit (.int .i64 0)) = .lit (.int .i64 5) := by kernel_rfl
theorem cmpD_at5 : cmpD6.atKey (.string [62, 61]) (.lit (.int .i64 0)) = .lit (.int .i64 6) := by kernel_rfl
set_option maxHeartbeats 3200000 in
set_option maxRecDepth 100000 in
theorem whole_cmp0 (x : XT) (Ra : Option Addr) (cr : Nat) (vs : List (Int × Int × ByteArray)) (k n : Int) (s : ByteArray) (xe : Int) (w : World) (hR : RowAt w.heap.size w Ra vs) (e1 : (x.op.toList == [97, 110, 100]) = false) (e2 : (x.op.toList == [111, 114]) = false) (e3 : (x.op.toList == [110, 111, 116]) = false) (k3 : (x.kind == 3) = false)  (q0 : (x.op.toList == [61]) = true) (hl : vs.length = 2) (hA : ∀ w, Calls Tryd.prog 65 #[.int .i64 1, vVal (vs.getD 0 d3).1 (vs.getD 0 d3).2.1 (vs.getD 0 d3).2.2, vVal (vs.getD 1 d3).1 (vs.getD 1 d3).2.1 (vs.getD 1 d3).2.2] w fun e w' => e = .returned (vVal k n s) ∧ Below w.heap.size w w') (hx : xe = 0) :
    Calls Tryd.prog 44 #[vX x, .slice Ra vs.length cr, vVal k n s, .int .i64 xe] w fun e w' => e = .returned (.bool true) ∧ Below w.heap.size w w' := by
  subst hx
  have HAr := hide hA
  clear hA
  have hq : ∀ w : World, (binOp .eql 29 (vVal k n s) (vVal k n s)).run Tryd.prog w = .ok (.bool true) w := fun w => (run_eql_val k n k n s s w).trans (by simp)
  have hg := fun u u' w => run_guard_val k n k n s s u u' w
  have hal := evW_below w x (k, n, s)
  have HAt := hide (fun w' => evW_at (w := w) (x := x) (v := (k, n, s)) (w' := w'))
  have HL := hide hal
  obtain ⟨kd, nm, xv, o, A, c, ts⟩ := x
  have HWE := hide (show evW w (.mk kd nm xv o A c ts) (k, n, s) = ((w.alloc (.cells (eCells kd nm xv o A ts.length c) 32)).alloc (.cells #[.int .i64 k, .int .i64 n, .string s] 29)).alloc (.cells #[.int .i64 0, .int .i64 0, .string ⟨#[]⟩] 29) from rfl)
  simp only [XT.kind, XT.name, XT.val, XT.op, XT.adr, XT.args, XT.cap] at *
  show Calls Tryd.prog 44 #[.agg (eCells kd nm xv o A ts.length c), .slice Ra vs.length cr, vVal k n s, .int .i64 _] w _
  generalize evW w (.mk kd nm xv o A c ts) (k, n, s) = W at *
  have HR0 := hide hR
  clear hal hR
  obtain ⟨b, off, rfl, hb, g0, g1, g2⟩ := HR0.out 0 (by omega)
  obtain ⟨b', off', hbe, -, p0, p1, p2⟩ := HR0.out 1 (by omega)
  obtain ⟨rfl, rfl⟩ : b = b' ∧ off = off' := by injection hbe with e1; injection e1 with e2 e3 e4; exact ⟨e2, e3⟩
  clear hbe
  clear HR0
  rw [show vs.getD 0 (0, 0, ⟨#[]⟩) = vs.getD 0 d3 from rfl] at g0 g1 g2
  simp only [Nat.zero_mul, Nat.add_zero] at g0 g1 g2
  have hl0 : ((0 : Int) < (vs.length : Int)) := by omega
  have hn0 : 0 < vs.length := by omega
  rw [show vs.getD 1 (0, 0, ⟨#[]⟩) = vs.getD 1 d3 from rfl] at p0 p1 p2
  simp only [Nat.one_mul, Nat.add_assoc, Nat.reduceAdd] at p0 p1 p2
  have hl1 : ((1 : Int) < (vs.length : Int)) := by omega
  have hn1 : 1 < vs.length := by omega
  generalize vs.getD 0 d3 = a at *
  generalize vs.getD 1 d3 = d at *
  generalize vs.length = m at *
  clear hl
  have gc0 : (((w.alloc (.cells (eCells kd nm xv o A ts.length c) 32)).alloc (.cells #[.int .i64 k, .int .i64 n, .string s] 29)).alloc (.cells #[.int .i64 0, .int .i64 0, .string ⟨#[]⟩] 29)).cell? ⟨b, off, none⟩ = some (.int .i64 a.1) := by rw [← HWE.out]; exact (HL.out.cell (p := ⟨b, off, none⟩) hb).trans g0
  have gc1 : (((w.alloc (.cells (eCells kd nm xv o A ts.length c) 32)).alloc (.cells #[.int .i64 k, .int .i64 n, .string s] 29)).alloc (.cells #[.int .i64 0, .int .i64 0, .string ⟨#[]⟩] 29)).cell? ⟨b, off + 1, none⟩ = some (.int .i64 a.2.1) := by rw [← HWE.out]; exact (HL.out.cell (p := ⟨b, off + 1, none⟩) hb).trans g1
  have gc2 : (((w.alloc (.cells (eCells kd nm xv o A ts.length c) 32)).alloc (.cells #[.int .i64 k, .int .i64 n, .string s] 29)).alloc (.cells #[.int .i64 0, .int .i64 0, .string ⟨#[]⟩] 29)).cell? ⟨b, off + 2, none⟩ = some (.string a.2.2) := by rw [← HWE.out]; exact (HL.out.cell (p := ⟨b, off + 2, none⟩) hb).trans g2
  have pc0 : (((w.alloc (.cells (eCells kd nm xv o A ts.length c) 32)).alloc (.cells #[.int .i64 k, .int .i64 n, .string s] 29)).alloc (.cells #[.int .i64 0, .int .i64 0, .string ⟨#[]⟩] 29)).cell? ⟨b, off + 3, none⟩ = some (.int .i64 d.1) := by rw [← HWE.out]; exact (HL.out.cell (p := ⟨b, off + 3, none⟩) hb).trans p0
  have pc1 : (((w.alloc (.cells (eCells kd nm xv o A ts.length c) 32)).alloc (.cells #[.int .i64 k, .int .i64 n, .string s] 29)).alloc (.cells #[.int .i64 0, .int .i64 0, .string ⟨#[]⟩] 29)).cell? ⟨b, off + 4, none⟩ = some (.int .i64 d.2.1) := by rw [← HWE.out]; exact (HL.out.cell (p := ⟨b, off + 4, none⟩) hb).trans p1
  have pc2 : (((w.alloc (.cells (eCells kd nm xv o A ts.length c) 32)).alloc (.cells #[.int .i64 k, .int .i64 n, .string s] 29)).alloc (.cells #[.int .i64 0, .int .i64 0, .string ⟨#[]⟩] 29)).cell? ⟨b, off + 5, none⟩ = some (.string d.2.2) := by rw [← HWE.out]; exact (HL.out.cell (p := ⟨b, off + 5, none⟩) hb).trans p2
  have HG := hide (fun w' (h : Below W.heap.size W w') => (⟨((HL.out.trans (h.mono HL.out.size)).cell (p := ⟨b, off, none⟩) hb).trans g0, ((HL.out.trans (h.mono HL.out.size)).cell (p := ⟨b, off + 1, none⟩) hb).trans g1, ((HL.out.trans (h.mono HL.out.size)).cell (p := ⟨b, off + 2, none⟩) hb).trans g2, ((HL.out.trans (h.mono HL.out.size)).cell (p := ⟨b, off + 3, none⟩) hb).trans p0, ((HL.out.trans (h.mono HL.out.size)).cell (p := ⟨b, off + 4, none⟩) hb).trans p1, ((HL.out.trans (h.mono HL.out.size)).cell (p := ⟨b, off + 5, none⟩) hb).trans p2⟩ : w'.cell? ⟨b, off, none⟩ = some (.int .i64 a.1) ∧ w'.cell? ⟨b, off + 1, none⟩ = some (.int .i64 a.2.1) ∧ w'.cell? ⟨b, off + 2, none⟩ = some (.string a.2.2) ∧ w'.cell? ⟨b, off + 3, none⟩ = some (.int .i64 d.1) ∧ w'.cell? ⟨b, off + 4, none⟩ = some (.int .i64 d.2.1) ∧ w'.cell? ⟨b, off + 5, none⟩ = some (.string d.2.2)))
  have hol : o.data.toList = [61] := by rw [← Lib.toList_data]; exact beq_iff_eq.1 q0
  have hos : o.size ≤ maxLen := by rw [show o.size = o.data.toList.length from by simp, hol]; unfold maxLen; decide
  have HKo := hide (show keyOf Tryd.prog 9 (.string o) = some (.string [61]) from by rw [← hol]; exact WideMaps.keyOf_string_mk Tryd.underlying9 hos)
  clear hol hos
  have hmm := @run_makeMap Tryd.prog
  have HW3 : W.heap.size = w.heap.size + 3 := by rw [HWE.out]; simp
  have hown0 : (W.alloc (.map #[] 0)).ownsMap Tryd.prog 9 (plainElem (H := Unit) Tryd.prog 3) (w.heap.size + 3) 0 cmpD0 := by rw [← HW3]; exact World.ownsMap_made _ _ _ _
  have HB0 := hide ((Below.refl W.heap.size W).alloc (Nat.le_refl _) (.map #[] 0))
  clear gc0 gc1 gc2 pc0 pc1 pc2
  obtain ⟨a0, a1, a2, a3, a4, a5, a6, b0, b1, b2, r0, r1, r2, f0, f1, f2, hz⟩ := HAt.out _ (Below.refl _ _)
  obtain ⟨zg0, zg1, zg2, zp0, zp1, zp2⟩ := HG.out _ (Below.refl _ _)
  go_enter Tryd.func44, Tryd.ntmps44
  go_wp2_with (first | (guard_target =~ wpList _ _ _ (Oper.mk _ (Op.fieldAddr _ _ _) _ _ _ _ :: _) _ _; rw [← HWE.out]) | (guard_target =~ wpList _ _ _ (Oper.mk none (Op.insert _ _ _ _) _ _ _ _ :: _) _ _; go_must (refine wpList_insert_own _ rfl _ _ _ 116 rfl 9 3 keyS Tryd.underlying116 (plainElem (H := Unit) Tryd.prog 3) (w.heap.size + 3) 0 cmpD0 rfl hown0 (by unfold maxLen; omega) (.string ⟨#[61]⟩) (.int .i64 1) (.string [61]) rfl rfl (WideMaps.keyOf_string_mk (s := ⟨#[61]⟩) Tryd.underlying9 (by unfold maxLen; decide)) (.lit (.int .i64 1)) [] (plainElem_int (a := 1) Tryd.underlying3 (by decide)) ?_; intro u1 hown1 hgrow; have HB1 := hide (HB0.out.grown hgrow HB0.out.size (fun j hj => by cases hj; omega)); clear hgrow hown0; refine wpList_insert_own _ rfl _ _ _ 116 rfl 9 3 keyS Tryd.underlying116 (plainElem (H := Unit) Tryd.prog 3) (w.heap.size + 3) 1 cmpD1 rfl hown1 (by unfold maxLen; omega) (.string ⟨#[33, 61]⟩) (.int .i64 2) (.string [33, 61]) rfl rfl (WideMaps.keyOf_string_mk (s := ⟨#[33, 61]⟩) Tryd.underlying9 (by unfold maxLen; decide)) (.lit (.int .i64 2)) [] (plainElem_int (a := 2) Tryd.underlying3 (by decide)) ?_; intro u2 hown2 hgrow; have HB2 := hide (HB1.out.grown hgrow HB1.out.size (fun j hj => by cases hj; omega)); clear hgrow hown1; refine wpList_insert_own _ rfl _ _ _ 116 rfl 9 3 keyS Tryd.underlying116 (plainElem (H := Unit) Tryd.prog 3) (w.heap.size + 3) 2 cmpD2 rfl hown2 (by unfold maxLen; omega) (.string ⟨#[60]⟩) (.int .i64 3) (.string [60]) rfl rfl (WideMaps.keyOf_string_mk (s := ⟨#[60]⟩) Tryd.underlying9 (by unfold maxLen; decide)) (.lit (.int .i64 3)) [] (plainElem_int (a := 3) Tryd.underlying3 (by decide)) ?_; intro u3 hown3 hgrow; have HB3 := hide (HB2.out.grown hgrow HB2.out.size (fun j hj => by cases hj; omega)); clear hgrow hown2; refine wpList_insert_own _ rfl _ _ _ 116 rfl 9 3 keyS Tryd.underlying116 (plainElem (H := Unit) Tryd.prog 3) (w.heap.size + 3) 3 cmpD3 rfl hown3 (by unfold maxLen; omega) (.string ⟨#[60, 61]⟩) (.int .i64 4) (.string [60, 61]) rfl rfl (WideMaps.keyOf_string_mk (s := ⟨#[60, 61]⟩) Tryd.underlying9 (by unfold maxLen; decide)) (.lit (.int .i64 4)) [] (plainElem_int (a := 4) Tryd.underlying3 (by decide)) ?_; intro u4 hown4 hgrow; have HB4 := hide (HB3.out.grown hgrow HB3.out.size (fun j hj => by cases hj; omega)); clear hgrow hown3; refine wpList_insert_own _ rfl _ _ _ 116 rfl 9 3 keyS Tryd.underlying116 (plainElem (H := Unit) Tryd.prog 3) (w.heap.size + 3) 4 cmpD4 rfl hown4 (by unfold maxLen; omega) (.string ⟨#[62]⟩) (.int .i64 5) (.string [62]) rfl rfl (WideMaps.keyOf_string_mk (s := ⟨#[62]⟩) Tryd.underlying9 (by unfold maxLen; decide)) (.lit (.int .i64 5)) [] (plainElem_int (a := 5) Tryd.underlying3 (by decide)) ?_; intro u5 hown5 hgrow; have HB5 := hide (HB4.out.grown hgrow HB4.out.size (fun j hj => by cases hj; omega)); clear hgrow hown4; refine wpList_insert_own _ rfl _ _ _ 116 rfl 9 3 keyS Tryd.underlying116 (plainElem (H := Unit) Tryd.prog 3) (w.heap.size + 3) 5 cmpD5 rfl hown5 (by unfold maxLen; omega) (.string ⟨#[62, 61]⟩) (.int .i64 6) (.string [62, 61]) rfl rfl (WideMaps.keyOf_string_mk (s := ⟨#[62, 61]⟩) Tryd.underlying9 (by unfold maxLen; decide)) (.lit (.int .i64 6)) [] (plainElem_int (a := 6) Tryd.underlying3 (by decide)) ?_; intro u6 hown6 hgrow; have HB6 := hide (HB5.out.grown hgrow HB5.out.size (fun j hj => by cases hj; omega)); clear hgrow hown5; have ⟨a0, a1, a2, a3, a4, a5, a6, b0, b1, b2, r0, r1, r2, f0, f1, f2, hz⟩ := HAt.out _ HB6.out; have ⟨yg0, yg1, yg2, yp0, yp1, yp2⟩ := HG.out _ HB6.out)) | (at_lookup; go_must (refine wpList_lookup_own_int _ rfl _ _ 116 rfl 9 3 .i64 keyS Tryd.underlying116 Tryd.underlying3 (zeroI _) (w.heap.size + 3) 6 cmpD6 rfl hown6 _ _ rfl HKo.out ?_; intro cc hat hwc; obtain rfl : cc = 1 := num_of (hat.symm.trans cmpD_at0); clear hat hwc hown6)))
  clear g0 g1 g2 p0 p1 p2
  have hD : Below W.heap.size W u6.drew := HB6.out.drew
  first
    | (go_region_law (first
      | (go_simp; go_at_call 65; refine (HAr.out _).mono ?_; rintro e wB ⟨rfl, hbB⟩; have hB := then_below hD hbB; have ⟨Ba0, Ba1, Ba2, Ba3, Ba4, Ba5, Ba6, Bb0, Bb1, Bb2, Br0, Br1, Br2, Bf0, Bf1, Bf2, Bhz⟩ := HAt.out _ hB; clear hbB)))
    | fail
  all_goals
    go_wp2_with fail
    go_ret
    refine ⟨rfl, ?_⟩
    have hfin := HL.out.trans (hB.mono HL.out.size)
    exact ((hfin.setCell (p := ⟨w.heap.size + 2, 0, none⟩) (by simp only; omega) _).setCell (p := ⟨w.heap.size + 2, 1, none⟩) (by simp only; omega) _).setCell (p := ⟨w.heap.size + 2, 2, none⟩) (by simp only; omega) _

set_option maxHeartbeats 3200000 in
set_option maxRecDepth 100000 in
theorem whole_cmp1 (x : XT) (Ra : Option Addr) (cr : Nat) (vs : List (Int × Int × ByteArray)) (k n : Int) (s : ByteArray) (xe : Int) (w : World) (hR : RowAt w.heap.size w Ra vs) (e1 : (x.op.toList == [97, 110, 100]) = false) (e2 : (x.op.toList == [111, 114]) = false) (e3 : (x.op.toList == [110, 111, 116]) = false) (k3 : (x.kind == 3) = false) (q0 : (x.op.toList == [61]) = false) (q1 : (x.op.toList == [33, 61]) = true) (hl : vs.length = 2) (hA : ∀ w, Calls Tryd.prog 65 #[.int .i64 2, vVal (vs.getD 0 d3).1 (vs.getD 0 d3).2.1 (vs.getD 0 d3).2.2, vVal (vs.getD 1 d3).1 (vs.getD 1 d3).2.1 (vs.getD 1 d3).2.2] w fun e w' => e = .returned (vVal k n s) ∧ Below w.heap.size w w') (hx : xe = 0) :
    Calls Tryd.prog 44 #[vX x, .slice Ra vs.length cr, vVal k n s, .int .i64 xe] w fun e w' => e = .returned (.bool true) ∧ Below w.heap.size w w' := by
  subst hx
  have HAr := hide hA
  clear hA
  have hq : ∀ w : World, (binOp .eql 29 (vVal k n s) (vVal k n s)).run Tryd.prog w = .ok (.bool true) w := fun w => (run_eql_val k n k n s s w).trans (by simp)
  have hg := fun u u' w => run_guard_val k n k n s s u u' w
  have hal := evW_below w x (k, n, s)
  have HAt := hide (fun w' => evW_at (w := w) (x := x) (v := (k, n, s)) (w' := w'))
  have HL := hide hal
  obtain ⟨kd, nm, xv, o, A, c, ts⟩ := x
  have HWE := hide (show evW w (.mk kd nm xv o A c ts) (k, n, s) = ((w.alloc (.cells (eCells kd nm xv o A ts.length c) 32)).alloc (.cells #[.int .i64 k, .int .i64 n, .string s] 29)).alloc (.cells #[.int .i64 0, .int .i64 0, .string ⟨#[]⟩] 29) from rfl)
  simp only [XT.kind, XT.name, XT.val, XT.op, XT.adr, XT.args, XT.cap] at *
  show Calls Tryd.prog 44 #[.agg (eCells kd nm xv o A ts.length c), .slice Ra vs.length cr, vVal k n s, .int .i64 _] w _
  generalize evW w (.mk kd nm xv o A c ts) (k, n, s) = W at *
  have HR0 := hide hR
  clear hal hR
  obtain ⟨b, off, rfl, hb, g0, g1, g2⟩ := HR0.out 0 (by omega)
  obtain ⟨b', off', hbe, -, p0, p1, p2⟩ := HR0.out 1 (by omega)
  obtain ⟨rfl, rfl⟩ : b = b' ∧ off = off' := by injection hbe with e1; injection e1 with e2 e3 e4; exact ⟨e2, e3⟩
  clear hbe
  clear HR0
  rw [show vs.getD 0 (0, 0, ⟨#[]⟩) = vs.getD 0 d3 from rfl] at g0 g1 g2
  simp only [Nat.zero_mul, Nat.add_zero] at g0 g1 g2
  have hl0 : ((0 : Int) < (vs.length : Int)) := by omega
  have hn0 : 0 < vs.length := by omega
  rw [show vs.getD 1 (0, 0, ⟨#[]⟩) = vs.getD 1 d3 from rfl] at p0 p1 p2
  simp only [Nat.one_mul, Nat.add_assoc, Nat.reduceAdd] at p0 p1 p2
  have hl1 : ((1 : Int) < (vs.length : Int)) := by omega
  have hn1 : 1 < vs.length := by omega
  generalize vs.getD 0 d3 = a at *
  generalize vs.getD 1 d3 = d at *
  generalize vs.length = m at *
  clear hl
  have gc0 : (((w.alloc (.cells (eCells kd nm xv o A ts.length c) 32)).alloc (.cells #[.int .i64 k, .int .i64 n, .string s] 29)).alloc (.cells #[.int .i64 0, .int .i64 0, .string ⟨#[]⟩] 29)).cell? ⟨b, off, none⟩ = some (.int .i64 a.1) := by rw [← HWE.out]; exact (HL.out.cell (p := ⟨b, off, none⟩) hb).trans g0
  have gc1 : (((w.alloc (.cells (eCells kd nm xv o A ts.length c) 32)).alloc (.cells #[.int .i64 k, .int .i64 n, .string s] 29)).alloc (.cells #[.int .i64 0, .int .i64 0, .string ⟨#[]⟩] 29)).cell? ⟨b, off + 1, none⟩ = some (.int .i64 a.2.1) := by rw [← HWE.out]; exact (HL.out.cell (p := ⟨b, off + 1, none⟩) hb).trans g1
  have gc2 : (((w.alloc (.cells (eCells kd nm xv o A ts.length c) 32)).alloc (.cells #[.int .i64 k, .int .i64 n, .string s] 29)).alloc (.cells #[.int .i64 0, .int .i64 0, .string ⟨#[]⟩] 29)).cell? ⟨b, off + 2, none⟩ = some (.string a.2.2) := by rw [← HWE.out]; exact (HL.out.cell (p := ⟨b, off + 2, none⟩) hb).trans g2
  have pc0 : (((w.alloc (.cells (eCells kd nm xv o A ts.length c) 32)).alloc (.cells #[.int .i64 k, .int .i64 n, .string s] 29)).alloc (.cells #[.int .i64 0, .int .i64 0, .string ⟨#[]⟩] 29)).cell? ⟨b, off + 3, none⟩ = some (.int .i64 d.1) := by rw [← HWE.out]; exact (HL.out.cell (p := ⟨b, off + 3, none⟩) hb).trans p0
  have pc1 : (((w.alloc (.cells (eCells kd nm xv o A ts.length c) 32)).alloc (.cells #[.int .i64 k, .int .i64 n, .string s] 29)).alloc (.cells #[.int .i64 0, .int .i64 0, .string ⟨#[]⟩] 29)).cell? ⟨b, off + 4, none⟩ = some (.int .i64 d.2.1) := by rw [← HWE.out]; exact (HL.out.cell (p := ⟨b, off + 4, none⟩) hb).trans p1
  have pc2 : (((w.alloc (.cells (eCells kd nm xv o A ts.length c) 32)).alloc (.cells #[.int .i64 k, .int .i64 n, .string s] 29)).alloc (.cells #[.int .i64 0, .int .i64 0, .string ⟨#[]⟩] 29)).cell? ⟨b, off + 5, none⟩ = some (.string d.2.2) := by rw [← HWE.out]; exact (HL.out.cell (p := ⟨b, off + 5, none⟩) hb).trans p2
  have HG := hide (fun w' (h : Below W.heap.size W w') => (⟨((HL.out.trans (h.mono HL.out.size)).cell (p := ⟨b, off, none⟩) hb).trans g0, ((HL.out.trans (h.mono HL.out.size)).cell (p := ⟨b, off + 1, none⟩) hb).trans g1, ((HL.out.trans (h.mono HL.out.size)).cell (p := ⟨b, off + 2, none⟩) hb).trans g2, ((HL.out.trans (h.mono HL.out.size)).cell (p := ⟨b, off + 3, none⟩) hb).trans p0, ((HL.out.trans (h.mono HL.out.size)).cell (p := ⟨b, off + 4, none⟩) hb).trans p1, ((HL.out.trans (h.mono HL.out.size)).cell (p := ⟨b, off + 5, none⟩) hb).trans p2⟩ : w'.cell? ⟨b, off, none⟩ = some (.int .i64 a.1) ∧ w'.cell? ⟨b, off + 1, none⟩ = some (.int .i64 a.2.1) ∧ w'.cell? ⟨b, off + 2, none⟩ = some (.string a.2.2) ∧ w'.cell? ⟨b, off + 3, none⟩ = some (.int .i64 d.1) ∧ w'.cell? ⟨b, off + 4, none⟩ = some (.int .i64 d.2.1) ∧ w'.cell? ⟨b, off + 5, none⟩ = some (.string d.2.2)))
  have hol : o.data.toList = [33, 61] := by rw [← Lib.toList_data]; exact beq_iff_eq.1 q1
  have hos : o.size ≤ maxLen := by rw [show o.size = o.data.toList.length from by simp, hol]; unfold maxLen; decide
  have HKo := hide (show keyOf Tryd.prog 9 (.string o) = some (.string [33, 61]) from by rw [← hol]; exact WideMaps.keyOf_string_mk Tryd.underlying9 hos)
  clear hol hos
  have hmm := @run_makeMap Tryd.prog
  have HW3 : W.heap.size = w.heap.size + 3 := by rw [HWE.out]; simp
  have hown0 : (W.alloc (.map #[] 0)).ownsMap Tryd.prog 9 (plainElem (H := Unit) Tryd.prog 3) (w.heap.size + 3) 0 cmpD0 := by rw [← HW3]; exact World.ownsMap_made _ _ _ _
  have HB0 := hide ((Below.refl W.heap.size W).alloc (Nat.le_refl _) (.map #[] 0))
  clear gc0 gc1 gc2 pc0 pc1 pc2
  obtain ⟨a0, a1, a2, a3, a4, a5, a6, b0, b1, b2, r0, r1, r2, f0, f1, f2, hz⟩ := HAt.out _ (Below.refl _ _)
  obtain ⟨zg0, zg1, zg2, zp0, zp1, zp2⟩ := HG.out _ (Below.refl _ _)
  go_enter Tryd.func44, Tryd.ntmps44
  go_wp2_with (first | (guard_target =~ wpList _ _ _ (Oper.mk _ (Op.fieldAddr _ _ _) _ _ _ _ :: _) _ _; rw [← HWE.out]) | (guard_target =~ wpList _ _ _ (Oper.mk none (Op.insert _ _ _ _) _ _ _ _ :: _) _ _; go_must (refine wpList_insert_own _ rfl _ _ _ 116 rfl 9 3 keyS Tryd.underlying116 (plainElem (H := Unit) Tryd.prog 3) (w.heap.size + 3) 0 cmpD0 rfl hown0 (by unfold maxLen; omega) (.string ⟨#[61]⟩) (.int .i64 1) (.string [61]) rfl rfl (WideMaps.keyOf_string_mk (s := ⟨#[61]⟩) Tryd.underlying9 (by unfold maxLen; decide)) (.lit (.int .i64 1)) [] (plainElem_int (a := 1) Tryd.underlying3 (by decide)) ?_; intro u1 hown1 hgrow; have HB1 := hide (HB0.out.grown hgrow HB0.out.size (fun j hj => by cases hj; omega)); clear hgrow hown0; refine wpList_insert_own _ rfl _ _ _ 116 rfl 9 3 keyS Tryd.underlying116 (plainElem (H := Unit) Tryd.prog 3) (w.heap.size + 3) 1 cmpD1 rfl hown1 (by unfold maxLen; omega) (.string ⟨#[33, 61]⟩) (.int .i64 2) (.string [33, 61]) rfl rfl (WideMaps.keyOf_string_mk (s := ⟨#[33, 61]⟩) Tryd.underlying9 (by unfold maxLen; decide)) (.lit (.int .i64 2)) [] (plainElem_int (a := 2) Tryd.underlying3 (by decide)) ?_; intro u2 hown2 hgrow; have HB2 := hide (HB1.out.grown hgrow HB1.out.size (fun j hj => by cases hj; omega)); clear hgrow hown1; refine wpList_insert_own _ rfl _ _ _ 116 rfl 9 3 keyS Tryd.underlying116 (plainElem (H := Unit) Tryd.prog 3) (w.heap.size + 3) 2 cmpD2 rfl hown2 (by unfold maxLen; omega) (.string ⟨#[60]⟩) (.int .i64 3) (.string [60]) rfl rfl (WideMaps.keyOf_string_mk (s := ⟨#[60]⟩) Tryd.underlying9 (by unfold maxLen; decide)) (.lit (.int .i64 3)) [] (plainElem_int (a := 3) Tryd.underlying3 (by decide)) ?_; intro u3 hown3 hgrow; have HB3 := hide (HB2.out.grown hgrow HB2.out.size (fun j hj => by cases hj; omega)); clear hgrow hown2; refine wpList_insert_own _ rfl _ _ _ 116 rfl 9 3 keyS Tryd.underlying116 (plainElem (H := Unit) Tryd.prog 3) (w.heap.size + 3) 3 cmpD3 rfl hown3 (by unfold maxLen; omega) (.string ⟨#[60, 61]⟩) (.int .i64 4) (.string [60, 61]) rfl rfl (WideMaps.keyOf_string_mk (s := ⟨#[60, 61]⟩) Tryd.underlying9 (by unfold maxLen; decide)) (.lit (.int .i64 4)) [] (plainElem_int (a := 4) Tryd.underlying3 (by decide)) ?_; intro u4 hown4 hgrow; have HB4 := hide (HB3.out.grown hgrow HB3.out.size (fun j hj => by cases hj; omega)); clear hgrow hown3; refine wpList_insert_own _ rfl _ _ _ 116 rfl 9 3 keyS Tryd.underlying116 (plainElem (H := Unit) Tryd.prog 3) (w.heap.size + 3) 4 cmpD4 rfl hown4 (by unfold maxLen; omega) (.string ⟨#[62]⟩) (.int .i64 5) (.string [62]) rfl rfl (WideMaps.keyOf_string_mk (s := ⟨#[62]⟩) Tryd.underlying9 (by unfold maxLen; decide)) (.lit (.int .i64 5)) [] (plainElem_int (a := 5) Tryd.underlying3 (by decide)) ?_; intro u5 hown5 hgrow; have HB5 := hide (HB4.out.grown hgrow HB4.out.size (fun j hj => by cases hj; omega)); clear hgrow hown4; refine wpList_insert_own _ rfl _ _ _ 116 rfl 9 3 keyS Tryd.underlying116 (plainElem (H := Unit) Tryd.prog 3) (w.heap.size + 3) 5 cmpD5 rfl hown5 (by unfold maxLen; omega) (.string ⟨#[62, 61]⟩) (.int .i64 6) (.string [62, 61]) rfl rfl (WideMaps.keyOf_string_mk (s := ⟨#[62, 61]⟩) Tryd.underlying9 (by unfold maxLen; decide)) (.lit (.int .i64 6)) [] (plainElem_int (a := 6) Tryd.underlying3 (by decide)) ?_; intro u6 hown6 hgrow; have HB6 := hide (HB5.out.grown hgrow HB5.out.size (fun j hj => by cases hj; omega)); clear hgrow hown5; have ⟨a0, a1, a2, a3, a4, a5, a6, b0, b1, b2, r0, r1, r2, f0, f1, f2, hz⟩ := HAt.out _ HB6.out; have ⟨yg0, yg1, yg2, yp0, yp1, yp2⟩ := HG.out _ HB6.out)) | (at_lookup; go_must (refine wpList_lookup_own_int _ rfl _ _ 116 rfl 9 3 .i64 keyS Tryd.underlying116 Tryd.underlying3 (zeroI _) (w.heap.size + 3) 6 cmpD6 rfl hown6 _ _ rfl HKo.out ?_; intro cc hat hwc; obtain rfl : cc = 2 := num_of (hat.symm.trans cmpD_at1); clear hat hwc hown6)))
  clear g0 g1 g2 p0 p1 p2
  have hD : Below W.heap.size W u6.drew := HB6.out.drew
  first
    | (go_region_law (first
      | (go_simp; go_at_call 65; refine (HAr.out _).mono ?_; rintro e wB ⟨rfl, hbB⟩; have hB := then_below hD hbB; have ⟨Ba0, Ba1, Ba2, Ba3, Ba4, Ba5, Ba6, Bb0, Bb1, Bb2, Br0, Br1, Br2, Bf0, Bf1, Bf2, Bhz⟩ := HAt.out _ hB; clear hbB)))
    | fail
  all_goals
    go_wp2_with fail
    go_ret
    refine ⟨rfl, ?_⟩
    have hfin := HL.out.trans (hB.mono HL.out.size)
    exact ((hfin.setCell (p := ⟨w.heap.size + 2, 0, none⟩) (by simp only; omega) _).setCell (p := ⟨w.heap.size + 2, 1, none⟩) (by simp only; omega) _).setCell (p := ⟨w.heap.size + 2, 2, none⟩) (by simp only; omega) _

set_option maxHeartbeats 3200000 in
set_option maxRecDepth 100000 in
theorem whole_cmp2 (x : XT) (Ra : Option Addr) (cr : Nat) (vs : List (Int × Int × ByteArray)) (k n : Int) (s : ByteArray) (xe : Int) (w : World) (hR : RowAt w.heap.size w Ra vs) (e1 : (x.op.toList == [97, 110, 100]) = false) (e2 : (x.op.toList == [111, 114]) = false) (e3 : (x.op.toList == [110, 111, 116]) = false) (k3 : (x.kind == 3) = false) (q0 : (x.op.toList == [61]) = false) (q1 : (x.op.toList == [33, 61]) = false) (q2 : (x.op.toList == [60]) = true) (hl : vs.length = 2) (hA : ∀ w, Calls Tryd.prog 65 #[.int .i64 3, vVal (vs.getD 0 d3).1 (vs.getD 0 d3).2.1 (vs.getD 0 d3).2.2, vVal (vs.getD 1 d3).1 (vs.getD 1 d3).2.1 (vs.getD 1 d3).2.2] w fun e w' => e = .returned (vVal k n s) ∧ Below w.heap.size w w') (hx : xe = 0) :
    Calls Tryd.prog 44 #[vX x, .slice Ra vs.length cr, vVal k n s, .int .i64 xe] w fun e w' => e = .returned (.bool true) ∧ Below w.heap.size w w' := by
  subst hx
  have HAr := hide hA
  clear hA
  have hq : ∀ w : World, (binOp .eql 29 (vVal k n s) (vVal k n s)).run Tryd.prog w = .ok (.bool true) w := fun w => (run_eql_val k n k n s s w).trans (by simp)
  have hg := fun u u' w => run_guard_val k n k n s s u u' w
  have hal := evW_below w x (k, n, s)
  have HAt := hide (fun w' => evW_at (w := w) (x := x) (v := (k, n, s)) (w' := w'))
  have HL := hide hal
  obtain ⟨kd, nm, xv, o, A, c, ts⟩ := x
  have HWE := hide (show evW w (.mk kd nm xv o A c ts) (k, n, s) = ((w.alloc (.cells (eCells kd nm xv o A ts.length c) 32)).alloc (.cells #[.int .i64 k, .int .i64 n, .string s] 29)).alloc (.cells #[.int .i64 0, .int .i64 0, .string ⟨#[]⟩] 29) from rfl)
  simp only [XT.kind, XT.name, XT.val, XT.op, XT.adr, XT.args, XT.cap] at *
  show Calls Tryd.prog 44 #[.agg (eCells kd nm xv o A ts.length c), .slice Ra vs.length cr, vVal k n s, .int .i64 _] w _
  generalize evW w (.mk kd nm xv o A c ts) (k, n, s) = W at *
  have HR0 := hide hR
  clear hal hR
  obtain ⟨b, off, rfl, hb, g0, g1, g2⟩ := HR0.out 0 (by omega)
  obtain ⟨b', off', hbe, -, p0, p1, p2⟩ := HR0.out 1 (by omega)
  obtain ⟨rfl, rfl⟩ : b = b' ∧ off = off' := by injection hbe with e1; injection e1 with e2 e3 e4; exact ⟨e2, e3⟩
  clear hbe
  clear HR0
  rw [show vs.getD 0 (0, 0, ⟨#[]⟩) = vs.getD 0 d3 from rfl] at g0 g1 g2
  simp only [Nat.zero_mul, Nat.add_zero] at g0 g1 g2
  have hl0 : ((0 : Int) < (vs.length : Int)) := by omega
  have hn0 : 0 < vs.length := by omega
  rw [show vs.getD 1 (0, 0, ⟨#[]⟩) = vs.getD 1 d3 from rfl] at p0 p1 p2
  simp only [Nat.one_mul, Nat.add_assoc, Nat.reduceAdd] at p0 p1 p2
  have hl1 : ((1 : Int) < (vs.length : Int)) := by omega
  have hn1 : 1 < vs.length := by omega
  generalize vs.getD 0 d3 = a at *
  generalize vs.getD 1 d3 = d at *
  generalize vs.length = m at *
  clear hl
  have gc0 : (((w.alloc (.cells (eCells kd nm xv o A ts.length c) 32)).alloc (.cells #[.int .i64 k, .int .i64 n, .string s] 29)).alloc (.cells #[.int .i64 0, .int .i64 0, .string ⟨#[]⟩] 29)).cell? ⟨b, off, none⟩ = some (.int .i64 a.1) := by rw [← HWE.out]; exact (HL.out.cell (p := ⟨b, off, none⟩) hb).trans g0
  have gc1 : (((w.alloc (.cells (eCells kd nm xv o A ts.length c) 32)).alloc (.cells #[.int .i64 k, .int .i64 n, .string s] 29)).alloc (.cells #[.int .i64 0, .int .i64 0, .string ⟨#[]⟩] 29)).cell? ⟨b, off + 1, none⟩ = some (.int .i64 a.2.1) := by rw [← HWE.out]; exact (HL.out.cell (p := ⟨b, off + 1, none⟩) hb).trans g1
  have gc2 : (((w.alloc (.cells (eCells kd nm xv o A ts.length c) 32)).alloc (.cells #[.int .i64 k, .int .i64 n, .string s] 29)).alloc (.cells #[.int .i64 0, .int .i64 0, .string ⟨#[]⟩] 29)).cell? ⟨b, off + 2, none⟩ = some (.string a.2.2) := by rw [← HWE.out]; exact (HL.out.cell (p := ⟨b, off + 2, none⟩) hb).trans g2
  have pc0 : (((w.alloc (.cells (eCells kd nm xv o A ts.length c) 32)).alloc (.cells #[.int .i64 k, .int .i64 n, .string s] 29)).alloc (.cells #[.int .i64 0, .int .i64 0, .string ⟨#[]⟩] 29)).cell? ⟨b, off + 3, none⟩ = some (.int .i64 d.1) := by rw [← HWE.out]; exact (HL.out.cell (p := ⟨b, off + 3, none⟩) hb).trans p0
  have pc1 : (((w.alloc (.cells (eCells kd nm xv o A ts.length c) 32)).alloc (.cells #[.int .i64 k, .int .i64 n, .string s] 29)).alloc (.cells #[.int .i64 0, .int .i64 0, .string ⟨#[]⟩] 29)).cell? ⟨b, off + 4, none⟩ = some (.int .i64 d.2.1) := by rw [← HWE.out]; exact (HL.out.cell (p := ⟨b, off + 4, none⟩) hb).trans p1
  have pc2 : (((w.alloc (.cells (eCells kd nm xv o A ts.length c) 32)).alloc (.cells #[.int .i64 k, .int .i64 n, .string s] 29)).alloc (.cells #[.int .i64 0, .int .i64 0, .string ⟨#[]⟩] 29)).cell? ⟨b, off + 5, none⟩ = some (.string d.2.2) := by rw [← HWE.out]; exact (HL.out.cell (p := ⟨b, off + 5, none⟩) hb).trans p2
  have HG := hide (fun w' (h : Below W.heap.size W w') => (⟨((HL.out.trans (h.mono HL.out.size)).cell (p := ⟨b, off, none⟩) hb).trans g0, ((HL.out.trans (h.mono HL.out.size)).cell (p := ⟨b, off + 1, none⟩) hb).trans g1, ((HL.out.trans (h.mono HL.out.size)).cell (p := ⟨b, off + 2, none⟩) hb).trans g2, ((HL.out.trans (h.mono HL.out.size)).cell (p := ⟨b, off + 3, none⟩) hb).trans p0, ((HL.out.trans (h.mono HL.out.size)).cell (p := ⟨b, off + 4, none⟩) hb).trans p1, ((HL.out.trans (h.mono HL.out.size)).cell (p := ⟨b, off + 5, none⟩) hb).trans p2⟩ : w'.cell? ⟨b, off, none⟩ = some (.int .i64 a.1) ∧ w'.cell? ⟨b, off + 1, none⟩ = some (.int .i64 a.2.1) ∧ w'.cell? ⟨b, off + 2, none⟩ = some (.string a.2.2) ∧ w'.cell? ⟨b, off + 3, none⟩ = some (.int .i64 d.1) ∧ w'.cell? ⟨b, off + 4, none⟩ = some (.int .i64 d.2.1) ∧ w'.cell? ⟨b, off + 5, none⟩ = some (.string d.2.2)))
  have hol : o.data.toList = [60] := by rw [← Lib.toList_data]; exact beq_iff_eq.1 q2
  have hos : o.size ≤ maxLen := by rw [show o.size = o.data.toList.length from by simp, hol]; unfold maxLen; decide
  have HKo := hide (show keyOf Tryd.prog 9 (.string o) = some (.string [60]) from by rw [← hol]; exact WideMaps.keyOf_string_mk Tryd.underlying9 hos)
  clear hol hos
  have hmm := @run_makeMap Tryd.prog
  have HW3 : W.heap.size = w.heap.size + 3 := by rw [HWE.out]; simp
  have hown0 : (W.alloc (.map #[] 0)).ownsMap Tryd.prog 9 (plainElem (H := Unit) Tryd.prog 3) (w.heap.size + 3) 0 cmpD0 := by rw [← HW3]; exact World.ownsMap_made _ _ _ _
  have HB0 := hide ((Below.refl W.heap.size W).alloc (Nat.le_refl _) (.map #[] 0))
  clear gc0 gc1 gc2 pc0 pc1 pc2
  obtain ⟨a0, a1, a2, a3, a4, a5, a6, b0, b1, b2, r0, r1, r2, f0, f1, f2, hz⟩ := HAt.out _ (Below.refl _ _)
  obtain ⟨zg0, zg1, zg2, zp0, zp1, zp2⟩ := HG.out _ (Below.refl _ _)
  go_enter Tryd.func44, Tryd.ntmps44
  go_wp2_with (first | (guard_target =~ wpList _ _ _ (Oper.mk _ (Op.fieldAddr _ _ _) _ _ _ _ :: _) _ _; rw [← HWE.out]) | (guard_target =~ wpList _ _ _ (Oper.mk none (Op.insert _ _ _ _) _ _ _ _ :: _) _ _; go_must (refine wpList_insert_own _ rfl _ _ _ 116 rfl 9 3 keyS Tryd.underlying116 (plainElem (H := Unit) Tryd.prog 3) (w.heap.size + 3) 0 cmpD0 rfl hown0 (by unfold maxLen; omega) (.string ⟨#[61]⟩) (.int .i64 1) (.string [61]) rfl rfl (WideMaps.keyOf_string_mk (s := ⟨#[61]⟩) Tryd.underlying9 (by unfold maxLen; decide)) (.lit (.int .i64 1)) [] (plainElem_int (a := 1) Tryd.underlying3 (by decide)) ?_; intro u1 hown1 hgrow; have HB1 := hide (HB0.out.grown hgrow HB0.out.size (fun j hj => by cases hj; omega)); clear hgrow hown0; refine wpList_insert_own _ rfl _ _ _ 116 rfl 9 3 keyS Tryd.underlying116 (plainElem (H := Unit) Tryd.prog 3) (w.heap.size + 3) 1 cmpD1 rfl hown1 (by unfold maxLen; omega) (.string ⟨#[33, 61]⟩) (.int .i64 2) (.string [33, 61]) rfl rfl (WideMaps.keyOf_string_mk (s := ⟨#[33, 61]⟩) Tryd.underlying9 (by unfold maxLen; decide)) (.lit (.int .i64 2)) [] (plainElem_int (a := 2) Tryd.underlying3 (by decide)) ?_; intro u2 hown2 hgrow; have HB2 := hide (HB1.out.grown hgrow HB1.out.size (fun j hj => by cases hj; omega)); clear hgrow hown1; refine wpList_insert_own _ rfl _ _ _ 116 rfl 9 3 keyS Tryd.underlying116 (plainElem (H := Unit) Tryd.prog 3) (w.heap.size + 3) 2 cmpD2 rfl hown2 (by unfold maxLen; omega) (.string ⟨#[60]⟩) (.int .i64 3) (.string [60]) rfl rfl (WideMaps.keyOf_string_mk (s := ⟨#[60]⟩) Tryd.underlying9 (by unfold maxLen; decide)) (.lit (.int .i64 3)) [] (plainElem_int (a := 3) Tryd.underlying3 (by decide)) ?_; intro u3 hown3 hgrow; have HB3 := hide (HB2.out.grown hgrow HB2.out.size (fun j hj => by cases hj; omega)); clear hgrow hown2; refine wpList_insert_own _ rfl _ _ _ 116 rfl 9 3 keyS Tryd.underlying116 (plainElem (H := Unit) Tryd.prog 3) (w.heap.size + 3) 3 cmpD3 rfl hown3 (by unfold maxLen; omega) (.string ⟨#[60, 61]⟩) (.int .i64 4) (.string [60, 61]) rfl rfl (WideMaps.keyOf_string_mk (s := ⟨#[60, 61]⟩) Tryd.underlying9 (by unfold maxLen; decide)) (.lit (.int .i64 4)) [] (plainElem_int (a := 4) Tryd.underlying3 (by decide)) ?_; intro u4 hown4 hgrow; have HB4 := hide (HB3.out.grown hgrow HB3.out.size (fun j hj => by cases hj; omega)); clear hgrow hown3; refine wpList_insert_own _ rfl _ _ _ 116 rfl 9 3 keyS Tryd.underlying116 (plainElem (H := Unit) Tryd.prog 3) (w.heap.size + 3) 4 cmpD4 rfl hown4 (by unfold maxLen; omega) (.string ⟨#[62]⟩) (.int .i64 5) (.string [62]) rfl rfl (WideMaps.keyOf_string_mk (s := ⟨#[62]⟩) Tryd.underlying9 (by unfold maxLen; decide)) (.lit (.int .i64 5)) [] (plainElem_int (a := 5) Tryd.underlying3 (by decide)) ?_; intro u5 hown5 hgrow; have HB5 := hide (HB4.out.grown hgrow HB4.out.size (fun j hj => by cases hj; omega)); clear hgrow hown4; refine wpList_insert_own _ rfl _ _ _ 116 rfl 9 3 keyS Tryd.underlying116 (plainElem (H := Unit) Tryd.prog 3) (w.heap.size + 3) 5 cmpD5 rfl hown5 (by unfold maxLen; omega) (.string ⟨#[62, 61]⟩) (.int .i64 6) (.string [62, 61]) rfl rfl (WideMaps.keyOf_string_mk (s := ⟨#[62, 61]⟩) Tryd.underlying9 (by unfold maxLen; decide)) (.lit (.int .i64 6)) [] (plainElem_int (a := 6) Tryd.underlying3 (by decide)) ?_; intro u6 hown6 hgrow; have HB6 := hide (HB5.out.grown hgrow HB5.out.size (fun j hj => by cases hj; omega)); clear hgrow hown5; have ⟨a0, a1, a2, a3, a4, a5, a6, b0, b1, b2, r0, r1, r2, f0, f1, f2, hz⟩ := HAt.out _ HB6.out; have ⟨yg0, yg1, yg2, yp0, yp1, yp2⟩ := HG.out _ HB6.out)) | (at_lookup; go_must (refine wpList_lookup_own_int _ rfl _ _ 116 rfl 9 3 .i64 keyS Tryd.underlying116 Tryd.underlying3 (zeroI _) (w.heap.size + 3) 6 cmpD6 rfl hown6 _ _ rfl HKo.out ?_; intro cc hat hwc; obtain rfl : cc = 3 := num_of (hat.symm.trans cmpD_at2); clear hat hwc hown6)))
  clear g0 g1 g2 p0 p1 p2
  have hD : Below W.heap.size W u6.drew := HB6.out.drew
  first
    | (go_region_law (first
      | (go_simp; go_at_call 65; refine (HAr.out _).mono ?_; rintro e wB ⟨rfl, hbB⟩; have hB := then_below hD hbB; have ⟨Ba0, Ba1, Ba2, Ba3, Ba4, Ba5, Ba6, Bb0, Bb1, Bb2, Br0, Br1, Br2, Bf0, Bf1, Bf2, Bhz⟩ := HAt.out _ hB; clear hbB)))
    | fail
  all_goals
    go_wp2_with fail
    go_ret
    refine ⟨rfl, ?_⟩
    have hfin := HL.out.trans (hB.mono HL.out.size)
    exact ((hfin.setCell (p := ⟨w.heap.size + 2, 0, none⟩) (by simp only; omega) _).setCell (p := ⟨w.heap.size + 2, 1, none⟩) (by simp only; omega) _).setCell (p := ⟨w.heap.size + 2, 2, none⟩) (by simp only; omega) _

set_option maxHeartbeats 3200000 in
set_option maxRecDepth 100000 in
theorem whole_cmp3 (x : XT) (Ra : Option Addr) (cr : Nat) (vs : List (Int × Int × ByteArray)) (k n : Int) (s : ByteArray) (xe : Int) (w : World) (hR : RowAt w.heap.size w Ra vs) (e1 : (x.op.toList == [97, 110, 100]) = false) (e2 : (x.op.toList == [111, 114]) = false) (e3 : (x.op.toList == [110, 111, 116]) = false) (k3 : (x.kind == 3) = false) (q0 : (x.op.toList == [61]) = false) (q1 : (x.op.toList == [33, 61]) = false) (q2 : (x.op.toList == [60]) = false) (q3 : (x.op.toList == [60, 61]) = true) (hl : vs.length = 2) (hA : ∀ w, Calls Tryd.prog 65 #[.int .i64 4, vVal (vs.getD 0 d3).1 (vs.getD 0 d3).2.1 (vs.getD 0 d3).2.2, vVal (vs.getD 1 d3).1 (vs.getD 1 d3).2.1 (vs.getD 1 d3).2.2] w fun e w' => e = .returned (vVal k n s) ∧ Below w.heap.size w w') (hx : xe = 0) :
    Calls Tryd.prog 44 #[vX x, .slice Ra vs.length cr, vVal k n s, .int .i64 xe] w fun e w' => e = .returned (.bool true) ∧ Below w.heap.size w w' := by
  subst hx
  have HAr := hide hA
  clear hA
  have hq : ∀ w : World, (binOp .eql 29 (vVal k n s) (vVal k n s)).run Tryd.prog w = .ok (.bool true) w := fun w => (run_eql_val k n k n s s w).trans (by simp)
  have hg := fun u u' w => run_guard_val k n k n s s u u' w
  have hal := evW_below w x (k, n, s)
  have HAt := hide (fun w' => evW_at (w := w) (x := x) (v := (k, n, s)) (w' := w'))
  have HL := hide hal
  obtain ⟨kd, nm, xv, o, A, c, ts⟩ := x
  have HWE := hide (show evW w (.mk kd nm xv o A c ts) (k, n, s) = ((w.alloc (.cells (eCells kd nm xv o A ts.length c) 32)).alloc (.cells #[.int .i64 k, .int .i64 n, .string s] 29)).alloc (.cells #[.int .i64 0, .int .i64 0, .string ⟨#[]⟩] 29) from rfl)
  simp only [XT.kind, XT.name, XT.val, XT.op, XT.adr, XT.args, XT.cap] at *
  show Calls Tryd.prog 44 #[.agg (eCells kd nm xv o A ts.length c), .slice Ra vs.length cr, vVal k n s, .int .i64 _] w _
  generalize evW w (.mk kd nm xv o A c ts) (k, n, s) = W at *
  have HR0 := hide hR
  clear hal hR
  obtain ⟨b, off, rfl, hb, g0, g1, g2⟩ := HR0.out 0 (by omega)
  obtain ⟨b', off', hbe, -, p0, p1, p2⟩ := HR0.out 1 (by omega)
  obtain ⟨rfl, rfl⟩ : b = b' ∧ off = off' := by injection hbe with e1; injection e1 with e2 e3 e4; exact ⟨e2, e3⟩
  clear hbe
  clear HR0
  rw [show vs.getD 0 (0, 0, ⟨#[]⟩) = vs.getD 0 d3 from rfl] at g0 g1 g2
  simp only [Nat.zero_mul, Nat.add_zero] at g0 g1 g2
  have hl0 : ((0 : Int) < (vs.length : Int)) := by omega
  have hn0 : 0 < vs.length := by omega
  rw [show vs.getD 1 (0, 0, ⟨#[]⟩) = vs.getD 1 d3 from rfl] at p0 p1 p2
  simp only [Nat.one_mul, Nat.add_assoc, Nat.reduceAdd] at p0 p1 p2
  have hl1 : ((1 : Int) < (vs.length : Int)) := by omega
  have hn1 : 1 < vs.length := by omega
  generalize vs.getD 0 d3 = a at *
  generalize vs.getD 1 d3 = d at *
  generalize vs.length = m at *
  clear hl
  have gc0 : (((w.alloc (.cells (eCells kd nm xv o A ts.length c) 32)).alloc (.cells #[.int .i64 k, .int .i64 n, .string s] 29)).alloc (.cells #[.int .i64 0, .int .i64 0, .string ⟨#[]⟩] 29)).cell? ⟨b, off, none⟩ = some (.int .i64 a.1) := by rw [← HWE.out]; exact (HL.out.cell (p := ⟨b, off, none⟩) hb).trans g0
  have gc1 : (((w.alloc (.cells (eCells kd nm xv o A ts.length c) 32)).alloc (.cells #[.int .i64 k, .int .i64 n, .string s] 29)).alloc (.cells #[.int .i64 0, .int .i64 0, .string ⟨#[]⟩] 29)).cell? ⟨b, off + 1, none⟩ = some (.int .i64 a.2.1) := by rw [← HWE.out]; exact (HL.out.cell (p := ⟨b, off + 1, none⟩) hb).trans g1
  have gc2 : (((w.alloc (.cells (eCells kd nm xv o A ts.length c) 32)).alloc (.cells #[.int .i64 k, .int .i64 n, .string s] 29)).alloc (.cells #[.int .i64 0, .int .i64 0, .string ⟨#[]⟩] 29)).cell? ⟨b, off + 2, none⟩ = some (.string a.2.2) := by rw [← HWE.out]; exact (HL.out.cell (p := ⟨b, off + 2, none⟩) hb).trans g2
  have pc0 : (((w.alloc (.cells (eCells kd nm xv o A ts.length c) 32)).alloc (.cells #[.int .i64 k, .int .i64 n, .string s] 29)).alloc (.cells #[.int .i64 0, .int .i64 0, .string ⟨#[]⟩] 29)).cell? ⟨b, off + 3, none⟩ = some (.int .i64 d.1) := by rw [← HWE.out]; exact (HL.out.cell (p := ⟨b, off + 3, none⟩) hb).trans p0
  have pc1 : (((w.alloc (.cells (eCells kd nm xv o A ts.length c) 32)).alloc (.cells #[.int .i64 k, .int .i64 n, .string s] 29)).alloc (.cells #[.int .i64 0, .int .i64 0, .string ⟨#[]⟩] 29)).cell? ⟨b, off + 4, none⟩ = some (.int .i64 d.2.1) := by rw [← HWE.out]; exact (HL.out.cell (p := ⟨b, off + 4, none⟩) hb).trans p1
  have pc2 : (((w.alloc (.cells (eCells kd nm xv o A ts.length c) 32)).alloc (.cells #[.int .i64 k, .int .i64 n, .string s] 29)).alloc (.cells #[.int .i64 0, .int .i64 0, .string ⟨#[]⟩] 29)).cell? ⟨b, off + 5, none⟩ = some (.string d.2.2) := by rw [← HWE.out]; exact (HL.out.cell (p := ⟨b, off + 5, none⟩) hb).trans p2
  have HG := hide (fun w' (h : Below W.heap.size W w') => (⟨((HL.out.trans (h.mono HL.out.size)).cell (p := ⟨b, off, none⟩) hb).trans g0, ((HL.out.trans (h.mono HL.out.size)).cell (p := ⟨b, off + 1, none⟩) hb).trans g1, ((HL.out.trans (h.mono HL.out.size)).cell (p := ⟨b, off + 2, none⟩) hb).trans g2, ((HL.out.trans (h.mono HL.out.size)).cell (p := ⟨b, off + 3, none⟩) hb).trans p0, ((HL.out.trans (h.mono HL.out.size)).cell (p := ⟨b, off + 4, none⟩) hb).trans p1, ((HL.out.trans (h.mono HL.out.size)).cell (p := ⟨b, off + 5, none⟩) hb).trans p2⟩ : w'.cell? ⟨b, off, none⟩ = some (.int .i64 a.1) ∧ w'.cell? ⟨b, off + 1, none⟩ = some (.int .i64 a.2.1) ∧ w'.cell? ⟨b, off + 2, none⟩ = some (.string a.2.2) ∧ w'.cell? ⟨b, off + 3, none⟩ = some (.int .i64 d.1) ∧ w'.cell? ⟨b, off + 4, none⟩ = some (.int .i64 d.2.1) ∧ w'.cell? ⟨b, off + 5, none⟩ = some (.string d.2.2)))
  have hol : o.data.toList = [60, 61] := by rw [← Lib.toList_data]; exact beq_iff_eq.1 q3
  have hos : o.size ≤ maxLen := by rw [show o.size = o.data.toList.length from by simp, hol]; unfold maxLen; decide
  have HKo := hide (show keyOf Tryd.prog 9 (.string o) = some (.string [60, 61]) from by rw [← hol]; exact WideMaps.keyOf_string_mk Tryd.underlying9 hos)
  clear hol hos
  have hmm := @run_makeMap Tryd.prog
  have HW3 : W.heap.size = w.heap.size + 3 := by rw [HWE.out]; simp
  have hown0 : (W.alloc (.map #[] 0)).ownsMap Tryd.prog 9 (plainElem (H := Unit) Tryd.prog 3) (w.heap.size + 3) 0 cmpD0 := by rw [← HW3]; exact World.ownsMap_made _ _ _ _
  have HB0 := hide ((Below.refl W.heap.size W).alloc (Nat.le_refl _) (.map #[] 0))
  clear gc0 gc1 gc2 pc0 pc1 pc2
  obtain ⟨a0, a1, a2, a3, a4, a5, a6, b0, b1, b2, r0, r1, r2, f0, f1, f2, hz⟩ := HAt.out _ (Below.refl _ _)
  obtain ⟨zg0, zg1, zg2, zp0, zp1, zp2⟩ := HG.out _ (Below.refl _ _)
  go_enter Tryd.func44, Tryd.ntmps44
  go_wp2_with (first | (guard_target =~ wpList _ _ _ (Oper.mk _ (Op.fieldAddr _ _ _) _ _ _ _ :: _) _ _; rw [← HWE.out]) | (guard_target =~ wpList _ _ _ (Oper.mk none (Op.insert _ _ _ _) _ _ _ _ :: _) _ _; go_must (refine wpList_insert_own _ rfl _ _ _ 116 rfl 9 3 keyS Tryd.underlying116 (plainElem (H := Unit) Tryd.prog 3) (w.heap.size + 3) 0 cmpD0 rfl hown0 (by unfold maxLen; omega) (.string ⟨#[61]⟩) (.int .i64 1) (.string [61]) rfl rfl (WideMaps.keyOf_string_mk (s := ⟨#[61]⟩) Tryd.underlying9 (by unfold maxLen; decide)) (.lit (.int .i64 1)) [] (plainElem_int (a := 1) Tryd.underlying3 (by decide)) ?_; intro u1 hown1 hgrow; have HB1 := hide (HB0.out.grown hgrow HB0.out.size (fun j hj => by cases hj; omega)); clear hgrow hown0; refine wpList_insert_own _ rfl _ _ _ 116 rfl 9 3 keyS Tryd.underlying116 (plainElem (H := Unit) Tryd.prog 3) (w.heap.size + 3) 1 cmpD1 rfl hown1 (by unfold maxLen; omega) (.string ⟨#[33, 61]⟩) (.int .i64 2) (.string [33, 61]) rfl rfl (WideMaps.keyOf_string_mk (s := ⟨#[33, 61]⟩) Tryd.underlying9 (by unfold maxLen; decide)) (.lit (.int .i64 2)) [] (plainElem_int (a := 2) Tryd.underlying3 (by decide)) ?_; intro u2 hown2 hgrow; have HB2 := hide (HB1.out.grown hgrow HB1.out.size (fun j hj => by cases hj; omega)); clear hgrow hown1; refine wpList_insert_own _ rfl _ _ _ 116 rfl 9 3 keyS Tryd.underlying116 (plainElem (H := Unit) Tryd.prog 3) (w.heap.size + 3) 2 cmpD2 rfl hown2 (by unfold maxLen; omega) (.string ⟨#[60]⟩) (.int .i64 3) (.string [60]) rfl rfl (WideMaps.keyOf_string_mk (s := ⟨#[60]⟩) Tryd.underlying9 (by unfold maxLen; decide)) (.lit (.int .i64 3)) [] (plainElem_int (a := 3) Tryd.underlying3 (by decide)) ?_; intro u3 hown3 hgrow; have HB3 := hide (HB2.out.grown hgrow HB2.out.size (fun j hj => by cases hj; omega)); clear hgrow hown2; refine wpList_insert_own _ rfl _ _ _ 116 rfl 9 3 keyS Tryd.underlying116 (plainElem (H := Unit) Tryd.prog 3) (w.heap.size + 3) 3 cmpD3 rfl hown3 (by unfold maxLen; omega) (.string ⟨#[60, 61]⟩) (.int .i64 4) (.string [60, 61]) rfl rfl (WideMaps.keyOf_string_mk (s := ⟨#[60, 61]⟩) Tryd.underlying9 (by unfold maxLen; decide)) (.lit (.int .i64 4)) [] (plainElem_int (a := 4) Tryd.underlying3 (by decide)) ?_; intro u4 hown4 hgrow; have HB4 := hide (HB3.out.grown hgrow HB3.out.size (fun j hj => by cases hj; omega)); clear hgrow hown3; refine wpList_insert_own _ rfl _ _ _ 116 rfl 9 3 keyS Tryd.underlying116 (plainElem (H := Unit) Tryd.prog 3) (w.heap.size + 3) 4 cmpD4 rfl hown4 (by unfold maxLen; omega) (.string ⟨#[62]⟩) (.int .i64 5) (.string [62]) rfl rfl (WideMaps.keyOf_string_mk (s := ⟨#[62]⟩) Tryd.underlying9 (by unfold maxLen; decide)) (.lit (.int .i64 5)) [] (plainElem_int (a := 5) Tryd.underlying3 (by decide)) ?_; intro u5 hown5 hgrow; have HB5 := hide (HB4.out.grown hgrow HB4.out.size (fun j hj => by cases hj; omega)); clear hgrow hown4; refine wpList_insert_own _ rfl _ _ _ 116 rfl 9 3 keyS Tryd.underlying116 (plainElem (H := Unit) Tryd.prog 3) (w.heap.size + 3) 5 cmpD5 rfl hown5 (by unfold maxLen; omega) (.string ⟨#[62, 61]⟩) (.int .i64 6) (.string [62, 61]) rfl rfl (WideMaps.keyOf_string_mk (s := ⟨#[62, 61]⟩) Tryd.underlying9 (by unfold maxLen; decide)) (.lit (.int .i64 6)) [] (plainElem_int (a := 6) Tryd.underlying3 (by decide)) ?_; intro u6 hown6 hgrow; have HB6 := hide (HB5.out.grown hgrow HB5.out.size (fun j hj => by cases hj; omega)); clear hgrow hown5; have ⟨a0, a1, a2, a3, a4, a5, a6, b0, b1, b2, r0, r1, r2, f0, f1, f2, hz⟩ := HAt.out _ HB6.out; have ⟨yg0, yg1, yg2, yp0, yp1, yp2⟩ := HG.out _ HB6.out)) | (at_lookup; go_must (refine wpList_lookup_own_int _ rfl _ _ 116 rfl 9 3 .i64 keyS Tryd.underlying116 Tryd.underlying3 (zeroI _) (w.heap.size + 3) 6 cmpD6 rfl hown6 _ _ rfl HKo.out ?_; intro cc hat hwc; obtain rfl : cc = 4 := num_of (hat.symm.trans cmpD_at3); clear hat hwc hown6)))
  clear g0 g1 g2 p0 p1 p2
  have hD : Below W.heap.size W u6.drew := HB6.out.drew
  first
    | (go_region_law (first
      | (go_simp; go_at_call 65; refine (HAr.out _).mono ?_; rintro e wB ⟨rfl, hbB⟩; have hB := then_below hD hbB; have ⟨Ba0, Ba1, Ba2, Ba3, Ba4, Ba5, Ba6, Bb0, Bb1, Bb2, Br0, Br1, Br2, Bf0, Bf1, Bf2, Bhz⟩ := HAt.out _ hB; clear hbB)))
    | fail
  all_goals
    go_wp2_with fail
    go_ret
    refine ⟨rfl, ?_⟩
    have hfin := HL.out.trans (hB.mono HL.out.size)
    exact ((hfin.setCell (p := ⟨w.heap.size + 2, 0, none⟩) (by simp only; omega) _).setCell (p := ⟨w.heap.size + 2, 1, none⟩) (by simp only; omega) _).setCell (p := ⟨w.heap.size + 2, 2, none⟩) (by simp only; omega) _

set_option maxHeartbeats 3200000 in
set_option maxRecDepth 100000 in
theorem whole_cmp4 (x : XT) (Ra : Option Addr) (cr : Nat) (vs : List (Int × Int × ByteArray)) (k n : Int) (s : ByteArray) (xe : Int) (w : World) (hR : RowAt w.heap.size w Ra vs) (e1 : (x.op.toList == [97, 110, 100]) = false) (e2 : (x.op.toList == [111, 114]) = false) (e3 : (x.op.toList == [110, 111, 116]) = false) (k3 : (x.kind == 3) = false) (q0 : (x.op.toList == [61]) = false) (q1 : (x.op.toList == [33, 61]) = false) (q2 : (x.op.toList == [60]) = false) (q3 : (x.op.toList == [60, 61]) = false) (q4 : (x.op.toList == [62]) = true) (hl : vs.length = 2) (hA : ∀ w, Calls Tryd.prog 65 #[.int .i64 5, vVal (vs.getD 0 d3).1 (vs.getD 0 d3).2.1 (vs.getD 0 d3).2.2, vVal (vs.getD 1 d3).1 (vs.getD 1 d3).2.1 (vs.getD 1 d3).2.2] w fun e w' => e = .returned (vVal k n s) ∧ Below w.heap.size w w') (hx : xe = 0) :
    Calls Tryd.prog 44 #[vX x, .slice Ra vs.length cr, vVal k n s, .int .i64 xe] w fun e w' => e = .returned (.bool true) ∧ Below w.heap.size w w' := by
  subst hx
  have HAr := hide hA
  clear hA
  have hq : ∀ w : World, (binOp .eql 29 (vVal k n s) (vVal k n s)).run Tryd.prog w = .ok (.bool true) w := fun w => (run_eql_val k n k n s s w).trans (by simp)
  have hg := fun u u' w => run_guard_val k n k n s s u u' w
  have hal := evW_below w x (k, n, s)
  have HAt := hide (fun w' => evW_at (w := w) (x := x) (v := (k, n, s)) (w' := w'))
  have HL := hide hal
  obtain ⟨kd, nm, xv, o, A, c, ts⟩ := x
  have HWE := hide (show evW w (.mk kd nm xv o A c ts) (k, n, s) = ((w.alloc (.cells (eCells kd nm xv o A ts.length c) 32)).alloc (.cells #[.int .i64 k, .int .i64 n, .string s] 29)).alloc (.cells #[.int .i64 0, .int .i64 0, .string ⟨#[]⟩] 29) from rfl)
  simp only [XT.kind, XT.name, XT.val, XT.op, XT.adr, XT.args, XT.cap] at *
  show Calls Tryd.prog 44 #[.agg (eCells kd nm xv o A ts.length c), .slice Ra vs.length cr, vVal k n s, .int .i64 _] w _
  generalize evW w (.mk kd nm xv o A c ts) (k, n, s) = W at *
  have HR0 := hide hR
  clear hal hR
  obtain ⟨b, off, rfl, hb, g0, g1, g2⟩ := HR0.out 0 (by omega)
  obtain ⟨b', off', hbe, -, p0, p1, p2⟩ := HR0.out 1 (by omega)
  obtain ⟨rfl, rfl⟩ : b = b' ∧ off = off' := by injection hbe with e1; injection e1 with e2 e3 e4; exact ⟨e2, e3⟩
  clear hbe
  clear HR0
  rw [show vs.getD 0 (0, 0, ⟨#[]⟩) = vs.getD 0 d3 from rfl] at g0 g1 g2
  simp only [Nat.zero_mul, Nat.add_zero] at g0 g1 g2
  have hl0 : ((0 : Int) < (vs.length : Int)) := by omega
  have hn0 : 0 < vs.length := by omega
  rw [show vs.getD 1 (0, 0, ⟨#[]⟩) = vs.getD 1 d3 from rfl] at p0 p1 p2
  simp only [Nat.one_mul, Nat.add_assoc, Nat.reduceAdd] at p0 p1 p2
  have hl1 : ((1 : Int) < (vs.length : Int)) := by omega
  have hn1 : 1 < vs.length := by omega
  generalize vs.getD 0 d3 = a at *
  generalize vs.getD 1 d3 = d at *
  generalize vs.length = m at *
  clear hl
  have gc0 : (((w.alloc (.cells (eCells kd nm xv o A ts.length c) 32)).alloc (.cells #[.int .i64 k, .int .i64 n, .string s] 29)).alloc (.cells #[.int .i64 0, .int .i64 0, .string ⟨#[]⟩] 29)).cell? ⟨b, off, none⟩ = some (.int .i64 a.1) := by rw [← HWE.out]; exact (HL.out.cell (p := ⟨b, off, none⟩) hb).trans g0
  have gc1 : (((w.alloc (.cells (eCells kd nm xv o A ts.length c) 32)).alloc (.cells #[.int .i64 k, .int .i64 n, .string s] 29)).alloc (.cells #[.int .i64 0, .int .i64 0, .string ⟨#[]⟩] 29)).cell? ⟨b, off + 1, none⟩ = some (.int .i64 a.2.1) := by rw [← HWE.out]; exact (HL.out.cell (p := ⟨b, off + 1, none⟩) hb).trans g1
  have gc2 : (((w.alloc (.cells (eCells kd nm xv o A ts.length c) 32)).alloc (.cells #[.int .i64 k, .int .i64 n, .string s] 29)).alloc (.cells #[.int .i64 0, .int .i64 0, .string ⟨#[]⟩] 29)).cell? ⟨b, off + 2, none⟩ = some (.string a.2.2) := by rw [← HWE.out]; exact (HL.out.cell (p := ⟨b, off + 2, none⟩) hb).trans g2
  have pc0 : (((w.alloc (.cells (eCells kd nm xv o A ts.length c) 32)).alloc (.cells #[.int .i64 k, .int .i64 n, .string s] 29)).alloc (.cells #[.int .i64 0, .int .i64 0, .string ⟨#[]⟩] 29)).cell? ⟨b, off + 3, none⟩ = some (.int .i64 d.1) := by rw [← HWE.out]; exact (HL.out.cell (p := ⟨b, off + 3, none⟩) hb).trans p0
  have pc1 : (((w.alloc (.cells (eCells kd nm xv o A ts.length c) 32)).alloc (.cells #[.int .i64 k, .int .i64 n, .string s] 29)).alloc (.cells #[.int .i64 0, .int .i64 0, .string ⟨#[]⟩] 29)).cell? ⟨b, off + 4, none⟩ = some (.int .i64 d.2.1) := by rw [← HWE.out]; exact (HL.out.cell (p := ⟨b, off + 4, none⟩) hb).trans p1
  have pc2 : (((w.alloc (.cells (eCells kd nm xv o A ts.length c) 32)).alloc (.cells #[.int .i64 k, .int .i64 n, .string s] 29)).alloc (.cells #[.int .i64 0, .int .i64 0, .string ⟨#[]⟩] 29)).cell? ⟨b, off + 5, none⟩ = some (.string d.2.2) := by rw [← HWE.out]; exact (HL.out.cell (p := ⟨b, off + 5, none⟩) hb).trans p2
  have HG := hide (fun w' (h : Below W.heap.size W w') => (⟨((HL.out.trans (h.mono HL.out.size)).cell (p := ⟨b, off, none⟩) hb).trans g0, ((HL.out.trans (h.mono HL.out.size)).cell (p := ⟨b, off + 1, none⟩) hb).trans g1, ((HL.out.trans (h.mono HL.out.size)).cell (p := ⟨b, off + 2, none⟩) hb).trans g2, ((HL.out.trans (h.mono HL.out.size)).cell (p := ⟨b, off + 3, none⟩) hb).trans p0, ((HL.out.trans (h.mono HL.out.size)).cell (p := ⟨b, off + 4, none⟩) hb).trans p1, ((HL.out.trans (h.mono HL.out.size)).cell (p := ⟨b, off + 5, none⟩) hb).trans p2⟩ : w'.cell? ⟨b, off, none⟩ = some (.int .i64 a.1) ∧ w'.cell? ⟨b, off + 1, none⟩ = some (.int .i64 a.2.1) ∧ w'.cell? ⟨b, off + 2, none⟩ = some (.string a.2.2) ∧ w'.cell? ⟨b, off + 3, none⟩ = some (.int .i64 d.1) ∧ w'.cell? ⟨b, off + 4, none⟩ = some (.int .i64 d.2.1) ∧ w'.cell? ⟨b, off + 5, none⟩ = some (.string d.2.2)))
  have hol : o.data.toList = [62] := by rw [← Lib.toList_data]; exact beq_iff_eq.1 q4
  have hos : o.size ≤ maxLen := by rw [show o.size = o.data.toList.length from by simp, hol]; unfold maxLen; decide
  have HKo := hide (show keyOf Tryd.prog 9 (.string o) = some (.string [62]) from by rw [← hol]; exact WideMaps.keyOf_string_mk Tryd.underlying9 hos)
  clear hol hos
  have hmm := @run_makeMap Tryd.prog
  have HW3 : W.heap.size = w.heap.size + 3 := by rw [HWE.out]; simp
  have hown0 : (W.alloc (.map #[] 0)).ownsMap Tryd.prog 9 (plainElem (H := Unit) Tryd.prog 3) (w.heap.size + 3) 0 cmpD0 := by rw [← HW3]; exact World.ownsMap_made _ _ _ _
  have HB0 := hide ((Below.refl W.heap.size W).alloc (Nat.le_refl _) (.map #[] 0))
  clear gc0 gc1 gc2 pc0 pc1 pc2
  obtain ⟨a0, a1, a2, a3, a4, a5, a6, b0, b1, b2, r0, r1, r2, f0, f1, f2, hz⟩ := HAt.out _ (Below.refl _ _)
  obtain ⟨zg0, zg1, zg2, zp0, zp1, zp2⟩ := HG.out _ (Below.refl _ _)
  go_enter Tryd.func44, Tryd.ntmps44
  go_wp2_with (first | (guard_target =~ wpList _ _ _ (Oper.mk _ (Op.fieldAddr _ _ _) _ _ _ _ :: _) _ _; rw [← HWE.out]) | (guard_target =~ wpList _ _ _ (Oper.mk none (Op.insert _ _ _ _) _ _ _ _ :: _) _ _; go_must (refine wpList_insert_own _ rfl _ _ _ 116 rfl 9 3 keyS Tryd.underlying116 (plainElem (H := Unit) Tryd.prog 3) (w.heap.size + 3) 0 cmpD0 rfl hown0 (by unfold maxLen; omega) (.string ⟨#[61]⟩) (.int .i64 1) (.string [61]) rfl rfl (WideMaps.keyOf_string_mk (s := ⟨#[61]⟩) Tryd.underlying9 (by unfold maxLen; decide)) (.lit (.int .i64 1)) [] (plainElem_int (a := 1) Tryd.underlying3 (by decide)) ?_; intro u1 hown1 hgrow; have HB1 := hide (HB0.out.grown hgrow HB0.out.size (fun j hj => by cases hj; omega)); clear hgrow hown0; refine wpList_insert_own _ rfl _ _ _ 116 rfl 9 3 keyS Tryd.underlying116 (plainElem (H := Unit) Tryd.prog 3) (w.heap.size + 3) 1 cmpD1 rfl hown1 (by unfold maxLen; omega) (.string ⟨#[33, 61]⟩) (.int .i64 2) (.string [33, 61]) rfl rfl (WideMaps.keyOf_string_mk (s := ⟨#[33, 61]⟩) Tryd.underlying9 (by unfold maxLen; decide)) (.lit (.int .i64 2)) [] (plainElem_int (a := 2) Tryd.underlying3 (by decide)) ?_; intro u2 hown2 hgrow; have HB2 := hide (HB1.out.grown hgrow HB1.out.size (fun j hj => by cases hj; omega)); clear hgrow hown1; refine wpList_insert_own _ rfl _ _ _ 116 rfl 9 3 keyS Tryd.underlying116 (plainElem (H := Unit) Tryd.prog 3) (w.heap.size + 3) 2 cmpD2 rfl hown2 (by unfold maxLen; omega) (.string ⟨#[60]⟩) (.int .i64 3) (.string [60]) rfl rfl (WideMaps.keyOf_string_mk (s := ⟨#[60]⟩) Tryd.underlying9 (by unfold maxLen; decide)) (.lit (.int .i64 3)) [] (plainElem_int (a := 3) Tryd.underlying3 (by decide)) ?_; intro u3 hown3 hgrow; have HB3 := hide (HB2.out.grown hgrow HB2.out.size (fun j hj => by cases hj; omega)); clear hgrow hown2; refine wpList_insert_own _ rfl _ _ _ 116 rfl 9 3 keyS Tryd.underlying116 (plainElem (H := Unit) Tryd.prog 3) (w.heap.size + 3) 3 cmpD3 rfl hown3 (by unfold maxLen; omega) (.string ⟨#[60, 61]⟩) (.int .i64 4) (.string [60, 61]) rfl rfl (WideMaps.keyOf_string_mk (s := ⟨#[60, 61]⟩) Tryd.underlying9 (by unfold maxLen; decide)) (.lit (.int .i64 4)) [] (plainElem_int (a := 4) Tryd.underlying3 (by decide)) ?_; intro u4 hown4 hgrow; have HB4 := hide (HB3.out.grown hgrow HB3.out.size (fun j hj => by cases hj; omega)); clear hgrow hown3; refine wpList_insert_own _ rfl _ _ _ 116 rfl 9 3 keyS Tryd.underlying116 (plainElem (H := Unit) Tryd.prog 3) (w.heap.size + 3) 4 cmpD4 rfl hown4 (by unfold maxLen; omega) (.string ⟨#[62]⟩) (.int .i64 5) (.string [62]) rfl rfl (WideMaps.keyOf_string_mk (s := ⟨#[62]⟩) Tryd.underlying9 (by unfold maxLen; decide)) (.lit (.int .i64 5)) [] (plainElem_int (a := 5) Tryd.underlying3 (by decide)) ?_; intro u5 hown5 hgrow; have HB5 := hide (HB4.out.grown hgrow HB4.out.size (fun j hj => by cases hj; omega)); clear hgrow hown4; refine wpList_insert_own _ rfl _ _ _ 116 rfl 9 3 keyS Tryd.underlying116 (plainElem (H := Unit) Tryd.prog 3) (w.heap.size + 3) 5 cmpD5 rfl hown5 (by unfold maxLen; omega) (.string ⟨#[62, 61]⟩) (.int .i64 6) (.string [62, 61]) rfl rfl (WideMaps.keyOf_string_mk (s := ⟨#[62, 61]⟩) Tryd.underlying9 (by unfold maxLen; decide)) (.lit (.int .i64 6)) [] (plainElem_int (a := 6) Tryd.underlying3 (by decide)) ?_; intro u6 hown6 hgrow; have HB6 := hide (HB5.out.grown hgrow HB5.out.size (fun j hj => by cases hj; omega)); clear hgrow hown5; have ⟨a0, a1, a2, a3, a4, a5, a6, b0, b1, b2, r0, r1, r2, f0, f1, f2, hz⟩ := HAt.out _ HB6.out; have ⟨yg0, yg1, yg2, yp0, yp1, yp2⟩ := HG.out _ HB6.out)) | (at_lookup; go_must (refine wpList_lookup_own_int _ rfl _ _ 116 rfl 9 3 .i64 keyS Tryd.underlying116 Tryd.underlying3 (zeroI _) (w.heap.size + 3) 6 cmpD6 rfl hown6 _ _ rfl HKo.out ?_; intro cc hat hwc; obtain rfl : cc = 5 := num_of (hat.symm.trans cmpD_at4); clear hat hwc hown6)))
  clear g0 g1 g2 p0 p1 p2
  have hD : Below W.heap.size W u6.drew := HB6.out.drew
  first
    | (go_region_law (first
      | (go_simp; go_at_call 65; refine (HAr.out _).mono ?_; rintro e wB ⟨rfl, hbB⟩; have hB := then_below hD hbB; have ⟨Ba0, Ba1, Ba2, Ba3, Ba4, Ba5, Ba6, Bb0, Bb1, Bb2, Br0, Br1, Br2, Bf0, Bf1, Bf2, Bhz⟩ := HAt.out _ hB; clear hbB)))
    | fail
  all_goals
    go_wp2_with fail
    go_ret
    refine ⟨rfl, ?_⟩
    have hfin := HL.out.trans (hB.mono HL.out.size)
    exact ((hfin.setCell (p := ⟨w.heap.size + 2, 0, none⟩) (by simp only; omega) _).setCell (p := ⟨w.heap.size + 2, 1, none⟩) (by simp only; omega) _).setCell (p := ⟨w.heap.size + 2, 2, none⟩) (by simp only; omega) _

set_option maxHeartbeats 3200000 in
set_option maxRecDepth 100000 in
theorem whole_cmp5 (x : XT) (Ra : Option Addr) (cr : Nat) (vs : List (Int × Int × ByteArray)) (k n : Int) (s : ByteArray) (xe : Int) (w : World) (hR : RowAt w.heap.size w Ra vs) (e1 : (x.op.toList == [97, 110, 100]) = false) (e2 : (x.op.toList == [111, 114]) = false) (e3 : (x.op.toList == [110, 111, 116]) = false) (k3 : (x.kind == 3) = false) (q0 : (x.op.toList == [61]) = false) (q1 : (x.op.toList == [33, 61]) = false) (q2 : (x.op.toList == [60]) = false) (q3 : (x.op.toList == [60, 61]) = false) (q4 : (x.op.toList == [62]) = false) (q5 : (x.op.toList == [62, 61]) = true) (hl : vs.length = 2) (hA : ∀ w, Calls Tryd.prog 65 #[.int .i64 6, vVal (vs.getD 0 d3).1 (vs.getD 0 d3).2.1 (vs.getD 0 d3).2.2, vVal (vs.getD 1 d3).1 (vs.getD 1 d3).2.1 (vs.getD 1 d3).2.2] w fun e w' => e = .returned (vVal k n s) ∧ Below w.heap.size w w') (hx : xe = 0) :
    Calls Tryd.prog 44 #[vX x, .slice Ra vs.length cr, vVal k n s, .int .i64 xe] w fun e w' => e = .returned (.bool true) ∧ Below w.heap.size w w' := by
  subst hx
  have HAr := hide hA
  clear hA
  have hq : ∀ w : World, (binOp .eql 29 (vVal k n s) (vVal k n s)).run Tryd.prog w = .ok (.bool true) w := fun w => (run_eql_val k n k n s s w).trans (by simp)
  have hg := fun u u' w => run_guard_val k n k n s s u u' w
  have hal := evW_below w x (k, n, s)
  have HAt := hide (fun w' => evW_at (w := w) (x := x) (v := (k, n, s)) (w' := w'))
  have HL := hide hal
  obtain ⟨kd, nm, xv, o, A, c, ts⟩ := x
  have HWE := hide (show evW w (.mk kd nm xv o A c ts) (k, n, s) = ((w.alloc (.cells (eCells kd nm xv o A ts.length c) 32)).alloc (.cells #[.int .i64 k, .int .i64 n, .string s] 29)).alloc (.cells #[.int .i64 0, .int .i64 0, .string ⟨#[]⟩] 29) from rfl)
  simp only [XT.kind, XT.name, XT.val, XT.op, XT.adr, XT.args, XT.cap] at *
  show Calls Tryd.prog 44 #[.agg (eCells kd nm xv o A ts.length c), .slice Ra vs.length cr, vVal k n s, .int .i64 _] w _
  generalize evW w (.mk kd nm xv o A c ts) (k, n, s) = W at *
  have HR0 := hide hR
  clear hal hR
  obtain ⟨b, off, rfl, hb, g0, g1, g2⟩ := HR0.out 0 (by omega)
  obtain ⟨b', off', hbe, -, p0, p1, p2⟩ := HR0.out 1 (by omega)
  obtain ⟨rfl, rfl⟩ : b = b' ∧ off = off' := by injection hbe with e1; injection e1 with e2 e3 e4; exact ⟨e2, e3⟩
  clear hbe
  clear HR0
  rw [show vs.getD 0 (0, 0, ⟨#[]⟩) = vs.getD 0 d3 from rfl] at g0 g1 g2
  simp only [Nat.zero_mul, Nat.add_zero] at g0 g1 g2
  have hl0 : ((0 : Int) < (vs.length : Int)) := by omega
  have hn0 : 0 < vs.length := by omega
  rw [show vs.getD 1 (0, 0, ⟨#[]⟩) = vs.getD 1 d3 from rfl] at p0 p1 p2
  simp only [Nat.one_mul, Nat.add_assoc, Nat.reduceAdd] at p0 p1 p2
  have hl1 : ((1 : Int) < (vs.length : Int)) := by omega
  have hn1 : 1 < vs.length := by omega
  generalize vs.getD 0 d3 = a at *
  generalize vs.getD 1 d3 = d at *
  generalize vs.length = m at *
  clear hl
  have gc0 : (((w.alloc (.cells (eCells kd nm xv o A ts.length c) 32)).alloc (.cells #[.int .i64 k, .int .i64 n, .string s] 29)).alloc (.cells #[.int .i64 0, .int .i64 0, .string ⟨#[]⟩] 29)).cell? ⟨b, off, none⟩ = some (.int .i64 a.1) := by rw [← HWE.out]; exact (HL.out.cell (p := ⟨b, off, none⟩) hb).trans g0
  have gc1 : (((w.alloc (.cells (eCells kd nm xv o A ts.length c) 32)).alloc (.cells #[.int .i64 k, .int .i64 n, .string s] 29)).alloc (.cells #[.int .i64 0, .int .i64 0, .string ⟨#[]⟩] 29)).cell? ⟨b, off + 1, none⟩ = some (.int .i64 a.2.1) := by rw [← HWE.out]; exact (HL.out.cell (p := ⟨b, off + 1, none⟩) hb).trans g1
  have gc2 : (((w.alloc (.cells (eCells kd nm xv o A ts.length c) 32)).alloc (.cells #[.int .i64 k, .int .i64 n, .string s] 29)).alloc (.cells #[.int .i64 0, .int .i64 0, .string ⟨#[]⟩] 29)).cell? ⟨b, off + 2, none⟩ = some (.string a.2.2) := by rw [← HWE.out]; exact (HL.out.cell (p := ⟨b, off + 2, none⟩) hb).trans g2
  have pc0 : (((w.alloc (.cells (eCells kd nm xv o A ts.length c) 32)).alloc (.cells #[.int .i64 k, .int .i64 n, .string s] 29)).alloc (.cells #[.int .i64 0, .int .i64 0, .string ⟨#[]⟩] 29)).cell? ⟨b, off + 3, none⟩ = some (.int .i64 d.1) := by rw [← HWE.out]; exact (HL.out.cell (p := ⟨b, off + 3, none⟩) hb).trans p0
  have pc1 : (((w.alloc (.cells (eCells kd nm xv o A ts.length c) 32)).alloc (.cells #[.int .i64 k, .int .i64 n, .string s] 29)).alloc (.cells #[.int .i64 0, .int .i64 0, .string ⟨#[]⟩] 29)).cell? ⟨b, off + 4, none⟩ = some (.int .i64 d.2.1) := by rw [← HWE.out]; exact (HL.out.cell (p := ⟨b, off + 4, none⟩) hb).trans p1
  have pc2 : (((w.alloc (.cells (eCells kd nm xv o A ts.length c) 32)).alloc (.cells #[.int .i64 k, .int .i64 n, .string s] 29)).alloc (.cells #[.int .i64 0, .int .i64 0, .string ⟨#[]⟩] 29)).cell? ⟨b, off + 5, none⟩ = some (.string d.2.2) := by rw [← HWE.out]; exact (HL.out.cell (p := ⟨b, off + 5, none⟩) hb).trans p2
  have HG := hide (fun w' (h : Below W.heap.size W w') => (⟨((HL.out.trans (h.mono HL.out.size)).cell (p := ⟨b, off, none⟩) hb).trans g0, ((HL.out.trans (h.mono HL.out.size)).cell (p := ⟨b, off + 1, none⟩) hb).trans g1, ((HL.out.trans (h.mono HL.out.size)).cell (p := ⟨b, off + 2, none⟩) hb).trans g2, ((HL.out.trans (h.mono HL.out.size)).cell (p := ⟨b, off + 3, none⟩) hb).trans p0, ((HL.out.trans (h.mono HL.out.size)).cell (p := ⟨b, off + 4, none⟩) hb).trans p1, ((HL.out.trans (h.mono HL.out.size)).cell (p := ⟨b, off + 5, none⟩) hb).trans p2⟩ : w'.cell? ⟨b, off, none⟩ = some (.int .i64 a.1) ∧ w'.cell? ⟨b, off + 1, none⟩ = some (.int .i64 a.2.1) ∧ w'.cell? ⟨b, off + 2, none⟩ = some (.string a.2.2) ∧ w'.cell? ⟨b, off + 3, none⟩ = some (.int .i64 d.1) ∧ w'.cell? ⟨b, off + 4, none⟩ = some (.int .i64 d.2.1) ∧ w'.cell? ⟨b, off + 5, none⟩ = some (.string d.2.2)))
  have hol : o.data.toList = [62, 61] := by rw [← Lib.toList_data]; exact beq_iff_eq.1 q5
  have hos : o.size ≤ maxLen := by rw [show o.size = o.data.toList.length from by simp, hol]; unfold maxLen; decide
  have HKo := hide (show keyOf Tryd.prog 9 (.string o) = some (.string [62, 61]) from by rw [← hol]; exact WideMaps.keyOf_string_mk Tryd.underlying9 hos)
  clear hol hos
  have hmm := @run_makeMap Tryd.prog
  have HW3 : W.heap.size = w.heap.size + 3 := by rw [HWE.out]; simp
  have hown0 : (W.alloc (.map #[] 0)).ownsMap Tryd.prog 9 (plainElem (H := Unit) Tryd.prog 3) (w.heap.size + 3) 0 cmpD0 := by rw [← HW3]; exact World.ownsMap_made _ _ _ _
  have HB0 := hide ((Below.refl W.heap.size W).alloc (Nat.le_refl _) (.map #[] 0))
  clear gc0 gc1 gc2 pc0 pc1 pc2
  obtain ⟨a0, a1, a2, a3, a4, a5, a6, b0, b1, b2, r0, r1, r2, f0, f1, f2, hz⟩ := HAt.out _ (Below.refl _ _)
  obtain ⟨zg0, zg1, zg2, zp0, zp1, zp2⟩ := HG.out _ (Below.refl _ _)
  go_enter Tryd.func44, Tryd.ntmps44
  go_wp2_with (first | (guard_target =~ wpList _ _ _ (Oper.mk _ (Op.fieldAddr _ _ _) _ _ _ _ :: _) _ _; rw [← HWE.out]) | (guard_target =~ wpList _ _ _ (Oper.mk none (Op.insert _ _ _ _) _ _ _ _ :: _) _ _; go_must (refine wpList_insert_own _ rfl _ _ _ 116 rfl 9 3 keyS Tryd.underlying116 (plainElem (H := Unit) Tryd.prog 3) (w.heap.size + 3) 0 cmpD0 rfl hown0 (by unfold maxLen; omega) (.string ⟨#[61]⟩) (.int .i64 1) (.string [61]) rfl rfl (WideMaps.keyOf_string_mk (s := ⟨#[61]⟩) Tryd.underlying9 (by unfold maxLen; decide)) (.lit (.int .i64 1)) [] (plainElem_int (a := 1) Tryd.underlying3 (by decide)) ?_; intro u1 hown1 hgrow; have HB1 := hide (HB0.out.grown hgrow HB0.out.size (fun j hj => by cases hj; omega)); clear hgrow hown0; refine wpList_insert_own _ rfl _ _ _ 116 rfl 9 3 keyS Tryd.underlying116 (plainElem (H := Unit) Tryd.prog 3) (w.heap.size + 3) 1 cmpD1 rfl hown1 (by unfold maxLen; omega) (.string ⟨#[33, 61]⟩) (.int .i64 2) (.string [33, 61]) rfl rfl (WideMaps.keyOf_string_mk (s := ⟨#[33, 61]⟩) Tryd.underlying9 (by unfold maxLen; decide)) (.lit (.int .i64 2)) [] (plainElem_int (a := 2) Tryd.underlying3 (by decide)) ?_; intro u2 hown2 hgrow; have HB2 := hide (HB1.out.grown hgrow HB1.out.size (fun j hj => by cases hj; omega)); clear hgrow hown1; refine wpList_insert_own _ rfl _ _ _ 116 rfl 9 3 keyS Tryd.underlying116 (plainElem (H := Unit) Tryd.prog 3) (w.heap.size + 3) 2 cmpD2 rfl hown2 (by unfold maxLen; omega) (.string ⟨#[60]⟩) (.int .i64 3) (.string [60]) rfl rfl (WideMaps.keyOf_string_mk (s := ⟨#[60]⟩) Tryd.underlying9 (by unfold maxLen; decide)) (.lit (.int .i64 3)) [] (plainElem_int (a := 3) Tryd.underlying3 (by decide)) ?_; intro u3 hown3 hgrow; have HB3 := hide (HB2.out.grown hgrow HB2.out.size (fun j hj => by cases hj; omega)); clear hgrow hown2; refine wpList_insert_own _ rfl _ _ _ 116 rfl 9 3 keyS Tryd.underlying116 (plainElem (H := Unit) Tryd.prog 3) (w.heap.size + 3) 3 cmpD3 rfl hown3 (by unfold maxLen; omega) (.string ⟨#[60, 61]⟩) (.int .i64 4) (.string [60, 61]) rfl rfl (WideMaps.keyOf_string_mk (s := ⟨#[60, 61]⟩) Tryd.underlying9 (by unfold maxLen; decide)) (.lit (.int .i64 4)) [] (plainElem_int (a := 4) Tryd.underlying3 (by decide)) ?_; intro u4 hown4 hgrow; have HB4 := hide (HB3.out.grown hgrow HB3.out.size (fun j hj => by cases hj; omega)); clear hgrow hown3; refine wpList_insert_own _ rfl _ _ _ 116 rfl 9 3 keyS Tryd.underlying116 (plainElem (H := Unit) Tryd.prog 3) (w.heap.size + 3) 4 cmpD4 rfl hown4 (by unfold maxLen; omega) (.string ⟨#[62]⟩) (.int .i64 5) (.string [62]) rfl rfl (WideMaps.keyOf_string_mk (s := ⟨#[62]⟩) Tryd.underlying9 (by unfold maxLen; decide)) (.lit (.int .i64 5)) [] (plainElem_int (a := 5) Tryd.underlying3 (by decide)) ?_; intro u5 hown5 hgrow; have HB5 := hide (HB4.out.grown hgrow HB4.out.size (fun j hj => by cases hj; omega)); clear hgrow hown4; refine wpList_insert_own _ rfl _ _ _ 116 rfl 9 3 keyS Tryd.underlying116 (plainElem (H := Unit) Tryd.prog 3) (w.heap.size + 3) 5 cmpD5 rfl hown5 (by unfold maxLen; omega) (.string ⟨#[62, 61]⟩) (.int .i64 6) (.string [62, 61]) rfl rfl (WideMaps.keyOf_string_mk (s := ⟨#[62, 61]⟩) Tryd.underlying9 (by unfold maxLen; decide)) (.lit (.int .i64 6)) [] (plainElem_int (a := 6) Tryd.underlying3 (by decide)) ?_; intro u6 hown6 hgrow; have HB6 := hide (HB5.out.grown hgrow HB5.out.size (fun j hj => by cases hj; omega)); clear hgrow hown5; have ⟨a0, a1, a2, a3, a4, a5, a6, b0, b1, b2, r0, r1, r2, f0, f1, f2, hz⟩ := HAt.out _ HB6.out; have ⟨yg0, yg1, yg2, yp0, yp1, yp2⟩ := HG.out _ HB6.out)) | (at_lookup; go_must (refine wpList_lookup_own_int _ rfl _ _ 116 rfl 9 3 .i64 keyS Tryd.underlying116 Tryd.underlying3 (zeroI _) (w.heap.size + 3) 6 cmpD6 rfl hown6 _ _ rfl HKo.out ?_; intro cc hat hwc; obtain rfl : cc = 6 := num_of (hat.symm.trans cmpD_at5); clear hat hwc hown6)))
  clear g0 g1 g2 p0 p1 p2
  have hD : Below W.heap.size W u6.drew := HB6.out.drew
  first
    | (go_region_law (first
      | (go_simp; go_at_call 65; refine (HAr.out _).mono ?_; rintro e wB ⟨rfl, hbB⟩; have hB := then_below hD hbB; have ⟨Ba0, Ba1, Ba2, Ba3, Ba4, Ba5, Ba6, Bb0, Bb1, Bb2, Br0, Br1, Br2, Bf0, Bf1, Bf2, Bhz⟩ := HAt.out _ hB; clear hbB)))
    | fail
  all_goals
    go_wp2_with fail
    go_ret
    refine ⟨rfl, ?_⟩
    have hfin := HL.out.trans (hB.mono HL.out.size)
    exact ((hfin.setCell (p := ⟨w.heap.size + 2, 0, none⟩) (by simp only; omega) _).setCell (p := ⟨w.heap.size + 2, 1, none⟩) (by simp only; omega) _).setCell (p := ⟨w.heap.size + 2, 2, none⟩) (by simp only; omega) _

end Go.Proofs.YteenhmniikloiaaDoor
namespace Go.Proofs.YteenhmniikloiaaDoor
open Go.RowKit

set_option maxHeartbeats 3200000 in
set_option maxRecDepth 100000 in
theorem whole_catbig (x : XT) (Ra : Option Addr) (cr : Nat) (vs : List (Int × Int × ByteArray)) (w : World) (hR : RowAt w.heap.size w Ra vs) (e1 : (x.op.toList == [97, 110, 100]) = false) (e2 : (x.op.toList == [111, 114]) = false) (e3 : (x.op.toList == [110, 111, 116]) = false) (k3 : (x.kind == 3) = false) (q0 : (x.op.toList == [61]) = false) (q1 : (x.op.toList == [33, 61]) = false) (q2 : (x.op.toList == [60]) = false) (q3 : (x.op.toList == [60, 61]) = false) (q4 : (x.op.toList == [62]) = false) (q5 : (x.op.toList == [62, 61]) = false) (k4 : (x.kind == 4) = false) (n1 : (x.name.toList == [105, 115, 110, 117, 108, 108]) = false) (n2 : (x.name.toList == [101, 105, 116, 104, 101, 114]) = false) (n3 : (x.name.toList == [99, 97, 116]) = true) (n4 : (x.name.toList == [108, 101, 110]) = false) (n5 : (x.name.toList == [97, 98, 115]) = false) (hl : vs.length = 2) (h0 : ((vs.getD 0 d3).1 == 0) = false) (h1 : ((vs.getD 1 d3).1 == 0) = false) (z0 : (vs.getD 0 d3).2.2.size ≤ 64) (z1 : (vs.getD 1 d3).2.2.size ≤ 64) (hs : 64 < (vs.getD 0 d3).2.2.size + (vs.getD 1 d3).2.2.size) :
    Calls Tryd.prog 44 #[vX x, .slice Ra vs.length cr, vVal 0 0 ⟨#[]⟩, .int .i64 10] w fun e w' => e = .returned (.bool true) ∧ Below w.heap.size w w' := by
  have hq : ∀ w : World, (binOp .eql 29 (vVal 0 0 ⟨#[]⟩) (vVal 0 0 ⟨#[]⟩)).run Tryd.prog w = .ok (.bool true) w := fun w => (run_eql_val 0 0 0 0 ⟨#[]⟩ ⟨#[]⟩ w).trans (by simp)
  have hg := fun u u' w => run_guard_val 0 0 0 0 ⟨#[]⟩ ⟨#[]⟩ u u' w
  have hal := evW_below w x (0, 0, ⟨#[]⟩)
  have HAt := hide (fun w' => evW_at (w := w) (x := x) (v := (0, 0, ⟨#[]⟩)) (w' := w'))
  have HL := hide hal
  obtain ⟨kd, nm, xv, o, A, c, ts⟩ := x
  have HWE := hide (show evW w (.mk kd nm xv o A c ts) (0, 0, ⟨#[]⟩) = ((w.alloc (.cells (eCells kd nm xv o A ts.length c) 32)).alloc (.cells #[.int .i64 0, .int .i64 0, .string ⟨#[]⟩] 29)).alloc (.cells #[.int .i64 0, .int .i64 0, .string ⟨#[]⟩] 29) from rfl)
  simp only [XT.kind, XT.name, XT.val, XT.op, XT.adr, XT.args, XT.cap] at *
  show Calls Tryd.prog 44 #[.agg (eCells kd nm xv o A ts.length c), .slice Ra vs.length cr, vVal 0 0 ⟨#[]⟩, .int .i64 _] w _
  generalize evW w (.mk kd nm xv o A c ts) (0, 0, ⟨#[]⟩) = W at *
  have HR0 := hide hR
  clear hal hR
  obtain ⟨b, off, rfl, hb, g0, g1, g2⟩ := HR0.out 0 (by omega)
  obtain ⟨b', off', hbe, -, p0, p1, p2⟩ := HR0.out 1 (by omega)
  obtain ⟨rfl, rfl⟩ : b = b' ∧ off = off' := by injection hbe with e1; injection e1 with e2 e3 e4; exact ⟨e2, e3⟩
  clear hbe
  clear HR0
  rw [show vs.getD 0 (0, 0, ⟨#[]⟩) = vs.getD 0 d3 from rfl] at g0 g1 g2
  simp only [Nat.zero_mul, Nat.add_zero] at g0 g1 g2
  have hl0 : ((0 : Int) < (vs.length : Int)) := by omega
  have hn0 : 0 < vs.length := by omega
  rw [show vs.getD 1 (0, 0, ⟨#[]⟩) = vs.getD 1 d3 from rfl] at p0 p1 p2
  simp only [Nat.one_mul, Nat.add_assoc, Nat.reduceAdd] at p0 p1 p2
  have hl1 : ((1 : Int) < (vs.length : Int)) := by omega
  have hn1 : 1 < vs.length := by omega
  generalize vs.getD 0 d3 = a at *
  generalize vs.getD 1 d3 = d at *
  generalize vs.length = m at *
  clear hl
  have gc0 : (((w.alloc (.cells (eCells kd nm xv o A ts.length c) 32)).alloc (.cells #[.int .i64 0, .int .i64 0, .string ⟨#[]⟩] 29)).alloc (.cells #[.int .i64 0, .int .i64 0, .string ⟨#[]⟩] 29)).cell? ⟨b, off, none⟩ = some (.int .i64 a.1) := by rw [← HWE.out]; exact (HL.out.cell (p := ⟨b, off, none⟩) hb).trans g0
  have gc1 : (((w.alloc (.cells (eCells kd nm xv o A ts.length c) 32)).alloc (.cells #[.int .i64 0, .int .i64 0, .string ⟨#[]⟩] 29)).alloc (.cells #[.int .i64 0, .int .i64 0, .string ⟨#[]⟩] 29)).cell? ⟨b, off + 1, none⟩ = some (.int .i64 a.2.1) := by rw [← HWE.out]; exact (HL.out.cell (p := ⟨b, off + 1, none⟩) hb).trans g1
  have gc2 : (((w.alloc (.cells (eCells kd nm xv o A ts.length c) 32)).alloc (.cells #[.int .i64 0, .int .i64 0, .string ⟨#[]⟩] 29)).alloc (.cells #[.int .i64 0, .int .i64 0, .string ⟨#[]⟩] 29)).cell? ⟨b, off + 2, none⟩ = some (.string a.2.2) := by rw [← HWE.out]; exact (HL.out.cell (p := ⟨b, off + 2, none⟩) hb).trans g2
  have pc0 : (((w.alloc (.cells (eCells kd nm xv o A ts.length c) 32)).alloc (.cells #[.int .i64 0, .int .i64 0, .string ⟨#[]⟩] 29)).alloc (.cells #[.int .i64 0, .int .i64 0, .string ⟨#[]⟩] 29)).cell? ⟨b, off + 3, none⟩ = some (.int .i64 d.1) := by rw [← HWE.out]; exact (HL.out.cell (p := ⟨b, off + 3, none⟩) hb).trans p0
  have pc1 : (((w.alloc (.cells (eCells kd nm xv o A ts.length c) 32)).alloc (.cells #[.int .i64 0, .int .i64 0, .string ⟨#[]⟩] 29)).alloc (.cells #[.int .i64 0, .int .i64 0, .string ⟨#[]⟩] 29)).cell? ⟨b, off + 4, none⟩ = some (.int .i64 d.2.1) := by rw [← HWE.out]; exact (HL.out.cell (p := ⟨b, off + 4, none⟩) hb).trans p1
  have pc2 : (((w.alloc (.cells (eCells kd nm xv o A ts.length c) 32)).alloc (.cells #[.int .i64 0, .int .i64 0, .string ⟨#[]⟩] 29)).alloc (.cells #[.int .i64 0, .int .i64 0, .string ⟨#[]⟩] 29)).cell? ⟨b, off + 5, none⟩ = some (.string d.2.2) := by rw [← HWE.out]; exact (HL.out.cell (p := ⟨b, off + 5, none⟩) hb).trans p2
  have HG := hide (fun w' (h : Below W.heap.size W w') => (⟨((HL.out.trans (h.mono HL.out.size)).cell (p := ⟨b, off, none⟩) hb).trans g0, ((HL.out.trans (h.mono HL.out.size)).cell (p := ⟨b, off + 1, none⟩) hb).trans g1, ((HL.out.trans (h.mono HL.out.size)).cell (p := ⟨b, off + 2, none⟩) hb).trans g2, ((HL.out.trans (h.mono HL.out.size)).cell (p := ⟨b, off + 3, none⟩) hb).trans p0, ((HL.out.trans (h.mono HL.out.size)).cell (p := ⟨b, off + 4, none⟩) hb).trans p1, ((HL.out.trans (h.mono HL.out.size)).cell (p := ⟨b, off + 5, none⟩) hb).trans p2⟩ : w'.cell? ⟨b, off, none⟩ = some (.int .i64 a.1) ∧ w'.cell? ⟨b, off + 1, none⟩ = some (.int .i64 a.2.1) ∧ w'.cell? ⟨b, off + 2, none⟩ = some (.string a.2.2) ∧ w'.cell? ⟨b, off + 3, none⟩ = some (.int .i64 d.1) ∧ w'.cell? ⟨b, off + 4, none⟩ = some (.int .i64 d.2.1) ∧ w'.cell? ⟨b, off + 5, none⟩ = some (.string d.2.2)))
  clear gc0 gc1 gc2 pc0 pc1 pc2 g0 g1 g2 p0 p1 p2
  obtain ⟨a0, a1, a2, a3, a4, a5, a6, b0, b1, b2, r0, r1, r2, f0, f1, f2, hz⟩ := HAt.out _ (Below.refl _ _)
  obtain ⟨yg0, yg1, yg2, yp0, yp1, yp2⟩ := HG.out _ (Below.refl _ _)
  have hsi : (64 : Int) < (a.2.2.size : Int) + (d.2.2.size : Int) := by omega
  go_enter Tryd.func44, Tryd.ntmps44
  go_wp2_with (first | (guard_target =~ wpList _ _ _ (Oper.mk _ (Op.fieldAddr _ _ _) _ _ _ _ :: _) _ _; rw [← HWE.out]))
  go_region
  go_wp2_with fail
  go_ret
  exact ⟨rfl, HL.out.drew⟩

set_option maxHeartbeats 3200000 in
set_option maxRecDepth 100000 in
theorem whole_cat (x : XT) (Ra : Option Addr) (cr : Nat) (vs : List (Int × Int × ByteArray)) (k n : Int) (s : ByteArray) (xe : Int) (w : World) (hR : RowAt w.heap.size w Ra vs) (e1 : (x.op.toList == [97, 110, 100]) = false) (e2 : (x.op.toList == [111, 114]) = false) (e3 : (x.op.toList == [110, 111, 116]) = false) (k3 : (x.kind == 3) = false) (q0 : (x.op.toList == [61]) = false) (q1 : (x.op.toList == [33, 61]) = false) (q2 : (x.op.toList == [60]) = false) (q3 : (x.op.toList == [60, 61]) = false) (q4 : (x.op.toList == [62]) = false) (q5 : (x.op.toList == [62, 61]) = false) (k4 : (x.kind == 4) = false) (n1 : (x.name.toList == [105, 115, 110, 117, 108, 108]) = false) (n2 : (x.name.toList == [101, 105, 116, 104, 101, 114]) = false) (n3 : (x.name.toList == [99, 97, 116]) = true) (n4 : (x.name.toList == [108, 101, 110]) = false) (n5 : (x.name.toList == [97, 98, 115]) = false) (hl : vs.length = 2) (h0 : ((vs.getD 0 d3).1 == 0) = false) (h1 : ((vs.getD 1 d3).1 == 0) = false) (z0 : (vs.getD 0 d3).2.2.size ≤ 64) (z1 : (vs.getD 1 d3).2.2.size ≤ 64) (hs : ¬ 64 < (vs.getD 0 d3).2.2.size + (vs.getD 1 d3).2.2.size) (hv : ((2, 0, (vs.getD 0 d3).2.2 ++ (vs.getD 1 d3).2.2) : Int × Int × ByteArray) = (k, n, s)) (hx : xe = 0) :
    Calls Tryd.prog 44 #[vX x, .slice Ra vs.length cr, vVal k n s, .int .i64 xe] w fun e w' => e = .returned (.bool true) ∧ Below w.heap.size w w' := by
  subst hx
  have HTx := hide (show ∀ w', Calls Tryd.prog 66 #[.string ((vs.getD 0 d3).2.2 ++ (vs.getD 1 d3).2.2)] w' fun e w1 => e = .returned (vVal k n s) ∧ Below w'.heap.size w' w1 from fun w' => by
    injection hv with h1 h2; injection h2 with h2 h3
    rw [← h1, ← h2, ← h3]
    exact textV_any _ w')
  clear hv
  have hq : ∀ w : World, (binOp .eql 29 (vVal k n s) (vVal k n s)).run Tryd.prog w = .ok (.bool true) w := fun w => (run_eql_val k n k n s s w).trans (by simp)
  have hg := fun u u' w => run_guard_val k n k n s s u u' w
  have hal := evW_below w x (k, n, s)
  have HAt := hide (fun w' => evW_at (w := w) (x := x) (v := (k, n, s)) (w' := w'))
  have HL := hide hal
  obtain ⟨kd, nm, xv, o, A, c, ts⟩ := x
  have HWE := hide (show evW w (.mk kd nm xv o A c ts) (k, n, s) = ((w.alloc (.cells (eCells kd nm xv o A ts.length c) 32)).alloc (.cells #[.int .i64 k, .int .i64 n, .string s] 29)).alloc (.cells #[.int .i64 0, .int .i64 0, .string ⟨#[]⟩] 29) from rfl)
  simp only [XT.kind, XT.name, XT.val, XT.op, XT.adr, XT.args, XT.cap] at *
  show Calls Tryd.prog 44 #[.agg (eCells kd nm xv o A ts.length c), .slice Ra vs.length cr, vVal k n s, .int .i64 _] w _
  generalize evW w (.mk kd nm xv o A c ts) (k, n, s) = W at *
  have HR0 := hide hR
  clear hal hR
  obtain ⟨b, off, rfl, hb, g0, g1, g2⟩ := HR0.out 0 (by omega)
  obtain ⟨b', off', hbe, -, p0, p1, p2⟩ := HR0.out 1 (by omega)
  obtain ⟨rfl, rfl⟩ : b = b' ∧ off = off' := by injection hbe with e1; injection e1 with e2 e3 e4; exact ⟨e2, e3⟩
  clear hbe
  clear HR0
  rw [show vs.getD 0 (0, 0, ⟨#[]⟩) = vs.getD 0 d3 from rfl] at g0 g1 g2
  simp only [Nat.zero_mul, Nat.add_zero] at g0 g1 g2
  have hl0 : ((0 : Int) < (vs.length : Int)) := by omega
  have hn0 : 0 < vs.length := by omega
  rw [show vs.getD 1 (0, 0, ⟨#[]⟩) = vs.getD 1 d3 from rfl] at p0 p1 p2
  simp only [Nat.one_mul, Nat.add_assoc, Nat.reduceAdd] at p0 p1 p2
  have hl1 : ((1 : Int) < (vs.length : Int)) := by omega
  have hn1 : 1 < vs.length := by omega
  generalize vs.getD 0 d3 = a at *
  generalize vs.getD 1 d3 = d at *
  generalize vs.length = m at *
  clear hl
  have gc0 : (((w.alloc (.cells (eCells kd nm xv o A ts.length c) 32)).alloc (.cells #[.int .i64 k, .int .i64 n, .string s] 29)).alloc (.cells #[.int .i64 0, .int .i64 0, .string ⟨#[]⟩] 29)).cell? ⟨b, off, none⟩ = some (.int .i64 a.1) := by rw [← HWE.out]; exact (HL.out.cell (p := ⟨b, off, none⟩) hb).trans g0
  have gc1 : (((w.alloc (.cells (eCells kd nm xv o A ts.length c) 32)).alloc (.cells #[.int .i64 k, .int .i64 n, .string s] 29)).alloc (.cells #[.int .i64 0, .int .i64 0, .string ⟨#[]⟩] 29)).cell? ⟨b, off + 1, none⟩ = some (.int .i64 a.2.1) := by rw [← HWE.out]; exact (HL.out.cell (p := ⟨b, off + 1, none⟩) hb).trans g1
  have gc2 : (((w.alloc (.cells (eCells kd nm xv o A ts.length c) 32)).alloc (.cells #[.int .i64 k, .int .i64 n, .string s] 29)).alloc (.cells #[.int .i64 0, .int .i64 0, .string ⟨#[]⟩] 29)).cell? ⟨b, off + 2, none⟩ = some (.string a.2.2) := by rw [← HWE.out]; exact (HL.out.cell (p := ⟨b, off + 2, none⟩) hb).trans g2
  have pc0 : (((w.alloc (.cells (eCells kd nm xv o A ts.length c) 32)).alloc (.cells #[.int .i64 k, .int .i64 n, .string s] 29)).alloc (.cells #[.int .i64 0, .int .i64 0, .string ⟨#[]⟩] 29)).cell? ⟨b, off + 3, none⟩ = some (.int .i64 d.1) := by rw [← HWE.out]; exact (HL.out.cell (p := ⟨b, off + 3, none⟩) hb).trans p0
  have pc1 : (((w.alloc (.cells (eCells kd nm xv o A ts.length c) 32)).alloc (.cells #[.int .i64 k, .int .i64 n, .string s] 29)).alloc (.cells #[.int .i64 0, .int .i64 0, .string ⟨#[]⟩] 29)).cell? ⟨b, off + 4, none⟩ = some (.int .i64 d.2.1) := by rw [← HWE.out]; exact (HL.out.cell (p := ⟨b, off + 4, none⟩) hb).trans p1
  have pc2 : (((w.alloc (.cells (eCells kd nm xv o A ts.length c) 32)).alloc (.cells #[.int .i64 k, .int .i64 n, .string s] 29)).alloc (.cells #[.int .i64 0, .int .i64 0, .string ⟨#[]⟩] 29)).cell? ⟨b, off + 5, none⟩ = some (.string d.2.2) := by rw [← HWE.out]; exact (HL.out.cell (p := ⟨b, off + 5, none⟩) hb).trans p2
  have HG := hide (fun w' (h : Below W.heap.size W w') => (⟨((HL.out.trans (h.mono HL.out.size)).cell (p := ⟨b, off, none⟩) hb).trans g0, ((HL.out.trans (h.mono HL.out.size)).cell (p := ⟨b, off + 1, none⟩) hb).trans g1, ((HL.out.trans (h.mono HL.out.size)).cell (p := ⟨b, off + 2, none⟩) hb).trans g2, ((HL.out.trans (h.mono HL.out.size)).cell (p := ⟨b, off + 3, none⟩) hb).trans p0, ((HL.out.trans (h.mono HL.out.size)).cell (p := ⟨b, off + 4, none⟩) hb).trans p1, ((HL.out.trans (h.mono HL.out.size)).cell (p := ⟨b, off + 5, none⟩) hb).trans p2⟩ : w'.cell? ⟨b, off, none⟩ = some (.int .i64 a.1) ∧ w'.cell? ⟨b, off + 1, none⟩ = some (.int .i64 a.2.1) ∧ w'.cell? ⟨b, off + 2, none⟩ = some (.string a.2.2) ∧ w'.cell? ⟨b, off + 3, none⟩ = some (.int .i64 d.1) ∧ w'.cell? ⟨b, off + 4, none⟩ = some (.int .i64 d.2.1) ∧ w'.cell? ⟨b, off + 5, none⟩ = some (.string d.2.2)))
  clear gc0 gc1 gc2 pc0 pc1 pc2 g0 g1 g2 p0 p1 p2
  obtain ⟨a0, a1, a2, a3, a4, a5, a6, b0, b1, b2, r0, r1, r2, f0, f1, f2, hz⟩ := HAt.out _ (Below.refl _ _)
  obtain ⟨yg0, yg1, yg2, yp0, yp1, yp2⟩ := HG.out _ (Below.refl _ _)
  have hsi : ¬ (64 : Int) < (a.2.2.size : Int) + (d.2.2.size : Int) := by omega
  have hsj : (a.2.2.size : Int) + (d.2.2.size : Int) ≤ 9223372036854775807 := by omega
  have hso : ∀ w : World, (Op.stringOp .add a.2.2 d.2.2).run Tryd.prog w = .ok (.string (a.2.2 ++ d.2.2)) w := fun w => by
    unfold Op.stringOp
    simp only []
    rw [if_neg (by show ¬ (((a.2.2.size + d.2.2.size : Nat) : Int) > 9223372036854775807); omega)]
    rfl
  have hsb : ∀ w : World, (binOp .add 9 (.string a.2.2) (.string d.2.2)).run Tryd.prog w = .ok (.string (a.2.2 ++ d.2.2)) w := fun w => hso w
  have hsk : ¬ (9223372036854775807 : Int) < (a.2.2.size : Int) + (d.2.2.size : Int) := by omega
  go_enter Tryd.func44, Tryd.ntmps44
  go_wp2_with (first | (guard_target =~ wpList _ _ _ (Oper.mk _ (Op.fieldAddr _ _ _) _ _ _ _ :: _) _ _; rw [← HWE.out]))
  go_region
  go_wp2_with fail
  have hD : Below W.heap.size W W.drew.drew := (Below.refl _ _).drew.drew
  focus
    (go_region_law (first
      | (go_simp; go_at_call 66; refine (HTx.out _).mono ?_; rintro e wB ⟨rfl, hbB⟩; have hB := then_below hD hbB; have ⟨Ba0, Ba1, Ba2, Ba3, Ba4, Ba5, Ba6, Bb0, Bb1, Bb2, Br0, Br1, Br2, Bf0, Bf1, Bf2, Bhz⟩ := HAt.out _ hB; clear hbB)))
  all_goals
    go_wp2_with fail
    go_ret
    refine ⟨rfl, ?_⟩
    have hfin := HL.out.trans (hB.mono HL.out.size)
    exact ((hfin.setCell (p := ⟨w.heap.size + 2, 0, none⟩) (by simp only; omega) _).setCell (p := ⟨w.heap.size + 2, 1, none⟩) (by simp only; omega) _).setCell (p := ⟨w.heap.size + 2, 2, none⟩) (by simp only; omega) _
end Go.Proofs.YteenhmniikloiaaDoor
namespace Go.Proofs.YteenhmniikloiaaDoor
open Go.RowKit

theorem okV_kind {t : Int} {v : Int × Int × ByteArray} (h : okV t v) (h0 : (v.1 == 0) = true) : v = (0, 0, ⟨#[]⟩) := by
  rw [beq_iff_eq] at h0
  rcases h with h | ⟨_, h1, _⟩ | ⟨_, h1, _⟩
  · exact h
  · omega
  · omega
theorem okV_nullV {t : Int} {v : Int × Int × ByteArray} (h : okV t v) : nullV v = (v.1 == 0) := by
  cases h0 : (v.1 == 0)
  · unfold nullV; rw [h0]; rfl
  · rw [okV_kind h h0]; kernel_rfl
theorem pair_of {v : Int × Int × ByteArray} {e : Int} {k n : Int} {s : ByteArray} {xe : Int} (h : (v, e) = (((k, n, s) : Int × Int × ByteArray), xe)) : v = (k, n, s) ∧ xe = e := by
  injection h with h1 h2; exact ⟨h1, h2.symm⟩
set_option maxHeartbeats 3200000 in
theorem whole_any (r : RL) (kd : Int) (nm : ByteArray) (xv : Int × Int × ByteArray) (o : ByteArray) (A : Option Addr) (c : Nat) (ts : List XT) (Ra : Option Addr) (cr : Nat) (vs : List (Int × Int × ByteArray)) (k n : Int) (s : ByteArray) (xe : Int) (w : World) (hR : RowAt w.heap.size w Ra vs)
    (hr : r ∈ rulesL) (hk : kd = r.k) (h34 : kd = 3 ∨ kd = 4 → o = r.w ∧ nm = ⟨#[]⟩) (h5 : kd = 5 → nm = r.w ∧ o = ⟨#[]⟩) (hl : (vs.length : Int) = r.n) (hno : r.n ≠ 3) (t0 t1 : Int) (ha : okV t0 (vs.getD 0 d3)) (hb : r.n = 2 → okV t1 (vs.getD 1 d3))
    (hp1 : r.n = 1 → pre1 r.w (vs.getD 0 d3)) (hp2 : r.n = 2 → pre2 r.w o (vs.getD 0 d3) (vs.getD 1 d3))
    (hz : (if r.n = 1 then oneX r.w (vs.getD 0 d3) else twoX r.w o (vs.getD 0 d3) (vs.getD 1 d3)) = ((k, n, s), xe)) :
    Calls Tryd.prog 44 #[vX (.mk kd nm xv o A c ts), .slice Ra vs.length cr, vVal k n s, .int .i64 xe] w fun e w' => e = .returned (.bool true) ∧ Below w.heap.size w w' := by
  simp only [rulesL, List.mem_cons, List.not_mem_nil, or_false] at hr
  rcases hr with rfl | rfl | rfl | rfl | rfl | rfl | rfl | rfl | rfl | rfl | rfl | rfl | rfl | rfl | rfl | rfl | rfl | rfl | rfl | rfl | rfl
  · obtain rfl : kd = 3 := hk
    obtain ⟨rfl, rfl⟩ := h34 (by decide)
    have hn : vs.length = 1 := by have : (vs.length : Int) = 1 := hl; omega
    clear h34 h5 hl hno
    obtain ⟨hnum, hi⟩ := hp1 rfl (by kernel_rfl) (by kernel_rfl) (by kernel_rfl)
    have hz' : arithV 45 (1, 0, ⟨#[]⟩) (vs.getD 0 d3) = ((k, n, s), xe) := (show oneX ⟨#[45]⟩ (vs.getD 0 d3) = _ from by kernel_rfl).symm.trans hz
    exact whole_neg (.mk _ _ xv _ A c ts) Ra cr vs k n s xe w hR (by kernel_rfl) (by kernel_rfl) (by kernel_rfl) (by kernel_rfl) hn (fun w => by have h := arithV_any 45 (1, 0, ⟨#[]⟩) (vs.getD 0 d3) w (.inr (.inl rfl)) (.inr ⟨rfl, rfl⟩) hnum (by unfold I64; simp) hi; rw [hz'] at h; exact h)
  · obtain rfl : kd = 3 := hk
    obtain ⟨rfl, rfl⟩ := h34 (by decide)
    have hn : vs.length = 1 := by have : (vs.length : Int) = 1 := hl; omega
    clear h34 h5 hl hno
    obtain ⟨hv, hx⟩ := pair_of ((show oneX ⟨#[110, 111, 116]⟩ (vs.getD 0 d3) = (truthV (!trueV (vs.getD 0 d3)), 0) from by kernel_rfl).symm.trans hz)
    exact whole_not (.mk _ _ xv _ A c ts) Ra cr vs k n s xe w hR (by kernel_rfl) (by kernel_rfl) (by kernel_rfl) hn hv hx
  · obtain rfl : kd = 4 := hk
    obtain ⟨rfl, rfl⟩ := h34 (by decide)
    have hn : vs.length = 2 := by have : (vs.length : Int) = 2 := hl; omega
    clear h34 h5 hl hno
    obtain ⟨hop0, hfive, hna, hnb⟩ := hp2 rfl (by kernel_rfl) (by kernel_rfl) (by kernel_rfl) (by kernel_rfl) (by kernel_rfl) (by decide +kernel)
    have hz' : arithV (byte0 ⟨#[43]⟩) (vs.getD 0 d3) (vs.getD 1 d3) = ((k, n, s), xe) := (show twoX ⟨#[43]⟩ ⟨#[43]⟩ (vs.getD 0 d3) (vs.getD 1 d3) = _ from by kernel_rfl).symm.trans hz
    exact whole_arith (.mk _ _ xv _ A c ts) Ra cr vs k n s xe w hR (by kernel_rfl) (by kernel_rfl) (by kernel_rfl) (by kernel_rfl) (by kernel_rfl) (by kernel_rfl) (by kernel_rfl) (by kernel_rfl) (by kernel_rfl) (by kernel_rfl) (by kernel_rfl) hn hop0 (fun w => by have h := arithV_any (byte0 ⟨#[43]⟩) (vs.getD 0 d3) (vs.getD 1 d3) w hfive hna hnb (okV_i64 ha) (okV_i64 (hb rfl)); rw [hz'] at h; exact h)
  · obtain rfl : kd = 4 := hk
    obtain ⟨rfl, rfl⟩ := h34 (by decide)
    have hn : vs.length = 2 := by have : (vs.length : Int) = 2 := hl; omega
    clear h34 h5 hl hno
    obtain ⟨hop0, hfive, hna, hnb⟩ := hp2 rfl (by kernel_rfl) (by kernel_rfl) (by kernel_rfl) (by kernel_rfl) (by kernel_rfl) (by decide +kernel)
    have hz' : arithV (byte0 ⟨#[45]⟩) (vs.getD 0 d3) (vs.getD 1 d3) = ((k, n, s), xe) := (show twoX ⟨#[45]⟩ ⟨#[45]⟩ (vs.getD 0 d3) (vs.getD 1 d3) = _ from by kernel_rfl).symm.trans hz
    exact whole_arith (.mk _ _ xv _ A c ts) Ra cr vs k n s xe w hR (by kernel_rfl) (by kernel_rfl) (by kernel_rfl) (by kernel_rfl) (by kernel_rfl) (by kernel_rfl) (by kernel_rfl) (by kernel_rfl) (by kernel_rfl) (by kernel_rfl) (by kernel_rfl) hn hop0 (fun w => by have h := arithV_any (byte0 ⟨#[45]⟩) (vs.getD 0 d3) (vs.getD 1 d3) w hfive hna hnb (okV_i64 ha) (okV_i64 (hb rfl)); rw [hz'] at h; exact h)
  · obtain rfl : kd = 4 := hk
    obtain ⟨rfl, rfl⟩ := h34 (by decide)
    have hn : vs.length = 2 := by have : (vs.length : Int) = 2 := hl; omega
    clear h34 h5 hl hno
    obtain ⟨hop0, hfive, hna, hnb⟩ := hp2 rfl (by kernel_rfl) (by kernel_rfl) (by kernel_rfl) (by kernel_rfl) (by kernel_rfl) (by decide +kernel)
    have hz' : arithV (byte0 ⟨#[42]⟩) (vs.getD 0 d3) (vs.getD 1 d3) = ((k, n, s), xe) := (show twoX ⟨#[42]⟩ ⟨#[42]⟩ (vs.getD 0 d3) (vs.getD 1 d3) = _ from by kernel_rfl).symm.trans hz
    exact whole_arith (.mk _ _ xv _ A c ts) Ra cr vs k n s xe w hR (by kernel_rfl) (by kernel_rfl) (by kernel_rfl) (by kernel_rfl) (by kernel_rfl) (by kernel_rfl) (by kernel_rfl) (by kernel_rfl) (by kernel_rfl) (by kernel_rfl) (by kernel_rfl) hn hop0 (fun w => by have h := arithV_any (byte0 ⟨#[42]⟩) (vs.getD 0 d3) (vs.getD 1 d3) w hfive hna hnb (okV_i64 ha) (okV_i64 (hb rfl)); rw [hz'] at h; exact h)
  · obtain rfl : kd = 4 := hk
    obtain ⟨rfl, rfl⟩ := h34 (by decide)
    have hn : vs.length = 2 := by have : (vs.length : Int) = 2 := hl; omega
    clear h34 h5 hl hno
    obtain ⟨hop0, hfive, hna, hnb⟩ := hp2 rfl (by kernel_rfl) (by kernel_rfl) (by kernel_rfl) (by kernel_rfl) (by kernel_rfl) (by decide +kernel)
    have hz' : arithV (byte0 ⟨#[47]⟩) (vs.getD 0 d3) (vs.getD 1 d3) = ((k, n, s), xe) := (show twoX ⟨#[47]⟩ ⟨#[47]⟩ (vs.getD 0 d3) (vs.getD 1 d3) = _ from by kernel_rfl).symm.trans hz
    exact whole_arith (.mk _ _ xv _ A c ts) Ra cr vs k n s xe w hR (by kernel_rfl) (by kernel_rfl) (by kernel_rfl) (by kernel_rfl) (by kernel_rfl) (by kernel_rfl) (by kernel_rfl) (by kernel_rfl) (by kernel_rfl) (by kernel_rfl) (by kernel_rfl) hn hop0 (fun w => by have h := arithV_any (byte0 ⟨#[47]⟩) (vs.getD 0 d3) (vs.getD 1 d3) w hfive hna hnb (okV_i64 ha) (okV_i64 (hb rfl)); rw [hz'] at h; exact h)
  · obtain rfl : kd = 4 := hk
    obtain ⟨rfl, rfl⟩ := h34 (by decide)
    have hn : vs.length = 2 := by have : (vs.length : Int) = 2 := hl; omega
    clear h34 h5 hl hno
    obtain ⟨hop0, hfive, hna, hnb⟩ := hp2 rfl (by kernel_rfl) (by kernel_rfl) (by kernel_rfl) (by kernel_rfl) (by kernel_rfl) (by decide +kernel)
    have hz' : arithV (byte0 ⟨#[37]⟩) (vs.getD 0 d3) (vs.getD 1 d3) = ((k, n, s), xe) := (show twoX ⟨#[37]⟩ ⟨#[37]⟩ (vs.getD 0 d3) (vs.getD 1 d3) = _ from by kernel_rfl).symm.trans hz
    exact whole_arith (.mk _ _ xv _ A c ts) Ra cr vs k n s xe w hR (by kernel_rfl) (by kernel_rfl) (by kernel_rfl) (by kernel_rfl) (by kernel_rfl) (by kernel_rfl) (by kernel_rfl) (by kernel_rfl) (by kernel_rfl) (by kernel_rfl) (by kernel_rfl) hn hop0 (fun w => by have h := arithV_any (byte0 ⟨#[37]⟩) (vs.getD 0 d3) (vs.getD 1 d3) w hfive hna hnb (okV_i64 ha) (okV_i64 (hb rfl)); rw [hz'] at h; exact h)
  · obtain rfl : kd = 4 := hk
    obtain ⟨rfl, rfl⟩ := h34 (by decide)
    have hn : vs.length = 2 := by have : (vs.length : Int) = 2 := hl; omega
    clear h34 h5 hl hno
    obtain ⟨hv, hx⟩ := pair_of ((show twoX ⟨#[61]⟩ ⟨#[61]⟩ (vs.getD 0 d3) (vs.getD 1 d3) = (compareV 1 (vs.getD 0 d3) (vs.getD 1 d3), 0) from by kernel_rfl).symm.trans hz)
    exact whole_cmp0 (.mk _ _ xv _ A c ts) Ra cr vs k n s xe w hR (by kernel_rfl) (by kernel_rfl) (by kernel_rfl) (by kernel_rfl) (by kernel_rfl) hn (fun w => by have h := compareV_any 1 (vs.getD 0 d3) (vs.getD 1 d3) w (by decide); rw [hv] at h; exact h) hx
  · obtain rfl : kd = 4 := hk
    obtain ⟨rfl, rfl⟩ := h34 (by decide)
    have hn : vs.length = 2 := by have : (vs.length : Int) = 2 := hl; omega
    clear h34 h5 hl hno
    obtain ⟨hv, hx⟩ := pair_of ((show twoX ⟨#[33, 61]⟩ ⟨#[33, 61]⟩ (vs.getD 0 d3) (vs.getD 1 d3) = (compareV 2 (vs.getD 0 d3) (vs.getD 1 d3), 0) from by kernel_rfl).symm.trans hz)
    exact whole_cmp1 (.mk _ _ xv _ A c ts) Ra cr vs k n s xe w hR (by kernel_rfl) (by kernel_rfl) (by kernel_rfl) (by kernel_rfl) (by kernel_rfl) (by kernel_rfl) hn (fun w => by have h := compareV_any 2 (vs.getD 0 d3) (vs.getD 1 d3) w (by decide); rw [hv] at h; exact h) hx
  · obtain rfl : kd = 4 := hk
    obtain ⟨rfl, rfl⟩ := h34 (by decide)
    have hn : vs.length = 2 := by have : (vs.length : Int) = 2 := hl; omega
    clear h34 h5 hl hno
    obtain ⟨hv, hx⟩ := pair_of ((show twoX ⟨#[60]⟩ ⟨#[60]⟩ (vs.getD 0 d3) (vs.getD 1 d3) = (compareV 3 (vs.getD 0 d3) (vs.getD 1 d3), 0) from by kernel_rfl).symm.trans hz)
    exact whole_cmp2 (.mk _ _ xv _ A c ts) Ra cr vs k n s xe w hR (by kernel_rfl) (by kernel_rfl) (by kernel_rfl) (by kernel_rfl) (by kernel_rfl) (by kernel_rfl) (by kernel_rfl) hn (fun w => by have h := compareV_any 3 (vs.getD 0 d3) (vs.getD 1 d3) w (by decide); rw [hv] at h; exact h) hx
  · obtain rfl : kd = 4 := hk
    obtain ⟨rfl, rfl⟩ := h34 (by decide)
    have hn : vs.length = 2 := by have : (vs.length : Int) = 2 := hl; omega
    clear h34 h5 hl hno
    obtain ⟨hv, hx⟩ := pair_of ((show twoX ⟨#[60, 61]⟩ ⟨#[60, 61]⟩ (vs.getD 0 d3) (vs.getD 1 d3) = (compareV 4 (vs.getD 0 d3) (vs.getD 1 d3), 0) from by kernel_rfl).symm.trans hz)
    exact whole_cmp3 (.mk _ _ xv _ A c ts) Ra cr vs k n s xe w hR (by kernel_rfl) (by kernel_rfl) (by kernel_rfl) (by kernel_rfl) (by kernel_rfl) (by kernel_rfl) (by kernel_rfl) (by kernel_rfl) hn (fun w => by have h := compareV_any 4 (vs.getD 0 d3) (vs.getD 1 d3) w (by decide); rw [hv] at h; exact h) hx
  · obtain rfl : kd = 4 := hk
    obtain ⟨rfl, rfl⟩ := h34 (by decide)
    have hn : vs.length = 2 := by have : (vs.length : Int) = 2 := hl; omega
    clear h34 h5 hl hno
    obtain ⟨hv, hx⟩ := pair_of ((show twoX ⟨#[62]⟩ ⟨#[62]⟩ (vs.getD 0 d3) (vs.getD 1 d3) = (compareV 5 (vs.getD 0 d3) (vs.getD 1 d3), 0) from by kernel_rfl).symm.trans hz)
    exact whole_cmp4 (.mk _ _ xv _ A c ts) Ra cr vs k n s xe w hR (by kernel_rfl) (by kernel_rfl) (by kernel_rfl) (by kernel_rfl) (by kernel_rfl) (by kernel_rfl) (by kernel_rfl) (by kernel_rfl) (by kernel_rfl) hn (fun w => by have h := compareV_any 5 (vs.getD 0 d3) (vs.getD 1 d3) w (by decide); rw [hv] at h; exact h) hx
  · obtain rfl : kd = 4 := hk
    obtain ⟨rfl, rfl⟩ := h34 (by decide)
    have hn : vs.length = 2 := by have : (vs.length : Int) = 2 := hl; omega
    clear h34 h5 hl hno
    obtain ⟨hv, hx⟩ := pair_of ((show twoX ⟨#[62, 61]⟩ ⟨#[62, 61]⟩ (vs.getD 0 d3) (vs.getD 1 d3) = (compareV 6 (vs.getD 0 d3) (vs.getD 1 d3), 0) from by kernel_rfl).symm.trans hz)
    exact whole_cmp5 (.mk _ _ xv _ A c ts) Ra cr vs k n s xe w hR (by kernel_rfl) (by kernel_rfl) (by kernel_rfl) (by kernel_rfl) (by kernel_rfl) (by kernel_rfl) (by kernel_rfl) (by kernel_rfl) (by kernel_rfl) (by kernel_rfl) hn (fun w => by have h := compareV_any 6 (vs.getD 0 d3) (vs.getD 1 d3) w (by decide); rw [hv] at h; exact h) hx
  · obtain rfl : kd = 4 := hk
    obtain ⟨rfl, rfl⟩ := h34 (by decide)
    have hn : vs.length = 2 := by have : (vs.length : Int) = 2 := hl; omega
    clear h34 h5 hl hno
    obtain ⟨hv, hx⟩ := pair_of ((show twoX ⟨#[97, 110, 100]⟩ ⟨#[97, 110, 100]⟩ (vs.getD 0 d3) (vs.getD 1 d3) = (truthV (trueV (vs.getD 1 d3)), 0) from by kernel_rfl).symm.trans hz)
    exact whole_and (.mk _ _ xv _ A c ts) Ra cr vs k n s xe w hR (by kernel_rfl) hn hv hx
  · obtain rfl : kd = 4 := hk
    obtain ⟨rfl, rfl⟩ := h34 (by decide)
    have hn : vs.length = 2 := by have : (vs.length : Int) = 2 := hl; omega
    clear h34 h5 hl hno
    obtain ⟨hv, hx⟩ := pair_of ((show twoX ⟨#[111, 114]⟩ ⟨#[111, 114]⟩ (vs.getD 0 d3) (vs.getD 1 d3) = (truthV (trueV (vs.getD 1 d3)), 0) from by kernel_rfl).symm.trans hz)
    exact whole_or (.mk _ _ xv _ A c ts) Ra cr vs k n s xe w hR (by kernel_rfl) (by kernel_rfl) hn hv hx
  · obtain rfl : kd = 5 := hk
    obtain ⟨rfl, rfl⟩ := h5 rfl
    have hn : vs.length = 1 := by have : (vs.length : Int) = 1 := hl; omega
    clear h34 h5 hl hno
    obtain ⟨hv, hx⟩ := pair_of ((show oneX ⟨#[108, 101, 110]⟩ (vs.getD 0 d3) = (lenV (vs.getD 0 d3), 0) from by kernel_rfl).symm.trans hz)
    unfold lenV at hv
    rw [okV_nullV ha] at hv
    cases h0 : ((vs.getD 0 d3).1 == 0)
    · rw [h0] at hv
      exact whole_len (.mk _ _ xv _ A c ts) Ra cr vs k n s xe w hR (by kernel_rfl) (by kernel_rfl) (by kernel_rfl) (by kernel_rfl) (by kernel_rfl) (by kernel_rfl) (by kernel_rfl) (by kernel_rfl) (by kernel_rfl) (by kernel_rfl) (by kernel_rfl) (by kernel_rfl) (by kernel_rfl) (by kernel_rfl) (by kernel_rfl) hn h0 hv hx
    · rw [h0, if_pos rfl, okV_kind ha h0] at hv
      obtain ⟨rfl, rfl, rfl⟩ : 0 = k ∧ 0 = n ∧ ⟨#[]⟩ = s := by injection hv with h1 h2; injection h2 with h2 h3; exact ⟨h1, h2, h3⟩
      subst hx
      exact whole_null0 (.mk _ _ xv _ A c ts) Ra cr vs w hR (by kernel_rfl) (by kernel_rfl) (by kernel_rfl) (by kernel_rfl) (by kernel_rfl) (by kernel_rfl) (by kernel_rfl) (by kernel_rfl) (by kernel_rfl) (by kernel_rfl) (by kernel_rfl) (by kernel_rfl) (by kernel_rfl) (by omega) h0
  · obtain rfl : kd = 5 := hk
    obtain ⟨rfl, rfl⟩ := h5 rfl
    have hn : vs.length = 1 := by have : (vs.length : Int) = 1 := hl; omega
    clear h34 h5 hl hno
    obtain ⟨hnum, hi⟩ := hp1 rfl (by kernel_rfl) (by kernel_rfl) (by kernel_rfl)
    cases h0 : ((vs.getD 0 d3).1 == 0)
    · by_cases hp : 0 ≤ (vs.getD 0 d3).2.1
      · obtain ⟨hv, hx⟩ := pair_of ((show oneX ⟨#[97, 98, 115]⟩ (vs.getD 0 d3) = ((vs.getD 0 d3), 0) from (show oneX ⟨#[97, 98, 115]⟩ (vs.getD 0 d3) = (bif decide (0 ≤ (vs.getD 0 d3).2.1) then ((vs.getD 0 d3), 0) else arithV 45 (1, 0, ⟨#[]⟩) (vs.getD 0 d3)) from by kernel_rfl).trans (by rw [decide_eq_true hp]; rfl)).symm.trans hz)
        exact whole_abs (.mk _ _ xv _ A c ts) Ra cr vs k n s xe w hR (by kernel_rfl) (by kernel_rfl) (by kernel_rfl) (by kernel_rfl) (by kernel_rfl) (by kernel_rfl) (by kernel_rfl) (by kernel_rfl) (by kernel_rfl) (by kernel_rfl) (by kernel_rfl) (by kernel_rfl) (by kernel_rfl) (by kernel_rfl) (by kernel_rfl) (by kernel_rfl) hn h0 (by omega) hv hx
      · have hz' : arithV 45 (1, 0, ⟨#[]⟩) (vs.getD 0 d3) = ((k, n, s), xe) := (show oneX ⟨#[97, 98, 115]⟩ (vs.getD 0 d3) = arithV 45 (1, 0, ⟨#[]⟩) (vs.getD 0 d3) from (show oneX ⟨#[97, 98, 115]⟩ (vs.getD 0 d3) = (bif decide (0 ≤ (vs.getD 0 d3).2.1) then ((vs.getD 0 d3), 0) else arithV 45 (1, 0, ⟨#[]⟩) (vs.getD 0 d3)) from by kernel_rfl).trans (by rw [decide_eq_false hp]; rfl)).symm.trans hz
        exact whole_absneg (.mk _ _ xv _ A c ts) Ra cr vs k n s xe w hR (by kernel_rfl) (by kernel_rfl) (by kernel_rfl) (by kernel_rfl) (by kernel_rfl) (by kernel_rfl) (by kernel_rfl) (by kernel_rfl) (by kernel_rfl) (by kernel_rfl) (by kernel_rfl) (by kernel_rfl) (by kernel_rfl) (by kernel_rfl) (by kernel_rfl) (by kernel_rfl) hn h0 (by omega) (fun w => by have h := arithV_any 45 (1, 0, ⟨#[]⟩) (vs.getD 0 d3) w (.inr (.inl rfl)) (.inr ⟨rfl, rfl⟩) hnum (by unfold I64; simp) hi; rw [hz'] at h; exact h)
    · have e0 := okV_kind ha h0
      rw [e0] at hz
      obtain ⟨hv, hx⟩ := pair_of ((show oneX ⟨#[97, 98, 115]⟩ (0, 0, ⟨#[]⟩) = ((0, 0, ⟨#[]⟩), 0) from by kernel_rfl).symm.trans hz)
      obtain ⟨rfl, rfl, rfl⟩ : 0 = k ∧ 0 = n ∧ ⟨#[]⟩ = s := by injection hv with h1 h2; injection h2 with h2 h3; exact ⟨h1, h2, h3⟩
      subst hx
      exact whole_null0 (.mk _ _ xv _ A c ts) Ra cr vs w hR (by kernel_rfl) (by kernel_rfl) (by kernel_rfl) (by kernel_rfl) (by kernel_rfl) (by kernel_rfl) (by kernel_rfl) (by kernel_rfl) (by kernel_rfl) (by kernel_rfl) (by kernel_rfl) (by kernel_rfl) (by kernel_rfl) (by omega) h0
  · obtain rfl : kd = 5 := hk
    obtain ⟨rfl, rfl⟩ := h5 rfl
    have hn : vs.length = 1 := by have : (vs.length : Int) = 1 := hl; omega
    clear h34 h5 hl hno
    obtain ⟨hv, hx⟩ := pair_of ((show oneX ⟨#[105, 115, 110, 117, 108, 108]⟩ (vs.getD 0 d3) = (truthV (nullV (vs.getD 0 d3)), 0) from by kernel_rfl).symm.trans hz)
    rw [okV_nullV ha] at hv
    exact whole_isnull (.mk _ _ xv _ A c ts) Ra cr vs k n s xe w hR (by kernel_rfl) (by kernel_rfl) (by kernel_rfl) (by kernel_rfl) (by kernel_rfl) (by kernel_rfl) (by kernel_rfl) (by kernel_rfl) (by kernel_rfl) (by kernel_rfl) (by kernel_rfl) (by kernel_rfl) hn hv hx
  · obtain rfl : kd = 5 := hk
    obtain ⟨rfl, rfl⟩ := h5 rfl
    have hn : vs.length = 2 := by have : (vs.length : Int) = 2 := hl; omega
    clear h34 h5 hl hno
    have hz' : catV (vs.getD 0 d3) (vs.getD 1 d3) = ((k, n, s), xe) := (show twoX ⟨#[99, 97, 116]⟩ ⟨#[]⟩ (vs.getD 0 d3) (vs.getD 1 d3) = _ from by kernel_rfl).symm.trans hz
    unfold catV at hz'
    rw [okV_nullV ha, okV_nullV (hb rfl)] at hz'
    cases h0 : ((vs.getD 0 d3).1 == 0)
    · cases h1 : ((vs.getD 1 d3).1 == 0)
      · rw [h0, h1, if_neg (by simp)] at hz'
        by_cases hs : 64 < (vs.getD 0 d3).2.2.size + (vs.getD 1 d3).2.2.size
        · rw [if_pos hs] at hz'
          obtain ⟨hv, hx⟩ := pair_of hz'
          obtain ⟨rfl, rfl, rfl⟩ : 0 = k ∧ 0 = n ∧ ⟨#[]⟩ = s := by injection hv with h1 h2; injection h2 with h2 h3; exact ⟨h1, h2, h3⟩
          subst hx
          exact whole_catbig (.mk _ _ xv _ A c ts) Ra cr vs w hR (by kernel_rfl) (by kernel_rfl) (by kernel_rfl) (by kernel_rfl) (by kernel_rfl) (by kernel_rfl) (by kernel_rfl) (by kernel_rfl) (by kernel_rfl) (by kernel_rfl) (by kernel_rfl) (by kernel_rfl) (by kernel_rfl) (by kernel_rfl) (by kernel_rfl) (by kernel_rfl) hn h0 h1 (okV_size ha) (okV_size (hb rfl)) hs
        · rw [if_neg hs] at hz'
          obtain ⟨hv, hx⟩ := pair_of hz'
          exact whole_cat (.mk _ _ xv _ A c ts) Ra cr vs k n s xe w hR (by kernel_rfl) (by kernel_rfl) (by kernel_rfl) (by kernel_rfl) (by kernel_rfl) (by kernel_rfl) (by kernel_rfl) (by kernel_rfl) (by kernel_rfl) (by kernel_rfl) (by kernel_rfl) (by kernel_rfl) (by kernel_rfl) (by kernel_rfl) (by kernel_rfl) (by kernel_rfl) hn h0 h1 (okV_size ha) (okV_size (hb rfl)) hs hv hx
      · rw [if_pos (.inr h1)] at hz'
        obtain ⟨hv, hx⟩ := pair_of hz'
        obtain ⟨rfl, rfl, rfl⟩ : 0 = k ∧ 0 = n ∧ ⟨#[]⟩ = s := by injection hv with h1 h2; injection h2 with h2 h3; exact ⟨h1, h2, h3⟩
        subst hx
        exact whole_null1 (.mk _ _ xv _ A c ts) Ra cr vs w hR (by kernel_rfl) (by kernel_rfl) (by kernel_rfl) (by kernel_rfl) (by kernel_rfl) (by kernel_rfl) (by kernel_rfl) (by kernel_rfl) (by kernel_rfl) (by kernel_rfl) (by kernel_rfl) (by kernel_rfl) (by kernel_rfl) (by kernel_rfl) hn h0 h1
    · rw [if_pos (.inl h0)] at hz'
      obtain ⟨hv, hx⟩ := pair_of hz'
      obtain ⟨rfl, rfl, rfl⟩ : 0 = k ∧ 0 = n ∧ ⟨#[]⟩ = s := by injection hv with h1 h2; injection h2 with h2 h3; exact ⟨h1, h2, h3⟩
      subst hx
      exact whole_null0 (.mk _ _ xv _ A c ts) Ra cr vs w hR (by kernel_rfl) (by kernel_rfl) (by kernel_rfl) (by kernel_rfl) (by kernel_rfl) (by kernel_rfl) (by kernel_rfl) (by kernel_rfl) (by kernel_rfl) (by kernel_rfl) (by kernel_rfl) (by kernel_rfl) (by kernel_rfl) (by omega) h0
  · obtain rfl : kd = 5 := hk
    obtain ⟨rfl, rfl⟩ := h5 rfl
    have hn : vs.length = 2 := by have : (vs.length : Int) = 2 := hl; omega
    clear h34 h5 hl hno
    obtain ⟨hv, hx⟩ := pair_of ((show twoX ⟨#[101, 105, 116, 104, 101, 114]⟩ ⟨#[]⟩ (vs.getD 0 d3) (vs.getD 1 d3) = ((vs.getD 1 d3), 0) from by kernel_rfl).symm.trans hz)
    exact whole_either (.mk _ _ xv _ A c ts) Ra cr vs k n s xe w hR (by kernel_rfl) (by kernel_rfl) (by kernel_rfl) (by kernel_rfl) (by kernel_rfl) (by kernel_rfl) (by kernel_rfl) (by kernel_rfl) (by kernel_rfl) (by kernel_rfl) (by kernel_rfl) (by kernel_rfl) (by kernel_rfl) hn hv hx
  · exact absurd rfl hno
end Go.Proofs.YteenhmniikloiaaDoor
