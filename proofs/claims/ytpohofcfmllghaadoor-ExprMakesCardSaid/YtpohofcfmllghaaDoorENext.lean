/-
  Which argument is evaluated after the first: the walk of next.
-/
import Derived.Test.YtpohofcfmllghaaDoorEOne
namespace Go.Proofs.YtpohofcfmllghaaDoor
open Go.RowKit

def nxW (w : World) (x : XT) (v : Int × Int × ByteArray) : World := ((w.alloc (.cells (eCells x.kind x.name x.val x.op x.adr x.args.length x.cap) 29)).alloc (.cells #[.int .i64 v.1, .int .i64 v.2.1, .string v.2.2] 26)).alloc (.cells #[.int .i64 0, .string ⟨#[]⟩, .int .i64 0, .int .i64 0, .string ⟨#[]⟩, .string ⟨#[]⟩, .slice none 0 0] 29)
theorem nxW_below (w : World) (x : XT) (v : Int × Int × ByteArray) : Below w.heap.size w (nxW w x v) := (Joins.below_alloc2 w _ _).alloc (Joins.below_alloc2 w _ _).size _
theorem nxW_at {w : World} {x : XT} {v : Int × Int × ByteArray} {w' : World} (h : Below (nxW w x v).heap.size (nxW w x v) w') :
    w'.cell? ⟨w.heap.size, 0, none⟩ = some (.int .i64 x.kind) ∧ w'.cell? ⟨w.heap.size, 1, none⟩ = some (.string x.name) ∧ w'.cell? ⟨w.heap.size, 2, none⟩ = some (.int .i64 x.val.1) ∧ w'.cell? ⟨w.heap.size, 3, none⟩ = some (.int .i64 x.val.2.1) ∧
    w'.cell? ⟨w.heap.size, 4, none⟩ = some (.string x.val.2.2) ∧ w'.cell? ⟨w.heap.size, 5, none⟩ = some (.string x.op) ∧ w'.cell? ⟨w.heap.size, 6, none⟩ = some (.slice x.adr x.args.length x.cap) ∧
    w'.cell? ⟨w.heap.size + 1, 0, none⟩ = some (.int .i64 v.1) ∧ w'.cell? ⟨w.heap.size + 1, 1, none⟩ = some (.int .i64 v.2.1) ∧ w'.cell? ⟨w.heap.size + 1, 2, none⟩ = some (.string v.2.2) ∧
    w'.cell? ⟨w.heap.size + 2, 0, none⟩ = some (.int .i64 0) ∧ w'.cell? ⟨w.heap.size + 2, 1, none⟩ = some (.string ⟨#[]⟩) ∧ w'.cell? ⟨w.heap.size + 2, 2, none⟩ = some (.int .i64 0) ∧ w'.cell? ⟨w.heap.size + 2, 3, none⟩ = some (.int .i64 0) ∧ w'.cell? ⟨w.heap.size + 2, 4, none⟩ = some (.string ⟨#[]⟩) ∧ w'.cell? ⟨w.heap.size + 2, 5, none⟩ = some (.string ⟨#[]⟩) ∧ w'.cell? ⟨w.heap.size + 2, 6, none⟩ = some (.slice none 0 0) ∧
    w'.frozen? ⟨w.heap.size + 2, 0, none⟩ = false ∧ w'.frozen? ⟨w.heap.size + 2, 1, none⟩ = false ∧ w'.frozen? ⟨w.heap.size + 2, 2, none⟩ = false ∧ w'.frozen? ⟨w.heap.size + 2, 3, none⟩ = false ∧ w'.frozen? ⟨w.heap.size + 2, 4, none⟩ = false ∧ w'.frozen? ⟨w.heap.size + 2, 5, none⟩ = false ∧ w'.frozen? ⟨w.heap.size + 2, 6, none⟩ = false ∧ w.heap.size + 2 < w'.heap.size := by
  have s1 : (w.alloc (.cells (eCells x.kind x.name x.val x.op x.adr x.args.length x.cap) 29)).heap.size = w.heap.size + 1 := by simp
  have s2 : ((w.alloc (.cells (eCells x.kind x.name x.val x.op x.adr x.args.length x.cap) 29)).alloc (.cells #[.int .i64 v.1, .int .i64 v.2.1, .string v.2.2] 26)).heap.size = w.heap.size + 2 := by simp
  have s3 : (nxW w x v).heap.size = w.heap.size + 3 := by simp [nxW]
  have h0 : (nxW w x v).heap[w.heap.size]? = some (.cells (eCells x.kind x.name x.val x.op x.adr x.args.length x.cap) 29 (0, 0)) := by
    unfold nxW
    rw [Below.heap_alloc _ _ _ (by rw [s2]; omega), Below.heap_alloc _ _ _ (by rw [s1]; omega)]
    exact heap_alloc_new w _
  have h1 : (nxW w x v).heap[w.heap.size + 1]? = some (.cells #[.int .i64 v.1, .int .i64 v.2.1, .string v.2.2] 26 (0, 0)) := by
    unfold nxW
    rw [Below.heap_alloc _ _ _ (by rw [s2]; omega), ← s1]
    exact heap_alloc_new _ _
  have h2 : (nxW w x v).heap[w.heap.size + 2]? = some (.cells #[.int .i64 0, .string ⟨#[]⟩, .int .i64 0, .int .i64 0, .string ⟨#[]⟩, .string ⟨#[]⟩, .slice none 0 0] 29 (0, 0)) := by
    unfold nxW
    rw [← s2]
    exact heap_alloc_new _ _
  have k0 := (h.block w.heap.size (by omega)).trans h0
  have k1 := (h.block (w.heap.size + 1) (by omega)).trans h1
  have k2 := (h.block (w.heap.size + 2) (by omega)).trans h2
  have := h.size
  exact ⟨Lib.cell_of_heap k0 0, Lib.cell_of_heap k0 1, Lib.cell_of_heap k0 2, Lib.cell_of_heap k0 3, Lib.cell_of_heap k0 4, Lib.cell_of_heap k0 5, Lib.cell_of_heap k0 6, Lib.cell_of_heap k1 0, Lib.cell_of_heap k1 1, Lib.cell_of_heap k1 2, Lib.cell_of_heap k2 0, Lib.cell_of_heap k2 1, Lib.cell_of_heap k2 2, Lib.cell_of_heap k2 3, Lib.cell_of_heap k2 4, Lib.cell_of_heap k2 5, Lib.cell_of_heap k2 6, Lib.frozen_of_heap k2 0, Lib.frozen_of_heap k2 1, Lib.frozen_of_heap k2 2, Lib.frozen_of_heap k2 3, Lib.frozen_of_heap k2 4, Lib.frozen_of_heap k2 5, Lib.frozen_of_heap k2 6, by omega⟩

/-- The argument that comes next. -/
def nextK (x : XT) (v : Int × Int × ByteArray) : Nat := if ((wordX x).toList == [105, 102]) = true ∧ trueV v = false then 2 else 1

set_option maxHeartbeats 3200000 in
set_option maxRecDepth 100000 in
theorem next_any (x : XT) (k n : Int) (s : ByteArray) (w : World) (hx : LiesX w.heap.size w x) (hlen : nextK x (k, n, s) < x.args.length) :
    Calls Tryd.prog 29 #[vX x, vVal k n s] w fun e w' => e = .returned (vX (x.args.getD (nextK x (k, n, s)) dX)) ∧ Below w.heap.size w w' := by
  have hal := nxW_below w x (k, n, s)
  have HAt := hide (fun w' => nxW_at (w := w) (x := x) (v := (k, n, s)) (w' := w'))
  have HL := hide hal
  have HX := hide (hx.on hal)
  have HWd := hide (fun w' => word_any x w')
  have HTr := hide (fun w' => true_any k n s w')
  have HNk := hide (show nextK x (k, n, s) = if ((wordX x).toList == [105, 102]) = true ∧ trueV (k, n, s) = false then 2 else 1 from rfl)
  obtain ⟨kd, nm, v, o, A, c, ts⟩ := x
  have HWE := hide (show nxW w (.mk kd nm v o A c ts) (k, n, s) = ((w.alloc (.cells (eCells kd nm v o A ts.length c) 29)).alloc (.cells #[.int .i64 k, .int .i64 n, .string s] 26)).alloc (.cells #[.int .i64 0, .string ⟨#[]⟩, .int .i64 0, .int .i64 0, .string ⟨#[]⟩, .string ⟨#[]⟩, .slice none 0 0] 29) from rfl)
  simp only [XT.kind, XT.name, XT.val, XT.op, XT.adr, XT.args, XT.cap] at HAt hlen ⊢
  rw [show vX (.mk kd nm v o A c ts) = .agg (eCells kd nm v o A ts.length c) from rfl] at HWd ⊢
  generalize wordX (.mk kd nm v o A c ts) = wd at *
  generalize nxW w (.mk kd nm v o A c ts) (k, n, s) = W at *
  generalize nextK (.mk kd nm v o A c ts) (k, n, s) = nk at *
  generalize trueV (k, n, s) = tv at *
  clear hal hx
  cases hi : (wd.toList == [105, 102])
  · obtain rfl : nk = 1 := by rw [HNk.out]; simp [hi]
    clear HNk
    have hl2 : (1 : Int) < (ts.length : Int) := by omega
    have HAr := hide (fun w' (h : Below W.heap.size W w') => (HX.out.keep h).at (j := 1) hlen)
    go_enter Tryd.func29, Tryd.ntmps29
    obtain ⟨a0, a1, a2, a3, a4, a5, a6, b0, b1, b2, r0, r1, r2, r3, r4, r5, r6, f0, f1, f2, f3, f4, f5, f6, hz⟩ := HAt.out _ (Below.refl _ _)
    go_wp2_with fail
    rw [← HWE.out]
    refine (HWd.out _).mono ?_
    rintro e w2 ⟨rfl, hb2⟩
    have HB := hide hb2
    clear a0 a1 a2 a3 a4 a5 a6 b0 b1 b2 r0 r1 r2 r3 r4 r5 r6 f0 f1 f2 f3 f4 f5 f6 hz
    obtain ⟨a0, a1, a2, a3, a4, a5, a6, b0, b1, b2, r0, r1, r2, r3, r4, r5, r6, f0, f1, f2, f3, f4, f5, f6, hz⟩ := HAt.out _ HB.out
    obtain ⟨b, off, hadr, hb, h7, -⟩ := HAr.out _ HB.out
    simp only [XT.adr, XT.args] at hadr h7
    subst hadr
    obtain ⟨y, hy⟩ : ∃ y, y = ts.getD 1 dX := ⟨_, rfl⟩
    rw [← hy] at h7
    have HY := hide hy
    clear hy
    obtain ⟨g0, g1, g2, g3, g4, g5, g6⟩ := h7
    go_wp2_with fail
    refine bodyPost_ret (v := vX y) (by simp [results, Tryd.results29, go_sem, vX, r0, r1, r2, r3, r4, r5, r6]) rfl ⟨by rw [HY.out], ?_⟩
    have hfin := HL.out.trans (HB.out.mono HL.out.size)
    exact (((((((hfin).setCell (p := ⟨w.heap.size + 2, 0, none⟩) (by simp only; omega) _).setCell (p := ⟨w.heap.size + 2, 1, none⟩) (by simp only; omega) _).setCell (p := ⟨w.heap.size + 2, 2, none⟩) (by simp only; omega) _).setCell (p := ⟨w.heap.size + 2, 3, none⟩) (by simp only; omega) _).setCell (p := ⟨w.heap.size + 2, 4, none⟩) (by simp only; omega) _).setCell (p := ⟨w.heap.size + 2, 5, none⟩) (by simp only; omega) _).setCell (p := ⟨w.heap.size + 2, 6, none⟩) (by simp only; omega) _
  · cases tv
    · obtain rfl : nk = 2 := by rw [HNk.out]; simp [hi]
      clear HNk
      have hl2 : (2 : Int) < (ts.length : Int) := by omega
      have HAr := hide (fun w' (h : Below W.heap.size W w') => (HX.out.keep h).at (j := 2) hlen)
      go_enter Tryd.func29, Tryd.ntmps29
      obtain ⟨a0, a1, a2, a3, a4, a5, a6, b0, b1, b2, r0, r1, r2, r3, r4, r5, r6, f0, f1, f2, f3, f4, f5, f6, hz⟩ := HAt.out _ (Below.refl _ _)
      go_wp2_with fail
      rw [← HWE.out]
      refine (HWd.out _).mono ?_
      rintro e w2 ⟨rfl, hb2⟩
      have HB := hide hb2
      clear a0 a1 a2 a3 a4 a5 a6 b0 b1 b2 r0 r1 r2 r3 r4 r5 r6 f0 f1 f2 f3 f4 f5 f6 hz
      obtain ⟨a0, a1, a2, a3, a4, a5, a6, b0, b1, b2, r0, r1, r2, r3, r4, r5, r6, f0, f1, f2, f3, f4, f5, f6, hz⟩ := HAt.out _ HB.out
      go_wp2_with fail
      refine (HTr.out _).mono ?_
      rintro e w3 ⟨rfl, hb3⟩
      have HB' := hide (then_below HB.out hb3)
      clear hb3 HB
      clear a0 a1 a2 a3 a4 a5 a6 b0 b1 b2 r0 r1 r2 r3 r4 r5 r6 f0 f1 f2 f3 f4 f5 f6 hz
      have HB := HB'
      clear HB'
      obtain ⟨a0, a1, a2, a3, a4, a5, a6, b0, b1, b2, r0, r1, r2, r3, r4, r5, r6, f0, f1, f2, f3, f4, f5, f6, hz⟩ := HAt.out _ HB.out
      obtain ⟨b, off, hadr, hb, h7, -⟩ := HAr.out _ HB.out
      simp only [XT.adr, XT.args] at hadr h7
      subst hadr
      obtain ⟨y, hy⟩ : ∃ y, y = ts.getD 2 dX := ⟨_, rfl⟩
      rw [← hy] at h7
      have HY := hide hy
      clear hy
      obtain ⟨g0, g1, g2, g3, g4, g5, g6⟩ := h7
      go_wp2_with fail
      refine bodyPost_ret (v := vX y) (by simp [results, Tryd.results29, go_sem, vX, r0, r1, r2, r3, r4, r5, r6]) rfl ⟨by rw [HY.out], ?_⟩
      have hfin := HL.out.trans (HB.out.mono HL.out.size)
      exact (((((((hfin).setCell (p := ⟨w.heap.size + 2, 0, none⟩) (by simp only; omega) _).setCell (p := ⟨w.heap.size + 2, 1, none⟩) (by simp only; omega) _).setCell (p := ⟨w.heap.size + 2, 2, none⟩) (by simp only; omega) _).setCell (p := ⟨w.heap.size + 2, 3, none⟩) (by simp only; omega) _).setCell (p := ⟨w.heap.size + 2, 4, none⟩) (by simp only; omega) _).setCell (p := ⟨w.heap.size + 2, 5, none⟩) (by simp only; omega) _).setCell (p := ⟨w.heap.size + 2, 6, none⟩) (by simp only; omega) _
    · obtain rfl : nk = 1 := by rw [HNk.out]; simp [hi]
      clear HNk
      have hl2 : (1 : Int) < (ts.length : Int) := by omega
      have HAr := hide (fun w' (h : Below W.heap.size W w') => (HX.out.keep h).at (j := 1) hlen)
      go_enter Tryd.func29, Tryd.ntmps29
      obtain ⟨a0, a1, a2, a3, a4, a5, a6, b0, b1, b2, r0, r1, r2, r3, r4, r5, r6, f0, f1, f2, f3, f4, f5, f6, hz⟩ := HAt.out _ (Below.refl _ _)
      go_wp2_with fail
      rw [← HWE.out]
      refine (HWd.out _).mono ?_
      rintro e w2 ⟨rfl, hb2⟩
      have HB := hide hb2
      clear a0 a1 a2 a3 a4 a5 a6 b0 b1 b2 r0 r1 r2 r3 r4 r5 r6 f0 f1 f2 f3 f4 f5 f6 hz
      obtain ⟨a0, a1, a2, a3, a4, a5, a6, b0, b1, b2, r0, r1, r2, r3, r4, r5, r6, f0, f1, f2, f3, f4, f5, f6, hz⟩ := HAt.out _ HB.out
      go_wp2_with fail
      refine (HTr.out _).mono ?_
      rintro e w3 ⟨rfl, hb3⟩
      have HB' := hide (then_below HB.out hb3)
      clear hb3 HB
      clear a0 a1 a2 a3 a4 a5 a6 b0 b1 b2 r0 r1 r2 r3 r4 r5 r6 f0 f1 f2 f3 f4 f5 f6 hz
      have HB := HB'
      clear HB'
      obtain ⟨a0, a1, a2, a3, a4, a5, a6, b0, b1, b2, r0, r1, r2, r3, r4, r5, r6, f0, f1, f2, f3, f4, f5, f6, hz⟩ := HAt.out _ HB.out
      obtain ⟨b, off, hadr, hb, h7, -⟩ := HAr.out _ HB.out
      simp only [XT.adr, XT.args] at hadr h7
      subst hadr
      obtain ⟨y, hy⟩ : ∃ y, y = ts.getD 1 dX := ⟨_, rfl⟩
      rw [← hy] at h7
      have HY := hide hy
      clear hy
      obtain ⟨g0, g1, g2, g3, g4, g5, g6⟩ := h7
      go_wp2_with fail
      refine bodyPost_ret (v := vX y) (by simp [results, Tryd.results29, go_sem, vX, r0, r1, r2, r3, r4, r5, r6]) rfl ⟨by rw [HY.out], ?_⟩
      have hfin := HL.out.trans (HB.out.mono HL.out.size)
      exact (((((((hfin).setCell (p := ⟨w.heap.size + 2, 0, none⟩) (by simp only; omega) _).setCell (p := ⟨w.heap.size + 2, 1, none⟩) (by simp only; omega) _).setCell (p := ⟨w.heap.size + 2, 2, none⟩) (by simp only; omega) _).setCell (p := ⟨w.heap.size + 2, 3, none⟩) (by simp only; omega) _).setCell (p := ⟨w.heap.size + 2, 4, none⟩) (by simp only; omega) _).setCell (p := ⟨w.heap.size + 2, 5, none⟩) (by simp only; omega) _).setCell (p := ⟨w.heap.size + 2, 6, none⟩) (by simp only; omega) _
end Go.Proofs.YtpohofcfmllghaaDoor
