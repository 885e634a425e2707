/-
  The functions of one argument: not, isnull, len, and abs of what is not below 0.
-/
import Derived.Test.YtpohofcfmllghaaDoorECat
import Derived.Test.YtpohofcfmllghaaDoorERuleW
namespace Go.Proofs.YtpohofcfmllghaaDoor
open Go.RowKit

/-- The world of a function of an expression and a value, ahead of its calls: both boxes, and the result's. -/
def evW (w : World) (x : XT) (v : Int × Int × ByteArray) : World := ((w.alloc (.cells (eCells x.kind x.name x.val x.op x.adr x.args.length x.cap) 29)).alloc (.cells #[.int .i64 v.1, .int .i64 v.2.1, .string v.2.2] 26)).alloc (.cells #[.int .i64 0, .int .i64 0, .string ⟨#[]⟩] 26)
theorem evW_below (w : World) (x : XT) (v : Int × Int × ByteArray) : Below w.heap.size w (evW w x v) := (Joins.below_alloc2 w _ _).alloc (Joins.below_alloc2 w _ _).size _
theorem evW_at {w : World} {x : XT} {v : Int × Int × ByteArray} {w' : World} (h : Below (evW w x v).heap.size (evW w x v) w') :
    w'.cell? ⟨w.heap.size, 0, none⟩ = some (.int .i64 x.kind) ∧ w'.cell? ⟨w.heap.size, 1, none⟩ = some (.string x.name) ∧ w'.cell? ⟨w.heap.size, 2, none⟩ = some (.int .i64 x.val.1) ∧ w'.cell? ⟨w.heap.size, 3, none⟩ = some (.int .i64 x.val.2.1) ∧
    w'.cell? ⟨w.heap.size, 4, none⟩ = some (.string x.val.2.2) ∧ w'.cell? ⟨w.heap.size, 5, none⟩ = some (.string x.op) ∧ w'.cell? ⟨w.heap.size, 6, none⟩ = some (.slice x.adr x.args.length x.cap) ∧
    w'.cell? ⟨w.heap.size + 1, 0, none⟩ = some (.int .i64 v.1) ∧ w'.cell? ⟨w.heap.size + 1, 1, none⟩ = some (.int .i64 v.2.1) ∧ w'.cell? ⟨w.heap.size + 1, 2, none⟩ = some (.string v.2.2) ∧
    w'.cell? ⟨w.heap.size + 2, 0, none⟩ = some (.int .i64 0) ∧ w'.cell? ⟨w.heap.size + 2, 1, none⟩ = some (.int .i64 0) ∧ w'.cell? ⟨w.heap.size + 2, 2, none⟩ = some (.string ⟨#[]⟩) ∧
    w'.frozen? ⟨w.heap.size + 2, 0, none⟩ = false ∧ w'.frozen? ⟨w.heap.size + 2, 1, none⟩ = false ∧ w'.frozen? ⟨w.heap.size + 2, 2, none⟩ = false ∧ w.heap.size + 2 < w'.heap.size := by
  have s1 : (w.alloc (.cells (eCells x.kind x.name x.val x.op x.adr x.args.length x.cap) 29)).heap.size = w.heap.size + 1 := by simp
  have s2 : ((w.alloc (.cells (eCells x.kind x.name x.val x.op x.adr x.args.length x.cap) 29)).alloc (.cells #[.int .i64 v.1, .int .i64 v.2.1, .string v.2.2] 26)).heap.size = w.heap.size + 2 := by simp
  have s3 : (evW w x v).heap.size = w.heap.size + 3 := by simp [evW]
  have h0 : (evW w x v).heap[w.heap.size]? = some (.cells (eCells x.kind x.name x.val x.op x.adr x.args.length x.cap) 29 (0, 0)) := by
    unfold evW
    rw [Below.heap_alloc _ _ _ (by rw [s2]; omega), Below.heap_alloc _ _ _ (by rw [s1]; omega)]
    exact heap_alloc_new w _
  have h1 : (evW w x v).heap[w.heap.size + 1]? = some (.cells #[.int .i64 v.1, .int .i64 v.2.1, .string v.2.2] 26 (0, 0)) := by
    unfold evW
    rw [Below.heap_alloc _ _ _ (by rw [s2]; omega), ← s1]
    exact heap_alloc_new _ _
  have h2 : (evW w x v).heap[w.heap.size + 2]? = some (.cells #[.int .i64 0, .int .i64 0, .string ⟨#[]⟩] 26 (0, 0)) := by
    unfold evW
    rw [← s2]
    exact heap_alloc_new _ _
  have k0 := (h.block w.heap.size (by omega)).trans h0
  have k1 := (h.block (w.heap.size + 1) (by omega)).trans h1
  have k2 := (h.block (w.heap.size + 2) (by omega)).trans h2
  have := h.size
  exact ⟨Lib.cell_of_heap k0 0, Lib.cell_of_heap k0 1, Lib.cell_of_heap k0 2, Lib.cell_of_heap k0 3, Lib.cell_of_heap k0 4, Lib.cell_of_heap k0 5, Lib.cell_of_heap k0 6, Lib.cell_of_heap k1 0, Lib.cell_of_heap k1 1, Lib.cell_of_heap k1 2, Lib.cell_of_heap k2 0, Lib.cell_of_heap k2 1, Lib.cell_of_heap k2 2,
    Lib.frozen_of_heap k2 0, Lib.frozen_of_heap k2 1, Lib.frozen_of_heap k2 2, by omega⟩

set_option maxHeartbeats 1600000 in
set_option maxRecDepth 100000 in
theorem ofOne_not (x : XT) (k n : Int) (s : ByteArray) (w : World) (h0 : ((wordX x).toList == [110, 111, 116]) = true) :
    Calls Tryd.prog 27 #[vX x, vVal k n s] w fun e w' => e = .returned (.tuple #[vOf (truthV (!trueV (k, n, s))), .int .i64 0]) ∧ Below w.heap.size w w' := by
  have HTr := hide (fun w' => true_any k n s w')
  generalize trueV (k, n, s) = b at *
  have hal := evW_below w x (k, n, s)
  have HAt := hide (fun w' => evW_at (w := w) (x := x) (v := (k, n, s)) (w' := w'))
  have HL := hide hal
  have HWd := hide (fun w' => word_any x w')
  obtain ⟨kd, nm, v, o, A, c, ts⟩ := x
  have HWE := hide (show evW w (.mk kd nm v o A c ts) (k, n, s) = ((w.alloc (.cells (eCells kd nm v o A ts.length c) 29)).alloc (.cells #[.int .i64 k, .int .i64 n, .string s] 26)).alloc (.cells #[.int .i64 0, .int .i64 0, .string ⟨#[]⟩] 26) from rfl)
  simp only [XT.kind, XT.name, XT.val, XT.op, XT.adr, XT.args, XT.cap] at HAt
  rw [show vX (.mk kd nm v o A c ts) = .agg (eCells kd nm v o A ts.length c) from rfl] at HWd
  show Calls Tryd.prog 27 #[.agg (eCells kd nm v o A ts.length c), vVal k n s] w _
  generalize wordX (.mk kd nm v o A c ts) = wd at *
  generalize evW w (.mk kd nm v o A c ts) (k, n, s) = W at *
  clear hal
  go_enter Tryd.func27, Tryd.ntmps27
  obtain ⟨a0, a1, a2, a3, a4, a5, a6, b0, b1, b2, r0, r1, r2, f0, f1, f2, hz⟩ := HAt.out _ (Below.refl _ _)
  go_wp2_with fail
  rw [← HWE.out]
  refine (HWd.out _).mono ?_
  rintro e w2 ⟨rfl, hb2⟩
  have HB2 := hide hb2
  clear a0 a1 a2 a3 a4 a5 a6 b0 b1 b2 r0 r1 r2 f0 f1 f2 hz
  obtain ⟨a0, a1, a2, a3, a4, a5, a6, b0, b1, b2, r0, r1, r2, f0, f1, f2, hz⟩ := HAt.out _ hb2
  clear hb2
  go_wp2_with fail
  refine (HTr.out _).mono ?_
  rintro e w3 ⟨rfl, hb3⟩
  have HB3 := hide (then_below HB2.out hb3)
  clear hb3
  clear a0 a1 a2 a3 a4 a5 a6 b0 b1 b2 r0 r1 r2 f0 f1 f2 hz
  obtain ⟨a0, a1, a2, a3, a4, a5, a6, b0, b1, b2, r0, r1, r2, f0, f1, f2, hz⟩ := HAt.out _ HB3.out
  go_wp2_with fail
  refine (truth_any _ _).mono ?_
  rintro e w4 ⟨rfl, hb3⟩
  have HB4 := hide (then_below HB3.out hb3)
  clear hb3
  clear a0 a1 a2 a3 a4 a5 a6 b0 b1 b2 r0 r1 r2 f0 f1 f2 hz
  obtain ⟨a0, a1, a2, a3, a4, a5, a6, b0, b1, b2, r0, r1, r2, f0, f1, f2, hz⟩ := HAt.out _ HB4.out
  go_wp2_with fail
  refine bodyPost_ret (v := .tuple #[vOf (truthV (!b)), .int .i64 0]) (by simp [results, Tryd.results27, go_sem, r0, r1, r2]) rfl ⟨rfl, ?_⟩
  have hfin := HL.out.trans (HB4.out.mono HL.out.size)
  exact ((hfin.setCell (p := ⟨w.heap.size + 2, 0, none⟩) (by simp only; omega) _).setCell (p := ⟨w.heap.size + 2, 1, none⟩) (by simp only; omega) _).setCell (p := ⟨w.heap.size + 2, 2, none⟩) (by simp only; omega) _

set_option maxHeartbeats 1600000 in
set_option maxRecDepth 100000 in
theorem ofOne_isnull (x : XT) (k n : Int) (s : ByteArray) (w : World) (h0 : ((wordX x).toList == [110, 111, 116]) = false) (h1 : ((wordX x).toList == [105, 115, 110, 117, 108, 108]) = true) :
    Calls Tryd.prog 27 #[vX x, vVal k n s] w fun e w' => e = .returned (.tuple #[vOf (truthV (nullV (k, n, s))), .int .i64 0]) ∧ Below w.heap.size w w' := by
  have HNu := hide (fun w' => isNull_any k n s w')
  generalize nullV (k, n, s) = b at *
  have hal := evW_below w x (k, n, s)
  have HAt := hide (fun w' => evW_at (w := w) (x := x) (v := (k, n, s)) (w' := w'))
  have HL := hide hal
  have HWd := hide (fun w' => word_any x w')
  obtain ⟨kd, nm, v, o, A, c, ts⟩ := x
  have HWE := hide (show evW w (.mk kd nm v o A c ts) (k, n, s) = ((w.alloc (.cells (eCells kd nm v o A ts.length c) 29)).alloc (.cells #[.int .i64 k, .int .i64 n, .string s] 26)).alloc (.cells #[.int .i64 0, .int .i64 0, .string ⟨#[]⟩] 26) from rfl)
  simp only [XT.kind, XT.name, XT.val, XT.op, XT.adr, XT.args, XT.cap] at HAt
  rw [show vX (.mk kd nm v o A c ts) = .agg (eCells kd nm v o A ts.length c) from rfl] at HWd
  show Calls Tryd.prog 27 #[.agg (eCells kd nm v o A ts.length c), vVal k n s] w _
  generalize wordX (.mk kd nm v o A c ts) = wd at *
  generalize evW w (.mk kd nm v o A c ts) (k, n, s) = W at *
  clear hal
  go_enter Tryd.func27, Tryd.ntmps27
  obtain ⟨a0, a1, a2, a3, a4, a5, a6, b0, b1, b2, r0, r1, r2, f0, f1, f2, hz⟩ := HAt.out _ (Below.refl _ _)
  go_wp2_with fail
  rw [← HWE.out]
  refine (HWd.out _).mono ?_
  rintro e w2 ⟨rfl, hb2⟩
  have HB2 := hide hb2
  clear a0 a1 a2 a3 a4 a5 a6 b0 b1 b2 r0 r1 r2 f0 f1 f2 hz
  obtain ⟨a0, a1, a2, a3, a4, a5, a6, b0, b1, b2, r0, r1, r2, f0, f1, f2, hz⟩ := HAt.out _ hb2
  clear hb2
  go_wp2_with fail
  refine (HNu.out _).mono ?_
  rintro e w3 ⟨rfl, hb3⟩
  have HB3 := hide (then_below HB2.out hb3)
  clear hb3
  clear a0 a1 a2 a3 a4 a5 a6 b0 b1 b2 r0 r1 r2 f0 f1 f2 hz
  obtain ⟨a0, a1, a2, a3, a4, a5, a6, b0, b1, b2, r0, r1, r2, f0, f1, f2, hz⟩ := HAt.out _ HB3.out
  go_wp2_with fail
  refine (truth_any _ _).mono ?_
  rintro e w4 ⟨rfl, hb3⟩
  have HB4 := hide (then_below HB3.out hb3)
  clear hb3
  clear a0 a1 a2 a3 a4 a5 a6 b0 b1 b2 r0 r1 r2 f0 f1 f2 hz
  obtain ⟨a0, a1, a2, a3, a4, a5, a6, b0, b1, b2, r0, r1, r2, f0, f1, f2, hz⟩ := HAt.out _ HB4.out
  go_wp2_with fail
  refine bodyPost_ret (v := .tuple #[vOf (truthV b), .int .i64 0]) (by simp [results, Tryd.results27, go_sem, r0, r1, r2]) rfl ⟨rfl, ?_⟩
  have hfin := HL.out.trans (HB4.out.mono HL.out.size)
  exact ((hfin.setCell (p := ⟨w.heap.size + 2, 0, none⟩) (by simp only; omega) _).setCell (p := ⟨w.heap.size + 2, 1, none⟩) (by simp only; omega) _).setCell (p := ⟨w.heap.size + 2, 2, none⟩) (by simp only; omega) _

set_option maxHeartbeats 1600000 in
set_option maxRecDepth 100000 in
theorem ofOne_len (x : XT) (k n : Int) (s : ByteArray) (w : World) (h0 : ((wordX x).toList == [110, 111, 116]) = false) (h1 : ((wordX x).toList == [105, 115, 110, 117, 108, 108]) = false) (h2 : ((wordX x).toList == [108, 101, 110]) = true) (hs : s.size ≤ maxLen) :
    Calls Tryd.prog 27 #[vX x, vVal k n s] w fun e w' => e = .returned (.tuple #[vOf (lenV (k, n, s)), .int .i64 0]) ∧ Below w.heap.size w w' := by
  have HLe := hide (fun w' => length_any (k, n, s) w' hs)
  generalize lenV (k, n, s) = q at *
  have hal := evW_below w x (k, n, s)
  have HAt := hide (fun w' => evW_at (w := w) (x := x) (v := (k, n, s)) (w' := w'))
  have HL := hide hal
  have HWd := hide (fun w' => word_any x w')
  obtain ⟨kd, nm, v, o, A, c, ts⟩ := x
  have HWE := hide (show evW w (.mk kd nm v o A c ts) (k, n, s) = ((w.alloc (.cells (eCells kd nm v o A ts.length c) 29)).alloc (.cells #[.int .i64 k, .int .i64 n, .string s] 26)).alloc (.cells #[.int .i64 0, .int .i64 0, .string ⟨#[]⟩] 26) from rfl)
  simp only [XT.kind, XT.name, XT.val, XT.op, XT.adr, XT.args, XT.cap] at HAt
  rw [show vX (.mk kd nm v o A c ts) = .agg (eCells kd nm v o A ts.length c) from rfl] at HWd
  show Calls Tryd.prog 27 #[.agg (eCells kd nm v o A ts.length c), vVal k n s] w _
  generalize wordX (.mk kd nm v o A c ts) = wd at *
  generalize evW w (.mk kd nm v o A c ts) (k, n, s) = W at *
  clear hal
  go_enter Tryd.func27, Tryd.ntmps27
  obtain ⟨a0, a1, a2, a3, a4, a5, a6, b0, b1, b2, r0, r1, r2, f0, f1, f2, hz⟩ := HAt.out _ (Below.refl _ _)
  go_wp2_with fail
  rw [← HWE.out]
  refine (HWd.out _).mono ?_
  rintro e w2 ⟨rfl, hb2⟩
  have HB2 := hide hb2
  clear a0 a1 a2 a3 a4 a5 a6 b0 b1 b2 r0 r1 r2 f0 f1 f2 hz
  obtain ⟨a0, a1, a2, a3, a4, a5, a6, b0, b1, b2, r0, r1, r2, f0, f1, f2, hz⟩ := HAt.out _ hb2
  clear hb2
  go_wp2_with fail
  refine (HLe.out _).mono ?_
  rintro e w3 ⟨rfl, hb3⟩
  have HB3 := hide (then_below HB2.out hb3)
  clear hb3
  clear a0 a1 a2 a3 a4 a5 a6 b0 b1 b2 r0 r1 r2 f0 f1 f2 hz
  obtain ⟨a0, a1, a2, a3, a4, a5, a6, b0, b1, b2, r0, r1, r2, f0, f1, f2, hz⟩ := HAt.out _ HB3.out
  go_wp2_with fail
  refine bodyPost_ret (v := .tuple #[vOf q, .int .i64 0]) (by simp [results, Tryd.results27, go_sem, r0, r1, r2]) rfl ⟨rfl, ?_⟩
  have hfin := HL.out.trans (HB3.out.mono HL.out.size)
  exact ((hfin.setCell (p := ⟨w.heap.size + 2, 0, none⟩) (by simp only; omega) _).setCell (p := ⟨w.heap.size + 2, 1, none⟩) (by simp only; omega) _).setCell (p := ⟨w.heap.size + 2, 2, none⟩) (by simp only; omega) _

set_option maxHeartbeats 1600000 in
set_option maxRecDepth 100000 in
theorem ofOne_abs (x : XT) (k n : Int) (s : ByteArray) (w : World) (h0 : ((wordX x).toList == [110, 111, 116]) = false) (h1 : ((wordX x).toList == [105, 115, 110, 117, 108, 108]) = false) (h2 : ((wordX x).toList == [108, 101, 110]) = false) (h3 : ((wordX x).toList == [97, 98, 115]) = true) (hn : 0 ≤ n) :
    Calls Tryd.prog 27 #[vX x, vVal k n s] w fun e w' => e = .returned (.tuple #[vVal k n s, .int .i64 0]) ∧ Below w.heap.size w w' := by
  have hal := evW_below w x (k, n, s)
  have HAt := hide (fun w' => evW_at (w := w) (x := x) (v := (k, n, s)) (w' := w'))
  have HL := hide hal
  have HWd := hide (fun w' => word_any x w')
  obtain ⟨kd, nm, v, o, A, c, ts⟩ := x
  have HWE := hide (show evW w (.mk kd nm v o A c ts) (k, n, s) = ((w.alloc (.cells (eCells kd nm v o A ts.length c) 29)).alloc (.cells #[.int .i64 k, .int .i64 n, .string s] 26)).alloc (.cells #[.int .i64 0, .int .i64 0, .string ⟨#[]⟩] 26) from rfl)
  simp only [XT.kind, XT.name, XT.val, XT.op, XT.adr, XT.args, XT.cap] at HAt
  rw [show vX (.mk kd nm v o A c ts) = .agg (eCells kd nm v o A ts.length c) from rfl] at HWd
  show Calls Tryd.prog 27 #[.agg (eCells kd nm v o A ts.length c), vVal k n s] w _
  generalize wordX (.mk kd nm v o A c ts) = wd at *
  generalize evW w (.mk kd nm v o A c ts) (k, n, s) = W at *
  clear hal
  go_enter Tryd.func27, Tryd.ntmps27
  obtain ⟨a0, a1, a2, a3, a4, a5, a6, b0, b1, b2, r0, r1, r2, f0, f1, f2, hz⟩ := HAt.out _ (Below.refl _ _)
  go_wp2_with fail
  rw [← HWE.out]
  refine (HWd.out _).mono ?_
  rintro e w2 ⟨rfl, hb2⟩
  have HB2 := hide hb2
  clear a0 a1 a2 a3 a4 a5 a6 b0 b1 b2 r0 r1 r2 f0 f1 f2 hz
  obtain ⟨a0, a1, a2, a3, a4, a5, a6, b0, b1, b2, r0, r1, r2, f0, f1, f2, hz⟩ := HAt.out _ hb2
  clear hb2
  go_wp2_with fail
  refine bodyPost_ret (v := .tuple #[vVal k n s, .int .i64 0]) (by simp [results, Tryd.results27, go_sem, r0, r1, r2]) rfl ⟨rfl, ?_⟩
  have hfin := HL.out.trans (HB2.out.mono HL.out.size)
  exact ((hfin.setCell (p := ⟨w.heap.size + 2, 0, none⟩) (by simp only; omega) _).setCell (p := ⟨w.heap.size + 2, 1, none⟩) (by simp only; omega) _).setCell (p := ⟨w.heap.size + 2, 2, none⟩) (by simp only; omega) _

end Go.Proofs.YtpohofcfmllghaaDoor
