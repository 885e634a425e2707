/-
  The functions of one argument: not, isnull, len, and abs of what is not below 0.
  The last way of the functions of one argument: 0 minus the value.
  ofOne of any expression and value: the model, and the contracts put together.
-/
import Derived.Test.YteenhmniikloiaaDoorECat
import Derived.Test.YteenhmniikloiaaDoorERuleW
import Derived.Deep.RegionHeld3
import Derived.Test.YteenhmniikloiaaDoorEArithV
namespace Go.Proofs.YteenhmniikloiaaDoor
open Go.RowKit

/-- The world of a function of an expression and a value, ahead of its calls: both boxes, and the result's. -/
def evW (w : World) (x : XT) (v : Int × Int × ByteArray) : World := ((w.alloc (.cells (eCells x.kind x.name x.val x.op x.adr x.args.length x.cap) 32)).alloc (.cells #[.int .i64 v.1, .int .i64 v.2.1, .string v.2.2] 29)).alloc (.cells #[.int .i64 0, .int .i64 0, .string ⟨#[]⟩] 29)
theorem evW_below (w : World) (x : XT) (v : Int × Int × ByteArray) : Below w.heap.size w (evW w x v) := (Joins.below_alloc2 w _ _).alloc (Joins.below_alloc2 w _ _).size _
theorem evW_at {w : World} {x : XT} {v : Int × Int × ByteArray} {w' : World} (h : Below (evW w x v).heap.size (evW w x v) w') :
    w'.cell? ⟨w.heap.size, 0, none⟩ = some (.int .i64 x.kind) ∧ w'.cell? ⟨w.heap.size, 1, none⟩ = some (.string x.name) ∧ w'.cell? ⟨w.heap.size, 2, none⟩ = some (.int .i64 x.val.1) ∧ w'.cell? ⟨w.heap.size, 3, none⟩ = some (.int .i64 x.val.2.1) ∧
    w'.cell? ⟨w.heap.size, 4, none⟩ = some (.string x.val.2.2) ∧ w'.cell? ⟨w.heap.size, 5, none⟩ = some (.string x.op) ∧ w'.cell? ⟨w.heap.size, 6, none⟩ = some (.slice x.adr x.args.length x.cap) ∧
    w'.cell? ⟨w.heap.size + 1, 0, none⟩ = some (.int .i64 v.1) ∧ w'.cell? ⟨w.heap.size + 1, 1, none⟩ = some (.int .i64 v.2.1) ∧ w'.cell? ⟨w.heap.size + 1, 2, none⟩ = some (.string v.2.2) ∧
    w'.cell? ⟨w.heap.size + 2, 0, none⟩ = some (.int .i64 0) ∧ w'.cell? ⟨w.heap.size + 2, 1, none⟩ = some (.int .i64 0) ∧ w'.cell? ⟨w.heap.size + 2, 2, none⟩ = some (.string ⟨#[]⟩) ∧
    w'.frozen? ⟨w.heap.size + 2, 0, none⟩ = false ∧ w'.frozen? ⟨w.heap.size + 2, 1, none⟩ = false ∧ w'.frozen? ⟨w.heap.size + 2, 2, none⟩ = false ∧ w.heap.size + 2 < w'.heap.size := by
  have s1 : (w.alloc (.cells (eCells x.kind x.name x.val x.op x.adr x.args.length x.cap) 32)).heap.size = w.heap.size + 1 := by simp
  have s2 : ((w.alloc (.cells (eCells x.kind x.name x.val x.op x.adr x.args.length x.cap) 32)).alloc (.cells #[.int .i64 v.1, .int .i64 v.2.1, .string v.2.2] 29)).heap.size = w.heap.size + 2 := by simp
  have s3 : (evW w x v).heap.size = w.heap.size + 3 := by simp [evW]
  have h0 : (evW w x v).heap[w.heap.size]? = some (.cells (eCells x.kind x.name x.val x.op x.adr x.args.length x.cap) 32 (0, 0)) := by
    unfold evW
    rw [Below.heap_alloc _ _ _ (by rw [s2]; omega), Below.heap_alloc _ _ _ (by rw [s1]; omega)]
    exact heap_alloc_new w _
  have h1 : (evW w x v).heap[w.heap.size + 1]? = some (.cells #[.int .i64 v.1, .int .i64 v.2.1, .string v.2.2] 29 (0, 0)) := by
    unfold evW
    rw [Below.heap_alloc _ _ _ (by rw [s2]; omega), ← s1]
    exact heap_alloc_new _ _
  have h2 : (evW w x v).heap[w.heap.size + 2]? = some (.cells #[.int .i64 0, .int .i64 0, .string ⟨#[]⟩] 29 (0, 0)) := by
    unfold evW
    rw [← s2]
    exact heap_alloc_new _ _
  have k0 := (h.block w.heap.size (by omega)).trans h0
  have k1 := (h.block (w.heap.size + 1) (by omega)).trans h1
  have k2 := (h.block (w.heap.size + 2) (by omega)).trans h2
  have := h.size
  exact ⟨Lib.cell_of_heap k0 0, Lib.cell_of_heap k0 1, Lib.cell_of_heap k0 2, Lib.cell_of_heap k0 3, Lib.cell_of_heap k0 4, Lib.cell_of_heap k0 5, Lib.cell_of_heap k0 6, Lib.cell_of_heap k1 0, Lib.cell_of_heap k1 1, Lib.cell_of_heap k1 2, Lib.cell_of_heap k2 0, Lib.cell_of_heap k2 1, Lib.cell_of_heap k2 2,
    Lib.frozen_of_heap k2 0, Lib.frozen_of_heap k2 1, Lib.frozen_of_heap k2 2, by omega⟩

set_option maxHeartbeats 1600000 in
set_option maxRecDepth 100000 in
theorem ofOne_not (x : XT) (k n : Int) (s : ByteArray) (w : World) (h0 : ((wordX x).toList == [110, 111, 116]) = true) :
    Calls Tryd.prog 58 #[vX x, vVal k n s] w fun e w' => e = .returned (.tuple #[vOf (truthV (!trueV (k, n, s))), .int .i64 0]) ∧ Below w.heap.size w w' := by
  have HTr := hide (fun w' => true_any k n s w')
  generalize trueV (k, n, s) = b at *
  have hal := evW_below w x (k, n, s)
  have HAt := hide (fun w' => evW_at (w := w) (x := x) (v := (k, n, s)) (w' := w'))
  have HL := hide hal
  have HWd := hide (fun w' => word_any x w')
  obtain ⟨kd, nm, v, o, A, c, ts⟩ := x
  have HWE := hide (show evW w (.mk kd nm v o A c ts) (k, n, s) = ((w.alloc (.cells (eCells kd nm v o A ts.length c) 32)).alloc (.cells #[.int .i64 k, .int .i64 n, .string s] 29)).alloc (.cells #[.int .i64 0, .int .i64 0, .string ⟨#[]⟩] 29) from rfl)
  simp only [XT.kind, XT.name, XT.val, XT.op, XT.adr, XT.args, XT.cap] at HAt
  rw [show vX (.mk kd nm v o A c ts) = .agg (eCells kd nm v o A ts.length c) from rfl] at HWd
  show Calls Tryd.prog 58 #[.agg (eCells kd nm v o A ts.length c), vVal k n s] w _
  generalize wordX (.mk kd nm v o A c ts) = wd at *
  generalize evW w (.mk kd nm v o A c ts) (k, n, s) = W at *
  clear hal
  go_enter Tryd.func58, Tryd.ntmps58
  obtain ⟨a0, a1, a2, a3, a4, a5, a6, b0, b1, b2, r0, r1, r2, f0, f1, f2, hz⟩ := HAt.out _ (Below.refl _ _)
  go_wp2_with fail
  rw [← HWE.out]
  refine (HWd.out _).mono ?_
  rintro e w2 ⟨rfl, hb2⟩
  have HB2 := hide hb2
  clear a0 a1 a2 a3 a4 a5 a6 b0 b1 b2 r0 r1 r2 f0 f1 f2 hz
  obtain ⟨a0, a1, a2, a3, a4, a5, a6, b0, b1, b2, r0, r1, r2, f0, f1, f2, hz⟩ := HAt.out _ hb2
  clear hb2
  go_wp2_with fail
  refine (HTr.out _).mono ?_
  rintro e w3 ⟨rfl, hb3⟩
  have HB3 := hide (then_below HB2.out hb3)
  clear hb3
  clear a0 a1 a2 a3 a4 a5 a6 b0 b1 b2 r0 r1 r2 f0 f1 f2 hz
  obtain ⟨a0, a1, a2, a3, a4, a5, a6, b0, b1, b2, r0, r1, r2, f0, f1, f2, hz⟩ := HAt.out _ HB3.out
  go_wp2_with fail
  refine (truth_any _ _).mono ?_
  rintro e w4 ⟨rfl, hb3⟩
  have HB4 := hide (then_below HB3.out hb3)
  clear hb3
  clear a0 a1 a2 a3 a4 a5 a6 b0 b1 b2 r0 r1 r2 f0 f1 f2 hz
  obtain ⟨a0, a1, a2, a3, a4, a5, a6, b0, b1, b2, r0, r1, r2, f0, f1, f2, hz⟩ := HAt.out _ HB4.out
  go_wp2_with fail
  refine bodyPost_ret (v := .tuple #[vOf (truthV (!b)), .int .i64 0]) (by simp [results, Tryd.results58, go_sem, r0, r1, r2]) rfl ⟨rfl, ?_⟩
  have hfin := HL.out.trans (HB4.out.mono HL.out.size)
  exact ((hfin.setCell (p := ⟨w.heap.size + 2, 0, none⟩) (by simp only; omega) _).setCell (p := ⟨w.heap.size + 2, 1, none⟩) (by simp only; omega) _).setCell (p := ⟨w.heap.size + 2, 2, none⟩) (by simp only; omega) _

set_option maxHeartbeats 1600000 in
set_option maxRecDepth 100000 in
theorem ofOne_isnull (x : XT) (k n : Int) (s : ByteArray) (w : World) (h0 : ((wordX x).toList == [110, 111, 116]) = false) (h1 : ((wordX x).toList == [105, 115, 110, 117, 108, 108]) = true) :
    Calls Tryd.prog 58 #[vX x, vVal k n s] w fun e w' => e = .returned (.tuple #[vOf (truthV (nullV (k, n, s))), .int .i64 0]) ∧ Below w.heap.size w w' := by
  have HNu := hide (fun w' => isNull_any k n s w')
  generalize nullV (k, n, s) = b at *
  have hal := evW_below w x (k, n, s)
  have HAt := hide (fun w' => evW_at (w := w) (x := x) (v := (k, n, s)) (w' := w'))
  have HL := hide hal
  have HWd := hide (fun w' => word_any x w')
  obtain ⟨kd, nm, v, o, A, c, ts⟩ := x
  have HWE := hide (show evW w (.mk kd nm v o A c ts) (k, n, s) = ((w.alloc (.cells (eCells kd nm v o A ts.length c) 32)).alloc (.cells #[.int .i64 k, .int .i64 n, .string s] 29)).alloc (.cells #[.int .i64 0, .int .i64 0, .string ⟨#[]⟩] 29) from rfl)
  simp only [XT.kind, XT.name, XT.val, XT.op, XT.adr, XT.args, XT.cap] at HAt
  rw [show vX (.mk kd nm v o A c ts) = .agg (eCells kd nm v o A ts.length c) from rfl] at HWd
  show Calls Tryd.prog 58 #[.agg (eCells kd nm v o A ts.length c), vVal k n s] w _
  generalize wordX (.mk kd nm v o A c ts) = wd at *
  generalize evW w (.mk kd nm v o A c ts) (k, n, s) = W at *
  clear hal
  go_enter Tryd.func58, Tryd.ntmps58
  obtain ⟨a0, a1, a2, a3, a4, a5, a6, b0, b1, b2, r0, r1, r2, f0, f1, f2, hz⟩ := HAt.out _ (Below.refl _ _)
  go_wp2_with fail
  rw [← HWE.out]
  refine (HWd.out _).mono ?_
  rintro e w2 ⟨rfl, hb2⟩
  have HB2 := hide hb2
  clear a0 a1 a2 a3 a4 a5 a6 b0 b1 b2 r0 r1 r2 f0 f1 f2 hz
  obtain ⟨a0, a1, a2, a3, a4, a5, a6, b0, b1, b2, r0, r1, r2, f0, f1, f2, hz⟩ := HAt.out _ hb2
  clear hb2
  go_wp2_with fail
  refine (HNu.out _).mono ?_
  rintro e w3 ⟨rfl, hb3⟩
  have HB3 := hide (then_below HB2.out hb3)
  clear hb3
  clear a0 a1 a2 a3 a4 a5 a6 b0 b1 b2 r0 r1 r2 f0 f1 f2 hz
  obtain ⟨a0, a1, a2, a3, a4, a5, a6, b0, b1, b2, r0, r1, r2, f0, f1, f2, hz⟩ := HAt.out _ HB3.out
  go_wp2_with fail
  refine (truth_any _ _).mono ?_
  rintro e w4 ⟨rfl, hb3⟩
  have HB4 := hide (then_below HB3.out hb3)
  clear hb3
  clear a0 a1 a2 a3 a4 a5 a6 b0 b1 b2 r0 r1 r2 f0 f1 f2 hz
  obtain ⟨a0, a1, a2, a3, a4, a5, a6, b0, b1, b2, r0, r1, r2, f0, f1, f2, hz⟩ := HAt.out _ HB4.out
  go_wp2_with fail
  refine bodyPost_ret (v := .tuple #[vOf (truthV b), .int .i64 0]) (by simp [results, Tryd.results58, go_sem, r0, r1, r2]) rfl ⟨rfl, ?_⟩
  have hfin := HL.out.trans (HB4.out.mono HL.out.size)
  exact ((hfin.setCell (p := ⟨w.heap.size + 2, 0, none⟩) (by simp only; omega) _).setCell (p := ⟨w.heap.size + 2, 1, none⟩) (by simp only; omega) _).setCell (p := ⟨w.heap.size + 2, 2, none⟩) (by simp only; omega) _

set_option maxHeartbeats 1600000 in
set_option maxRecDepth 100000 in
theorem ofOne_len (x : XT) (k n : Int) (s : ByteArray) (w : World) (h0 : ((wordX x).toList == [110, 111, 116]) = false) (h1 : ((wordX x).toList == [105, 115, 110, 117, 108, 108]) = false) (h2 : ((wordX x).toList == [108, 101, 110]) = true) (hs : s.size ≤ maxLen) :
    Calls Tryd.prog 58 #[vX x, vVal k n s] w fun e w' => e = .returned (.tuple #[vOf (lenV (k, n, s)), .int .i64 0]) ∧ Below w.heap.size w w' := by
  have HLe := hide (fun w' => length_any (k, n, s) w' hs)
  generalize lenV (k, n, s) = q at *
  have hal := evW_below w x (k, n, s)
  have HAt := hide (fun w' => evW_at (w := w) (x := x) (v := (k, n, s)) (w' := w'))
  have HL := hide hal
  have HWd := hide (fun w' => word_any x w')
  obtain ⟨kd, nm, v, o, A, c, ts⟩ := x
  have HWE := hide (show evW w (.mk kd nm v o A c ts) (k, n, s) = ((w.alloc (.cells (eCells kd nm v o A ts.length c) 32)).alloc (.cells #[.int .i64 k, .int .i64 n, .string s] 29)).alloc (.cells #[.int .i64 0, .int .i64 0, .string ⟨#[]⟩] 29) from rfl)
  simp only [XT.kind, XT.name, XT.val, XT.op, XT.adr, XT.args, XT.cap] at HAt
  rw [show vX (.mk kd nm v o A c ts) = .agg (eCells kd nm v o A ts.length c) from rfl] at HWd
  show Calls Tryd.prog 58 #[.agg (eCells kd nm v o A ts.length c), vVal k n s] w _
  generalize wordX (.mk kd nm v o A c ts) = wd at *
  generalize evW w (.mk kd nm v o A c ts) (k, n, s) = W at *
  clear hal
  go_enter Tryd.func58, Tryd.ntmps58
  obtain ⟨a0, a1, a2, a3, a4, a5, a6, b0, b1, b2, r0, r1, r2, f0, f1, f2, hz⟩ := HAt.out _ (Below.refl _ _)
  go_wp2_with fail
  rw [← HWE.out]
  refine (HWd.out _).mono ?_
  rintro e w2 ⟨rfl, hb2⟩
  have HB2 := hide hb2
  clear a0 a1 a2 a3 a4 a5 a6 b0 b1 b2 r0 r1 r2 f0 f1 f2 hz
  obtain ⟨a0, a1, a2, a3, a4, a5, a6, b0, b1, b2, r0, r1, r2, f0, f1, f2, hz⟩ := HAt.out _ hb2
  clear hb2
  go_wp2_with fail
  refine (HLe.out _).mono ?_
  rintro e w3 ⟨rfl, hb3⟩
  have HB3 := hide (then_below HB2.out hb3)
  clear hb3
  clear a0 a1 a2 a3 a4 a5 a6 b0 b1 b2 r0 r1 r2 f0 f1 f2 hz
  obtain ⟨a0, a1, a2, a3, a4, a5, a6, b0, b1, b2, r0, r1, r2, f0, f1, f2, hz⟩ := HAt.out _ HB3.out
  go_wp2_with fail
  refine bodyPost_ret (v := .tuple #[vOf q, .int .i64 0]) (by simp [results, Tryd.results58, go_sem, r0, r1, r2]) rfl ⟨rfl, ?_⟩
  have hfin := HL.out.trans (HB3.out.mono HL.out.size)
  exact ((hfin.setCell (p := ⟨w.heap.size + 2, 0, none⟩) (by simp only; omega) _).setCell (p := ⟨w.heap.size + 2, 1, none⟩) (by simp only; omega) _).setCell (p := ⟨w.heap.size + 2, 2, none⟩) (by simp only; omega) _

set_option maxHeartbeats 1600000 in
set_option maxRecDepth 100000 in
theorem ofOne_abs (x : XT) (k n : Int) (s : ByteArray) (w : World) (h0 : ((wordX x).toList == [110, 111, 116]) = false) (h1 : ((wordX x).toList == [105, 115, 110, 117, 108, 108]) = false) (h2 : ((wordX x).toList == [108, 101, 110]) = false) (h3 : ((wordX x).toList == [97, 98, 115]) = true) (hn : 0 ≤ n) :
    Calls Tryd.prog 58 #[vX x, vVal k n s] w fun e w' => e = .returned (.tuple #[vVal k n s, .int .i64 0]) ∧ Below w.heap.size w w' := by
  have hal := evW_below w x (k, n, s)
  have HAt := hide (fun w' => evW_at (w := w) (x := x) (v := (k, n, s)) (w' := w'))
  have HL := hide hal
  have HWd := hide (fun w' => word_any x w')
  obtain ⟨kd, nm, v, o, A, c, ts⟩ := x
  have HWE := hide (show evW w (.mk kd nm v o A c ts) (k, n, s) = ((w.alloc (.cells (eCells kd nm v o A ts.length c) 32)).alloc (.cells #[.int .i64 k, .int .i64 n, .string s] 29)).alloc (.cells #[.int .i64 0, .int .i64 0, .string ⟨#[]⟩] 29) from rfl)
  simp only [XT.kind, XT.name, XT.val, XT.op, XT.adr, XT.args, XT.cap] at HAt
  rw [show vX (.mk kd nm v o A c ts) = .agg (eCells kd nm v o A ts.length c) from rfl] at HWd
  show Calls Tryd.prog 58 #[.agg (eCells kd nm v o A ts.length c), vVal k n s] w _
  generalize wordX (.mk kd nm v o A c ts) = wd at *
  generalize evW w (.mk kd nm v o A c ts) (k, n, s) = W at *
  clear hal
  go_enter Tryd.func58, Tryd.ntmps58
  obtain ⟨a0, a1, a2, a3, a4, a5, a6, b0, b1, b2, r0, r1, r2, f0, f1, f2, hz⟩ := HAt.out _ (Below.refl _ _)
  go_wp2_with fail
  rw [← HWE.out]
  refine (HWd.out _).mono ?_
  rintro e w2 ⟨rfl, hb2⟩
  have HB2 := hide hb2
  clear a0 a1 a2 a3 a4 a5 a6 b0 b1 b2 r0 r1 r2 f0 f1 f2 hz
  obtain ⟨a0, a1, a2, a3, a4, a5, a6, b0, b1, b2, r0, r1, r2, f0, f1, f2, hz⟩ := HAt.out _ hb2
  clear hb2
  go_wp2_with fail
  refine bodyPost_ret (v := .tuple #[vVal k n s, .int .i64 0]) (by simp [results, Tryd.results58, go_sem, r0, r1, r2]) rfl ⟨rfl, ?_⟩
  have hfin := HL.out.trans (HB2.out.mono HL.out.size)
  exact ((hfin.setCell (p := ⟨w.heap.size + 2, 0, none⟩) (by simp only; omega) _).setCell (p := ⟨w.heap.size + 2, 1, none⟩) (by simp only; omega) _).setCell (p := ⟨w.heap.size + 2, 2, none⟩) (by simp only; omega) _

end Go.Proofs.YteenhmniikloiaaDoor
namespace Go.Proofs.YteenhmniikloiaaDoor
open Go.RowKit

set_option maxHeartbeats 1600000 in
set_option maxRecDepth 100000 in
theorem ofOne_neg (x : XT) (k n : Int) (s : ByteArray) (z : Int × Int × ByteArray) (ze : Int) (w : World) (h0 : ((wordX x).toList == [110, 111, 116]) = false) (h1 : ((wordX x).toList == [105, 115, 110, 117, 108, 108]) = false) (h2 : ((wordX x).toList == [108, 101, 110]) = false) (h3 : ((wordX x).toList == [97, 98, 115]) = false)
    (hA : ∀ w, Calls Tryd.prog 64 #[.int .u8 45, vVal 1 0 ⟨#[]⟩, vVal k n s] w fun e w' => e = .returned (.tuple #[vOf z, .int .i64 ze]) ∧ Below w.heap.size w w') :
    Calls Tryd.prog 58 #[vX x, vVal k n s] w fun e w' => e = .returned (.tuple #[vOf z, .int .i64 ze]) ∧ Below w.heap.size w w' := by
  have HAr := hide hA
  clear hA
  have HSz := hide (show w.heap.size + 2 ≤ (evW w x (k, n, s)).heap.size by simp [evW])
  have HW0 := hide (show (evW w x (k, n, s)).cell? ⟨w.heap.size + 1, 0, none⟩ = some (.int .i64 k) ∧ (evW w x (k, n, s)).cell? ⟨w.heap.size + 1, 1, none⟩ = some (.int .i64 n) ∧ (evW w x (k, n, s)).cell? ⟨w.heap.size + 1, 2, none⟩ = some (.string s) ∧ w.heap.size + 2 < (evW w x (k, n, s)).heap.size by
    obtain ⟨-, -, -, -, -, -, -, b0, b1, b2, -, -, -, -, -, -, hz⟩ := evW_at (w := w) (x := x) (v := (k, n, s)) (Below.refl _ _)
    exact ⟨b0, b1, b2, hz⟩)
  have hal := evW_below w x (k, n, s)
  have HAt := hide (fun w' => evW_at (w := w) (x := x) (v := (k, n, s)) (w' := w'))
  have HL := hide hal
  have HWd := hide (fun w' => word_any x w')
  obtain ⟨kd, nm, v, o, A, c, ts⟩ := x
  have HWE := hide (show evW w (.mk kd nm v o A c ts) (k, n, s) = ((w.alloc (.cells (eCells kd nm v o A ts.length c) 32)).alloc (.cells #[.int .i64 k, .int .i64 n, .string s] 29)).alloc (.cells #[.int .i64 0, .int .i64 0, .string ⟨#[]⟩] 29) from rfl)
  simp only [XT.kind, XT.name, XT.val, XT.op, XT.adr, XT.args, XT.cap] at HAt
  rw [show vX (.mk kd nm v o A c ts) = .agg (eCells kd nm v o A ts.length c) from rfl] at HWd
  show Calls Tryd.prog 58 #[.agg (eCells kd nm v o A ts.length c), vVal k n s] w _
  generalize wordX (.mk kd nm v o A c ts) = wd at *
  generalize evW w (.mk kd nm v o A c ts) (k, n, s) = W at *
  clear hal
  have HM := hide (fun w' (h : Below W.heap.size W w') => (h.mono HSz.out : Below (w.heap.size + 2) W w'))
  have HALL := hide (fun w' (h : Below (w.heap.size + 2) W w') => (⟨(h.cell (p := ⟨w.heap.size + 1, 0, none⟩) (by simp only; omega)).trans HW0.out.1, (h.cell (p := ⟨w.heap.size + 1, 1, none⟩) (by simp only; omega)).trans HW0.out.2.1, (h.cell (p := ⟨w.heap.size + 1, 2, none⟩) (by simp only; omega)).trans HW0.out.2.2.1, Nat.lt_of_lt_of_le HW0.out.2.2.2 h.size, h⟩ :
    w'.cell? ⟨w.heap.size + 1, 0, none⟩ = some (.int .i64 k) ∧ w'.cell? ⟨w.heap.size + 1, 1, none⟩ = some (.int .i64 n) ∧ w'.cell? ⟨w.heap.size + 1, 2, none⟩ = some (.string s) ∧ w.heap.size + 2 < w'.heap.size ∧ Below (w.heap.size + 2) W w'))
  go_enter Tryd.func58, Tryd.ntmps58
  obtain ⟨a0, a1, a2, a3, a4, a5, a6, b0, b1, b2, r0, r1, r2, f0, f1, f2, hz⟩ := HAt.out _ (Below.refl _ _)
  go_wp2_with fail
  rw [← HWE.out]
  refine (HWd.out _).mono ?_
  rintro e w2 ⟨rfl, hb2⟩
  have HB2 := hide hb2
  clear a0 a1 a2 a3 a4 a5 a6 b0 b1 b2 r0 r1 r2 f0 f1 f2 hz
  obtain ⟨a0, a1, a2, a3, a4, a5, a6, b0, b1, b2, r0, r1, r2, f0, f1, f2, hz⟩ := HAt.out _ hb2
  clear hb2
  go_wp2_with fail
  go_region_held3 (fun w' => w'.cell? ⟨w.heap.size + 1, 0, none⟩ = some (.int .i64 k) ∧ w'.cell? ⟨w.heap.size + 1, 1, none⟩ = some (.int .i64 n) ∧ w'.cell? ⟨w.heap.size + 1, 2, none⟩ = some (.string s) ∧ w.heap.size + 2 < w'.heap.size ∧ Below (w.heap.size + 2) W w')
    ((refine HALL.out _ ?_; first | with_reducible assumption | with_reducible exact HM.out _ HB2.out | with_reducible exact (HM.out _ HB2.out).drew | with_reducible exact HM.out _ hB5 | with_reducible exact HM.out _ hB6 | with_reducible exact (((HM.out _ hB6).setCell (p := ⟨w.heap.size + 2, 0, none⟩) (Nat.le_refl _) _).setCell (p := ⟨w.heap.size + 2, 1, none⟩) (Nat.le_refl _) _).setCell (p := ⟨w.heap.size + 2, 2, none⟩) (Nat.le_refl _) _))
    (first
      | (go_at_call 27; (try go_split_ands); refine (of_any 0 _).mono ?_; rintro e w5 ⟨rfl, hb5⟩; have hB5 : Below W.heap.size W w5 := then_below HB2.out.drew hb5)
      | (go_at_call 64; (try go_split_ands); refine (HAr.out _).mono ?_; rintro e w6 ⟨rfl, hb6⟩; have hB6 : Below W.heap.size W w6 := then_below hB5 hb6; obtain ⟨-, -, -, -, -, -, -, -, -, -, r0, r1, r2, f0, f1, f2, hzr⟩ := HAt.out _ hB6))
  all_goals
    go_split_ands
    go_wp2_with fail
    refine bodyPost_ret (v := .tuple #[vOf z, .int .i64 ze]) (by simp [results, Tryd.results58, go_sem, r0, r1, r2]) rfl ⟨rfl, ?_⟩
    have hfin := HL.out.trans (hB6.mono HL.out.size)
    exact ((hfin.setCell (p := ⟨w.heap.size + 2, 0, none⟩) (by simp only; omega) _).setCell (p := ⟨w.heap.size + 2, 1, none⟩) (by simp only; omega) _).setCell (p := ⟨w.heap.size + 2, 2, none⟩) (by simp only; omega) _

set_option maxHeartbeats 1600000 in
set_option maxRecDepth 100000 in
theorem ofOne_absNeg (x : XT) (k n : Int) (s : ByteArray) (z : Int × Int × ByteArray) (ze : Int) (w : World) (h0 : ((wordX x).toList == [110, 111, 116]) = false) (h1 : ((wordX x).toList == [105, 115, 110, 117, 108, 108]) = false) (h2 : ((wordX x).toList == [108, 101, 110]) = false) (h3 : ((wordX x).toList == [97, 98, 115]) = true) (hn : ¬ 0 ≤ n)
    (hA : ∀ w, Calls Tryd.prog 64 #[.int .u8 45, vVal 1 0 ⟨#[]⟩, vVal k n s] w fun e w' => e = .returned (.tuple #[vOf z, .int .i64 ze]) ∧ Below w.heap.size w w') :
    Calls Tryd.prog 58 #[vX x, vVal k n s] w fun e w' => e = .returned (.tuple #[vOf z, .int .i64 ze]) ∧ Below w.heap.size w w' := by
  have HAr := hide hA
  clear hA
  have HSz := hide (show w.heap.size + 2 ≤ (evW w x (k, n, s)).heap.size by simp [evW])
  have HW0 := hide (show (evW w x (k, n, s)).cell? ⟨w.heap.size + 1, 0, none⟩ = some (.int .i64 k) ∧ (evW w x (k, n, s)).cell? ⟨w.heap.size + 1, 1, none⟩ = some (.int .i64 n) ∧ (evW w x (k, n, s)).cell? ⟨w.heap.size + 1, 2, none⟩ = some (.string s) ∧ w.heap.size + 2 < (evW w x (k, n, s)).heap.size by
    obtain ⟨-, -, -, -, -, -, -, b0, b1, b2, -, -, -, -, -, -, hz⟩ := evW_at (w := w) (x := x) (v := (k, n, s)) (Below.refl _ _)
    exact ⟨b0, b1, b2, hz⟩)
  have hal := evW_below w x (k, n, s)
  have HAt := hide (fun w' => evW_at (w := w) (x := x) (v := (k, n, s)) (w' := w'))
  have HL := hide hal
  have HWd := hide (fun w' => word_any x w')
  obtain ⟨kd, nm, v, o, A, c, ts⟩ := x
  have HWE := hide (show evW w (.mk kd nm v o A c ts) (k, n, s) = ((w.alloc (.cells (eCells kd nm v o A ts.length c) 32)).alloc (.cells #[.int .i64 k, .int .i64 n, .string s] 29)).alloc (.cells #[.int .i64 0, .int .i64 0, .string ⟨#[]⟩] 29) from rfl)
  simp only [XT.kind, XT.name, XT.val, XT.op, XT.adr, XT.args, XT.cap] at HAt
  rw [show vX (.mk kd nm v o A c ts) = .agg (eCells kd nm v o A ts.length c) from rfl] at HWd
  show Calls Tryd.prog 58 #[.agg (eCells kd nm v o A ts.length c), vVal k n s] w _
  generalize wordX (.mk kd nm v o A c ts) = wd at *
  generalize evW w (.mk kd nm v o A c ts) (k, n, s) = W at *
  clear hal
  have HM := hide (fun w' (h : Below W.heap.size W w') => (h.mono HSz.out : Below (w.heap.size + 2) W w'))
  have HALL := hide (fun w' (h : Below (w.heap.size + 2) W w') => (⟨(h.cell (p := ⟨w.heap.size + 1, 0, none⟩) (by simp only; omega)).trans HW0.out.1, (h.cell (p := ⟨w.heap.size + 1, 1, none⟩) (by simp only; omega)).trans HW0.out.2.1, (h.cell (p := ⟨w.heap.size + 1, 2, none⟩) (by simp only; omega)).trans HW0.out.2.2.1, Nat.lt_of_lt_of_le HW0.out.2.2.2 h.size, h⟩ :
    w'.cell? ⟨w.heap.size + 1, 0, none⟩ = some (.int .i64 k) ∧ w'.cell? ⟨w.heap.size + 1, 1, none⟩ = some (.int .i64 n) ∧ w'.cell? ⟨w.heap.size + 1, 2, none⟩ = some (.string s) ∧ w.heap.size + 2 < w'.heap.size ∧ Below (w.heap.size + 2) W w'))
  go_enter Tryd.func58, Tryd.ntmps58
  obtain ⟨a0, a1, a2, a3, a4, a5, a6, b0, b1, b2, r0, r1, r2, f0, f1, f2, hz⟩ := HAt.out _ (Below.refl _ _)
  go_wp2_with fail
  rw [← HWE.out]
  refine (HWd.out _).mono ?_
  rintro e w2 ⟨rfl, hb2⟩
  have HB2 := hide hb2
  clear a0 a1 a2 a3 a4 a5 a6 b0 b1 b2 r0 r1 r2 f0 f1 f2 hz
  obtain ⟨a0, a1, a2, a3, a4, a5, a6, b0, b1, b2, r0, r1, r2, f0, f1, f2, hz⟩ := HAt.out _ hb2
  clear hb2
  go_wp2_with fail
  go_region_held3 (fun w' => w'.cell? ⟨w.heap.size + 1, 0, none⟩ = some (.int .i64 k) ∧ w'.cell? ⟨w.heap.size + 1, 1, none⟩ = some (.int .i64 n) ∧ w'.cell? ⟨w.heap.size + 1, 2, none⟩ = some (.string s) ∧ w.heap.size + 2 < w'.heap.size ∧ Below (w.heap.size + 2) W w')
    ((refine HALL.out _ ?_; first | with_reducible assumption | with_reducible exact HM.out _ HB2.out | with_reducible exact (HM.out _ HB2.out).drew | with_reducible exact HM.out _ hB5 | with_reducible exact HM.out _ hB6 | with_reducible exact (((HM.out _ hB6).setCell (p := ⟨w.heap.size + 2, 0, none⟩) (Nat.le_refl _) _).setCell (p := ⟨w.heap.size + 2, 1, none⟩) (Nat.le_refl _) _).setCell (p := ⟨w.heap.size + 2, 2, none⟩) (Nat.le_refl _) _))
    (first
      | (go_at_call 27; (try go_split_ands); refine (of_any 0 _).mono ?_; rintro e w5 ⟨rfl, hb5⟩; have hB5 : Below W.heap.size W w5 := then_below HB2.out.drew hb5)
      | (go_at_call 64; (try go_split_ands); refine (HAr.out _).mono ?_; rintro e w6 ⟨rfl, hb6⟩; have hB6 : Below W.heap.size W w6 := then_below hB5 hb6; obtain ⟨-, -, -, -, -, -, -, -, -, -, r0, r1, r2, f0, f1, f2, hzr⟩ := HAt.out _ hB6))
  all_goals
    go_split_ands
    go_wp2_with fail
    refine bodyPost_ret (v := .tuple #[vOf z, .int .i64 ze]) (by simp [results, Tryd.results58, go_sem, r0, r1, r2]) rfl ⟨rfl, ?_⟩
    have hfin := HL.out.trans (hB6.mono HL.out.size)
    exact ((hfin.setCell (p := ⟨w.heap.size + 2, 0, none⟩) (by simp only; omega) _).setCell (p := ⟨w.heap.size + 2, 1, none⟩) (by simp only; omega) _).setCell (p := ⟨w.heap.size + 2, 2, none⟩) (by simp only; omega) _

end Go.Proofs.YteenhmniikloiaaDoor
namespace Go.Proofs.YteenhmniikloiaaDoor
open Go.RowKit

/-- What an expression of one argument comes to, and the error. -/
def oneX (wd : ByteArray) (v : Int × Int × ByteArray) : (Int × Int × ByteArray) × Int :=
  bif (wd.toList == [110, 111, 116]) then (truthV (!trueV v), 0)
  else bif (wd.toList == [105, 115, 110, 117, 108, 108]) then (truthV (nullV v), 0)
  else bif (wd.toList == [108, 101, 110]) then (lenV v, 0)
  else bif (wd.toList == [97, 98, 115]) then (bif decide (0 ≤ v.2.1) then (v, 0) else arithV 45 (1, 0, ⟨#[]⟩) v)
  else arithV 45 (1, 0, ⟨#[]⟩) v

theorem ofOne_any (x : XT) (v : Int × Int × ByteArray) (w : World) (hs : v.2.2.size ≤ maxLen)
    (hn : ((wordX x).toList == [110, 111, 116]) = false → ((wordX x).toList == [105, 115, 110, 117, 108, 108]) = false → ((wordX x).toList == [108, 101, 110]) = false → numV v ∧ I64 v.2.1) :
    Calls Tryd.prog 58 #[vX x, vOf v] w fun e w' => e = .returned (.tuple #[vOf (oneX (wordX x) v).1, .int .i64 (oneX (wordX x) v).2]) ∧ Below w.heap.size w w' := by
  obtain ⟨k, n, s⟩ := v
  simp only at hs
  cases h0 : ((wordX x).toList == [110, 111, 116])
  · cases h1 : ((wordX x).toList == [105, 115, 110, 117, 108, 108])
    · cases h2 : ((wordX x).toList == [108, 101, 110])
      · obtain ⟨hv, hi⟩ := hn h0 h1 h2
        have hA := fun w => arithV_any 45 (1, 0, ⟨#[]⟩) (k, n, s) w (.inr (.inl rfl)) (.inr ⟨rfl, rfl⟩) hv (by unfold I64; simp) hi
        cases h3 : ((wordX x).toList == [97, 98, 115])
        · have e : oneX (wordX x) (k, n, s) = arithV 45 (1, 0, ⟨#[]⟩) (k, n, s) := by unfold oneX; rw [h0, h1, h2, h3]; rfl
          rw [e]
          exact ofOne_neg x k n s _ _ w h0 h1 h2 h3 hA
        · by_cases hp : 0 ≤ n
          · have e : oneX (wordX x) (k, n, s) = ((k, n, s), 0) := by unfold oneX; rw [h0, h1, h2, h3, decide_eq_true hp]; rfl
            rw [e]
            exact ofOne_abs x k n s w h0 h1 h2 h3 hp
          · have e : oneX (wordX x) (k, n, s) = arithV 45 (1, 0, ⟨#[]⟩) (k, n, s) := by unfold oneX; rw [h0, h1, h2, h3, decide_eq_false hp]; rfl
            rw [e]
            exact ofOne_absNeg x k n s _ _ w h0 h1 h2 h3 hp hA
      · have e : oneX (wordX x) (k, n, s) = (lenV (k, n, s), 0) := by unfold oneX; rw [h0, h1, h2]; rfl
        rw [e]
        exact ofOne_len x k n s w h0 h1 h2 hs
    · have e : oneX (wordX x) (k, n, s) = (truthV (nullV (k, n, s)), 0) := by unfold oneX; rw [h0, h1]; rfl
      rw [e]
      exact ofOne_isnull x k n s w h0 h1
  · have e : oneX (wordX x) (k, n, s) = (truthV (!trueV (k, n, s)), 0) := by unfold oneX; rw [h0]; rfl
    rw [e]
    exact ofOne_not x k n s w h0
end Go.Proofs.YteenhmniikloiaaDoor
