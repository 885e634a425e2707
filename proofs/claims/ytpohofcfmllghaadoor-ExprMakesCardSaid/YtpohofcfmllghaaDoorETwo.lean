/-
  ofTwo: what an expression comes to, of which two arguments were evaluated.
-/
import Derived.Test.YtpohofcfmllghaaDoorEOnX
import Derived.Test.YtpohofcfmllghaaDoorECompareV
import Derived.Test.YtpohofcfmllghaaDoorESettle
import Derived.Deep.RegionHeld3
namespace Go.Proofs.YtpohofcfmllghaaDoor
open Go.RowKit

def cmpsL : List ByteArray := [⟨#[61]⟩, ⟨#[33, 61]⟩, ⟨#[60]⟩, ⟨#[60, 61]⟩, ⟨#[62]⟩, ⟨#[62, 61]⟩]
/-- What the listed variable comparisons holds. -/
def Cmps (w : World) : Prop := ∀ i, i < 6 → w.cell? ⟨0, i, none⟩ = some (.string (cmpsL.getD i ⟨#[]⟩))
theorem Cmps.stays {w w' : World} (h : Cmps w) (hb : Below w.heap.size w w') : Cmps w' := fun i hi => by
  have hu := h i hi
  exact (hb.cell (p := ⟨0, i, none⟩) (by
    rcases Nat.lt_or_ge 0 w.heap.size with h' | h'
    · exact h'
    · exfalso
      have : w.heap[0]? = none := Array.getElem?_eq_none h'
      simp [World.cell?, this] at hu)).trans hu

theorem lit_toList (l : List UInt8) : (⟨l.toArray⟩ : ByteArray).toList = l := by rw [Lib.toList_data]
def byte0 (op : ByteArray) : Int := ((op.data.toList.getD 0 0).toNat : Int)
theorem run_cmp0 (w : World) : (Instr.index 84 (.agg #[.string ⟨#[61]⟩, .string ⟨#[33, 61]⟩, .string ⟨#[60]⟩, .string ⟨#[60, 61]⟩, .string ⟨#[62]⟩, .string ⟨#[62, 61]⟩]) (.int .i64 0)).run Tryd.prog w = .ok (.string ⟨#[61]⟩) w := by kernel_rfl
theorem run_cmp1 (w : World) : (Instr.index 84 (.agg #[.string ⟨#[61]⟩, .string ⟨#[33, 61]⟩, .string ⟨#[60]⟩, .string ⟨#[60, 61]⟩, .string ⟨#[62]⟩, .string ⟨#[62, 61]⟩]) (.int .i64 1)).run Tryd.prog w = .ok (.string ⟨#[33, 61]⟩) w := by kernel_rfl
theorem run_cmp2 (w : World) : (Instr.index 84 (.agg #[.string ⟨#[61]⟩, .string ⟨#[33, 61]⟩, .string ⟨#[60]⟩, .string ⟨#[60, 61]⟩, .string ⟨#[62]⟩, .string ⟨#[62, 61]⟩]) (.int .i64 2)).run Tryd.prog w = .ok (.string ⟨#[60]⟩) w := by kernel_rfl
theorem run_cmp3 (w : World) : (Instr.index 84 (.agg #[.string ⟨#[61]⟩, .string ⟨#[33, 61]⟩, .string ⟨#[60]⟩, .string ⟨#[60, 61]⟩, .string ⟨#[62]⟩, .string ⟨#[62, 61]⟩]) (.int .i64 3)).run Tryd.prog w = .ok (.string ⟨#[60, 61]⟩) w := by kernel_rfl
theorem run_cmp4 (w : World) : (Instr.index 84 (.agg #[.string ⟨#[61]⟩, .string ⟨#[33, 61]⟩, .string ⟨#[60]⟩, .string ⟨#[60, 61]⟩, .string ⟨#[62]⟩, .string ⟨#[62, 61]⟩]) (.int .i64 4)).run Tryd.prog w = .ok (.string ⟨#[62]⟩) w := by kernel_rfl
theorem run_cmp5 (w : World) : (Instr.index 84 (.agg #[.string ⟨#[61]⟩, .string ⟨#[33, 61]⟩, .string ⟨#[60]⟩, .string ⟨#[60, 61]⟩, .string ⟨#[62]⟩, .string ⟨#[62, 61]⟩]) (.int .i64 5)).run Tryd.prog w = .ok (.string ⟨#[62, 61]⟩) w := by kernel_rfl
/-- The world of ofTwo ahead of its calls. -/
def tvW (w : World) (x : XT) (a b : Int × Int × ByteArray) : World := (((w.alloc (.cells (eCells x.kind x.name x.val x.op x.adr x.args.length x.cap) 29)).alloc (.cells #[.int .i64 a.1, .int .i64 a.2.1, .string a.2.2] 26)).alloc (.cells #[.int .i64 b.1, .int .i64 b.2.1, .string b.2.2] 26)).alloc (.cells #[.int .i64 0, .int .i64 0, .string ⟨#[]⟩] 26)
theorem tvW_below (w : World) (x : XT) (a b : Int × Int × ByteArray) : Below w.heap.size w (tvW w x a b) := by
  have h := (Joins.below_alloc2 w (.cells (eCells x.kind x.name x.val x.op x.adr x.args.length x.cap) 29) (.cells #[.int .i64 a.1, .int .i64 a.2.1, .string a.2.2] 26)).alloc (Joins.below_alloc2 w _ _).size (.cells #[.int .i64 b.1, .int .i64 b.2.1, .string b.2.2] 26)
  exact h.alloc h.size _
theorem tvW_at {w : World} {x : XT} {a b : Int × Int × ByteArray} {w' : World} (h : Below (tvW w x a b).heap.size (tvW w x a b) w') :
    w'.cell? ⟨w.heap.size, 0, none⟩ = some (.int .i64 x.kind) ∧ w'.cell? ⟨w.heap.size, 1, none⟩ = some (.string x.name) ∧ w'.cell? ⟨w.heap.size, 2, none⟩ = some (.int .i64 x.val.1) ∧ w'.cell? ⟨w.heap.size, 3, none⟩ = some (.int .i64 x.val.2.1) ∧
    w'.cell? ⟨w.heap.size, 4, none⟩ = some (.string x.val.2.2) ∧ w'.cell? ⟨w.heap.size, 5, none⟩ = some (.string x.op) ∧ w'.cell? ⟨w.heap.size, 6, none⟩ = some (.slice x.adr x.args.length x.cap) ∧
    w'.cell? ⟨w.heap.size + 1, 0, none⟩ = some (.int .i64 a.1) ∧ w'.cell? ⟨w.heap.size + 1, 1, none⟩ = some (.int .i64 a.2.1) ∧ w'.cell? ⟨w.heap.size + 1, 2, none⟩ = some (.string a.2.2) ∧
    w'.cell? ⟨w.heap.size + 2, 0, none⟩ = some (.int .i64 b.1) ∧ w'.cell? ⟨w.heap.size + 2, 1, none⟩ = some (.int .i64 b.2.1) ∧ w'.cell? ⟨w.heap.size + 2, 2, none⟩ = some (.string b.2.2) ∧
    w'.cell? ⟨w.heap.size + 3, 0, none⟩ = some (.int .i64 0) ∧ w'.cell? ⟨w.heap.size + 3, 1, none⟩ = some (.int .i64 0) ∧ w'.cell? ⟨w.heap.size + 3, 2, none⟩ = some (.string ⟨#[]⟩) ∧
    w'.frozen? ⟨w.heap.size + 3, 0, none⟩ = false ∧ w'.frozen? ⟨w.heap.size + 3, 1, none⟩ = false ∧ w'.frozen? ⟨w.heap.size + 3, 2, none⟩ = false ∧ w.heap.size + 3 < w'.heap.size := by
  have s1 : (w.alloc (.cells (eCells x.kind x.name x.val x.op x.adr x.args.length x.cap) 29)).heap.size = w.heap.size + 1 := by simp
  have s2 : ((w.alloc (.cells (eCells x.kind x.name x.val x.op x.adr x.args.length x.cap) 29)).alloc (.cells #[.int .i64 a.1, .int .i64 a.2.1, .string a.2.2] 26)).heap.size = w.heap.size + 2 := by simp
  have s3 : (((w.alloc (.cells (eCells x.kind x.name x.val x.op x.adr x.args.length x.cap) 29)).alloc (.cells #[.int .i64 a.1, .int .i64 a.2.1, .string a.2.2] 26)).alloc (.cells #[.int .i64 b.1, .int .i64 b.2.1, .string b.2.2] 26)).heap.size = w.heap.size + 3 := by simp
  have s4 : (tvW w x a b).heap.size = w.heap.size + 4 := by simp [tvW]
  have h0 : (tvW w x a b).heap[w.heap.size]? = some (.cells (eCells x.kind x.name x.val x.op x.adr x.args.length x.cap) 29 (0, 0)) := by
    unfold tvW
    rw [Below.heap_alloc _ _ _ (by rw [s3]; omega), Below.heap_alloc _ _ _ (by rw [s2]; omega), Below.heap_alloc _ _ _ (by rw [s1]; omega)]
    exact heap_alloc_new w _
  have h1 : (tvW w x a b).heap[w.heap.size + 1]? = some (.cells #[.int .i64 a.1, .int .i64 a.2.1, .string a.2.2] 26 (0, 0)) := by
    unfold tvW
    rw [Below.heap_alloc _ _ _ (by rw [s3]; omega), Below.heap_alloc _ _ _ (by rw [s2]; omega), ← s1]
    exact heap_alloc_new _ _
  have h2 : (tvW w x a b).heap[w.heap.size + 2]? = some (.cells #[.int .i64 b.1, .int .i64 b.2.1, .string b.2.2] 26 (0, 0)) := by
    unfold tvW
    rw [Below.heap_alloc _ _ _ (by rw [s3]; omega), ← s2]
    exact heap_alloc_new _ _
  have h3 : (tvW w x a b).heap[w.heap.size + 3]? = some (.cells #[.int .i64 0, .int .i64 0, .string ⟨#[]⟩] 26 (0, 0)) := by
    unfold tvW
    rw [← s3]
    exact heap_alloc_new _ _
  have k0 := (h.block w.heap.size (by omega)).trans h0
  have k1 := (h.block (w.heap.size + 1) (by omega)).trans h1
  have k2 := (h.block (w.heap.size + 2) (by omega)).trans h2
  have k3 := (h.block (w.heap.size + 3) (by omega)).trans h3
  have := h.size
  exact ⟨Lib.cell_of_heap k0 0, Lib.cell_of_heap k0 1, Lib.cell_of_heap k0 2, Lib.cell_of_heap k0 3, Lib.cell_of_heap k0 4, Lib.cell_of_heap k0 5, Lib.cell_of_heap k0 6, Lib.cell_of_heap k1 0, Lib.cell_of_heap k1 1, Lib.cell_of_heap k1 2, Lib.cell_of_heap k2 0, Lib.cell_of_heap k2 1, Lib.cell_of_heap k2 2, Lib.cell_of_heap k3 0, Lib.cell_of_heap k3 1, Lib.cell_of_heap k3 2, Lib.frozen_of_heap k3 0, Lib.frozen_of_heap k3 1, Lib.frozen_of_heap k3 2, by omega⟩

set_option maxHeartbeats 3200000 in
set_option maxRecDepth 100000 in
theorem ofTwo_and (x : XT) (k n : Int) (s : ByteArray) (l m : Int) (t : ByteArray) (w : World) (h0 : ((wordX x).toList == [97, 110, 100]) = true) :
    Calls Tryd.prog 30 #[vX x, vVal k n s, vVal l m t] w fun e w' => e = .returned (.tuple #[vOf (truthV (trueV (l, m, t))), .int .i64 0]) ∧ Below w.heap.size w w' := by
  have hal := tvW_below w x (k, n, s) (l, m, t)
  have HAt := hide (fun w' => tvW_at (w := w) (x := x) (a := (k, n, s)) (b := (l, m, t)) (w' := w'))
  have HL := hide hal
  have HWd := hide (fun w' => word_any x w')
  obtain ⟨kd, nm, v, o, A, c, ts⟩ := x
  have HWE := hide (show tvW w (.mk kd nm v o A c ts) (k, n, s) (l, m, t) = (((w.alloc (.cells (eCells kd nm v o A ts.length c) 29)).alloc (.cells #[.int .i64 k, .int .i64 n, .string s] 26)).alloc (.cells #[.int .i64 l, .int .i64 m, .string t] 26)).alloc (.cells #[.int .i64 0, .int .i64 0, .string ⟨#[]⟩] 26) from rfl)
  simp only [XT.kind, XT.name, XT.val, XT.op, XT.adr, XT.args, XT.cap] at *
  rw [show vX (.mk kd nm v o A c ts) = .agg (eCells kd nm v o A ts.length c) from rfl] at HWd ⊢
  generalize wordX (.mk kd nm v o A c ts) = wd at *
  generalize tvW w (.mk kd nm v o A c ts) (k, n, s) (l, m, t) = W at *
  clear hal
  go_enter Tryd.func30, Tryd.ntmps30
  obtain ⟨a0, a1, a2, a3, a4, a5, a6, b0, b1, b2, c0, c1, c2, r0, r1, r2, f0, f1, f2, hz⟩ := HAt.out _ (Below.refl _ _)
  go_wp2_with fail
  rw [← HWE.out]
  refine (HWd.out _).mono ?_
  rintro e w2 ⟨rfl, hb2⟩
  have HB2 := hide hb2
  clear a0 a1 a2 a3 a4 a5 a6 b0 b1 b2 c0 c1 c2 r0 r1 r2 f0 f1 f2 hz
  obtain ⟨a0, a1, a2, a3, a4, a5, a6, b0, b1, b2, c0, c1, c2, r0, r1, r2, f0, f1, f2, hz⟩ := HAt.out _ hb2
  clear hb2
  go_wp2_with fail
  refine (true_any l m t _).mono ?_
  rintro e w4 ⟨rfl, hb3⟩
  have HB4 := hide (then_below HB2.out hb3)
  clear hb3
  clear a0 a1 a2 a3 a4 a5 a6 b0 b1 b2 c0 c1 c2 r0 r1 r2 f0 f1 f2 hz
  obtain ⟨a0, a1, a2, a3, a4, a5, a6, b0, b1, b2, c0, c1, c2, r0, r1, r2, f0, f1, f2, hz⟩ := HAt.out _ HB4.out
  go_wp2_with fail
  refine (truth_any _ _).mono ?_
  rintro e w5 ⟨rfl, hb3⟩
  have HB5 := hide (then_below HB4.out hb3)
  clear hb3
  clear a0 a1 a2 a3 a4 a5 a6 b0 b1 b2 c0 c1 c2 r0 r1 r2 f0 f1 f2 hz
  obtain ⟨a0, a1, a2, a3, a4, a5, a6, b0, b1, b2, c0, c1, c2, r0, r1, r2, f0, f1, f2, hz⟩ := HAt.out _ HB5.out
  go_wp2_with fail
  refine bodyPost_ret (v := .tuple #[vOf (truthV (trueV (l, m, t))), .int .i64 0]) (by simp [results, Tryd.results30, go_sem, r0, r1, r2]) rfl ⟨rfl, ?_⟩
  have hfin := HL.out.trans (HB5.out.mono HL.out.size)
  exact ((hfin.setCell (p := ⟨w.heap.size + 3, 0, none⟩) (by simp only; omega) _).setCell (p := ⟨w.heap.size + 3, 1, none⟩) (by simp only; omega) _).setCell (p := ⟨w.heap.size + 3, 2, none⟩) (by simp only; omega) _

set_option maxHeartbeats 3200000 in
set_option maxRecDepth 100000 in
theorem ofTwo_or (x : XT) (k n : Int) (s : ByteArray) (l m : Int) (t : ByteArray) (w : World) (h0 : ((wordX x).toList == [97, 110, 100]) = false) (h1 : ((wordX x).toList == [111, 114]) = true) :
    Calls Tryd.prog 30 #[vX x, vVal k n s, vVal l m t] w fun e w' => e = .returned (.tuple #[vOf (truthV (trueV (l, m, t))), .int .i64 0]) ∧ Below w.heap.size w w' := by
  have hal := tvW_below w x (k, n, s) (l, m, t)
  have HAt := hide (fun w' => tvW_at (w := w) (x := x) (a := (k, n, s)) (b := (l, m, t)) (w' := w'))
  have HL := hide hal
  have HWd := hide (fun w' => word_any x w')
  obtain ⟨kd, nm, v, o, A, c, ts⟩ := x
  have HWE := hide (show tvW w (.mk kd nm v o A c ts) (k, n, s) (l, m, t) = (((w.alloc (.cells (eCells kd nm v o A ts.length c) 29)).alloc (.cells #[.int .i64 k, .int .i64 n, .string s] 26)).alloc (.cells #[.int .i64 l, .int .i64 m, .string t] 26)).alloc (.cells #[.int .i64 0, .int .i64 0, .string ⟨#[]⟩] 26) from rfl)
  simp only [XT.kind, XT.name, XT.val, XT.op, XT.adr, XT.args, XT.cap] at *
  rw [show vX (.mk kd nm v o A c ts) = .agg (eCells kd nm v o A ts.length c) from rfl] at HWd ⊢
  generalize wordX (.mk kd nm v o A c ts) = wd at *
  generalize tvW w (.mk kd nm v o A c ts) (k, n, s) (l, m, t) = W at *
  clear hal
  go_enter Tryd.func30, Tryd.ntmps30
  obtain ⟨a0, a1, a2, a3, a4, a5, a6, b0, b1, b2, c0, c1, c2, r0, r1, r2, f0, f1, f2, hz⟩ := HAt.out _ (Below.refl _ _)
  go_wp2_with fail
  rw [← HWE.out]
  refine (HWd.out _).mono ?_
  rintro e w2 ⟨rfl, hb2⟩
  have HB2 := hide hb2
  clear a0 a1 a2 a3 a4 a5 a6 b0 b1 b2 c0 c1 c2 r0 r1 r2 f0 f1 f2 hz
  obtain ⟨a0, a1, a2, a3, a4, a5, a6, b0, b1, b2, c0, c1, c2, r0, r1, r2, f0, f1, f2, hz⟩ := HAt.out _ hb2
  clear hb2
  go_wp2_with fail
  refine (true_any l m t _).mono ?_
  rintro e w4 ⟨rfl, hb3⟩
  have HB4 := hide (then_below HB2.out hb3)
  clear hb3
  clear a0 a1 a2 a3 a4 a5 a6 b0 b1 b2 c0 c1 c2 r0 r1 r2 f0 f1 f2 hz
  obtain ⟨a0, a1, a2, a3, a4, a5, a6, b0, b1, b2, c0, c1, c2, r0, r1, r2, f0, f1, f2, hz⟩ := HAt.out _ HB4.out
  go_wp2_with fail
  refine (truth_any _ _).mono ?_
  rintro e w5 ⟨rfl, hb3⟩
  have HB5 := hide (then_below HB4.out hb3)
  clear hb3
  clear a0 a1 a2 a3 a4 a5 a6 b0 b1 b2 c0 c1 c2 r0 r1 r2 f0 f1 f2 hz
  obtain ⟨a0, a1, a2, a3, a4, a5, a6, b0, b1, b2, c0, c1, c2, r0, r1, r2, f0, f1, f2, hz⟩ := HAt.out _ HB5.out
  go_wp2_with fail
  refine bodyPost_ret (v := .tuple #[vOf (truthV (trueV (l, m, t))), .int .i64 0]) (by simp [results, Tryd.results30, go_sem, r0, r1, r2]) rfl ⟨rfl, ?_⟩
  have hfin := HL.out.trans (HB5.out.mono HL.out.size)
  exact ((hfin.setCell (p := ⟨w.heap.size + 3, 0, none⟩) (by simp only; omega) _).setCell (p := ⟨w.heap.size + 3, 1, none⟩) (by simp only; omega) _).setCell (p := ⟨w.heap.size + 3, 2, none⟩) (by simp only; omega) _

set_option maxHeartbeats 3200000 in
set_option maxRecDepth 100000 in
theorem ofTwo_either (x : XT) (k n : Int) (s : ByteArray) (l m : Int) (t : ByteArray) (w : World) (h0 : ((wordX x).toList == [97, 110, 100]) = false) (h1 : ((wordX x).toList == [111, 114]) = false) (h2 : ((wordX x).toList == [101, 105, 116, 104, 101, 114]) = true) :
    Calls Tryd.prog 30 #[vX x, vVal k n s, vVal l m t] w fun e w' => e = .returned (.tuple #[vVal l m t, .int .i64 0]) ∧ Below w.heap.size w w' := by
  have hal := tvW_below w x (k, n, s) (l, m, t)
  have HAt := hide (fun w' => tvW_at (w := w) (x := x) (a := (k, n, s)) (b := (l, m, t)) (w' := w'))
  have HL := hide hal
  have HWd := hide (fun w' => word_any x w')
  obtain ⟨kd, nm, v, o, A, c, ts⟩ := x
  have HWE := hide (show tvW w (.mk kd nm v o A c ts) (k, n, s) (l, m, t) = (((w.alloc (.cells (eCells kd nm v o A ts.length c) 29)).alloc (.cells #[.int .i64 k, .int .i64 n, .string s] 26)).alloc (.cells #[.int .i64 l, .int .i64 m, .string t] 26)).alloc (.cells #[.int .i64 0, .int .i64 0, .string ⟨#[]⟩] 26) from rfl)
  simp only [XT.kind, XT.name, XT.val, XT.op, XT.adr, XT.args, XT.cap] at *
  rw [show vX (.mk kd nm v o A c ts) = .agg (eCells kd nm v o A ts.length c) from rfl] at HWd ⊢
  generalize wordX (.mk kd nm v o A c ts) = wd at *
  generalize tvW w (.mk kd nm v o A c ts) (k, n, s) (l, m, t) = W at *
  clear hal
  go_enter Tryd.func30, Tryd.ntmps30
  obtain ⟨a0, a1, a2, a3, a4, a5, a6, b0, b1, b2, c0, c1, c2, r0, r1, r2, f0, f1, f2, hz⟩ := HAt.out _ (Below.refl _ _)
  go_wp2_with fail
  rw [← HWE.out]
  refine (HWd.out _).mono ?_
  rintro e w2 ⟨rfl, hb2⟩
  have HB2 := hide hb2
  clear a0 a1 a2 a3 a4 a5 a6 b0 b1 b2 c0 c1 c2 r0 r1 r2 f0 f1 f2 hz
  obtain ⟨a0, a1, a2, a3, a4, a5, a6, b0, b1, b2, c0, c1, c2, r0, r1, r2, f0, f1, f2, hz⟩ := HAt.out _ hb2
  clear hb2
  go_wp2_with fail
  refine bodyPost_ret (v := .tuple #[vVal l m t, .int .i64 0]) (by simp [results, Tryd.results30, go_sem, r0, r1, r2]) rfl ⟨rfl, ?_⟩
  have hfin := HL.out.trans (HB2.out.mono HL.out.size)
  exact ((hfin.setCell (p := ⟨w.heap.size + 3, 0, none⟩) (by simp only; omega) _).setCell (p := ⟨w.heap.size + 3, 1, none⟩) (by simp only; omega) _).setCell (p := ⟨w.heap.size + 3, 2, none⟩) (by simp only; omega) _

set_option maxHeartbeats 3200000 in
set_option maxRecDepth 100000 in
theorem ofTwo_if (x : XT) (k n : Int) (s : ByteArray) (l m : Int) (t : ByteArray) (w : World) (h0 : ((wordX x).toList == [97, 110, 100]) = false) (h1 : ((wordX x).toList == [111, 114]) = false) (h2 : ((wordX x).toList == [101, 105, 116, 104, 101, 114]) = false) (h3 : ((wordX x).toList == [105, 102]) = true) :
    Calls Tryd.prog 30 #[vX x, vVal k n s, vVal l m t] w fun e w' => e = .returned (.tuple #[vVal l m t, .int .i64 0]) ∧ Below w.heap.size w w' := by
  have hal := tvW_below w x (k, n, s) (l, m, t)
  have HAt := hide (fun w' => tvW_at (w := w) (x := x) (a := (k, n, s)) (b := (l, m, t)) (w' := w'))
  have HL := hide hal
  have HWd := hide (fun w' => word_any x w')
  obtain ⟨kd, nm, v, o, A, c, ts⟩ := x
  have HWE := hide (show tvW w (.mk kd nm v o A c ts) (k, n, s) (l, m, t) = (((w.alloc (.cells (eCells kd nm v o A ts.length c) 29)).alloc (.cells #[.int .i64 k, .int .i64 n, .string s] 26)).alloc (.cells #[.int .i64 l, .int .i64 m, .string t] 26)).alloc (.cells #[.int .i64 0, .int .i64 0, .string ⟨#[]⟩] 26) from rfl)
  simp only [XT.kind, XT.name, XT.val, XT.op, XT.adr, XT.args, XT.cap] at *
  rw [show vX (.mk kd nm v o A c ts) = .agg (eCells kd nm v o A ts.length c) from rfl] at HWd ⊢
  generalize wordX (.mk kd nm v o A c ts) = wd at *
  generalize tvW w (.mk kd nm v o A c ts) (k, n, s) (l, m, t) = W at *
  clear hal
  go_enter Tryd.func30, Tryd.ntmps30
  obtain ⟨a0, a1, a2, a3, a4, a5, a6, b0, b1, b2, c0, c1, c2, r0, r1, r2, f0, f1, f2, hz⟩ := HAt.out _ (Below.refl _ _)
  go_wp2_with fail
  rw [← HWE.out]
  refine (HWd.out _).mono ?_
  rintro e w2 ⟨rfl, hb2⟩
  have HB2 := hide hb2
  clear a0 a1 a2 a3 a4 a5 a6 b0 b1 b2 c0 c1 c2 r0 r1 r2 f0 f1 f2 hz
  obtain ⟨a0, a1, a2, a3, a4, a5, a6, b0, b1, b2, c0, c1, c2, r0, r1, r2, f0, f1, f2, hz⟩ := HAt.out _ hb2
  clear hb2
  go_wp2_with fail
  refine bodyPost_ret (v := .tuple #[vVal l m t, .int .i64 0]) (by simp [results, Tryd.results30, go_sem, r0, r1, r2]) rfl ⟨rfl, ?_⟩
  have hfin := HL.out.trans (HB2.out.mono HL.out.size)
  exact ((hfin.setCell (p := ⟨w.heap.size + 3, 0, none⟩) (by simp only; omega) _).setCell (p := ⟨w.heap.size + 3, 1, none⟩) (by simp only; omega) _).setCell (p := ⟨w.heap.size + 3, 2, none⟩) (by simp only; omega) _

set_option maxHeartbeats 3200000 in
set_option maxRecDepth 100000 in
theorem ofTwo_cat (x : XT) (k n : Int) (s : ByteArray) (l m : Int) (t : ByteArray) (w : World) (h0 : ((wordX x).toList == [97, 110, 100]) = false) (h1 : ((wordX x).toList == [111, 114]) = false) (h2 : ((wordX x).toList == [101, 105, 116, 104, 101, 114]) = false) (h3 : ((wordX x).toList == [105, 102]) = false) (h4 : ((wordX x).toList == [99, 97, 116]) = true) (ha : s.size ≤ 1000000) (hb : t.size ≤ 1000000) :
    Calls Tryd.prog 30 #[vX x, vVal k n s, vVal l m t] w fun e w' => e = .returned (.tuple #[vOf (catV (k, n, s) (l, m, t)).1, .int .i64 (catV (k, n, s) (l, m, t)).2]) ∧ Below w.heap.size w w' := by
  have hal := tvW_below w x (k, n, s) (l, m, t)
  have HAt := hide (fun w' => tvW_at (w := w) (x := x) (a := (k, n, s)) (b := (l, m, t)) (w' := w'))
  have HL := hide hal
  have HWd := hide (fun w' => word_any x w')
  have HCt := hide (fun w' => cat_any (k, n, s) (l, m, t) w' ha hb)
  generalize catV (k, n, s) (l, m, t) = q at *
  obtain ⟨q1, q2⟩ := q
  clear ha hb
  obtain ⟨kd, nm, v, o, A, c, ts⟩ := x
  have HWE := hide (show tvW w (.mk kd nm v o A c ts) (k, n, s) (l, m, t) = (((w.alloc (.cells (eCells kd nm v o A ts.length c) 29)).alloc (.cells #[.int .i64 k, .int .i64 n, .string s] 26)).alloc (.cells #[.int .i64 l, .int .i64 m, .string t] 26)).alloc (.cells #[.int .i64 0, .int .i64 0, .string ⟨#[]⟩] 26) from rfl)
  simp only [XT.kind, XT.name, XT.val, XT.op, XT.adr, XT.args, XT.cap] at *
  rw [show vX (.mk kd nm v o A c ts) = .agg (eCells kd nm v o A ts.length c) from rfl] at HWd ⊢
  generalize wordX (.mk kd nm v o A c ts) = wd at *
  generalize tvW w (.mk kd nm v o A c ts) (k, n, s) (l, m, t) = W at *
  clear hal
  go_enter Tryd.func30, Tryd.ntmps30
  obtain ⟨a0, a1, a2, a3, a4, a5, a6, b0, b1, b2, c0, c1, c2, r0, r1, r2, f0, f1, f2, hz⟩ := HAt.out _ (Below.refl _ _)
  go_wp2_with fail
  rw [← HWE.out]
  refine (HWd.out _).mono ?_
  rintro e w2 ⟨rfl, hb2⟩
  have HB2 := hide hb2
  clear a0 a1 a2 a3 a4 a5 a6 b0 b1 b2 c0 c1 c2 r0 r1 r2 f0 f1 f2 hz
  obtain ⟨a0, a1, a2, a3, a4, a5, a6, b0, b1, b2, c0, c1, c2, r0, r1, r2, f0, f1, f2, hz⟩ := HAt.out _ hb2
  clear hb2
  go_wp2_with fail
  refine (HCt.out _).mono ?_
  rintro e w4 ⟨rfl, hb3⟩
  have HB4 := hide (then_below HB2.out hb3)
  clear hb3
  clear a0 a1 a2 a3 a4 a5 a6 b0 b1 b2 c0 c1 c2 r0 r1 r2 f0 f1 f2 hz
  obtain ⟨a0, a1, a2, a3, a4, a5, a6, b0, b1, b2, c0, c1, c2, r0, r1, r2, f0, f1, f2, hz⟩ := HAt.out _ HB4.out
  go_wp2_with fail
  refine bodyPost_ret (v := .tuple #[vOf q1, .int .i64 q2]) (by simp [results, Tryd.results30, go_sem, r0, r1, r2]) rfl ⟨rfl, ?_⟩
  have hfin := HL.out.trans (HB4.out.mono HL.out.size)
  exact ((hfin.setCell (p := ⟨w.heap.size + 3, 0, none⟩) (by simp only; omega) _).setCell (p := ⟨w.heap.size + 3, 1, none⟩) (by simp only; omega) _).setCell (p := ⟨w.heap.size + 3, 2, none⟩) (by simp only; omega) _

set_option maxHeartbeats 3200000 in
set_option maxRecDepth 100000 in
theorem ofTwo_rest (x : XT) (k n : Int) (s : ByteArray) (l m : Int) (t : ByteArray) (w : World) (y : Int × Int × ByteArray) (ye : Int) (h0 : ((wordX x).toList == [97, 110, 100]) = false) (h1 : ((wordX x).toList == [111, 114]) = false) (h2 : ((wordX x).toList == [101, 105, 116, 104, 101, 114]) = false) (h3 : ((wordX x).toList == [105, 102]) = false) (h4 : ((wordX x).toList == [99, 97, 116]) = false) (hM : Cmps w)
    (hC : ∀ z, z < 6 → (∀ j, j < z → ((cmpsL.getD j ⟨#[]⟩).toList == x.op.toList) = false) → ((cmpsL.getD z ⟨#[]⟩).toList == x.op.toList) = true → y = compareV ((z : Nat) + 1 : Int) (k, n, s) (l, m, t) ∧ ye = 0)
    (hA : (∀ j, j < 6 → ((cmpsL.getD j ⟨#[]⟩).toList == x.op.toList) = false) → 0 < x.op.size ∧ ∀ w, Calls Tryd.prog 43 #[.int .u8 (byte0 x.op), vVal k n s, vVal l m t] w fun e w' => e = .returned (.tuple #[vOf y, .int .i64 ye]) ∧ Below w.heap.size w w') :
    Calls Tryd.prog 30 #[vX x, vVal k n s, vVal l m t] w fun e w' => e = .returned (.tuple #[vOf y, .int .i64 ye]) ∧ Below w.heap.size w w' := by
  have hal := tvW_below w x (k, n, s) (l, m, t)
  have HAt := hide (fun w' => tvW_at (w := w) (x := x) (a := (k, n, s)) (b := (l, m, t)) (w' := w'))
  have HSz := hide (show w.heap.size + 3 ≤ (tvW w x (k, n, s) (l, m, t)).heap.size by simp [tvW])
  have HL := hide hal
  have HCm := hide (hM.stays hal)
  have HWd := hide (fun w' => word_any x w')
  have HCp := hide (fun op w' h => compareV_any op (k, n, s) (l, m, t) w' h)
  obtain ⟨kd, nm, v, o, A, c, ts⟩ := x
  have HC := hide hC
  have HAr := hide hA
  have HWE := hide (show tvW w (.mk kd nm v o A c ts) (k, n, s) (l, m, t) = (((w.alloc (.cells (eCells kd nm v o A ts.length c) 29)).alloc (.cells #[.int .i64 k, .int .i64 n, .string s] 26)).alloc (.cells #[.int .i64 l, .int .i64 m, .string t] 26)).alloc (.cells #[.int .i64 0, .int .i64 0, .string ⟨#[]⟩] 26) from rfl)
  simp only [XT.kind, XT.name, XT.val, XT.op, XT.adr, XT.args, XT.cap] at HAt HC HAr
  rw [show vX (.mk kd nm v o A c ts) = .agg (eCells kd nm v o A ts.length c) from rfl] at HWd ⊢
  generalize wordX (.mk kd nm v o A c ts) = wd at *
  generalize tvW w (.mk kd nm v o A c ts) (k, n, s) (l, m, t) = W at *
  have HALL := hide (fun w' (h : Below (w.heap.size + 3) W w') => (by
    obtain ⟨a0, a1, a2, a3, a4, a5, a6, b0, b1, b2, c0, c1, c2, r0, r1, r2, f0, f1, f2, hz⟩ := HAt.out _ (Below.refl _ _)
    exact ⟨(h.cell (p := ⟨w.heap.size, 5, none⟩) (by simp only; omega)).trans a5, (h.cell (p := ⟨w.heap.size + 1, 0, none⟩) (by simp only; omega)).trans b0, (h.cell (p := ⟨w.heap.size + 1, 1, none⟩) (by simp only; omega)).trans b1, (h.cell (p := ⟨w.heap.size + 1, 2, none⟩) (by simp only; omega)).trans b2, (h.cell (p := ⟨w.heap.size + 2, 0, none⟩) (by simp only; omega)).trans c0, (h.cell (p := ⟨w.heap.size + 2, 1, none⟩) (by simp only; omega)).trans c1, (h.cell (p := ⟨w.heap.size + 2, 2, none⟩) (by simp only; omega)).trans c2, Nat.lt_of_lt_of_le hz h.size, h⟩ : w'.cell? ⟨w.heap.size, 5, none⟩ = some (.string o) ∧ w'.cell? ⟨w.heap.size + 1, 0, none⟩ = some (.int .i64 k) ∧ w'.cell? ⟨w.heap.size + 1, 1, none⟩ = some (.int .i64 n) ∧ w'.cell? ⟨w.heap.size + 1, 2, none⟩ = some (.string s) ∧ w'.cell? ⟨w.heap.size + 2, 0, none⟩ = some (.int .i64 l) ∧ w'.cell? ⟨w.heap.size + 2, 1, none⟩ = some (.int .i64 m) ∧ w'.cell? ⟨w.heap.size + 2, 2, none⟩ = some (.string t) ∧ w.heap.size + 3 < w'.heap.size ∧ Below (w.heap.size + 3) W w'))
  clear hal hM hC hA
  go_enter Tryd.func30, Tryd.ntmps30
  obtain ⟨a0, a1, a2, a3, a4, a5, a6, b0, b1, b2, c0, c1, c2, r0, r1, r2, f0, f1, f2, hz⟩ := HAt.out _ (Below.refl _ _)
  go_wp2_with fail
  rw [← HWE.out]
  refine (HWd.out _).mono ?_
  rintro e w2 ⟨rfl, hb2⟩
  have HB2 := hide hb2
  clear a0 a1 a2 a3 a4 a5 a6 b0 b1 b2 c0 c1 c2 r0 r1 r2 f0 f1 f2 hz
  obtain ⟨a0, a1, a2, a3, a4, a5, a6, b0, b1, b2, c0, c1, c2, r0, r1, r2, f0, f1, f2, hz⟩ := HAt.out _ hb2
  clear hb2
  have g0 := hide (show w2.cell? ⟨0, 0, none⟩ = some (.string ⟨#[61]⟩) from (HCm.out.stays HB2.out) 0 (by omega))
  have g1 := hide (show w2.cell? ⟨0, 1, none⟩ = some (.string ⟨#[33, 61]⟩) from (HCm.out.stays HB2.out) 1 (by omega))
  have g2 := hide (show w2.cell? ⟨0, 2, none⟩ = some (.string ⟨#[60]⟩) from (HCm.out.stays HB2.out) 2 (by omega))
  have g3 := hide (show w2.cell? ⟨0, 3, none⟩ = some (.string ⟨#[60, 61]⟩) from (HCm.out.stays HB2.out) 3 (by omega))
  have g4 := hide (show w2.cell? ⟨0, 4, none⟩ = some (.string ⟨#[62]⟩) from (HCm.out.stays HB2.out) 4 (by omega))
  have g5 := hide (show w2.cell? ⟨0, 5, none⟩ = some (.string ⟨#[62, 61]⟩) from (HCm.out.stays HB2.out) 5 (by omega))
  have q0 := g0.out; have q1 := g1.out; have q2 := g2.out; have q3 := g3.out; have q4 := g4.out; have q5 := g5.out
  go_wp2_with fail
  go_loopw [30] (fun i wr => ∃ z : Nat, z ≤ 6 ∧ i = .int .i64 z ∧ (∀ j, j < z → ((cmpsL.getD j ⟨#[]⟩).toList == o.toList) = false) ∧ Below W.heap.size W wr) (fun i _ => 6 - (intOf i).toNat)
  case atStart => exact ⟨0, by omega, rfl, fun j h => by omega, HB2.out⟩
  case round =>
    obtain ⟨z, hz6, rfl, hno, hbw⟩ := hrel
    have HNo := hide hno
    have HB := hide hbw
    clear hno hbw
    clear a0 a1 a2 a3 a4 a5 a6 b0 b1 b2 c0 c1 c2 r0 r1 r2 f0 f1 f2 hz
    clear q0 q1 q2 q3 q4 q5 g0 g1 g2 g3 g4 g5
    obtain ⟨a0, a1, a2, a3, a4, a5, a6, b0, b1, b2, c0, c1, c2, r0, r1, r2, f0, f1, f2, hz⟩ := HAt.out _ HB.out
    by_cases hlt : z < 6
    · have HS := hide (fun (h : ((cmpsL.getD z ⟨#[]⟩).toList == o.toList) = false) j (hj : j < z + 1) => (by
        by_cases e : j = z
        · rw [e]; exact h
        · exact HNo.out j (by omega) : ((cmpsL.getD j ⟨#[]⟩).toList == o.toList) = false))
      have HHit := hide (HC.out z hlt HNo.out)
      clear HC HNo
      cases hm : ((cmpsL.getD z ⟨#[]⟩).toList == o.toList)
      · have HSn := hide (HS.out hm)
        clear HS HHit
        rcases (by omega : z = 0 ∨ z = 1 ∨ z = 2 ∨ z = 3 ∨ z = 4 ∨ z = 5) with rfl | rfl | rfl | rfl | rfl | rfl
        all_goals
          simp only [cmpsL, List.getD_cons_zero, List.getD_cons_succ, lit_toList] at hm
          have rc0 := run_cmp0; have rc1 := run_cmp1; have rc2 := run_cmp2; have rc3 := run_cmp3; have rc4 := run_cmp4; have rc5 := run_cmp5
          go_wp2_with fail
          go_roundw
          case rel => exact ⟨_, (by omega : (_ : Nat) + 1 ≤ 6), by go_num, HSn.out, HB.out⟩
          case measure => simp [intOf]
      · obtain ⟨hy, hye⟩ := HHit.out hm
        have HYs := hide hy
        subst hye
        clear HS HHit hy
        rcases (by omega : z = 0 ∨ z = 1 ∨ z = 2 ∨ z = 3 ∨ z = 4 ∨ z = 5) with rfl | rfl | rfl | rfl | rfl | rfl
        all_goals
          simp only [cmpsL, List.getD_cons_zero, List.getD_cons_succ, lit_toList] at hm
          have rc0 := run_cmp0; have rc1 := run_cmp1; have rc2 := run_cmp2; have rc3 := run_cmp3; have rc4 := run_cmp4; have rc5 := run_cmp5
          go_wp2_with fail
          refine (HCp.out _ _ (by decide)).mono ?_
          rintro e w5 ⟨rfl, hb3⟩
          have HB5 := hide (then_below HB.out hb3)
          clear hb3
          clear a0 a1 a2 a3 a4 a5 a6 b0 b1 b2 c0 c1 c2 r0 r1 r2 f0 f1 f2 hz
          obtain ⟨a0, a1, a2, a3, a4, a5, a6, b0, b1, b2, c0, c1, c2, r0, r1, r2, f0, f1, f2, hz⟩ := HAt.out _ HB5.out
          go_wp2_with fail
          refine bodyPost_ret (v := .tuple #[vOf y, .int .i64 0]) (by rw [HYs.out]; simp [results, Tryd.results30, go_sem, r0, r1, r2]) rfl ⟨rfl, ?_⟩
          have hfin := HL.out.trans (HB5.out.mono HL.out.size)
          exact ((hfin.setCell (p := ⟨w.heap.size + 3, 0, none⟩) (by simp only; omega) _).setCell (p := ⟨w.heap.size + 3, 1, none⟩) (by simp only; omega) _).setCell (p := ⟨w.heap.size + 3, 2, none⟩) (by simp only; omega) _
    · obtain rfl : z = 6 := by omega
      obtain ⟨hop0, hAc⟩ := HAr.out HNo.out
      have hbyte : byte0 o = (o[0].toNat : Int) := by unfold byte0; rw [getD_at o 0 hop0]
      rw [hbyte] at hAc
      have HArc := hide hAc
      clear hAc HAr HC HNo hbyte
      have HP2 := hide (HB.out.mono HSz.out)
      go_wp2_with fail
      go_region_held3 (fun w' => w'.cell? ⟨w.heap.size, 5, none⟩ = some (.string o) ∧ w'.cell? ⟨w.heap.size + 1, 0, none⟩ = some (.int .i64 k) ∧ w'.cell? ⟨w.heap.size + 1, 1, none⟩ = some (.int .i64 n) ∧ w'.cell? ⟨w.heap.size + 1, 2, none⟩ = some (.string s) ∧
          w'.cell? ⟨w.heap.size + 2, 0, none⟩ = some (.int .i64 l) ∧ w'.cell? ⟨w.heap.size + 2, 1, none⟩ = some (.int .i64 m) ∧ w'.cell? ⟨w.heap.size + 2, 2, none⟩ = some (.string t) ∧ w.heap.size + 3 < w'.heap.size ∧ Below (w.heap.size + 3) W w')
        ((refine HALL.out _ ?_; (repeat (first | with_reducible refine belD ?_ | with_reducible refine belS (Nat.le_refl _) ?_)); first | with_reducible assumption | with_reducible exact HP2.out))
        (first
          | (go_at_call 43; (try go_split_ands); refine (HArc.out _).mono ?_; rintro e w6 ⟨rfl, hb⟩; have hBw6 := onB hb HSz.out (by (repeat (first | with_reducible refine belD ?_ | with_reducible refine belS (Nat.le_refl _) ?_)); first | with_reducible assumption | with_reducible exact HP2.out); refine keepQ (p := w6.cell? ⟨w.heap.size + 3, 0, none⟩ = some (.int .i64 0) ∧ w6.cell? ⟨w.heap.size + 3, 1, none⟩ = some (.int .i64 0) ∧ w6.cell? ⟨w.heap.size + 3, 2, none⟩ = some (.string ⟨#[]⟩) ∧ w6.frozen? ⟨w.heap.size + 3, 0, none⟩ = false ∧ w6.frozen? ⟨w.heap.size + 3, 1, none⟩ = false ∧ w6.frozen? ⟨w.heap.size + 3, 2, none⟩ = false) ?_ ?_; (focus (refine ⟨Eq.trans (hb.cell (p := ⟨w.heap.size + 3, 0, none⟩) ?_) ?_, Eq.trans (hb.cell (p := ⟨w.heap.size + 3, 1, none⟩) ?_) ?_, Eq.trans (hb.cell (p := ⟨w.heap.size + 3, 2, none⟩) ?_) ?_, Eq.trans (hb.frozen (p := ⟨w.heap.size + 3, 0, none⟩) ?_) ?_, Eq.trans (hb.frozen (p := ⟨w.heap.size + 3, 1, none⟩) ?_) ?_, Eq.trans (hb.frozen (p := ⟨w.heap.size + 3, 2, none⟩) ?_) ?_⟩; (focus (simp <;> omega)); (focus (first | with_reducible exact r0 | (simp [r0]; done))); (focus (simp <;> omega)); (focus (first | with_reducible exact r1 | (simp [r1]; done))); (focus (simp <;> omega)); (focus (first | with_reducible exact r2 | (simp [r2]; done))); (focus (simp <;> omega)); (focus (first | with_reducible exact f0 | (simp [f0]; done))); (focus (simp <;> omega)); (focus (first | with_reducible exact f1 | (simp [f1]; done))); (focus (simp <;> omega)); (focus (first | with_reducible exact f2 | (simp [f2]; done))))); clear hb r0 r1 r2 f0 f1 f2; rintro ⟨r0, r1, r2, f0, f1, f2⟩))
      all_goals
        go_split_ands
        go_wp2_with fail
        refine bodyPost_ret (v := .tuple #[vOf y, .int .i64 ye]) (by simp [results, Tryd.results30, go_sem, r0, r1, r2]) rfl ⟨rfl, ?_⟩
        refine HL.out.trans (Below.mono ?_ (Nat.le_add_right w.heap.size 3))
        (repeat (first | with_reducible refine belD ?_ | with_reducible refine belS (Nat.le_refl _) ?_))
        first | with_reducible assumption | with_reducible exact HP2.out

end Go.Proofs.YtpohofcfmllghaaDoor
