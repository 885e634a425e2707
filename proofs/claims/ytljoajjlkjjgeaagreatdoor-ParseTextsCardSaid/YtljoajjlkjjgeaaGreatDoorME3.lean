/-
  What makes expressions: Binary.
  What makes expressions: Call.
  What makes expressions: Unary.
  Equal of two expressions: the model, and the walks of Equal and of the library's EqualFunc over it.
-/
import Derived.Test.YtljoajjlkjjgeaaGreatDoorME2
import Derived.Test.YtljoajjlkjjgeaaGreatDoorME1
namespace Go.Proofs.YtljoajjlkjjgeaaGreatDoor
open Go.RowKit

/-- A made expression lies where its copied arguments lie. -/
theorem made_lies {w5 wf : World} {lo P : Nat} {k : Int} {n : ByteArray} {v : Int × Int × ByteArray} {o : ByteArray} {A : Option Addr} {c : Nat} {ts : List XT} (hargs : ArgsAt w5.heap.size w5 A ts) (hA : A = none → c = 0) (hb : ∀ a, A = some a → lo ≤ a.block) (hn : newXs lo ts)
  (hP : P < lo) (he : ∀ b, b ≠ P → wf.heap[b]? = w5.heap[b]?) (hz : wf.heap.size = w5.heap.size) : LiesX wf.heap.size wf (.mk k n v o A c ts) := by
 rw [hz]
 exact (hargs.lies hA).off (lo := lo) ⟨hb, hn⟩ (fun b hb1 _ => he b (by omega))
set_option maxHeartbeats 1600000 in
set_option maxRecDepth 100000 in
theorem binary_any (o : ByteArray) (x y : XT) (w : World) (hz : szX x + szX y ≤ 1000000) (hx : LiesX w.heap.size w x) (hy : LiesX w.heap.size w y) :
  Calls Tryz.prog 17 #[.string o, vX x, vX y] w fun e w' => (∃ A' c' x' y', e = .returned (vX (.mk 4 ⟨#[]⟩ (0, 0, ⟨#[]⟩) o A' c' [x', y'])) ∧ stripX x' = stripX x ∧ stripX y' = stripX y ∧ LiesX w'.heap.size w' (.mk 4 ⟨#[]⟩ (0, 0, ⟨#[]⟩) o A' c' [x', y']) ∧ newX w.heap.size (.mk 4 ⟨#[]⟩ (0, 0, ⟨#[]⟩) o A' c' [x', y']) ∧ ∃ P, A' = some ⟨P, 0, none⟩ ∧ OwnB w' P 14) ∧ Below w.heap.size w w' := by
 suffices H : Calls Tryz.prog 17 #[.string o, .agg (eCells x.kind x.name x.val x.op x.adr x.args.length x.cap), .agg (eCells y.kind y.name y.val y.op y.adr y.args.length y.cap)] w fun e w' => (∃ A' c' x' y', e = .returned (vX (.mk 4 ⟨#[]⟩ (0, 0, ⟨#[]⟩) o A' c' [x', y'])) ∧ stripX x' = stripX x ∧ stripX y' = stripX y ∧ LiesX w'.heap.size w' (.mk 4 ⟨#[]⟩ (0, 0, ⟨#[]⟩) o A' c' [x', y']) ∧ newX w.heap.size (.mk 4 ⟨#[]⟩ (0, 0, ⟨#[]⟩) o A' c' [x', y']) ∧ ∃ P, A' = some ⟨P, 0, none⟩ ∧ OwnB w' P 14) ∧ Below w.heap.size w w' from H
 have s3 : (((w.alloc (.cells (eCells x.kind x.name x.val x.op x.adr x.args.length x.cap) 36)).alloc (.cells (eCells y.kind y.name y.val y.op y.adr y.args.length y.cap) 36))).heap.size = w.heap.size + 2 := by simp
 have hb3 : Below w.heap.size w (((w.alloc (.cells (eCells x.kind x.name x.val x.op x.adr x.args.length x.cap) 36)).alloc (.cells (eCells y.kind y.name y.val y.op y.adr y.args.length y.cap) 36)).alloc (.cells #[.int .i64 0, .string ⟨#[]⟩, .int .i64 0, .int .i64 0, .string ⟨#[]⟩, .string ⟨#[]⟩, .slice none 0 0] 36)) := by
  have h1 := Joins.below_alloc1 w (.cells (eCells x.kind x.name x.val x.op x.adr x.args.length x.cap) 36)
  have h2 := h1.alloc h1.size (.cells (eCells y.kind y.name y.val y.op y.adr y.args.length y.cap) 36)
  exact h2.alloc h2.size _
 have hz3 : (((w.alloc (.cells (eCells x.kind x.name x.val x.op x.adr x.args.length x.cap) 36)).alloc (.cells (eCells y.kind y.name y.val y.op y.adr y.args.length y.cap) 36)).alloc (.cells #[.int .i64 0, .string ⟨#[]⟩, .int .i64 0, .int .i64 0, .string ⟨#[]⟩, .string ⟨#[]⟩, .slice none 0 0] 36)).heap.size = w.heap.size + 3 := by simp
 have hr3 : (((w.alloc (.cells (eCells x.kind x.name x.val x.op x.adr x.args.length x.cap) 36)).alloc (.cells (eCells y.kind y.name y.val y.op y.adr y.args.length y.cap) 36)).alloc (.cells #[.int .i64 0, .string ⟨#[]⟩, .int .i64 0, .int .i64 0, .string ⟨#[]⟩, .string ⟨#[]⟩, .slice none 0 0] 36)).heap[w.heap.size + 2]? = some (.cells #[.int .i64 0, .string ⟨#[]⟩, .int .i64 0, .int .i64 0, .string ⟨#[]⟩, .string ⟨#[]⟩, .slice none 0 0] 36 (0, 0)) := by
  rw [← s3]
  exact heap_alloc_new _ _
 have hn4 := heap_alloc_new (((w.alloc (.cells (eCells x.kind x.name x.val x.op x.adr x.args.length x.cap) 36)).alloc (.cells (eCells y.kind y.name y.val y.op y.adr y.args.length y.cap) 36)).alloc (.cells #[.int .i64 0, .string ⟨#[]⟩, .int .i64 0, .int .i64 0, .string ⟨#[]⟩, .string ⟨#[]⟩, .slice none 0 0] 36)) (.cells #[.int .i64 x.kind, .string x.name, .int .i64 x.val.1, .int .i64 x.val.2.1, .string x.val.2.2, .string x.op, .slice x.adr x.args.length x.cap, .int .i64 y.kind, .string y.name, .int .i64 y.val.1, .int .i64 y.val.2.1, .string y.val.2.2, .string y.op, .slice y.adr y.args.length y.cap] 36)
 have hz4 : ((((w.alloc (.cells (eCells x.kind x.name x.val x.op x.adr x.args.length x.cap) 36)).alloc (.cells (eCells y.kind y.name y.val y.op y.adr y.args.length y.cap) 36)).alloc (.cells #[.int .i64 0, .string ⟨#[]⟩, .int .i64 0, .int .i64 0, .string ⟨#[]⟩, .string ⟨#[]⟩, .slice none 0 0] 36)).alloc (.cells #[.int .i64 x.kind, .string x.name, .int .i64 x.val.1, .int .i64 x.val.2.1, .string x.val.2.2, .string x.op, .slice x.adr x.args.length x.cap, .int .i64 y.kind, .string y.name, .int .i64 y.val.1, .int .i64 y.val.2.1, .string y.val.2.2, .string y.op, .slice y.adr y.args.length y.cap] 36)).heap.size = w.heap.size + 4 := by simp
 have hb4 : Below w.heap.size w ((((w.alloc (.cells (eCells x.kind x.name x.val x.op x.adr x.args.length x.cap) 36)).alloc (.cells (eCells y.kind y.name y.val y.op y.adr y.args.length y.cap) 36)).alloc (.cells #[.int .i64 0, .string ⟨#[]⟩, .int .i64 0, .int .i64 0, .string ⟨#[]⟩, .string ⟨#[]⟩, .slice none 0 0] 36)).alloc (.cells #[.int .i64 x.kind, .string x.name, .int .i64 x.val.1, .int .i64 x.val.2.1, .string x.val.2.2, .string x.op, .slice x.adr x.args.length x.cap, .int .i64 y.kind, .string y.name, .int .i64 y.val.1, .int .i64 y.val.2.1, .string y.val.2.2, .string y.op, .slice y.adr y.args.length y.cap] 36)) := hb3.alloc hb3.size _
 have hr4 : ((((w.alloc (.cells (eCells x.kind x.name x.val x.op x.adr x.args.length x.cap) 36)).alloc (.cells (eCells y.kind y.name y.val y.op y.adr y.args.length y.cap) 36)).alloc (.cells #[.int .i64 0, .string ⟨#[]⟩, .int .i64 0, .int .i64 0, .string ⟨#[]⟩, .string ⟨#[]⟩, .slice none 0 0] 36)).alloc (.cells #[.int .i64 x.kind, .string x.name, .int .i64 x.val.1, .int .i64 x.val.2.1, .string x.val.2.2, .string x.op, .slice x.adr x.args.length x.cap, .int .i64 y.kind, .string y.name, .int .i64 y.val.1, .int .i64 y.val.2.1, .string y.val.2.2, .string y.op, .slice y.adr y.args.length y.cap] 36)).heap[w.heap.size + 2]? = some (.cells #[.int .i64 0, .string ⟨#[]⟩, .int .i64 0, .int .i64 0, .string ⟨#[]⟩, .string ⟨#[]⟩, .slice none 0 0] 36 (0, 0)) := by
  rw [Below.heap_alloc _ _ _ (by rw [hz3]; omega)]
  exact hr3
 rw [hz3] at hn4
 have HWE := hide (show ∃ W, W = (((w.alloc (.cells (eCells x.kind x.name x.val x.op x.adr x.args.length x.cap) 36)).alloc (.cells (eCells y.kind y.name y.val y.op y.adr y.args.length y.cap) 36)).alloc (.cells #[.int .i64 0, .string ⟨#[]⟩, .int .i64 0, .int .i64 0, .string ⟨#[]⟩, .string ⟨#[]⟩, .slice none 0 0] 36)).alloc (.cells #[.int .i64 x.kind, .string x.name, .int .i64 x.val.1, .int .i64 x.val.2.1, .string x.val.2.2, .string x.op, .slice x.adr x.args.length x.cap, .int .i64 y.kind, .string y.name, .int .i64 y.val.1, .int .i64 y.val.2.1, .string y.val.2.2, .string y.op, .slice y.adr y.args.length y.cap] 36) from ⟨_, rfl⟩)
 obtain ⟨W, hW⟩ := HWE.out
 rw [← hW] at hn4 hz4 hb4 hr4
 have HArg := hide (show ArgsAt W.heap.size W (some ⟨w.heap.size + 3, 0, none⟩) [x, y] from fun j hj => by
  have hj' : j < 2 := hj
  rcases (by omega : j = 0 ∨ j = 1) with rfl | rfl
  ·exact ⟨w.heap.size + 3, 0, rfl, by omega, ⟨Lib.cell_of_heap hn4 0, Lib.cell_of_heap hn4 1, Lib.cell_of_heap hn4 2, Lib.cell_of_heap hn4 3, Lib.cell_of_heap hn4 4, Lib.cell_of_heap hn4 5, Lib.cell_of_heap hn4 6⟩, hx.on hb4⟩
  ·exact ⟨w.heap.size + 3, 0, rfl, by omega, ⟨Lib.cell_of_heap hn4 7, Lib.cell_of_heap hn4 8, Lib.cell_of_heap hn4 9, Lib.cell_of_heap hn4 10, Lib.cell_of_heap hn4 11, Lib.cell_of_heap hn4 12, Lib.cell_of_heap hn4 13⟩, hy.on hb4⟩
 )
 have HZs := hide (show szXs [x, y] ≤ 1000000 by simp only [szXs]; omega)
 have HW := hide hW; have HB4 := hide hb4; have HR4 := hide hr4; have HZ4 := hide hz4
 clear hW hb4 hr4 hz4 hb3 hz3 hr3 s3 HWE hz hn4 hx hy
 go_enter Tryz.func17, Tryz.ntmps17
 go_wp2_with fail
 rw [← HW.out]
 refine (copies_any (szXs [x, y]) [x, y] _ _ W (Nat.le_refl _) HZs.out HArg.out).mono ?_
 rintro e w5 ⟨⟨A', c', us, rfl, hst, hnn, hnb, hnv, hargs, hown⟩, hb5⟩
 have hr5 := (hb5.block (w.heap.size + 2) (by have := HZ4.out; omega)).trans HR4.out
 have r0 := Lib.cell_of_heap hr5 0; have r1 := Lib.cell_of_heap hr5 1; have r2 := Lib.cell_of_heap hr5 2; have r3 := Lib.cell_of_heap hr5 3; have r4 := Lib.cell_of_heap hr5 4; have r5 := Lib.cell_of_heap hr5 5; have r6 := Lib.cell_of_heap hr5 6
 have f0 := Lib.frozen_of_heap hr5 0; have f1 := Lib.frozen_of_heap hr5 1; have f2 := Lib.frozen_of_heap hr5 2; have f3 := Lib.frozen_of_heap hr5 3; have f4 := Lib.frozen_of_heap hr5 4; have f5 := Lib.frozen_of_heap hr5 5; have f6 := Lib.frozen_of_heap hr5 6
 simp only [List.getElem?_toArray, List.getElem?_cons_zero, List.getElem?_cons_succ] at r0 r1 r2 r3 r4 r5 r6
 obtain ⟨x', us0, rfl, hx, hst⟩ := stripXs_cons (y := x) (r := [y]) hst
 obtain ⟨y', us1, rfl, hy, hst⟩ := stripXs_cons (y := y) (r := []) hst
 obtain rfl := stripXs_nil hst
 have HH := hide (show Below w.heap.size w w5 from HB4.out.trans (hb5.mono HB4.out.size))
 have hz5 : w.heap.size + 2 < w5.heap.size := by have := hb5.size; have := HZ4.out; omega
 have HLi := hide (made_lies (wf := set7 w5 (w.heap.size + 2) 0 (.mk 4 ⟨#[]⟩ (0, 0, ⟨#[]⟩) o A' c' [x', y'])) (P := w.heap.size + 2) (k := 4) (n := ⟨#[]⟩) (v := (0, 0, ⟨#[]⟩)) (o := o) hargs hnn hnb hnv (by have := HZ4.out; omega) (fun b hb => set7_heap _ _ _ hb) (set7_size _ _ _ _))
 have HNw := hide (show newX w.heap.size (.mk 4 ⟨#[]⟩ (0, 0, ⟨#[]⟩) o A' c' [x', y']) from ⟨fun a ha => by have := hnb a ha; have := HB4.out.size; omega, hnv.mono HB4.out.size⟩)
 have HOw := hide (show ∃ P, A' = some ⟨P, 0, none⟩ ∧ OwnB (set7 w5 (w.heap.size + 2) 0 (.mk 4 ⟨#[]⟩ (0, 0, ⟨#[]⟩) o A' c' [x', y'])) P 14 from by
  obtain ⟨P, e, h⟩ := hown (by simp)
  refine ⟨P, e, h.kept (set7_heap _ _ _ ?_)⟩
  have h1 := hnb _ e
  have h2 := HZ4.out
  simp only at h1
  omega)
 clear hb5 hargs hnb hnv hr5 hnn hown
 go_wp2_with fail
 refine bodyPost_ret (v := vX (.mk 4 ⟨#[]⟩ (0, 0, ⟨#[]⟩) o A' c' [x', y'])) (by simp [results, Tryz.results17, go_sem, r0, r1, r2, r3, r4, r5, r6, vX, XT.kind, XT.name, XT.val, XT.op, XT.adr, XT.args, XT.cap]) rfl ?_
 refine ⟨⟨A', c', x', y', rfl, hx, hy, HLi.out, HNw.out, HOw.out⟩, ?_⟩
 exact set7_below (w := w5) 0 (.mk 4 ⟨#[]⟩ (0, 0, ⟨#[]⟩) o A' c' [x', y']) HH.out (by omega)
end Go.Proofs.YtljoajjlkjjgeaaGreatDoor
namespace Go.Proofs.YtljoajjlkjjgeaaGreatDoor
open Go.RowKit

set_option maxHeartbeats 1600000 in
set_option maxRecDepth 100000 in
theorem call_any (o : ByteArray) (A : Option Addr) (c : Nat) (ts : List XT) (w : World) (hz : szXs ts ≤ 1000000) (hA : ArgsAt w.heap.size w A ts) :
  Calls Tryz.prog 157 #[.string o, .slice A ts.length c] w fun e w' => (∃ A' c' us, e = .returned (vX (.mk 5 o (0, 0, ⟨#[]⟩) ⟨#[]⟩ A' c' us)) ∧ stripXs us = stripXs ts ∧ LiesX w'.heap.size w' (.mk 5 o (0, 0, ⟨#[]⟩) ⟨#[]⟩ A' c' us) ∧ newX w.heap.size (.mk 5 o (0, 0, ⟨#[]⟩) ⟨#[]⟩ A' c' us)) ∧ Below w.heap.size w w' := by
 have s3 : (w).heap.size = w.heap.size := by simp
 have hb3 : Below w.heap.size w (w.alloc (.cells #[.int .i64 0, .string ⟨#[]⟩, .int .i64 0, .int .i64 0, .string ⟨#[]⟩, .string ⟨#[]⟩, .slice none 0 0] 36)) := by
  exact Joins.below_alloc1 w _
 have hz3 : (w.alloc (.cells #[.int .i64 0, .string ⟨#[]⟩, .int .i64 0, .int .i64 0, .string ⟨#[]⟩, .string ⟨#[]⟩, .slice none 0 0] 36)).heap.size = w.heap.size + 1 := by simp
 have hr3 : (w.alloc (.cells #[.int .i64 0, .string ⟨#[]⟩, .int .i64 0, .int .i64 0, .string ⟨#[]⟩, .string ⟨#[]⟩, .slice none 0 0] 36)).heap[w.heap.size]? = some (.cells #[.int .i64 0, .string ⟨#[]⟩, .int .i64 0, .int .i64 0, .string ⟨#[]⟩, .string ⟨#[]⟩, .slice none 0 0] 36 (0, 0)) := by
  rw [← s3]
  exact heap_alloc_new _ _
 have hz4 := hz3
 have hb4 := hb3
 have hr4 := hr3
 have HWE := hide (show ∃ W, W = w.alloc (.cells #[.int .i64 0, .string ⟨#[]⟩, .int .i64 0, .int .i64 0, .string ⟨#[]⟩, .string ⟨#[]⟩, .slice none 0 0] 36) from ⟨_, rfl⟩)
 obtain ⟨W, hW⟩ := HWE.out
 rw [← hW] at hz4 hb4 hr4
 have HArg := hide (hA.on hb4)
 have HZs := hide hz
 have HW := hide hW; have HB4 := hide hb4; have HR4 := hide hr4; have HZ4 := hide hz4
 clear hW hb4 hr4 hz4 hb3 hz3 hr3 s3 HWE hz hA
 go_enter Tryz.func157, Tryz.ntmps157
 go_wp2_with fail
 rw [← HW.out]
 refine (copies_any (szXs ts) ts A c W (Nat.le_refl _) HZs.out HArg.out).mono ?_
 rintro e w5 ⟨⟨A', c', us, rfl, hst, hnn, hnb, hnv, hargs, -⟩, hb5⟩
 have hr5 := (hb5.block (w.heap.size) (by have := HZ4.out; omega)).trans HR4.out
 have r0 := Lib.cell_of_heap hr5 0; have r1 := Lib.cell_of_heap hr5 1; have r2 := Lib.cell_of_heap hr5 2; have r3 := Lib.cell_of_heap hr5 3; have r4 := Lib.cell_of_heap hr5 4; have r5 := Lib.cell_of_heap hr5 5; have r6 := Lib.cell_of_heap hr5 6
 have f0 := Lib.frozen_of_heap hr5 0; have f1 := Lib.frozen_of_heap hr5 1; have f2 := Lib.frozen_of_heap hr5 2; have f3 := Lib.frozen_of_heap hr5 3; have f4 := Lib.frozen_of_heap hr5 4; have f5 := Lib.frozen_of_heap hr5 5; have f6 := Lib.frozen_of_heap hr5 6
 simp only [List.getElem?_toArray, List.getElem?_cons_zero, List.getElem?_cons_succ] at r0 r1 r2 r3 r4 r5 r6
 have HH := hide (show Below w.heap.size w w5 from HB4.out.trans (hb5.mono HB4.out.size))
 have hz5 : w.heap.size < w5.heap.size := by have := hb5.size; have := HZ4.out; omega
 have HLi := hide (made_lies (wf := set7 w5 (w.heap.size) 0 (.mk 5 o (0, 0, ⟨#[]⟩) ⟨#[]⟩ A' c' us)) (P := w.heap.size + 0) (k := 5) (n := o) (v := (0, 0, ⟨#[]⟩)) (o := ⟨#[]⟩) hargs hnn hnb hnv (by have := HZ4.out; omega) (fun b hb => set7_heap _ _ _ hb) (set7_size _ _ _ _))
 have HNw := hide (show newX w.heap.size (.mk 5 o (0, 0, ⟨#[]⟩) ⟨#[]⟩ A' c' us) from ⟨fun a ha => by have := hnb a ha; have := HB4.out.size; omega, hnv.mono HB4.out.size⟩)
 clear hb5 hargs hnb hnv hr5 hnn
 go_wp2_with fail
 refine bodyPost_ret (v := vX (.mk 5 o (0, 0, ⟨#[]⟩) ⟨#[]⟩ A' c' us)) (by simp [results, Tryz.results157, go_sem, r0, r1, r2, r3, r4, r5, r6, vX, XT.kind, XT.name, XT.val, XT.op, XT.adr, XT.args, XT.cap]) rfl ?_
 refine ⟨⟨A', c', us, rfl, hst, HLi.out, HNw.out⟩, ?_⟩
 exact set7_below (w := w5) 0 (.mk 5 o (0, 0, ⟨#[]⟩) ⟨#[]⟩ A' c' us) HH.out (by omega)
end Go.Proofs.YtljoajjlkjjgeaaGreatDoor
namespace Go.Proofs.YtljoajjlkjjgeaaGreatDoor
open Go.RowKit

set_option maxHeartbeats 1600000 in
set_option maxRecDepth 100000 in
theorem unary_any (o : ByteArray) (x : XT) (w : World) (hz : szX x ≤ 1000000) (hx : LiesX w.heap.size w x) :
  Calls Tryz.prog 21 #[.string o, vX x] w fun e w' => (∃ A' c' x', e = .returned (vX (.mk 3 ⟨#[]⟩ (0, 0, ⟨#[]⟩) o A' c' [x'])) ∧ stripX x' = stripX x ∧ LiesX w'.heap.size w' (.mk 3 ⟨#[]⟩ (0, 0, ⟨#[]⟩) o A' c' [x']) ∧ newX w.heap.size (.mk 3 ⟨#[]⟩ (0, 0, ⟨#[]⟩) o A' c' [x'])) ∧ Below w.heap.size w w' := by
 suffices H : Calls Tryz.prog 21 #[.string o, .agg (eCells x.kind x.name x.val x.op x.adr x.args.length x.cap)] w fun e w' => (∃ A' c' x', e = .returned (vX (.mk 3 ⟨#[]⟩ (0, 0, ⟨#[]⟩) o A' c' [x'])) ∧ stripX x' = stripX x ∧ LiesX w'.heap.size w' (.mk 3 ⟨#[]⟩ (0, 0, ⟨#[]⟩) o A' c' [x']) ∧ newX w.heap.size (.mk 3 ⟨#[]⟩ (0, 0, ⟨#[]⟩) o A' c' [x'])) ∧ Below w.heap.size w w' from H
 have s3 : ((w.alloc (.cells (eCells x.kind x.name x.val x.op x.adr x.args.length x.cap) 36))).heap.size = w.heap.size + 1 := by simp
 have hb3 : Below w.heap.size w ((w.alloc (.cells (eCells x.kind x.name x.val x.op x.adr x.args.length x.cap) 36)).alloc (.cells #[.int .i64 0, .string ⟨#[]⟩, .int .i64 0, .int .i64 0, .string ⟨#[]⟩, .string ⟨#[]⟩, .slice none 0 0] 36)) := by
  have h1 := Joins.below_alloc1 w (.cells (eCells x.kind x.name x.val x.op x.adr x.args.length x.cap) 36)
  exact h1.alloc h1.size _
 have hz3 : ((w.alloc (.cells (eCells x.kind x.name x.val x.op x.adr x.args.length x.cap) 36)).alloc (.cells #[.int .i64 0, .string ⟨#[]⟩, .int .i64 0, .int .i64 0, .string ⟨#[]⟩, .string ⟨#[]⟩, .slice none 0 0] 36)).heap.size = w.heap.size + 2 := by simp
 have hr3 : ((w.alloc (.cells (eCells x.kind x.name x.val x.op x.adr x.args.length x.cap) 36)).alloc (.cells #[.int .i64 0, .string ⟨#[]⟩, .int .i64 0, .int .i64 0, .string ⟨#[]⟩, .string ⟨#[]⟩, .slice none 0 0] 36)).heap[w.heap.size + 1]? = some (.cells #[.int .i64 0, .string ⟨#[]⟩, .int .i64 0, .int .i64 0, .string ⟨#[]⟩, .string ⟨#[]⟩, .slice none 0 0] 36 (0, 0)) := by
  rw [← s3]
  exact heap_alloc_new _ _
 have hn4 := heap_alloc_new ((w.alloc (.cells (eCells x.kind x.name x.val x.op x.adr x.args.length x.cap) 36)).alloc (.cells #[.int .i64 0, .string ⟨#[]⟩, .int .i64 0, .int .i64 0, .string ⟨#[]⟩, .string ⟨#[]⟩, .slice none 0 0] 36)) (.cells #[.int .i64 x.kind, .string x.name, .int .i64 x.val.1, .int .i64 x.val.2.1, .string x.val.2.2, .string x.op, .slice x.adr x.args.length x.cap] 36)
 have hz4 : (((w.alloc (.cells (eCells x.kind x.name x.val x.op x.adr x.args.length x.cap) 36)).alloc (.cells #[.int .i64 0, .string ⟨#[]⟩, .int .i64 0, .int .i64 0, .string ⟨#[]⟩, .string ⟨#[]⟩, .slice none 0 0] 36)).alloc (.cells #[.int .i64 x.kind, .string x.name, .int .i64 x.val.1, .int .i64 x.val.2.1, .string x.val.2.2, .string x.op, .slice x.adr x.args.length x.cap] 36)).heap.size = w.heap.size + 3 := by simp
 have hb4 : Below w.heap.size w (((w.alloc (.cells (eCells x.kind x.name x.val x.op x.adr x.args.length x.cap) 36)).alloc (.cells #[.int .i64 0, .string ⟨#[]⟩, .int .i64 0, .int .i64 0, .string ⟨#[]⟩, .string ⟨#[]⟩, .slice none 0 0] 36)).alloc (.cells #[.int .i64 x.kind, .string x.name, .int .i64 x.val.1, .int .i64 x.val.2.1, .string x.val.2.2, .string x.op, .slice x.adr x.args.length x.cap] 36)) := hb3.alloc hb3.size _
 have hr4 : (((w.alloc (.cells (eCells x.kind x.name x.val x.op x.adr x.args.length x.cap) 36)).alloc (.cells #[.int .i64 0, .string ⟨#[]⟩, .int .i64 0, .int .i64 0, .string ⟨#[]⟩, .string ⟨#[]⟩, .slice none 0 0] 36)).alloc (.cells #[.int .i64 x.kind, .string x.name, .int .i64 x.val.1, .int .i64 x.val.2.1, .string x.val.2.2, .string x.op, .slice x.adr x.args.length x.cap] 36)).heap[w.heap.size + 1]? = some (.cells #[.int .i64 0, .string ⟨#[]⟩, .int .i64 0, .int .i64 0, .string ⟨#[]⟩, .string ⟨#[]⟩, .slice none 0 0] 36 (0, 0)) := by
  rw [Below.heap_alloc _ _ _ (by rw [hz3]; omega)]
  exact hr3
 rw [hz3] at hn4
 have HWE := hide (show ∃ W, W = ((w.alloc (.cells (eCells x.kind x.name x.val x.op x.adr x.args.length x.cap) 36)).alloc (.cells #[.int .i64 0, .string ⟨#[]⟩, .int .i64 0, .int .i64 0, .string ⟨#[]⟩, .string ⟨#[]⟩, .slice none 0 0] 36)).alloc (.cells #[.int .i64 x.kind, .string x.name, .int .i64 x.val.1, .int .i64 x.val.2.1, .string x.val.2.2, .string x.op, .slice x.adr x.args.length x.cap] 36) from ⟨_, rfl⟩)
 obtain ⟨W, hW⟩ := HWE.out
 rw [← hW] at hn4 hz4 hb4 hr4
 have HArg := hide (show ArgsAt W.heap.size W (some ⟨w.heap.size + 2, 0, none⟩) [x] from fun j hj => by
  have hj' : j < 1 := hj
  rcases (by omega : j = 0) with rfl
  ·exact ⟨w.heap.size + 2, 0, rfl, by omega, ⟨Lib.cell_of_heap hn4 0, Lib.cell_of_heap hn4 1, Lib.cell_of_heap hn4 2, Lib.cell_of_heap hn4 3, Lib.cell_of_heap hn4 4, Lib.cell_of_heap hn4 5, Lib.cell_of_heap hn4 6⟩, hx.on hb4⟩
 )
 have HZs := hide (show szXs [x] ≤ 1000000 by simp only [szXs]; omega)
 have HW := hide hW; have HB4 := hide hb4; have HR4 := hide hr4; have HZ4 := hide hz4
 clear hW hb4 hr4 hz4 hb3 hz3 hr3 s3 HWE hz hn4 hx
 go_enter Tryz.func21, Tryz.ntmps21
 go_wp2_with fail
 rw [← HW.out]
 refine (copies_any (szXs [x]) [x] _ _ W (Nat.le_refl _) HZs.out HArg.out).mono ?_
 rintro e w5 ⟨⟨A', c', us, rfl, hst, hnn, hnb, hnv, hargs, -⟩, hb5⟩
 have hr5 := (hb5.block (w.heap.size + 1) (by have := HZ4.out; omega)).trans HR4.out
 have r0 := Lib.cell_of_heap hr5 0; have r1 := Lib.cell_of_heap hr5 1; have r2 := Lib.cell_of_heap hr5 2; have r3 := Lib.cell_of_heap hr5 3; have r4 := Lib.cell_of_heap hr5 4; have r5 := Lib.cell_of_heap hr5 5; have r6 := Lib.cell_of_heap hr5 6
 have f0 := Lib.frozen_of_heap hr5 0; have f1 := Lib.frozen_of_heap hr5 1; have f2 := Lib.frozen_of_heap hr5 2; have f3 := Lib.frozen_of_heap hr5 3; have f4 := Lib.frozen_of_heap hr5 4; have f5 := Lib.frozen_of_heap hr5 5; have f6 := Lib.frozen_of_heap hr5 6
 simp only [List.getElem?_toArray, List.getElem?_cons_zero, List.getElem?_cons_succ] at r0 r1 r2 r3 r4 r5 r6
 obtain ⟨x', us0, rfl, hx, hst⟩ := stripXs_cons (y := x) (r := []) hst
 obtain rfl := stripXs_nil hst
 have HH := hide (show Below w.heap.size w w5 from HB4.out.trans (hb5.mono HB4.out.size))
 have hz5 : w.heap.size + 1 < w5.heap.size := by have := hb5.size; have := HZ4.out; omega
 have HLi := hide (made_lies (wf := set7 w5 (w.heap.size + 1) 0 (.mk 3 ⟨#[]⟩ (0, 0, ⟨#[]⟩) o A' c' [x'])) (P := w.heap.size + 1) (k := 3) (n := ⟨#[]⟩) (v := (0, 0, ⟨#[]⟩)) (o := o) hargs hnn hnb hnv (by have := HZ4.out; omega) (fun b hb => set7_heap _ _ _ hb) (set7_size _ _ _ _))
 have HNw := hide (show newX w.heap.size (.mk 3 ⟨#[]⟩ (0, 0, ⟨#[]⟩) o A' c' [x']) from ⟨fun a ha => by have := hnb a ha; have := HB4.out.size; omega, hnv.mono HB4.out.size⟩)
 clear hb5 hargs hnb hnv hr5 hnn
 go_wp2_with fail
 refine bodyPost_ret (v := vX (.mk 3 ⟨#[]⟩ (0, 0, ⟨#[]⟩) o A' c' [x'])) (by simp [results, Tryz.results21, go_sem, r0, r1, r2, r3, r4, r5, r6, vX, XT.kind, XT.name, XT.val, XT.op, XT.adr, XT.args, XT.cap]) rfl ?_
 refine ⟨⟨A', c', x', rfl, hx, HLi.out, HNw.out⟩, ?_⟩
 exact set7_below (w := w5) 0 (.mk 3 ⟨#[]⟩ (0, 0, ⟨#[]⟩) o A' c' [x']) HH.out (by omega)
end Go.Proofs.YtljoajjlkjjgeaaGreatDoor
namespace Go.Proofs.YtljoajjlkjjgeaaGreatDoor
open Go.RowKit

def eqS (s t : ByteArray) : Bool := s.toList == t.toList
mutual
/-- What Equal tells. -/
def eqX : XT → XT → Bool
 | .mk k n v o _ _ ts, .mk k' n' v' o' _ _ ts' => (k == k') && (eqS n n' && ((v.1 == v'.1 && (v.2.1 == v'.2.1 && eqS v.2.2 v'.2.2)) && (eqS o o' && eqXs ts ts')))
def eqXs : List XT → List XT → Bool
 | [], [] => true
 | x :: r, y :: s => eqX x y && eqXs r s
 | _, _ => false
end
theorem eqXs_len : ∀ {l m : List XT}, eqXs l m = true → l.length = m.length
 | [], [], _ => rfl
 | [], _ :: _, h => by simp [eqXs] at h
 | _ :: _, [], h => by simp [eqXs] at h
 | x :: r, y :: s, h => by
  simp only [eqXs, Bool.and_eq_true] at h
  simp [eqXs_len h.2]
theorem eqXs_no {l m : List XT} (h : ¬ l.length = m.length) : eqXs l m = false := by
 cases he : eqXs l m
 ·rfl
 ·exact absurd (eqXs_len he) h
theorem eqXs_bad : ∀ {l m : List XT} {k : Nat}, l.length = m.length → k < l.length → eqX (l.getD k dX) (m.getD k dX) = false → eqXs l m = false
 | [], _, _, _, hk, _ => by simp at hk
 | _ :: _, [], _, hl, _, _ => by simp at hl
 | x :: r, y :: s, 0, _, _, h => by
  have h' : eqX x y = false := h
  simp [eqXs, h']
 | x :: r, y :: s, k + 1, hl, hk, h => by
  have := eqXs_bad (l := r) (m := s) (k := k) (by simpa using hl) (by simpa using hk) h
  simp [eqXs, this]
theorem eqXs_good : ∀ {l m : List XT}, l.length = m.length → (∀ k, k < l.length → eqX (l.getD k dX) (m.getD k dX) = true) → eqXs l m = true
 | [], [], _, _ => rfl
 | [], _ :: _, h, _ => by simp at h
 | _ :: _, [], h, _ => by simp at h
 | x :: r, y :: s, hl, h => by
  simp only [eqXs, Bool.and_eq_true]
  exact ⟨h 0 (by simp), eqXs_good (by simpa using hl) fun k hk => h (k + 1) (by simpa using hk)⟩
theorem eqS_iff {s t : ByteArray} : eqS s t = true ↔ s = t := by
 unfold eqS
 rw [beq_iff_eq]
 refine ⟨fun h => ?_, fun h => by rw [h]⟩
 rw [Lib.toList_data, Lib.toList_data] at h
 rw [of_data h]
mutual
/-- Equal tells just whether both are one but for their addresses. -/
theorem eqX_iff : ∀ {x y : XT}, eqX x y = true ↔ stripX x = stripX y
 | .mk k n v o A c ts, .mk k' n' v' o' A' c' ts' => by
  have h := eqXs_iff (l := ts) (m := ts')
  obtain ⟨v1, v2, v3⟩ := v
  obtain ⟨v1', v2', v3'⟩ := v'
  simp only [eqX, stripX, Bool.and_eq_true, beq_iff_eq, XT.mk.injEq, true_and, eqS_iff, Prod.mk.injEq, h]
theorem eqXs_iff : ∀ {l m : List XT}, eqXs l m = true ↔ stripXs l = stripXs m
 | [], [] => by simp [eqXs]
 | [], y :: s => by simp [eqXs, stripXs]
 | x :: r, [] => by simp [eqXs, stripXs]
 | x :: r, y :: s => by
  simp only [eqXs, stripXs, Bool.and_eq_true, List.cons.injEq, eqX_iff (x := x) (y := y), eqXs_iff (l := r) (m := s)]
end

/-- What Equal does at expressions up to this size. -/
def EqOk (N : Nat) : Prop := ∀ (x y : XT) (w : World), szX x ≤ N → LiesX w.heap.size w x → LiesX w.heap.size w y → szX x ≤ 1000000 → szX y ≤ 1000000 →
 Calls Tryz.prog 34 #[vX x, vX y] w fun e w' => e = .returned (.bool (eqX x y)) ∧ Below w.heap.size w w'

set_option maxHeartbeats 3200000 in
set_option maxRecDepth 100000 in
theorem equalFunc_step (N : Nat) (hih : EqOk N) (l m : List XT) (A A' : Option Addr) (c c' : Nat) (w : World) (hN : ∀ k, k < l.length → szX (l.getD k dX) ≤ N) (hl : l.length ≤ maxLen) (hA : ArgsAt w.heap.size w A l) (hA' : ArgsAt w.heap.size w A' m)
  (hL : ∀ k, k < l.length → szX (l.getD k dX) ≤ 1000000) (hM : ∀ k, k < m.length → szX (m.getD k dX) ≤ 1000000) :
  Calls Tryz.prog 36 #[.slice A l.length c, .slice A' m.length c', .func (.func 34) #[] #[]] w fun e w' => e = .returned (.bool (eqXs l m)) ∧ Below w.heap.size w w' := by
 have ih := hide hih
 have HN := hide hN; have HA := hide hA; have HA' := hide hA'; have HL := hide hL; have HM := hide hM
 clear hih hN hA hA' hL hM
 by_cases hlen : l.length = m.length
 ·have hne : ((l.length : Int) != (m.length : Int)) = false := by rw [bne_eq_false_iff_eq]; omega
  have HEq := hide hlen
  have HBad := hide (fun k h1 h2 => eqXs_bad (k := k) hlen h1 h2)
  have HGood := hide (fun h => eqXs_good hlen h)
  generalize eqXs l m = q at *
  unfold maxLen at hl
  clear hlen
  go_enter Tryz.func36, Tryz.ntmps36
  go_wp2_with fail
  go_loopw [17] (fun i wr => ∃ k : Nat, k ≤ l.length ∧ i = .int .i64 k ∧ (∀ j, j < k → eqX (l.getD j dX) (m.getD j dX) = true) ∧ Below w.heap.size w wr) (fun i _ => l.length - (intOf i).toNat)
  case atStart => exact ⟨0, Nat.zero_le _, rfl, fun j h => by omega, Below.refl _ _⟩
  case round =>
   obtain ⟨k, hk, rfl, hno, hbw⟩ := hrel
   have HNo := hide hno; have HB := hide hbw
   clear hno
   by_cases hlt : k < l.length
   ·have hlt2 : k < m.length := by have := HEq.out; omega
    obtain ⟨b, off, rfl, hb, h7, hly⟩ := (HA.out.on hbw) k hlt
    obtain ⟨b', off', rfl, hb', h7', hly'⟩ := (HA'.out.on hbw) k hlt2
    have HNk := hide (HN.out k hlt); have HLk := hide (HL.out k hlt); have HMk := hide (HM.out k hlt2)
    have HBk := hide (HBad.out k hlt)
    have HS := hide (fun (h : eqX (l.getD k dX) (m.getD k dX) = true) j (hj : j < k + 1) => (by
     by_cases e : j = k
     ·rw [e]; exact h
     ·exact HNo.out j (by omega) : eqX (l.getD j dX) (m.getD j dX) = true))
    generalize l.getD k dX = x at *
    generalize m.getD k dX = y at *
    have hal := Joins.below_alloc2 wr (.cells (eCells x.kind x.name x.val x.op x.adr x.args.length x.cap) 36) (.cells (eCells y.kind y.name y.val y.op y.adr y.args.length y.cap) 36)
    have HCall := hide (ih.out x y _ HNk.out (hly.on hal) (hly'.on hal) HLk.out HMk.out)
    have HAl := hide (then_below hbw hal)
    obtain ⟨g0, g1, g2, g3, g4, g5, g6⟩ := h7
    obtain ⟨p0, p1, p2, p3, p4, p5, p6⟩ := h7'
    have hkm : (k : Int) < (m.length : Int) := by omega
    clear hly hly' hal hbw hk HB HNo hlt2
    cases he : eqX x y
    all_goals
     rw [he] at HCall HBk HS
     go_wp2_with fail
     refine HCall.out.mono ?_
     rintro e w3 ⟨rfl, hb3⟩
     have HB3 := hide (then_below HAl.out hb3)
     clear hb3 g0 g1 g2 g3 g4 g5 g6 p0 p1 p2 p3 p4 p5 p6
     go_wp2_with fail
    ·go_ret
     exact ⟨ret_bool (HBk.out trivial).symm, HB3.out⟩
    ·go_roundw
     case rel => exact ⟨k + 1, by omega, by go_num, HS.out trivial, HB3.out⟩
     case measure => simp [intOf]; omega
   ·obtain rfl : k = l.length := by omega
    go_wp2_with fail
    go_ret
    exact ⟨ret_bool (HGood.out HNo.out).symm, hbw⟩
 ·have hne : ((l.length : Int) != (m.length : Int)) = true := by rw [bne_iff_ne]; omega
  have HQ := hide (eqXs_no hlen)
  clear hlen
  unfold maxLen at hl
  go_enter Tryz.func36, Tryz.ntmps36
  go_wp2_with fail
  go_ret
  exact ⟨ret_bool HQ.out.symm, Below.refl _ _⟩
theorem szXs_at : ∀ {l : List XT} {k : Nat}, k < l.length → szX (l.getD k dX) ≤ szXs l
 | [], _, h => by simp at h
 | y :: r, 0, _ => by show szX y ≤ szX y + szXs r; omega
 | y :: r, k + 1, h => by have := szXs_at (l := r) (k := k) (by simpa using h); show szX (r.getD k dX) ≤ szX y + szXs r; omega
set_option maxHeartbeats 3200000 in
set_option maxRecDepth 100000 in
theorem equal_step (N : Nat) (hih : EqOk N) (k : Int) (n : ByteArray) (v1 v2 : Int) (v3 o : ByteArray) (A : Option Addr) (c : Nat) (ts : List XT) (k' : Int) (n' : ByteArray) (v1' v2' : Int) (v3' o' : ByteArray) (A' : Option Addr) (c' : Nat) (ts' : List XT) (w : World)
  (hN : szX (.mk k n (v1, v2, v3) o A c ts) ≤ N + 1) (hx : LiesX w.heap.size w (.mk k n (v1, v2, v3) o A c ts)) (hy : LiesX w.heap.size w (.mk k' n' (v1', v2', v3') o' A' c' ts')) (hz : szX (.mk k n (v1, v2, v3) o A c ts) ≤ 1000000) (hz' : szX (.mk k' n' (v1', v2', v3') o' A' c' ts') ≤ 1000000) :
  Calls Tryz.prog 34 #[.agg (eCells k n (v1, v2, v3) o A ts.length c), .agg (eCells k' n' (v1', v2', v3') o' A' ts'.length c')] w fun e w' => e = .returned (.bool (eqX (.mk k n (v1, v2, v3) o A c ts) (.mk k' n' (v1', v2', v3') o' A' c' ts'))) ∧ Below w.heap.size w w' := by
 have hal := Joins.below_alloc2 w (.cells (eCells k n (v1, v2, v3) o A ts.length c) 36) (.cells (eCells k' n' (v1', v2', v3') o' A' ts'.length c') 36)
 have e1 : szX (.mk k n (v1, v2, v3) o A c ts) = 1 + szXs ts := rfl
 have e2 : szX (.mk k' n' (v1', v2', v3') o' A' c' ts') = 1 + szXs ts' := rfl
 have l1 := len_szXs ts
 have l2 := len_szXs ts'
 have HF := hide (equalFunc_step N hih ts ts' A A' c c' _ (fun j hj => by have := szXs_at hj; omega) (by unfold maxLen; omega) (ArgsAt.of (hx.on hal)) (ArgsAt.of (hy.on hal)) (fun j hj => by have := szXs_at hj; omega) (fun j hj => by have := szXs_at hj; omega))
 have HAl := hide hal
 have HQ := hide (show eqX (.mk k n (v1, v2, v3) o A c ts) (.mk k' n' (v1', v2', v3') o' A' c' ts') = ((k == k') && (eqS n n' && ((v1 == v1' && (v2 == v2' && eqS v3 v3')) && (eqS o o' && eqXs ts ts')))) from rfl)
 have hq := fun w => run_eql_val v1 v2 v1' v2' v3 v3' w
 have hg := fun u u' w => run_guard_val v1 v2 v1' v2' v3 v3' u u' w
 unfold eqS at HQ
 generalize eqX (.mk k n (v1, v2, v3) o A c ts) (.mk k' n' (v1', v2', v3') o' A' c' ts') = q at *
 generalize (v1 == v1' && (v2 == v2' && v3.toList == v3'.toList)) = bv at *
 generalize eqXs ts ts' = bt at *
 clear hx hy hal hN hz hz' e1 e2 l1 l2 hih
 cases b1 : (k == k')
 ·rw [b1] at HQ
  have HQ' := hide (show q = false by rw [HQ.out]; rfl)
  clear HQ
  go_enter Tryz.func34, Tryz.ntmps34
  go_wp2_with fail
  go_ret
  exact ⟨ret_bool HQ'.out.symm, HAl.out⟩
 cases b2 : (n.toList == n'.toList)
 ·rw [b1, b2] at HQ
  have HQ' := hide (show q = false by rw [HQ.out]; rfl)
  clear HQ
  go_enter Tryz.func34, Tryz.ntmps34
  go_wp2_with fail
  go_ret
  exact ⟨ret_bool HQ'.out.symm, HAl.out⟩
 cases bv
 ·rw [b1, b2] at HQ
  have HQ' := hide (show q = false by rw [HQ.out]; rfl)
  clear HQ
  go_enter Tryz.func34, Tryz.ntmps34
  go_wp2_with fail
  go_ret
  exact ⟨ret_bool HQ'.out.symm, HAl.out⟩
 cases b4 : (o.toList == o'.toList)
 ·rw [b1, b2, b4] at HQ
  have HQ' := hide (show q = false by rw [HQ.out]; rfl)
  clear HQ
  go_enter Tryz.func34, Tryz.ntmps34
  go_wp2_with fail
  go_ret
  exact ⟨ret_bool HQ'.out.symm, HAl.out⟩
 rw [b1, b2, b4] at HQ
 have HQ' := hide (show q = bt by rw [HQ.out]; rfl)
 clear HQ
 go_enter Tryz.func34, Tryz.ntmps34
 go_wp2_with fail
 refine HF.out.mono ?_
 rintro e w3 ⟨rfl, hb3⟩
 have HB3 := hide (HAl.out.trans (hb3.mono HAl.out.size))
 clear hb3
 go_wp2_with fail
 go_ret
 exact ⟨ret_bool HQ'.out.symm, HB3.out⟩
theorem equal_ok (N : Nat) : EqOk N := by
 induction N with
 | zero => intro x _ _ hN; have := szX_pos x; omega
 | succ N ih =>
  intro x y w hN hx hy hz hz'
  obtain ⟨k, n, ⟨v1, v2, v3⟩, o, A, c, ts⟩ := x
  obtain ⟨k', n', ⟨v1', v2', v3'⟩, o', A', c', ts'⟩ := y
  exact equal_step N ih k n v1 v2 v3 o A c ts k' n' v1' v2' v3' o' A' c' ts' w hN hx hy hz hz'
theorem equal_any (x y : XT) (w : World) (hx : LiesX w.heap.size w x) (hy : LiesX w.heap.size w y) (hz : szX x ≤ 1000000) (hz' : szX y ≤ 1000000) :
  Calls Tryz.prog 34 #[vX x, vX y] w fun e w' => e = .returned (.bool (eqX x y)) ∧ Below w.heap.size w w' := equal_ok (szX x) x y w (Nat.le_refl _) hx hy hz hz'
end Go.Proofs.YtljoajjlkjjgeaaGreatDoor
