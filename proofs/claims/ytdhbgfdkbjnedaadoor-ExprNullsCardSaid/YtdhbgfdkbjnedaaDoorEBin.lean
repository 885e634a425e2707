/-
  What makes expressions: Binary.
-/
import Derived.Test.YtdhbgfdkbjnedaaDoorECons
namespace Go.Proofs.YtdhbgfdkbjnedaaDoor
open Go.RowKit

/-- A made expression lies where its copied arguments lie. -/
theorem made_lies {w5 wf : World} {lo P : Nat} {k : Int} {n : ByteArray} {v : Int × Int × ByteArray} {o : ByteArray} {A : Option Addr} {c : Nat} {ts : List XT} (hargs : ArgsAt w5.heap.size w5 A ts) (hA : A = none → c = 0) (hb : ∀ a, A = some a → lo ≤ a.block) (hn : newXs lo ts)
    (hP : P < lo) (he : ∀ b, b ≠ P → wf.heap[b]? = w5.heap[b]?) (hz : wf.heap.size = w5.heap.size) : LiesX wf.heap.size wf (.mk k n v o A c ts) := by
  rw [hz]
  exact (hargs.lies hA).off (lo := lo) ⟨hb, hn⟩ (fun b hb1 _ => he b (by omega))
set_option maxHeartbeats 1600000 in
set_option maxRecDepth 100000 in
theorem binary_any (o : ByteArray) (x y : XT) (w : World) (hz : szX x + szX y ≤ 1000000) (hx : LiesX w.heap.size w x) (hy : LiesX w.heap.size w y) :
    Calls Tryd.prog 26 #[.string o, vX x, vX y] w fun e w' => (∃ A' c' x' y', e = .returned (vX (.mk 4 ⟨#[]⟩ (0, 0, ⟨#[]⟩) o A' c' [x', y'])) ∧ stripX x' = stripX x ∧ stripX y' = stripX y ∧ LiesX w'.heap.size w' (.mk 4 ⟨#[]⟩ (0, 0, ⟨#[]⟩) o A' c' [x', y']) ∧ newX w.heap.size (.mk 4 ⟨#[]⟩ (0, 0, ⟨#[]⟩) o A' c' [x', y'])) ∧ Below w.heap.size w w' := by
  suffices H : Calls Tryd.prog 26 #[.string o, .agg (eCells x.kind x.name x.val x.op x.adr x.args.length x.cap), .agg (eCells y.kind y.name y.val y.op y.adr y.args.length y.cap)] w fun e w' => (∃ A' c' x' y', e = .returned (vX (.mk 4 ⟨#[]⟩ (0, 0, ⟨#[]⟩) o A' c' [x', y'])) ∧ stripX x' = stripX x ∧ stripX y' = stripX y ∧ LiesX w'.heap.size w' (.mk 4 ⟨#[]⟩ (0, 0, ⟨#[]⟩) o A' c' [x', y']) ∧ newX w.heap.size (.mk 4 ⟨#[]⟩ (0, 0, ⟨#[]⟩) o A' c' [x', y'])) ∧ Below w.heap.size w w' from H
  have s3 : (((w.alloc (.cells (eCells x.kind x.name x.val x.op x.adr x.args.length x.cap) 32)).alloc (.cells (eCells y.kind y.name y.val y.op y.adr y.args.length y.cap) 32))).heap.size = w.heap.size + 2 := by simp
  have hb3 : Below w.heap.size w (((w.alloc (.cells (eCells x.kind x.name x.val x.op x.adr x.args.length x.cap) 32)).alloc (.cells (eCells y.kind y.name y.val y.op y.adr y.args.length y.cap) 32)).alloc (.cells #[.int .i64 0, .string ⟨#[]⟩, .int .i64 0, .int .i64 0, .string ⟨#[]⟩, .string ⟨#[]⟩, .slice none 0 0] 32)) := by
    have h1 := Joins.below_alloc1 w (.cells (eCells x.kind x.name x.val x.op x.adr x.args.length x.cap) 32)
    have h2 := h1.alloc h1.size (.cells (eCells y.kind y.name y.val y.op y.adr y.args.length y.cap) 32)
    exact h2.alloc h2.size _
  have hz3 : (((w.alloc (.cells (eCells x.kind x.name x.val x.op x.adr x.args.length x.cap) 32)).alloc (.cells (eCells y.kind y.name y.val y.op y.adr y.args.length y.cap) 32)).alloc (.cells #[.int .i64 0, .string ⟨#[]⟩, .int .i64 0, .int .i64 0, .string ⟨#[]⟩, .string ⟨#[]⟩, .slice none 0 0] 32)).heap.size = w.heap.size + 3 := by simp
  have hr3 : (((w.alloc (.cells (eCells x.kind x.name x.val x.op x.adr x.args.length x.cap) 32)).alloc (.cells (eCells y.kind y.name y.val y.op y.adr y.args.length y.cap) 32)).alloc (.cells #[.int .i64 0, .string ⟨#[]⟩, .int .i64 0, .int .i64 0, .string ⟨#[]⟩, .string ⟨#[]⟩, .slice none 0 0] 32)).heap[w.heap.size + 2]? = some (.cells #[.int .i64 0, .string ⟨#[]⟩, .int .i64 0, .int .i64 0, .string ⟨#[]⟩, .string ⟨#[]⟩, .slice none 0 0] 32 (0, 0)) := by
    rw [← s3]
    exact heap_alloc_new _ _
  have hn4 := heap_alloc_new (((w.alloc (.cells (eCells x.kind x.name x.val x.op x.adr x.args.length x.cap) 32)).alloc (.cells (eCells y.kind y.name y.val y.op y.adr y.args.length y.cap) 32)).alloc (.cells #[.int .i64 0, .string ⟨#[]⟩, .int .i64 0, .int .i64 0, .string ⟨#[]⟩, .string ⟨#[]⟩, .slice none 0 0] 32)) (.cells #[.int .i64 x.kind, .string x.name, .int .i64 x.val.1, .int .i64 x.val.2.1, .string x.val.2.2, .string x.op, .slice x.adr x.args.length x.cap, .int .i64 y.kind, .string y.name, .int .i64 y.val.1, .int .i64 y.val.2.1, .string y.val.2.2, .string y.op, .slice y.adr y.args.length y.cap] 32)
  have hz4 : ((((w.alloc (.cells (eCells x.kind x.name x.val x.op x.adr x.args.length x.cap) 32)).alloc (.cells (eCells y.kind y.name y.val y.op y.adr y.args.length y.cap) 32)).alloc (.cells #[.int .i64 0, .string ⟨#[]⟩, .int .i64 0, .int .i64 0, .string ⟨#[]⟩, .string ⟨#[]⟩, .slice none 0 0] 32)).alloc (.cells #[.int .i64 x.kind, .string x.name, .int .i64 x.val.1, .int .i64 x.val.2.1, .string x.val.2.2, .string x.op, .slice x.adr x.args.length x.cap, .int .i64 y.kind, .string y.name, .int .i64 y.val.1, .int .i64 y.val.2.1, .string y.val.2.2, .string y.op, .slice y.adr y.args.length y.cap] 32)).heap.size = w.heap.size + 4 := by simp
  have hb4 : Below w.heap.size w ((((w.alloc (.cells (eCells x.kind x.name x.val x.op x.adr x.args.length x.cap) 32)).alloc (.cells (eCells y.kind y.name y.val y.op y.adr y.args.length y.cap) 32)).alloc (.cells #[.int .i64 0, .string ⟨#[]⟩, .int .i64 0, .int .i64 0, .string ⟨#[]⟩, .string ⟨#[]⟩, .slice none 0 0] 32)).alloc (.cells #[.int .i64 x.kind, .string x.name, .int .i64 x.val.1, .int .i64 x.val.2.1, .string x.val.2.2, .string x.op, .slice x.adr x.args.length x.cap, .int .i64 y.kind, .string y.name, .int .i64 y.val.1, .int .i64 y.val.2.1, .string y.val.2.2, .string y.op, .slice y.adr y.args.length y.cap] 32)) := hb3.alloc hb3.size _
  have hr4 : ((((w.alloc (.cells (eCells x.kind x.name x.val x.op x.adr x.args.length x.cap) 32)).alloc (.cells (eCells y.kind y.name y.val y.op y.adr y.args.length y.cap) 32)).alloc (.cells #[.int .i64 0, .string ⟨#[]⟩, .int .i64 0, .int .i64 0, .string ⟨#[]⟩, .string ⟨#[]⟩, .slice none 0 0] 32)).alloc (.cells #[.int .i64 x.kind, .string x.name, .int .i64 x.val.1, .int .i64 x.val.2.1, .string x.val.2.2, .string x.op, .slice x.adr x.args.length x.cap, .int .i64 y.kind, .string y.name, .int .i64 y.val.1, .int .i64 y.val.2.1, .string y.val.2.2, .string y.op, .slice y.adr y.args.length y.cap] 32)).heap[w.heap.size + 2]? = some (.cells #[.int .i64 0, .string ⟨#[]⟩, .int .i64 0, .int .i64 0, .string ⟨#[]⟩, .string ⟨#[]⟩, .slice none 0 0] 32 (0, 0)) := by
    rw [Below.heap_alloc _ _ _ (by rw [hz3]; omega)]
    exact hr3
  rw [hz3] at hn4
  have HWE := hide (show ∃ W, W = (((w.alloc (.cells (eCells x.kind x.name x.val x.op x.adr x.args.length x.cap) 32)).alloc (.cells (eCells y.kind y.name y.val y.op y.adr y.args.length y.cap) 32)).alloc (.cells #[.int .i64 0, .string ⟨#[]⟩, .int .i64 0, .int .i64 0, .string ⟨#[]⟩, .string ⟨#[]⟩, .slice none 0 0] 32)).alloc (.cells #[.int .i64 x.kind, .string x.name, .int .i64 x.val.1, .int .i64 x.val.2.1, .string x.val.2.2, .string x.op, .slice x.adr x.args.length x.cap, .int .i64 y.kind, .string y.name, .int .i64 y.val.1, .int .i64 y.val.2.1, .string y.val.2.2, .string y.op, .slice y.adr y.args.length y.cap] 32) from ⟨_, rfl⟩)
  obtain ⟨W, hW⟩ := HWE.out
  rw [← hW] at hn4 hz4 hb4 hr4
  have HArg := hide (show ArgsAt W.heap.size W (some ⟨w.heap.size + 3, 0, none⟩) [x, y] from fun j hj => by
    have hj' : j < 2 := hj
    rcases (by omega : j = 0 ∨ j = 1) with rfl | rfl
    · exact ⟨w.heap.size + 3, 0, rfl, by omega, ⟨Lib.cell_of_heap hn4 0, Lib.cell_of_heap hn4 1, Lib.cell_of_heap hn4 2, Lib.cell_of_heap hn4 3, Lib.cell_of_heap hn4 4, Lib.cell_of_heap hn4 5, Lib.cell_of_heap hn4 6⟩, hx.on hb4⟩
    · exact ⟨w.heap.size + 3, 0, rfl, by omega, ⟨Lib.cell_of_heap hn4 7, Lib.cell_of_heap hn4 8, Lib.cell_of_heap hn4 9, Lib.cell_of_heap hn4 10, Lib.cell_of_heap hn4 11, Lib.cell_of_heap hn4 12, Lib.cell_of_heap hn4 13⟩, hy.on hb4⟩
  )
  have HZs := hide (show szXs [x, y] ≤ 1000000 by simp only [szXs]; omega)
  have HW := hide hW; have HB4 := hide hb4; have HR4 := hide hr4; have HZ4 := hide hz4
  clear hW hb4 hr4 hz4 hb3 hz3 hr3 s3 HWE hz hn4 hx hy
  go_enter Tryd.func26, Tryd.ntmps26
  go_wp2_with fail
  rw [← HW.out]
  refine (copies_any (szXs [x, y]) [x, y] _ _ W (Nat.le_refl _) HZs.out HArg.out).mono ?_
  rintro e w5 ⟨⟨A', c', us, rfl, hst, hnn, hnb, hnv, hargs⟩, hb5⟩
  have hr5 := (hb5.block (w.heap.size + 2) (by have := HZ4.out; omega)).trans HR4.out
  have r0 := Lib.cell_of_heap hr5 0; have r1 := Lib.cell_of_heap hr5 1; have r2 := Lib.cell_of_heap hr5 2; have r3 := Lib.cell_of_heap hr5 3; have r4 := Lib.cell_of_heap hr5 4; have r5 := Lib.cell_of_heap hr5 5; have r6 := Lib.cell_of_heap hr5 6
  have f0 := Lib.frozen_of_heap hr5 0; have f1 := Lib.frozen_of_heap hr5 1; have f2 := Lib.frozen_of_heap hr5 2; have f3 := Lib.frozen_of_heap hr5 3; have f4 := Lib.frozen_of_heap hr5 4; have f5 := Lib.frozen_of_heap hr5 5; have f6 := Lib.frozen_of_heap hr5 6
  simp only [List.getElem?_toArray, List.getElem?_cons_zero, List.getElem?_cons_succ] at r0 r1 r2 r3 r4 r5 r6
  obtain ⟨x', us0, rfl, hx, hst⟩ := stripXs_cons (y := x) (r := [y]) hst
  obtain ⟨y', us1, rfl, hy, hst⟩ := stripXs_cons (y := y) (r := []) hst
  obtain rfl := stripXs_nil hst
  have HH := hide (show Below w.heap.size w w5 from HB4.out.trans (hb5.mono HB4.out.size))
  have hz5 : w.heap.size + 2 < w5.heap.size := by have := hb5.size; have := HZ4.out; omega
  have HLi := hide (made_lies (wf := set7 w5 (w.heap.size + 2) 0 (.mk 4 ⟨#[]⟩ (0, 0, ⟨#[]⟩) o A' c' [x', y'])) (P := w.heap.size + 2) (k := 4) (n := ⟨#[]⟩) (v := (0, 0, ⟨#[]⟩)) (o := o) hargs hnn hnb hnv (by have := HZ4.out; omega) (fun b hb => set7_heap _ _ _ hb) (set7_size _ _ _ _))
  have HNw := hide (show newX w.heap.size (.mk 4 ⟨#[]⟩ (0, 0, ⟨#[]⟩) o A' c' [x', y']) from ⟨fun a ha => by have := hnb a ha; have := HB4.out.size; omega, hnv.mono HB4.out.size⟩)
  clear hb5 hargs hnb hnv hr5 hnn
  go_wp2_with fail
  refine bodyPost_ret (v := vX (.mk 4 ⟨#[]⟩ (0, 0, ⟨#[]⟩) o A' c' [x', y'])) (by simp [results, Tryd.results26, go_sem, r0, r1, r2, r3, r4, r5, r6, vX, XT.kind, XT.name, XT.val, XT.op, XT.adr, XT.args, XT.cap]) rfl ?_
  refine ⟨⟨A', c', x', y', rfl, hx, hy, HLi.out, HNw.out⟩, ?_⟩
  exact set7_below (w := w5) 0 (.mk 4 ⟨#[]⟩ (0, 0, ⟨#[]⟩) o A' c' [x', y']) HH.out (by omega)
end Go.Proofs.YtdhbgfdkbjnedaaDoor
