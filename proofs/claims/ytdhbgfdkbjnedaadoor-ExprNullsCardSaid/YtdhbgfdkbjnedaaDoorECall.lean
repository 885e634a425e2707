/-
  What makes expressions: Call.
-/
import Derived.Test.YtdhbgfdkbjnedaaDoorEBin
namespace Go.Proofs.YtdhbgfdkbjnedaaDoor
open Go.RowKit

set_option maxHeartbeats 1600000 in
set_option maxRecDepth 100000 in
theorem call_any (o : ByteArray) (A : Option Addr) (c : Nat) (ts : List XT) (w : World) (hz : szXs ts ≤ 1000000) (hA : ArgsAt w.heap.size w A ts) :
    Calls Tryd.prog 29 #[.string o, .slice A ts.length c] w fun e w' => (∃ A' c' us, e = .returned (vX (.mk 5 o (0, 0, ⟨#[]⟩) ⟨#[]⟩ A' c' us)) ∧ stripXs us = stripXs ts ∧ LiesX w'.heap.size w' (.mk 5 o (0, 0, ⟨#[]⟩) ⟨#[]⟩ A' c' us) ∧ newX w.heap.size (.mk 5 o (0, 0, ⟨#[]⟩) ⟨#[]⟩ A' c' us)) ∧ Below w.heap.size w w' := by
  have s3 : (w).heap.size = w.heap.size := by simp
  have hb3 : Below w.heap.size w (w.alloc (.cells #[.int .i64 0, .string ⟨#[]⟩, .int .i64 0, .int .i64 0, .string ⟨#[]⟩, .string ⟨#[]⟩, .slice none 0 0] 32)) := by
    exact Joins.below_alloc1 w _
  have hz3 : (w.alloc (.cells #[.int .i64 0, .string ⟨#[]⟩, .int .i64 0, .int .i64 0, .string ⟨#[]⟩, .string ⟨#[]⟩, .slice none 0 0] 32)).heap.size = w.heap.size + 1 := by simp
  have hr3 : (w.alloc (.cells #[.int .i64 0, .string ⟨#[]⟩, .int .i64 0, .int .i64 0, .string ⟨#[]⟩, .string ⟨#[]⟩, .slice none 0 0] 32)).heap[w.heap.size]? = some (.cells #[.int .i64 0, .string ⟨#[]⟩, .int .i64 0, .int .i64 0, .string ⟨#[]⟩, .string ⟨#[]⟩, .slice none 0 0] 32 (0, 0)) := by
    rw [← s3]
    exact heap_alloc_new _ _
  have hz4 := hz3
  have hb4 := hb3
  have hr4 := hr3
  have HWE := hide (show ∃ W, W = w.alloc (.cells #[.int .i64 0, .string ⟨#[]⟩, .int .i64 0, .int .i64 0, .string ⟨#[]⟩, .string ⟨#[]⟩, .slice none 0 0] 32) from ⟨_, rfl⟩)
  obtain ⟨W, hW⟩ := HWE.out
  rw [← hW] at hz4 hb4 hr4
  have HArg := hide (hA.on hb4)
  have HZs := hide hz
  have HW := hide hW; have HB4 := hide hb4; have HR4 := hide hr4; have HZ4 := hide hz4
  clear hW hb4 hr4 hz4 hb3 hz3 hr3 s3 HWE hz hA
  go_enter Tryd.func29, Tryd.ntmps29
  go_wp2_with fail
  rw [← HW.out]
  refine (copies_any (szXs ts) ts A c W (Nat.le_refl _) HZs.out HArg.out).mono ?_
  rintro e w5 ⟨⟨A', c', us, rfl, hst, hnn, hnb, hnv, hargs⟩, hb5⟩
  have hr5 := (hb5.block (w.heap.size) (by have := HZ4.out; omega)).trans HR4.out
  have r0 := Lib.cell_of_heap hr5 0; have r1 := Lib.cell_of_heap hr5 1; have r2 := Lib.cell_of_heap hr5 2; have r3 := Lib.cell_of_heap hr5 3; have r4 := Lib.cell_of_heap hr5 4; have r5 := Lib.cell_of_heap hr5 5; have r6 := Lib.cell_of_heap hr5 6
  have f0 := Lib.frozen_of_heap hr5 0; have f1 := Lib.frozen_of_heap hr5 1; have f2 := Lib.frozen_of_heap hr5 2; have f3 := Lib.frozen_of_heap hr5 3; have f4 := Lib.frozen_of_heap hr5 4; have f5 := Lib.frozen_of_heap hr5 5; have f6 := Lib.frozen_of_heap hr5 6
  simp only [List.getElem?_toArray, List.getElem?_cons_zero, List.getElem?_cons_succ] at r0 r1 r2 r3 r4 r5 r6
  have HH := hide (show Below w.heap.size w w5 from HB4.out.trans (hb5.mono HB4.out.size))
  have hz5 : w.heap.size < w5.heap.size := by have := hb5.size; have := HZ4.out; omega
  have HLi := hide (made_lies (wf := set7 w5 (w.heap.size) 0 (.mk 5 o (0, 0, ⟨#[]⟩) ⟨#[]⟩ A' c' us)) (P := w.heap.size + 0) (k := 5) (n := o) (v := (0, 0, ⟨#[]⟩)) (o := ⟨#[]⟩) hargs hnn hnb hnv (by have := HZ4.out; omega) (fun b hb => set7_heap _ _ _ hb) (set7_size _ _ _ _))
  have HNw := hide (show newX w.heap.size (.mk 5 o (0, 0, ⟨#[]⟩) ⟨#[]⟩ A' c' us) from ⟨fun a ha => by have := hnb a ha; have := HB4.out.size; omega, hnv.mono HB4.out.size⟩)
  clear hb5 hargs hnb hnv hr5 hnn
  go_wp2_with fail
  refine bodyPost_ret (v := vX (.mk 5 o (0, 0, ⟨#[]⟩) ⟨#[]⟩ A' c' us)) (by simp [results, Tryd.results29, go_sem, r0, r1, r2, r3, r4, r5, r6, vX, XT.kind, XT.name, XT.val, XT.op, XT.adr, XT.args, XT.cap]) rfl ?_
  refine ⟨⟨A', c', us, rfl, hst, HLi.out, HNw.out⟩, ?_⟩
  exact set7_below (w := w5) 0 (.mk 5 o (0, 0, ⟨#[]⟩) ⟨#[]⟩ A' c' us) HH.out (by omega)
end Go.Proofs.YtdhbgfdkbjnedaaDoor
