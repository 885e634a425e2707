/-
  The laws' fixed example.
-/
import Derived.Test.YtkdihekhdnnheaaDoorKApp
import Derived.Test.YtkdihekhdnnheaaDoorKNew
import Derived.Test.YtkdihekhdnnheaaDoorKCrash
import Derived.Laws.BytesArg
import Derived.Laws.IdiomStrings
import Derived.KernelRfl
import Derived.Lib.SlBytesConst
namespace Go.Proofs.YtkdihekhdnnheaaDoor
open Go.RowKit

theorem keep_new {base g : Nat} {w : World} {D : DS} (h : DiskAt base g w D) (l : List Int) : KeepAt g D (w.alloc (.cells (l.map (Value.int .i64)).toArray 3)) (some ⟨w.heap.size, 0, none⟩) l := fun j hj => by
  refine ⟨w.heap.size, 0, rfl, by simp, Nat.ne_of_gt h.lt, fun i hi e => by have := (h.row i hi).lt _ e; omega, ?_⟩
  rw [Nat.zero_add, Lib.cell_of_heap (heap_alloc_new w _) j, List.getD_eq_getElem?_getD, List.getElem?_eq_getElem hj]
  simp [hj]
theorem syn_ok {p : PD} (h : p.Ok) (n : Int) : (synP p n).Ok := by
  unfold synP
  split
  · exact sec_ok h (Nat.le_refl _)
  · exact h
theorem crash_ok {p : PD} (h : p.Ok) (ks : List Int) : (crashP p ks).Ok := by
  have h4 := crK_ok h ks 4 (Nat.le_refl _)
  exact ⟨h4.cap0, h4.cap1, h4.used, h4.s0, h4.s1, h4.done0, by show _ ≤ (-1 : Int); decide, by show (-1 : Int) ≤ _; decide⟩
def aw0 : PD := newP 100
def aw1 : PD := appP aw0 0 [97, 98, 99]
def aw2 : PD := synP aw1 0
def aw3 : PD := appP aw2 0 [100, 101, 102]
def aw4 : PD := crashP aw3 [2]
theorem aw0_ok : aw0.Ok := new_ok rfl
theorem aw1_ok : aw1.Ok := app_ok aw0_ok _ _
theorem aw2_ok : aw2.Ok := syn_ok aw1_ok _
theorem aw3_ok : aw3.Ok := app_ok aw2_ok _ _
theorem aw4_ok : aw4.Ok := crash_ok aw3_ok _
theorem aw_done : aw0.done = 0 ∧ aw1.done = 1 ∧ aw2.done = 2 ∧ aw3.done = 3 := ⟨by kernel_rfl, by kernel_rfl, by kernel_rfl, by kernel_rfl⟩
theorem aw_e1 : appE aw0 0 3 = 0 := by kernel_rfl
theorem aw_e2 : synE aw1 0 = 0 := by kernel_rfl
theorem aw_e3 : appE aw2 0 3 = 0 := by kernel_rfl
theorem aw_e4 : checkE aw4 0 = 0 := by kernel_rfl
theorem aw_l4 : rdL aw4 0 = [97, 98, 99, 100, 101] := by kernel_rfl
theorem aw_s4 : safeD aw4 0 = 5 := by kernel_rfl
end Go.Proofs.YtkdihekhdnnheaaDoor
