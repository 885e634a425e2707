/-
  The laws' fixed example.
-/
import Derived.Test.YtpjibiimakclfabKApp
import Derived.Test.YtpjibiimakclfabKNew
import Derived.Test.YtpjibiimakclfabKCrash
import Derived.Laws.BytesArg
import Derived.Laws.IdiomStrings
import Derived.KernelRfl
import Derived.Lib.SlBytesConst
namespace Go.Proofs.Ytpjibiimakclfab
open Go.RowKit

/-- string(b). -/
theorem conv_bytes (A : Option Addr) (cap : Nat) (l : List UInt8) (w : World) (h : BytesAt w.heap.size w A l) : (convert 28 9 (.slice A l.length cap)).run Try.prog w = .ok (.string ⟨l.toArray⟩) w := by
  cases A with
  | none =>
    have hv : l = [] := by
      rcases l with _ | ⟨y, r⟩
      · rfl
      · obtain ⟨_, _, e, _⟩ := h 0 (by simp); cases e
    subst hv
    exact run_convert_bytes_nil w _ 5 Try.underlying28 Try.underlying5 _ _ _ Try.underlying9
  | some a =>
    refine run_convert_bytes_back w _ _ 5 a cap l Try.underlying28 Try.underlying5 Try.underlying9 (fun j hj => ?_)
    obtain ⟨b, off, e, _, h0⟩ := h j hj
    injection e with e
    subst e
    rw [List.getD_eq_getElem?_getD, List.getElem?_eq_getElem hj] at h0
    rw [show (⟨b, off, none⟩ : Addr).add j = ⟨b, off + j, none⟩ by unfold Addr.add; split <;> simp_all]
    exact h0
theorem bytes_new (w : World) (l : List UInt8) (fr : Nat × Nat) : BytesAt (w.alloc (.cells (byC l).toArray 5 fr)).heap.size (w.alloc (.cells (byC l).toArray 5 fr)) (some ⟨w.heap.size, 0, none⟩) l := fun j hj => by
  refine ⟨w.heap.size, 0, rfl, by simp, ?_⟩
  rw [Nat.zero_add, Lib.cell_of_heap (heap_alloc_new w _) j]
  simpa using byC_at hj
theorem keep_new {base g : Nat} {w : World} {D : DS} (h : DiskAt base g w D) (l : List Int) : KeepAt g D (w.alloc (.cells (l.map (Value.int .i64)).toArray 3)) (some ⟨w.heap.size, 0, none⟩) l := fun j hj => by
  refine ⟨w.heap.size, 0, rfl, by simp, Nat.ne_of_gt h.lt, fun i hi e => by have := (h.row i hi).lt _ e; omega, ?_⟩
  rw [Nat.zero_add, Lib.cell_of_heap (heap_alloc_new w _) j, List.getD_eq_getElem?_getD, List.getElem?_eq_getElem hj]
  simp [hj]
theorem syn_ok {p : PD} (h : p.Ok) (n : Int) : (synP p n).Ok := by
  unfold synP
  split
  · exact sec_ok h (Nat.le_refl _)
  · exact h
theorem crash_ok {p : PD} (h : p.Ok) (ks : List Int) : (crashP p ks).Ok := by
  have h4 := crK_ok h ks 4 (Nat.le_refl _)
  exact ⟨h4.cap0, h4.cap1, h4.used, h4.s0, h4.s1, h4.done0, by show _ ≤ (-1 : Int); decide, by show (-1 : Int) ≤ _; decide⟩
def aw0 : PD := newP 100
def aw1 : PD := appP aw0 0 [97, 98, 99]
def aw2 : PD := synP aw1 0
def aw3 : PD := appP aw2 0 [100, 101, 102]
def aw4 : PD := crashP aw3 [2]
theorem aw0_ok : aw0.Ok := new_ok rfl
theorem aw1_ok : aw1.Ok := app_ok aw0_ok _ _
theorem aw2_ok : aw2.Ok := syn_ok aw1_ok _
theorem aw3_ok : aw3.Ok := app_ok aw2_ok _ _
theorem aw4_ok : aw4.Ok := crash_ok aw3_ok _
theorem aw_done : aw0.done = 0 ∧ aw1.done = 1 ∧ aw2.done = 2 ∧ aw3.done = 3 := ⟨by kernel_rfl, by kernel_rfl, by kernel_rfl, by kernel_rfl⟩
theorem aw_e1 : appE aw0 0 3 = 0 := by kernel_rfl
theorem aw_e2 : synE aw1 0 = 0 := by kernel_rfl
theorem aw_e3 : appE aw2 0 3 = 0 := by kernel_rfl
theorem aw_e4 : checkE aw4 0 = 0 := by kernel_rfl
theorem aw_l4 : rdL aw4 0 = [97, 98, 99, 100, 101] := by kernel_rfl
theorem aw_s4 : safeD aw4 0 = 5 := by kernel_rfl
set_option maxHeartbeats 3200000 in
set_option maxRecDepth 100000 in
theorem awake_any (w : World) : Calls Try.prog 5 #[] w fun e w' => e = .returned (.bool true) ∧ Below w.heap.size w w' := by
  have HNew := hide (new_yes 100 w rfl)
  have HA1 := hide (fun g D w' (h1 : D.p = aw0) (h2 : DiskAt w.heap.size g w' D) => append_any 0 (some ⟨w'.heap.size, 0, none⟩) 3 [97, 98, 99] _ (h2.below (Joins.below_alloc1 w' (.cells (byC [97, 98, 99]).toArray 5 (3, 4)))) (h1 ▸ aw0_ok) (by rw [h1, aw_done.1]; decide) (bytes_new w' [97, 98, 99] _) (fun e => by cases e) (by decide))
  have HS2 := hide (fun g D w' (h1 : D.p = aw1) (h2 : DiskAt w.heap.size g w' D) => sync_any 0 w' h2 (h1 ▸ aw1_ok) (by rw [h1, aw_done.2.1]; decide))
  have HA3 := hide (fun g D w' (h1 : D.p = aw2) (h2 : DiskAt w.heap.size g w' D) => append_any 0 (some ⟨w'.heap.size, 0, none⟩) 3 [100, 101, 102] _ (h2.below (Joins.below_alloc1 w' (.cells (byC [100, 101, 102]).toArray 5 (3, 4)))) (h1 ▸ aw2_ok) (by rw [h1, aw_done.2.2.1]; decide) (bytes_new w' [100, 101, 102] _) (fun e => by cases e) (by decide))
  have HC4 := hide (fun g D w' (h1 : D.p = aw3) (h2 : DiskAt w.heap.size g w' D) => crash_any (some ⟨w'.heap.size, 0, none⟩) 1 [2] _ (h2.below (Joins.below_alloc1 w' (.cells (([2] : List Int).map (Value.int .i64)).toArray 3))) (h1 ▸ aw3_ok) (keep_new h2 [2]) (by decide) (fun j hj => by
    obtain rfl : j = 0 := by simpa using hj
    exact ⟨by decide, by decide⟩))
  have HR5 := hide (fun g D w' (h1 : D.p = aw4) (h2 : DiskAt w.heap.size g w' D) => read_any 0 w' h2 (h1 ▸ aw4_ok))
  have HS6 := hide (fun g D w' (h1 : D.p = aw4) (h2 : DiskAt w.heap.size g w' D) => safe_any 0 w' h2)
  have kc := fun (w : World) (C : Array Value) (n c : Nat) => Lib.run_convert_bytes_const (P := Try.prog) w 28 5 C n c Try.underlying28 Try.underlying5
  go_enter Try.func5, Try.ntmps5
  go_wp2_with fail
  refine HNew.out.mono ?_
  rintro e w1 ⟨⟨g, rfl, hD0⟩, hb1⟩
  have HB1 := hide hb1
  have HD0 := hide hD0
  have HCa := hide (HA1.out g _ w1 rfl hD0)
  have HBa := hide (Joins.below_alloc1 w1 (.cells (byC [97, 98, 99]).toArray 5 (3, 4)))
  clear hb1 hD0 HA1 HNew
  go_wp2_with fail
  refine HCa.out.mono ?_
  rintro e w2 ⟨rfl, D1, e1, hD1, hT1⟩
  rw [show (newD 100).p = aw0 from rfl] at e1 ⊢
  rw [show appE aw0 0 ([97, 98, 99] : List UInt8).length = 0 from aw_e1]
  have HB2 := hide (HB1.out.trans (((HBa.out.mono HB1.out.size)).trans (hT1.below (HD0.out.below HBa.out))))
  have HCb := hide (HS2.out g D1 w2 e1 hD1)
  have HD1 := hide hD1
  have HE1 := hide (show D1.p = aw1 from e1)
  clear HCa HBa e1 hD1 hT1 HS2 HB1 HD0
  go_wp2_with fail
  refine HCb.out.mono ?_
  rintro e w3 ⟨rfl, D2, e2, hD2, hT2⟩
  rw [HE1.out] at e2 ⊢
  rw [aw_e2]
  have HB3 := hide (HB2.out.trans (hT2.below HD1.out))
  have HCc := hide (HA3.out g D2 w3 e2 hD2)
  have HBc := hide (Joins.below_alloc1 w3 (.cells (byC [100, 101, 102]).toArray 5 (3, 4)))
  have HD2 := hide hD2
  have HE2 := hide (show D2.p = aw2 from e2)
  clear HCb e2 hD2 hT2 HA3 HB2 HD1 HE1
  go_wp2_with fail
  refine HCc.out.mono ?_
  rintro e w4 ⟨rfl, D3, e3, hD3, hT3⟩
  rw [HE2.out] at e3 ⊢
  rw [show appE aw2 0 ([100, 101, 102] : List UInt8).length = 0 from aw_e3]
  have HB4 := hide (HB3.out.trans (((HBc.out.mono HB3.out.size)).trans (hT3.below (HD2.out.below HBc.out))))
  have HCd := hide (HC4.out g D3 w4 e3 hD3)
  have HBd := hide (Joins.below_alloc1 w4 (.cells (([2] : List Int).map (Value.int .i64)).toArray 3))
  have HD3 := hide hD3
  have HE3 := hide (show D3.p = aw3 from e3)
  clear HCc HBc e3 hD3 hT3 HC4 HB3 HD2 HE2
  go_wp2_with fail
  refine HCd.out.mono ?_
  rintro e w5 ⟨rfl, D4, e4, hD4, hT4⟩
  rw [HE3.out] at e4
  have HB5 := hide (HB4.out.trans (((HBd.out.mono HB4.out.size)).trans (hT4.below (HD3.out.below HBd.out))))
  have HCe := hide (HR5.out g D4 w5 e4 hD4)
  have HD4 := hide hD4
  have HE4 := hide (show D4.p = aw4 from e4)
  clear HCd HBd e4 hD4 hT4 HR5 HB4 HD3 HE3
  go_wp2_with fail
  refine HCe.out.mono ?_
  rintro e w6 ⟨⟨A6, c6, rfl, hby, -, -⟩, hb6⟩
  rw [HE4.out, aw_l4] at hby
  rw [HE4.out, aw_l4, aw_e4]
  have hcv : (convert 28 9 (.slice A6 5 c6)).run Try.prog w6 = .ok (.string ⟨#[97, 98, 99, 100, 101]⟩) w6 := conv_bytes A6 c6 [97, 98, 99, 100, 101] w6 hby
  have HB6 := hide (HB5.out.trans (hb6.mono HB5.out.size))
  have HCf := hide (HS6.out g D4 w6 HE4.out (HD4.out.below hb6))
  clear HCe hby hb6 HS6 HB5
  go_wp2_with fail
  refine HCf.out.mono ?_
  rintro e w7 ⟨rfl, hb7⟩
  rw [HE4.out, aw_s4]
  have HB7 := hide (HB6.out.trans (hb7.mono HB6.out.size))
  clear hb7 HCf
  go_wp2_with fail
  go_ret
  exact ⟨rfl, HB7.out⟩
end Go.Proofs.Ytpjibiimakclfab
