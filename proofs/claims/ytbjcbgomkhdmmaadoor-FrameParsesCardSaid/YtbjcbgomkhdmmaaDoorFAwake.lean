/-
  The laws' fixed example.
-/
import Derived.Test.YtbjcbgomkhdmmaaDoorFOutT
import Derived.Test.YtbjcbgomkhdmmaaDoorFSum
import Derived.Lib.SlBytesConst
namespace Go.Proofs.YtbjcbgomkhdmmaaDoor
open Go.RowKit

def aw9 : List UInt8 := [49, 50, 51, 52, 53, 54, 55, 56, 57]
def awO : List UInt8 := [] ++ intB 300 ++ intB (-1) ++ intB (-300)
theorem awO_eq : awO = [2, 44, 1, 16, 18, 43, 1] := by decide
theorem aw9_sum : sumL aw9 = 3421780262 := by kernel_rfl
theorem out_new (w : World) : OutAt w.heap.size w.heap.size (w.alloc (.cells #[.slice none 0 0] 34)) (.slice none 0 0) [] :=
  ⟨Nat.le_refl _, heap_alloc_new w _, World.ownsRow_nil _ _ _ _, fun b e => by cases e⟩
set_option maxHeartbeats 3200000 in
set_option maxRecDepth 100000 in
theorem awake_any (w : World) (hT : Tab w) : Calls Tryd.prog 7 #[] w fun e w' => e = .returned (.bool true) ∧ Below w.heap.size w w' := by
  have HT := hide hT
  have HB0 := hide ((Below.refl w.heap.size w).alloc (Nat.le_refl _) (.cells #[.slice none 0 0] 34))
  have H1 := hide (outInt_any 300 _ ⟨by decide, by decide⟩ (out_new w) (by simp))
  have HC := hide (fun (A : Option Addr) (c n : Nat) (l' : List UInt8) (w' : World) (h : BytesAt w'.heap.size w' A l') (hl : n = l'.length) => (show (convert 32 9 (.slice A n c)).run Tryd.prog w' = .ok (.string ⟨l'.toArray⟩) w' from hl ▸ conv_bytes A c l' w' h))
  clear hT
  go_enter Tryd.func7, Tryd.ntmps7
  go_wp2_with fail
  refine H1.out.mono ?_
  rintro e w1 ⟨rfl, v1, hv1, ht1⟩
  have HT1 := hide (HB0.out.trans (ht1.below (out_new w)))
  have H2 := hide (outInt_any (-1) _ ⟨by decide, by decide⟩ hv1 (by have := (intB_len 300).2; simp; omega))
  have HV1 := hide hv1
  clear hv1 ht1
  go_wp2_with fail
  refine H2.out.mono ?_
  rintro e w2 ⟨rfl, v2, hv2, ht2⟩
  have HT2 := hide (HT1.out.trans (ht2.below HV1.out))
  have H3 := hide (outInt_any (-300) _ ⟨by decide, by decide⟩ hv2 (by have := (intB_len 300).2; have := (intB_len (-1)).2; simp; omega))
  have HV2 := hide hv2
  clear hv2 ht2
  go_wp2_with fail
  refine H3.out.mono ?_
  rintro e w3 ⟨rfl, v3, hv3, ht3⟩
  have HT3 := hide (HT2.out.trans (ht3.below HV2.out))
  have hv3' : OutAt w.heap.size w.heap.size w3 v3 awO := hv3
  rw [awO_eq] at hv3'
  have H4 := hide (outBytes_any w3 hv3' (by simp))
  clear hv3 hv3' ht3 HV1 HV2 H1 H2 H3 HB0 HT1 HT2
  go_wp2_with fail
  refine H4.out.mono ?_
  rintro e w4 ⟨v4, rfl, hr4, hb4⟩
  obtain ⟨A4, c4, rfl, hB4, _, _, _⟩ := bytes_of_row hr4
  have hcv := HC.out A4 c4 7 _ w4 hB4 rfl
  have HT4 := hide (HT3.out.trans (hb4.mono HT3.out.size))
  clear hr4 hb4 hB4 H4
  have HTb := hide (HT.out.stays (Nat.le_refl _) HT4.out)
  have HAl := hide (Joins.below_alloc1 w4 (.cells (byC aw9).toArray 5 (9, 10)))
  have HS := hide (sum_any (some ⟨w4.heap.size, 0, none⟩) 9 aw9 _ (bytes_new w4 aw9 (9, 10)) (HTb.out.on HAl.out) (by decide))
  rw [aw9_sum] at HS
  have kc := fun (w : World) (C : Array Value) (n c : Nat) => Lib.run_convert_bytes_const (P := Tryd.prog) w 32 5 C n c Tryd.underlying32 Tryd.underlying5
  go_wp2_with fail
  refine HS.out.mono ?_
  rintro e w5 ⟨rfl, rfl⟩
  have HF := hide (HT4.out.trans (HAl.out.mono HT4.out.size))
  clear HAl HT4 HTb HT3
  go_wp2_with fail
  go_ret
  exact ⟨rfl, HF.out⟩
end Go.Proofs.YtbjcbgomkhdmmaaDoor
