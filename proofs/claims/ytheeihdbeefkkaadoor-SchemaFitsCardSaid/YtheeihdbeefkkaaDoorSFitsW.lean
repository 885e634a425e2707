/-
  The walk of SchemaFits.
-/
import Derived.Test.YtheeihdbeefkkaaDoorSAwake
import Derived.Test.YtheeihdbeefkkaaDoorSCheckR
import Derived.Test.YtheeihdbeefkkaaDoorSFits
namespace Go.Proofs.YtheeihdbeefkkaaDoor.schemaFits
open Go.RowKit

theorem small_len {cs : List (ByteArray × Int)} (h : smallB cs = true) : cs.length ≤ 40 := by unfold smallB at h; simp at h; exact h.2
theorem smallR_len {vs : List (Int × Int × ByteArray)} (h : smallR vs = true) : vs.length ≤ 40 := by unfold smallR at h; simp at h; exact h.2

abbrev Done (A B : Option Addr) (c d : Nat) (cs : List (ByteArray × Int)) (vs : List (Int × Int × ByteArray)) (w : World) : Prop :=
  Calls Tryd.prog 4 #[.slice A cs.length c, .slice B vs.length d] w fun e w' => e = .returned (.bool true) ∧ Below w.heap.size w w'

set_option maxHeartbeats 1600000 in
set_option maxRecDepth 100000 in
theorem off1 (A B : Option Addr) (c d : Nat) (cs : List (ByteArray × Int)) (vs : List (Int × Int × ByteArray)) (w : World) (hC : ColsAt w.heap.size w A cs) (hw : Wf cs) (hm : Mx w) (h : smallB cs = false) : Done A B c d cs vs w := by
  have HS := hide (small_any A c cs w hC hw.1); have HB := hide h; have HM := hide hm
  clear hC hw hm h
  go_enter Tryd.func4, Tryd.ntmps4
  go_wp2_with fail
  refine HS.out.mono ?_
  rintro e w1 ⟨rfl, hb1⟩
  rw [HB.out]
  go_wp2_with (go_at_call 11; refine (awake_any _ (HM.out.stays hb1)).mono ?_; rintro e wa ⟨rfl, hba⟩)
  go_ret
  exact ⟨rfl, then_below hb1 hba⟩

set_option maxHeartbeats 1600000 in
set_option maxRecDepth 100000 in
theorem off2 (A B : Option Addr) (c d : Nat) (cs : List (ByteArray × Int)) (vs : List (Int × Int × ByteArray)) (w : World) (hC : ColsAt w.heap.size w A cs) (hR : RowAt w.heap.size w B vs) (hw : Wf cs) (hv : WfR vs) (hm : Mx w) (h : smallB cs = true) (h2 : smallR vs = false) : Done A B c d cs vs w := by
  have HS := hide (small_any A c cs w hC hw.1); have HB := hide h; have HM := hide hm; have HR := hide hR; have HB2 := hide h2; have HV := hide hv
  clear hC hw hm h hR h2 hv
  go_enter Tryd.func4, Tryd.ntmps4
  go_wp2_with fail
  refine HS.out.mono ?_
  rintro e w1 ⟨rfl, hb1⟩
  rw [HB.out]
  go_wp2_with fail
  refine (smallRow_any B d vs _ (HR.out.on hb1) HV.out.1).mono ?_
  rintro e w2 ⟨rfl, hb2⟩
  rw [HB2.out]
  have hq2 := then_below hb1 hb2
  go_wp2_with (go_at_call 11; refine (awake_any _ (HM.out.stays hq2)).mono ?_; rintro e wa ⟨rfl, hba⟩)
  go_ret
  exact ⟨rfl, then_below hq2 hba⟩

set_option maxHeartbeats 3200000 in
set_option maxRecDepth 100000 in
theorem main (A B : Option Addr) (c d : Nat) (cs : List (ByteArray × Int)) (vs : List (Int × Int × ByteArray)) (w : World) (hC : ColsAt w.heap.size w A cs) (hR : RowAt w.heap.size w B vs) (hw : Wf cs) (hv : WfR vs) (hm : Mx w)
    (h : smallB cs = true) (h2 : smallR vs = true) : Done A B c d cs vs w := by
  have hl := small_len h
  have hl2 := smallR_len h2
  have HS := hide (small_any A c cs w hC hw.1); have HB := hide h; have HM := hide hm; have HC := hide hC; have HW := hide hw; have HR := hide hR; have HB2 := hide h2; have HV := hide hv
  clear hC hw hm h hR h2 hv
  go_enter Tryd.func4, Tryd.ntmps4
  go_wp2_with fail
  refine HS.out.mono ?_
  rintro e w1 ⟨rfl, hb1⟩
  rw [HB.out]
  go_wp2_with fail
  refine (smallRow_any B d vs _ (HR.out.on hb1) HV.out.1).mono ?_
  rintro e w2 ⟨rfl, hb2⟩
  rw [HB2.out]
  have hq2 := then_below hb1 hb2
  have HC2 := hide (HC.out.on hq2); have HR2 := hide (HR.out.on hq2)
  clear hb1 hb2
  go_wp2_with fail
  refine (ref_any A c cs _ HC2.out (by omega)).mono ?_
  rintro e w3 ⟨⟨A3, c3, rfl, hA3⟩, hb3⟩
  have HA3 := hide hA3
  have hq3 := then_below hq2 hb3
  have HC3 := hide (HC2.out.on hb3); have HR3 := hide (HR2.out.on hb3)
  clear hA3 hb3
  go_wp2_with fail
  refine (fits_any A B c d cs vs _ HC3.out HR3.out HW.out HV.out).mono ?_
  rintro e w4 ⟨rfl, hb4⟩
  have hq4 := then_below hq3 hb4
  have HA4 := hide (HA3.out.on hb4); have HR4 := hide (HR3.out.on hb4)
  clear hb4
  go_wp2_with fail
  refine (refCheck_any A3 c3 cs _ HA4.out HW.out).mono ?_
  rintro e w5 ⟨rfl, hb5⟩
  have hq5 := then_below hq4 hb5
  have HA5 := hide (HA4.out.on hb5); have HR5 := hide (HR4.out.on hb5)
  clear hb5
  by_cases hz : checkC cs = 0
  · have hk0 : (checkC cs == 0) = true := by rw [beq_iff_eq]; exact hz
    have HF := hide (show fitsB cs vs = rowFits cs vs by unfold fitsB; rw [hz]; simp)
    have HK := hide hk0
    clear hz hk0
    rw [HF.out]
    generalize checkC cs = x at HK ⊢
    obtain rfl : x = 0 := by simpa using HK.out
    go_wp2_with fail
    refine (refRow_any B d vs _ HR5.out (by omega)).mono ?_
    rintro e w6 ⟨⟨B6, c6, rfl, hB6⟩, hb6⟩
    have HB6 := hide hB6
    have hq6 := then_below hq5 hb6
    have HA6 := hide (HA5.out.on hb6)
    clear hB6 hb6
    go_wp2_with fail
    refine (refFits_any A3 B6 c3 c6 cs vs _ HA6.out HB6.out HW.out HV.out).mono ?_
    rintro e w7 ⟨rfl, hb7⟩
    have hq7 := then_below hq6 hb7
    clear hb7
    go_wp2_with (go_at_call 11; refine (awake_any _ (HM.out.stays hq7)).mono ?_; rintro e wa ⟨rfl, hba⟩)
    go_ret
    exact ⟨rfl, then_below hq7 hba⟩
  · have hk0 : (checkC cs == 0) = false := by rw [beq_eq_false_iff_ne]; exact hz
    have HF := hide (show fitsB cs vs = false by unfold fitsB; simp [hz])
    clear hz
    rw [HF.out]
    go_wp2_with (go_at_call 11; refine (awake_any _ (HM.out.stays hq5)).mono ?_; rintro e wa ⟨rfl, hba⟩)
    go_ret
    exact ⟨rfl, then_below hq5 hba⟩

theorem schemaFits_walk (A : Option Addr) (c : Nat) (cs : List (ByteArray × Int)) (B : Option Addr) (d : Nat) (vs : List (Int × Int × ByteArray)) (w : World) (hC : ColsAt w.heap.size w A cs) (hw : Wf cs)
    (hR : RowAt w.heap.size w B vs) (hv : WfR vs) (hm : Mx w) : Done A B c d cs vs w := by
  cases h : smallB cs
  · exact off1 A B c d cs vs w hC hw hm h
  · cases h2 : smallR vs
    · exact off2 A B c d cs vs w hC hR hw hv hm h h2
    · exact main A B c d cs vs w hC hR hw hv hm h h2
end Go.Proofs.YtheeihdbeefkkaaDoor.schemaFits
