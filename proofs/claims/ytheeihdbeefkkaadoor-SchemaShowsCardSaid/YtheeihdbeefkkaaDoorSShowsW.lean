/-
  The walk of SchemaShows.
-/
import Derived.Test.YtheeihdbeefkkaaDoorSBack
import Derived.Test.YtheeihdbeefkkaaDoorSAwake
import Derived.Test.YtheeihdbeefkkaaDoorSCheckR
namespace Go.Proofs.YtheeihdbeefkkaaDoor.schemaShows
open Go.RowKit

theorem small_len {cs : List (ByteArray × Int)} (h : smallB cs = true) : cs.length ≤ 40 := by unfold smallB at h; simp at h; exact h.2
theorem same_self (cs : List (ByteArray × Int)) : sameC cs cs = true := sameC_iff.2 rfl

abbrev Done (A : Option Addr) (c : Nat) (cs : List (ByteArray × Int)) (w : World) : Prop :=
  Calls Tryd.prog 5 #[.slice A cs.length c] w fun e w' => e = .returned (.bool true) ∧ Below w.heap.size w w'

set_option maxHeartbeats 1600000 in
set_option maxRecDepth 100000 in
theorem off1 (A : Option Addr) (c : Nat) (cs : List (ByteArray × Int)) (w : World) (hC : ColsAt w.heap.size w A cs) (hw : Wf cs) (hm : Mx w) (h : smallB cs = false) : Done A c cs w := by
  have HS := hide (small_any A c cs w hC hw.1); have HB := hide h; have HM := hide hm
  clear hC hw hm h
  go_enter Tryd.func5, Tryd.ntmps5
  go_wp2_with fail
  refine HS.out.mono ?_
  rintro e w1 ⟨rfl, hb1⟩
  rw [HB.out]
  go_wp2_with (go_at_call 11; refine (awake_any _ (HM.out.stays hb1)).mono ?_; rintro e wa ⟨rfl, hba⟩)
  go_ret
  exact ⟨rfl, then_below hb1 hba⟩

set_option maxHeartbeats 3200000 in
set_option maxRecDepth 100000 in
theorem bad (A : Option Addr) (c : Nat) (cs : List (ByteArray × Int)) (w : World) (hC : ColsAt w.heap.size w A cs) (hw : Wf cs) (hm : Mx w) (h : smallB cs = true) (hz : ¬ checkC cs = 0) : Done A c cs w := by
  have hl := small_len h
  have HS := hide (small_any A c cs w hC hw.1); have HB := hide h; have HM := hide hm; have HC := hide hC; have HW := hide hw; have HZ := hide hz
  have hk0 : (checkC cs != 0) = true := by rw [bne_iff_ne]; exact hz
  clear hC hw hm h hz
  go_enter Tryd.func5, Tryd.ntmps5
  go_wp2_with fail
  refine HS.out.mono ?_
  rintro e w1 ⟨rfl, hb1⟩
  rw [HB.out]
  have HC1 := hide (HC.out.on hb1)
  go_wp2_with fail
  refine (show_bad A c cs _ HC1.out HW.out HZ.out).mono ?_
  rintro e w2 ⟨rfl, hb2⟩
  have HC2 := hide (HC1.out.on hb2)
  have hq2 := then_below hb1 hb2
  clear hb1 hb2
  go_wp2_with fail
  refine (ref_any A c cs _ HC2.out (by omega)).mono ?_
  rintro e w3 ⟨⟨A3, c3, rfl, hA3⟩, hb3⟩
  have HA3 := hide hA3
  have hq3 := then_below hq2 hb3
  clear hA3 hb3
  go_wp2_with fail
  refine (refCheck_any A3 c3 cs _ HA3.out HW.out).mono ?_
  rintro e w4 ⟨rfl, hb4⟩
  have hq4 := then_below hq3 hb4
  clear hb4
  go_wp2_with (go_at_call 11; refine (awake_any _ (HM.out.stays hq4)).mono ?_; rintro e wa ⟨rfl, hba⟩)
  go_ret
  exact ⟨rfl, then_below hq4 hba⟩

set_option maxHeartbeats 3200000 in
set_option maxRecDepth 100000 in
theorem good (A : Option Addr) (c : Nat) (cs : List (ByteArray × Int)) (w : World) (hC : ColsAt w.heap.size w A cs) (hw : Wf cs) (hm : Mx w) (h : smallB cs = true) (hz : checkC cs = 0) : Done A c cs w := by
  have hl := small_len h
  have HS := hide (small_any A c cs w hC hw.1); have HB := hide h; have HM := hide hm; have HC := hide hC; have HW := hide hw; have HZ := hide hz
  have HN := hide (check_names hz)
  have hsz : (⟨(showC cs).toArray⟩ : ByteArray).size < 4294967281 := by
    rw [size_of]
    have := showK_len HN.out cs.length
    unfold showC
    rw [List.length_append]; simp only [List.length_cons, List.length_nil]; omega
  have HPa := hide (fun w hm => parse_any ⟨(showC cs).toArray⟩ w hsz hm)
  unfold ParseR at HPa
  rw [parsed_show hz] at HPa
  have HSh := hide (fun w' hc => show_good A c cs w' hc hw hz)
  have HRs := hide (fun A3 c3 w' hc => refShow_any A3 c3 cs w' hc (by omega) HN.out)
  have HEq := hide (same_self cs)
  generalize showC cs = txt at HPa HSh HRs
  clear hC hw hm h hz hsz
  go_enter Tryd.func5, Tryd.ntmps5
  go_wp2_with fail
  refine HS.out.mono ?_
  rintro e w1 ⟨rfl, hb1⟩
  rw [HB.out]
  have HC1 := hide (HC.out.on hb1)
  go_wp2_with fail
  refine (HSh.out _ HC1.out).mono ?_
  rintro e w2 ⟨rfl, hb2⟩
  have HC2 := hide (HC1.out.on hb2)
  have hq2 := then_below hb1 hb2
  clear hb1 hb2
  go_wp2_with fail
  refine (ref_any A c cs _ HC2.out (by omega)).mono ?_
  rintro e w3 ⟨⟨A3, c3, rfl, hA3⟩, hb3⟩
  have HA3 := hide hA3
  have hq3 := then_below hq2 hb3
  have HC3 := hide (HC2.out.on hb3)
  clear hA3 hb3
  go_wp2_with fail
  refine (refCheck_any A3 c3 cs _ HA3.out HW.out).mono ?_
  rintro e w4 ⟨rfl, hb4⟩
  rw [HZ.out]
  have hq4 := then_below hq3 hb4
  have HC4 := hide (HC3.out.on hb4)
  clear hb4
  go_wp2_with fail
  refine (HPa.out _ (HM.out.stays hq4)).mono ?_
  rintro e w5 ⟨⟨A5, c5, rfl, hA5⟩, hb5⟩
  have HA5 := hide hA5
  have hq5 := then_below hq4 hb5
  have HC5 := hide (HC4.out.on hb5)
  clear hA5 hb5
  go_wp2_with fail
  refine (ref_any A c cs _ HC5.out (by omega)).mono ?_
  rintro e w6 ⟨⟨A6, c6, rfl, hA6⟩, hb6⟩
  have HA6 := hide hA6
  have hq6 := then_below hq5 hb6
  have HC6 := hide (HC5.out.on hb6); have HA56 := hide (HA5.out.on hb6)
  clear hA6 hb6
  go_wp2_with fail
  refine (HRs.out A6 c6 _ HA6.out).mono ?_
  rintro e w7 ⟨rfl, hb7⟩
  have hq7 := then_below hq6 hb7
  have HC7 := hide (HC6.out.on hb7); have HA7 := hide (HA56.out.on hb7)
  clear hb7
  go_wp2_with fail
  refine (equal_any A5 A c5 c cs cs _ HA7.out HC7.out (by unfold maxLen; omega)).mono ?_
  rintro e w8 ⟨rfl, hb8⟩
  rw [HEq.out]
  have hq8 := then_below hq7 hb8
  clear hb8
  go_wp2_with (go_at_call 11; refine (awake_any _ (HM.out.stays hq8)).mono ?_; rintro e wa ⟨rfl, hba⟩)
  go_ret
  exact ⟨rfl, then_below hq8 hba⟩

theorem schemaShows_walk (A : Option Addr) (c : Nat) (cs : List (ByteArray × Int)) (w : World) (hC : ColsAt w.heap.size w A cs) (hw : Wf cs) (hm : Mx w) : Done A c cs w := by
  cases h : smallB cs
  · exact off1 A c cs w hC hw hm h
  · by_cases hz : checkC cs = 0
    · exact good A c cs w hC hw hm h hz
    · exact bad A c cs w hC hw hm h hz
end Go.Proofs.YtheeihdbeefkkaaDoor.schemaShows
