/-
  The walk of SchemaChecks.
-/
import Derived.Test.YtheeihdbeefkkaaDoorSAwake
import Derived.Test.YtheeihdbeefkkaaDoorSCheckR
import Derived.Test.YtheeihdbeefkkaaDoorSTypes
namespace Go.Proofs.YtheeihdbeefkkaaDoor.schemaChecks
open Go.RowKit

theorem small_len {cs : List (ByteArray × Int)} (h : smallB cs = true) : cs.length ≤ 40 := by unfold smallB at h; simp at h; exact h.2
theorem same_self (cs : List (ByteArray × Int)) : sameC cs cs = true := sameC_iff.2 rfl

/-- What the law's own loop holds of where the name stands. -/
def FoundK (cs : List (ByteArray × Int)) (s : ByteArray) (k : Nat) (a b : Value) : Prop :=
  (noneAhead cs s k ∧ a = .int .i64 0 ∧ b = .bool false) ∨ ∃ m : Nat, m < cs.length ∧ findK cs s = m ∧ a = .int .i64 m ∧ b = .bool true

set_option maxHeartbeats 1600000 in
set_option maxRecDepth 100000 in
theorem off1 (A : Option Addr) (cap : Nat) (cs : List (ByteArray × Int)) (s : ByteArray) (w : World) (hC : ColsAt w.heap.size w A cs) (hw : Wf cs) (hm : Mx w) (h : smallB cs = false) :
    Calls Tryd.prog 3 #[.slice A cs.length cap, .string s] w fun e w' => e = .returned (.bool true) ∧ Below w.heap.size w w' := by
  have HS := hide (small_any A cap cs w hC hw.1); have HB := hide h; have HM := hide hm
  clear hC hw hm h
  go_enter Tryd.func3, Tryd.ntmps3
  go_wp2_with fail
  refine HS.out.mono ?_
  rintro e w1 ⟨rfl, hb1⟩
  rw [HB.out]
  go_wp2_with (go_at_call 11; refine (awake_any _ (HM.out.stays hb1)).mono ?_; rintro e wa ⟨rfl, hba⟩)
  go_ret
  exact ⟨rfl, then_below hb1 hba⟩

set_option maxHeartbeats 1600000 in
set_option maxRecDepth 100000 in
theorem off2 (A : Option Addr) (cap : Nat) (cs : List (ByteArray × Int)) (s : ByteArray) (w : World) (hC : ColsAt w.heap.size w A cs) (hw : Wf cs) (hm : Mx w) (h : smallB cs = true) (hs : 100 < s.size) :
    Calls Tryd.prog 3 #[.slice A cs.length cap, .string s] w fun e w' => e = .returned (.bool true) ∧ Below w.heap.size w w' := by
  have HS := hide (small_any A cap cs w hC hw.1); have HB := hide h; have HM := hide hm
  clear hC hw hm h
  go_enter Tryd.func3, Tryd.ntmps3
  go_wp2_with fail
  refine HS.out.mono ?_
  rintro e w1 ⟨rfl, hb1⟩
  rw [HB.out]
  go_wp2_with (go_at_call 11; refine (awake_any _ (HM.out.stays hb1)).mono ?_; rintro e wa ⟨rfl, hba⟩)
  go_ret
  exact ⟨rfl, then_below hb1 hba⟩

set_option maxHeartbeats 3200000 in
set_option maxRecDepth 100000 in
theorem main (A : Option Addr) (cap : Nat) (cs : List (ByteArray × Int)) (s : ByteArray) (w : World) (hC : ColsAt w.heap.size w A cs) (hw : Wf cs) (hm : Mx w) (h : smallB cs = true) (hs : s.size ≤ 100) :
    Calls Tryd.prog 3 #[.slice A cs.length cap, .string s] w fun e w' => e = .returned (.bool true) ∧ Below w.heap.size w w' := by
  have hl := small_len h
  have hl2 : cs.length ≤ 65536 := by omega
  have HS := hide (small_any A cap cs w hC hw.1); have HB := hide h; have HM := hide hm; have HC := hide hC; have HW := hide hw
  have HEq := hide (same_self cs)
  clear hC hw hm h
  go_enter Tryd.func3, Tryd.ntmps3
  go_wp2_with fail
  refine HS.out.mono ?_
  rintro e w1 ⟨rfl, hb1⟩
  rw [HB.out]
  have HC1 := hide (HC.out.on hb1)
  go_wp2_with fail
  refine (check_any A cap cs _ HC1.out HW.out).mono ?_
  rintro e w2 ⟨rfl, hb2⟩
  have hq2 := then_below hb1 hb2
  have HC2 := hide (HC1.out.on hb2)
  go_wp2_with fail
  refine (ref_any A cap cs _ HC2.out hl2).mono ?_
  rintro e w3 ⟨⟨A3, cap3, rfl, hA3⟩, hb3⟩
  have HA3 := hide hA3; clear hA3
  have hq3 := then_below hq2 hb3
  go_wp2_with fail
  refine (refCheck_any A3 cap3 cs _ HA3.out HW.out).mono ?_
  rintro e w4 ⟨rfl, hb4⟩
  have hq4 := then_below hq3 hb4
  have HC4 := hide ((HC2.out.on hb3).on hb4)
  clear hb1 hb2 hb3 hb4 hq2 hq3
  go_wp2_with fail
  refine (name_any s _ (by unfold maxLen; omega)).mono ?_
  rintro e w' ⟨rfl, rfl⟩
  go_wp2_with fail
  refine (refName_any s _ (by unfold maxLen; omega)).mono ?_
  rintro e w' ⟨rfl, rfl⟩
  go_wp2_with fail
  refine (equal_any A A cap cap cs cs _ HC4.out HC4.out (by unfold maxLen; omega)).mono ?_
  rintro e w5 ⟨rfl, hb5⟩
  rw [HEq.out]
  have hq5 := then_below hq4 hb5
  clear hb5 hq4
  go_wp2_with fail
  go_loopw [5, 6, 43] (fun a b i wr => ∃ k : Nat, k ≤ cs.length ∧ i = .int .i64 k ∧ FoundK cs s k a b ∧ Below w.heap.size w wr) (fun _ _ i _ => cs.length - (intOf i).toNat)
  case atStart => exact ⟨0, Nat.zero_le _, rfl, .inl ⟨fun j h => by omega, rfl, rfl⟩, hq5⟩
  case round =>
    obtain ⟨k, hk, rfl, hf, hbw⟩ := hrel
    by_cases hlt : k < cs.length
    · obtain ⟨b, off, rfl, hb, h0, h1⟩ := HC.out.below hbw k hlt
      have HN := hide (fun h h' => noneAhead_succ (cs := cs) (s := s) (k := k) h h')
      have HF := hide (fun h h' => findK_at (cs := cs) (s := s) hlt h h')
      generalize cs.getD k (⟨#[]⟩, 0) = c at h0 h1 HN HF
      rcases hf with ⟨hn, rfl, rfl⟩ | ⟨m, hm, hfm, rfl, rfl⟩
      · have HNo := hide hn; clear hn
        cases he : c.1.toList == s.toList
        · have HE := hide he
          go_wp2
          go_roundw
          case rel => exact ⟨k + 1, by omega, by go_num, .inl ⟨HN.out HNo.out (by have := HE.out; rw [Lib.toList_data, Lib.toList_data] at this; simpa using this), rfl, rfl⟩, hbw.alloc hbw.size _⟩
          case measure => simp [intOf]; omega
        · have HE := hide he
          go_wp2
          go_roundw
          case rel => exact ⟨k + 1, by omega, by go_num, .inr ⟨k, hlt, HF.out HNo.out (by have := HE.out; rw [Lib.toList_data, Lib.toList_data] at this; simpa using this), rfl, rfl⟩, hbw.alloc hbw.size _⟩
          case measure => simp [intOf]; omega
      · have HFm := hide hfm; clear hfm
        go_wp2
        all_goals
          go_roundw
          case rel => exact ⟨k + 1, by omega, by go_num, .inr ⟨m, hm, HFm.out, rfl, rfl⟩, hbw.alloc hbw.size _⟩
          case measure => simp [intOf]; omega
    · obtain rfl : k = cs.length := by omega
      have hfv : ∃ x y, u5 = .int .i64 x ∧ u6 = .bool y ∧ foundV cs s = .tuple #[.int .i64 x, .bool y] := by
        rcases hf with ⟨hn, rfl, rfl⟩ | ⟨m, hm, hfm, rfl, rfl⟩
        · exact ⟨_, _, rfl, rfl, foundV_none (findK_none hn)⟩
        · exact ⟨_, _, rfl, rfl, foundV_at hm hfm⟩
      clear hf
      obtain ⟨x, y, rfl, rfl, hfv⟩ := hfv
      have HFV := hide hfv; clear hfv
      have HCr := hide ((HC.out.below hbw).mono hbw.size)
      go_wp2_with fail
      refine (find_any A cap cs s _ HCr.out (by unfold maxLen; omega)).mono ?_
      rintro e w6 ⟨rfl, hb6⟩
      rw [HFV.out]
      have HC6 := hide (HCr.out.on hb6)
      have hq6 := hbw.trans (hb6.mono hbw.size)
      clear hb6 hbw
      go_wp2_with fail
      refine (types_any A cap cs _ HC6.out hl2).mono ?_
      rintro e w7 ⟨⟨A7, c7, rfl, hI⟩, hb7⟩
      have HI := hide hI; clear hI
      have HC7 := hide (HC6.out.on hb7)
      have hq7 := hq6.trans (hb7.mono hq6.size)
      have HLI : Hid ((typesOf cs).length = cs.length) := hide (by unfold typesOf; rw [List.length_map])
      have HTy : Hid (∀ k, k < cs.length → (typesOf cs).getD k 0 = (cs.getD k (⟨#[]⟩, 0)).2) := hide (fun k hk => by
        unfold typesOf; rw [List.getD_eq_getElem?_getD, List.getElem?_map, List.getD_eq_getElem?_getD, List.getElem?_eq_getElem hk]; rfl)
      generalize typesOf cs = I at HI HLI HTy ⊢
      have hne : ((I.length : Int) != (cs.length : Int)) = false := by rw [bne_eq_false_iff_eq, HLI.out]
      have hle : I.length ≤ cs.length := by rw [HLI.out]; exact Nat.le_refl _
      clear hb7 hq6
      go_wp2_with fail
      obtain ⟨wo, hwo⟩ : ∃ wo : World, wo = wr := ⟨_, rfl⟩
      subst hwo
      go_loopw [73] (fun i wr => ∃ k : Nat, k ≤ I.length ∧ i = .int .i64 k ∧ Below w7.heap.size w7 wr) (fun i _ => I.length - (intOf i).toNat)
      case atStart => exact ⟨0, Nat.zero_le _, rfl, Below.refl _ _⟩
      case round =>
        obtain ⟨k, hk, rfl, hbw⟩ := hrel
        by_cases hlt2 : k < I.length
        · have hlt3 : k < cs.length := by omega
          obtain ⟨b, off, rfl, hb, h0, h1⟩ := HC7.out.below hbw k hlt3
          obtain ⟨b2, off2, rfl, hb2, g0⟩ := HI.out.below hbw k hlt2
          rw [HTy.out k hlt3] at g0
          generalize cs.getD k (⟨#[]⟩, 0) = c at h0 h1 g0
          go_wp2
          go_quiet (fail)
          go_wp2
          go_roundw
          case rel => exact ⟨k + 1, by omega, by go_num, below_drewN hbw _⟩
          case measure => simp [intOf]; omega
        · have hq8 := hq7.trans (hbw.mono hq7.size)
          go_wp2_with (go_at_call 11; refine (awake_any _ (HM.out.stays hq8)).mono ?_; rintro e wa ⟨rfl, hba⟩)
          go_ret
          exact ⟨rfl, hq8.trans (hba.mono hq8.size)⟩

theorem schemaChecks_walk (A : Option Addr) (cap : Nat) (cs : List (ByteArray × Int)) (s : ByteArray) (w : World) (hC : ColsAt w.heap.size w A cs) (hw : Wf cs) (_ : s.size ≤ maxLen) (hm : Mx w) :
    Calls Tryd.prog 3 #[.slice A cs.length cap, .string s] w fun e w' => e = .returned (.bool true) ∧ Below w.heap.size w w' := by
  cases h : smallB cs
  · exact off1 A cap cs s w hC hw hm h
  · by_cases hs : s.size ≤ 100
    · exact main A cap cs s w hC hw hm h hs
    · exact off2 A cap cs s w hC hw hm h (by omega)
end Go.Proofs.YtheeihdbeefkkaaDoor.schemaChecks
