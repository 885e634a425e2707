/-
  The walk of SchemaPicks.
-/
import Derived.Test.YtheeihdbeefkkaaDoorSAwake
import Derived.Test.YtheeihdbeefkkaaDoorSCheckR
namespace Go.Proofs.YtheeihdbeefkkaaDoor.schemaPicks
open Go.RowKit

theorem small_len {cs : List (ByteArray × Int)} (h : smallB cs = true) : cs.length ≤ 40 := by unfold smallB at h; simp at h; exact h.2
theorem same_self (cs : List (ByteArray × Int)) : sameC cs cs = true := sameC_iff.2 rfl

abbrev Done (A B : Option Addr) (c d : Nat) (cs : List (ByteArray × Int)) (ns : List ByteArray) (w : World) : Prop :=
  Calls Tryd.prog 8 #[.slice A cs.length c, .slice B ns.length d] w fun e w' => e = .returned (.bool true) ∧ Below w.heap.size w w'

/-- What the law's own search from the end has found among the columns from m on. -/
def Back (cs : List (ByteArray × Int)) (s : ByteArray) (m : Nat) (v : Value) : Prop :=
  ((∀ j, m ≤ j → j < cs.length → ¬ (cs.getD j (⟨#[]⟩, 0)).1.data.toList = s.data.toList) ∧ v = .int .i64 (-1)) ∨
  ∃ j, m ≤ j ∧ j < cs.length ∧ (cs.getD j (⟨#[]⟩, 0)).1.data.toList = s.data.toList ∧ (∀ i, m ≤ i → i < j → ¬ (cs.getD i (⟨#[]⟩, 0)).1.data.toList = s.data.toList) ∧ v = .int .i64 (j : Nat)
theorem Back.start (cs : List (ByteArray × Int)) (s : ByteArray) : Back cs s cs.length (.int .i64 (-1)) := .inl ⟨fun j h1 h2 => by omega, rfl⟩
theorem Back.hit {cs : List (ByteArray × Int)} {s : ByteArray} {k : Nat} (hk : k < cs.length) (h : (cs.getD k (⟨#[]⟩, 0)).1.data.toList = s.data.toList) : Back cs s k (.int .i64 (k : Nat)) :=
  .inr ⟨k, Nat.le_refl _, hk, h, fun i h1 h2 => by omega, rfl⟩
theorem Back.miss {cs : List (ByteArray × Int)} {s : ByteArray} {k : Nat} {v : Value} (hb : Back cs s (k + 1) v) (h : ¬ (cs.getD k (⟨#[]⟩, 0)).1.data.toList = s.data.toList) : Back cs s k v := by
  rcases hb with ⟨hn, hv⟩ | ⟨j, h1, h2, h3, h4, hv⟩
  · refine .inl ⟨fun j hj hl => ?_, hv⟩
    by_cases e : j = k
    · subst e; exact h
    · exact hn j (by omega) hl
  · refine .inr ⟨j, by omega, h2, h3, fun i hi hl => ?_, hv⟩
    by_cases e : i = k
    · subst e; exact h
    · exact h4 i (by omega) hl
theorem Back.done {cs : List (ByteArray × Int)} {s : ByteArray} {v : Value} (hb : Back cs s 0 v) : (¬ findK cs s < cs.length ∧ v = .int .i64 (-1)) ∨ (findK cs s < cs.length ∧ v = .int .i64 (findK cs s : Nat)) := by
  rcases hb with ⟨hn, hv⟩ | ⟨j, h1, h2, h3, h4, hv⟩
  · refine .inl ⟨?_, hv⟩
    rw [findK_none (fun j hj => hn j (by omega) hj)]; omega
  · have := findK_at h2 (fun i hi => h4 i (by omega) hi) h3
    exact .inr ⟨by omega, by rw [this]; exact hv⟩

set_option maxHeartbeats 1600000 in
set_option maxRecDepth 100000 in
theorem off1 (A B : Option Addr) (c d : Nat) (cs : List (ByteArray × Int)) (ns : List ByteArray) (w : World) (hC : ColsAt w.heap.size w A cs) (hw : Wf cs) (hm : Mx w) (h : smallB cs = false) : Done A B c d cs ns w := by
  have HS := hide (small_any A c cs w hC hw.1); have HB := hide h; have HM := hide hm
  clear hC hw hm h
  go_enter Tryd.func8, Tryd.ntmps8
  go_wp2_with fail
  refine HS.out.mono ?_
  rintro e w1 ⟨rfl, hb1⟩
  rw [HB.out]
  go_wp2_with (go_at_call 11; refine (awake_any _ (HM.out.stays hb1)).mono ?_; rintro e wa ⟨rfl, hba⟩)
  go_ret
  exact ⟨rfl, then_below hb1 hba⟩

set_option maxHeartbeats 1600000 in
set_option maxRecDepth 100000 in
theorem off2 (A B : Option Addr) (c d : Nat) (cs : List (ByteArray × Int)) (ns : List ByteArray) (w : World) (hC : ColsAt w.heap.size w A cs) (hw : Wf cs) (hm : Mx w) (h : smallB cs = true) (h2 : 40 < ns.length) (h63 : ns.length ≤ 2 ^ 63 - 1) : Done A B c d cs ns w := by
  have HS := hide (small_any A c cs w hC hw.1); have HB := hide h; have HM := hide hm
  clear hC hw hm h
  go_enter Tryd.func8, Tryd.ntmps8
  go_wp2_with fail
  refine HS.out.mono ?_
  rintro e w1 ⟨rfl, hb1⟩
  rw [HB.out]
  go_wp2_with (go_at_call 11; refine (awake_any _ (HM.out.stays hb1)).mono ?_; rintro e wa ⟨rfl, hba⟩)
  go_ret
  exact ⟨rfl, then_below hb1 hba⟩

set_option maxHeartbeats 6400000 in
set_option maxRecDepth 100000 in
theorem main (A B : Option Addr) (c d : Nat) (cs : List (ByteArray × Int)) (ns : List ByteArray) (w : World) (hC : ColsAt w.heap.size w A cs) (hw : Wf cs) (hS : StrsAt w.heap.size w B ns) (hm : Mx w) (h : smallB cs = true) (h2 : ns.length ≤ 40) : Done A B c d cs ns w := by
  have hl := small_len h
  have HS := hide (small_any A c cs w hC hw.1); have HB := hide h; have HM := hide hm; have HC := hide hC; have HW := hide hw; have HN := hide hS
  obtain ⟨i0, hi, hz0, hz1, hz2⟩ := info_parts col_info
  obtain ⟨i1, hi', hy0, hy1, hy2⟩ := info_parts int_info
  have HLL : Hid ((pickL cs ns).length = ns.length) := hide (by unfold pickL; rw [List.length_map])
  have HLI : Hid ((pickI cs ns).length = ns.length) := hide (by unfold pickI; rw [List.length_map])
  have HPk := hide (fun w' (hb : Below w.heap.size w w') => pick_any A B c d cs ns w' ((HC.out.below hb).mono hb.size) ((HN.out.below hb).mono hb.size) HW.out (by omega) (by omega))
  unfold PickV at HPk
  clear hC hw hm h hS
  go_enter Tryd.func8, Tryd.ntmps8
  go_wp2_with fail
  refine HS.out.mono ?_
  rintro e w1 ⟨rfl, hb1⟩
  rw [HB.out]
  go_wp2_with fail
  go_loopw [5, 6, 30] (fun v u i wr => ∃ k : Nat, k ≤ ns.length ∧ i = .int .i64 k ∧ preF cs ns k ∧ wr.ownsRow w.heap.size 33 2 v k (colCells ((pickL cs ns).take k)) ∧ wr.ownsRow w.heap.size 3 1 u k (intCells ((pickI cs ns).take k)) ∧
      (∀ g, v.ownBlock = some g → ¬ u.ownBlock = some g) ∧ Below w.heap.size w wr) (fun _ _ i _ => ns.length - (intOf i).toNat)
  case atStart => exact ⟨0, Nat.zero_le _, rfl, fun j h => by omega, World.ownsRow_nil _ _ _ _, World.ownsRow_nil _ _ _ _, fun g h => by simp [Value.ownBlock] at h, hb1⟩
  case round =>
    obtain ⟨k, hk, rfl, hf, hrow, hrow2, hap, hbw⟩ := hrel
    have HF := hide hf; have HAP := hide hap; clear hf hap
    have hs1 := hbw.size
    by_cases hlt : k < ns.length
    · obtain ⟨b, off, rfl, hb, c0⟩ := HN.out.below hbw k hlt
      have HTL := hide (pickL_take (cs := cs) hlt)
      have HTI := hide (pickI_take (cs := cs) hlt)
      have HNo := hide (fun h => pickE_not (cs := cs) hlt h)
      have HYes := hide (fun h => preF_succ HF.out h)
      generalize ns.getD k ⟨#[]⟩ = nm at c0 HTL HTI HNo HYes
      by_cases h100 : 100 < nm.size
      · go_wp2_with (go_at_call 11; refine (awake_any _ (HM.out.stays hbw)).mono ?_; rintro e wa ⟨rfl, hba⟩)
        go_ret
        exact ⟨rfl, hbw.trans (hba.mono hs1)⟩
      · go_wp2
        obtain ⟨wo, hwo⟩ : ∃ wo : World, wo = wr := ⟨_, rfl⟩
        subst hwo
        go_loop [9, 10] (fun v i => ∃ m : Nat, m ≤ cs.length ∧ i = .int .i64 ((m : Int) - 1) ∧ Back cs nm m v) (fun _ i => (intOf i + 1).toNat)
        case atStart => exact ⟨cs.length, Nat.le_refl _, rfl, Back.start _ _⟩
        case round =>
          obtain ⟨m, hm, rfl, hbk⟩ := hrel
          have HBK := hide hbk; clear hbk
          rcases m with _ | m
          · rw [show ((0 : Nat) : Int) - 1 = -1 by omega]
            rcases HBK.out.done with ⟨hnf, rfl⟩ | ⟨hfk, rfl⟩
            · have HE := hide (HNo.out hnf)
              clear hnf
              go_wp2_with fail
              refine (HPk.out _ hbw).mono ?_
              rintro e w2 ⟨he, hb2⟩
              rw [HE.out, if_neg (by decide)] at he
              subst he
              have hq := hbw.trans (hb2.mono hs1)
              go_wp2_with (go_at_call 11; refine (awake_any _ (HM.out.stays hq)).mono ?_; rintro e wa ⟨rfl, hba⟩)
              go_ret
              exact ⟨rfl, hq.trans (hba.mono hq.size)⟩
            · have HY := hide (HYes.out hfk)
              obtain ⟨b', off', rfl, hb', d0, d1⟩ := HC.out.below hbw (findK cs nm) hfk
              generalize cs.getD (findK cs nm) (⟨#[]⟩, 0) = q at d0 d1 HTL
              generalize findK cs nm = f at *
              go_wp2_with (at_builtin; go_must (refine wpList_append_own_at _ rfl _ _ 23 rfl w.heap.size 33 i0 (.agg #[.string ⟨#[]⟩, .int .i64 0]) 2 24 Tryd.underlying23 hi hz0 hz1 hz2 rfl (by decide) _ _ _ rfl (hrow.alloc _) ⟨wo.heap.size, 0, none⟩ 1 1 [.string q.1, .int .i64 q.2] rfl rfl (col_new _ _ q _ (by simp)) (col_one q) (by unfold maxLen; omega) (by omega) (by simp; omega) ?_))
              intro v1 w3 hown3 hgrow3 _ hat3
              have r3 := (hrow2.alloc (.cells #[.string q.1, .int .i64 q.2] 33)).kept hgrow3 (by
                rcases hu : u6.ownBlock with _ | g
                · exact .inl rfl
                · exact .inr (fun e => HAP.out g e.symm hu))
              have hs3 := hgrow3.size
              simp at hs3
              have HG3 := hide hgrow3; have HAT3 := hide hat3; have HO3 := hide hown3
              clear hgrow3 hat3 hown3
              go_wp2_with (at_builtin; go_must (refine wpList_append_own_at _ rfl _ _ 36 rfl w.heap.size 3 i1 (.int .i64 0) 1 8 Tryd.underlying36 hi' hy0 hy1 hy2 rfl (by decide) _ _ _ rfl (r3.alloc _) ⟨w3.heap.size, 0, none⟩ 1 1 [.int .i64 f] rfl rfl (int_new _ _ _ _ (by simp)) (int_one _) (by unfold maxLen; omega) (by omega) (by simp; omega) ?_))
              intro v2 w4 hown4 hgrow4 _ hat4
              have hs4 := hgrow4.size
              simp at hs4
              have r5 := (HO3.out.alloc (.cells #[.int .i64 f] 3)).kept hgrow4 (by
                rcases hu : v1.ownBlock with _ | g
                · exact .inl rfl
                · refine .inr (fun e => ?_)
                  rcases HAT3.out with h | h
                  · exact HAP.out g (h.symm.trans hu) e.symm
                  · have := (hrow2.lt g e.symm).2; rw [hu] at h; injection h with h; omega)
              have HG4 := hide hgrow4; have HAT4 := hide hat4; have HO4 := hide hown4; have HR5 := hide r5
              clear hgrow4 hat4 hown4 r5
              go_wp2
              go_roundw
              case rel =>
                refine ⟨k + 1, by omega, by go_num, HY.out, ?_, ?_, ?_, ?_⟩
                · rw [HTL.out]; exact HR5.out
                · rw [HTI.out]; exact HO4.out
                · exact apart_step HAP.out (fun g hg => Nat.lt_of_lt_of_le (hrow2.lt g hg).2 (by omega : wo.heap.size ≤ wo.heap.size + 1)) (fun g hg => Nat.lt_of_lt_of_le (HO3.out.lt g hg).2 (by omega : w3.heap.size ≤ w3.heap.size + 1)) HAT3.out HAT4.out
                · exact (((hbw.alloc hs1 _).grown HG3.out (by simp; omega) (fun j hj => (hrow.lt j hj).1)).alloc (by omega) _).grown HG4.out (by simp; omega) (fun j hj => (hrow2.lt j hj).1)
              case measure => simp [intOf]; omega
          · rw [show ((m + 1 : Nat) : Int) - 1 = (m : Int) by omega]
            obtain ⟨b', off', rfl, hb', d0, d1⟩ := HC.out.below hbw m (by omega)
            have HH := hide (fun h => Back.hit (cs := cs) (s := nm) (k := m) (by omega) h)
            have HMi := hide (fun h => HBK.out.miss h)
            generalize cs.getD m (⟨#[]⟩, 0) = q at d0 d1 HH HMi
            cases he : q.1.toList == nm.toList
            · have HE := hide he
              go_wp2
              go_round
              case rel => exact ⟨m, by omega, by go_num, HMi.out (by have := HE.out; rw [Lib.toList_data, Lib.toList_data] at this; simpa using this)⟩
              case measure => simp [intOf]
            · have HE := hide he
              go_wp2
              go_round
              case rel => exact ⟨m, by omega, by go_num, HH.out (by have := HE.out; rw [Lib.toList_data, Lib.toList_data] at this; simpa using this)⟩
              case measure => simp [intOf]
    · obtain rfl : k = ns.length := by omega
      have hwf := pickL_wf HW.out (foundAll_of HF.out) (by unfold maxLen; omega)
      have HE := hide (show pickE cs ns = checkC (pickL cs ns) by unfold pickE; rw [if_pos (foundAll_of HF.out)])
      generalize pickL cs ns = L at hrow HLL HE HPk hwf
      generalize pickI cs ns = I at hrow2 HLI HPk
      generalize pickE cs ns = E at HE HPk
      rw [← HLL.out, List.take_length] at hrow
      rw [← HLI.out, List.take_length] at hrow2
      obtain ⟨A1, c1, rfl, hA⟩ := cols_of_row hrow
      obtain ⟨A2, c2, rfl, hI⟩ := ints_of_row hrow2
      have HA := hide hA; have HI := hide hI; have HWL := hide hwf
      have hlL : L.length ≤ 40 := by rw [HLL.out]; exact h2
      have hlI : I.length ≤ 40 := by rw [HLI.out]; exact h2
      have HEq := hide (same_self L)
      clear hrow hrow2 hA hI hwf
      by_cases hz : checkC L = 0
      · have HZ := hide hz
        have HE0 := hide (show E = 0 by rw [HE.out, hz])
        clear hz
        go_wp2_with fail
        refine (HPk.out _ hbw).mono ?_
        rintro e w2 ⟨he, hb2⟩
        rw [if_pos HE0.out] at he
        obtain ⟨A3, c3, A4, c4, rfl, hA3, hI4⟩ := he
        have HA3 := hide hA3; have HI4 := hide hI4
        have HA2 := hide (HA.out.on hb2); have HI2 := hide ((HI.out.below hb2).mono hb2.size)
        have hq2 := hbw.trans (hb2.mono hs1)
        clear hA3 hI4 hb2
        go_wp2_with fail
        refine (ref_any A1 c1 L _ HA2.out (by omega)).mono ?_
        rintro e w3 ⟨⟨A5, c5, rfl, hA5⟩, hb3⟩
        have HA5 := hide hA5
        have hq3 := hq2.trans (hb3.mono hq2.size)
        clear hA5
        go_wp2_with fail
        refine (refCheck_any A5 c5 L _ HA5.out HWL.out).mono ?_
        rintro e w4 ⟨rfl, hb4⟩
        rw [HZ.out]
        have hq4 := hq3.trans (hb4.mono hq3.size)
        have HA4 := hide ((HA2.out.on hb3).on hb4); have HP4 := hide ((HA3.out.on hb3).on hb4)
        have HI6 := hide ((HI2.out.below hb3).mono hb3.size); have HI7 := hide ((HI4.out.below hb3).mono hb3.size)
        have HI8 := hide ((HI6.out.below hb4).mono hb4.size); have HI9 := hide ((HI7.out.below hb4).mono hb4.size)
        clear hb3 hb4 HI6 HI7
        go_wp2_with fail
        refine (equal_any A3 A1 c3 c1 L L _ HP4.out HA4.out (by unfold maxLen; omega)).mono ?_
        rintro e w5 ⟨rfl, hb5⟩
        rw [HEq.out]
        have hq5 := hq4.trans (hb5.mono hq4.size)
        have HI10 := hide ((HI8.out.below hb5).mono hb5.size); have HI11 := hide ((HI9.out.below hb5).mono hb5.size)
        clear hb5
        go_wp2_with fail
        obtain ⟨wo, hwo⟩ : ∃ wo : World, wo = wr := ⟨_, rfl⟩
        subst hwo
        go_loopw [134] (fun i wr => ∃ k : Nat, k ≤ I.length ∧ i = .int .i64 k ∧ Below w5.heap.size w5 wr) (fun i _ => I.length - (intOf i).toNat)
        case atStart => exact ⟨0, Nat.zero_le _, rfl, Below.refl _ _⟩
        case round =>
          obtain ⟨k, hk, rfl, hbw6⟩ := hrel
          by_cases hlt2 : k < I.length
          · obtain ⟨b3, off3, rfl, hb3, d3⟩ := HI10.out.below hbw6 k hlt2
            obtain ⟨b4, off4, rfl, hb4, d4⟩ := HI11.out.below hbw6 k hlt2
            generalize I.getD k 0 = z at d3 d4
            go_wp2
            go_quiet (fail)
            go_wp2
            go_roundw
            case rel => exact ⟨k + 1, by omega, by go_num, below_drewN hbw6 _⟩
            case measure => simp [intOf]; omega
          · have hq6 := hq5.trans (hbw6.mono hq5.size)
            go_wp2_with (go_at_call 11; refine (awake_any _ (HM.out.stays hq6)).mono ?_; rintro e wa ⟨rfl, hba⟩)
            go_ret
            exact ⟨rfl, hq6.trans (hba.mono hq6.size)⟩
      · have hk0 : (checkC L != 0) = true := by rw [bne_iff_ne]; exact hz
        have HE0 := hide (show ¬ E = 0 by rw [HE.out]; exact hz)
        clear hz
        go_wp2_with fail
        refine (HPk.out _ hbw).mono ?_
        rintro e w2 ⟨he, hb2⟩
        rw [if_neg HE0.out, HE.out] at he
        subst he
        have HA2 := hide (HA.out.on hb2)
        have hq2 := hbw.trans (hb2.mono hs1)
        clear hb2
        go_wp2_with fail
        refine (ref_any A1 c1 L _ HA2.out (by omega)).mono ?_
        rintro e w3 ⟨⟨A5, c5, rfl, hA5⟩, hb3⟩
        have HA5 := hide hA5
        have hq3 := hq2.trans (hb3.mono hq2.size)
        clear hA5 hb3
        go_wp2_with fail
        refine (refCheck_any A5 c5 L _ HA5.out HWL.out).mono ?_
        rintro e w4 ⟨rfl, hb4⟩
        have hq4 := hq3.trans (hb4.mono hq3.size)
        clear hb4
        go_wp2_with (go_at_call 11; refine (awake_any _ (HM.out.stays hq4)).mono ?_; rintro e wa ⟨rfl, hba⟩)
        go_ret
        exact ⟨rfl, hq4.trans (hba.mono hq4.size)⟩

theorem schemaPicks_walk (A : Option Addr) (c : Nat) (cs : List (ByteArray × Int)) (B : Option Addr) (d : Nat) (ns : List ByteArray) (w : World) (hC : ColsAt w.heap.size w A cs) (hw : Wf cs)
    (hS : StrsAt w.heap.size w B ns) (hn : ns.length ≤ maxLen) (hm : Mx w) : Done A B c d cs ns w := by
  unfold maxLen at hn
  cases h : smallB cs
  · exact off1 A B c d cs ns w hC hw hm h
  · by_cases h2 : ns.length ≤ 40
    · exact main A B c d cs ns w hC hw hS hm h h2
    · exact off2 A B c d cs ns w hC hw hm h (by omega) hn
end Go.Proofs.YtheeihdbeefkkaaDoor.schemaPicks
