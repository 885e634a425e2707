/-
  What the law's own functions do with rows: refRows, same; and the document's Check and Sorted.
-/
import Derived.Test.YtfjhdfpdgjjcgaaGreatDoorTCopy
import Derived.Test.YtfjhdfpdgjjcgaaGreatDoorTDefs
import Derived.Test.YtfjhdfpdgjjcgaaGreatDoorTEqual
import Derived.Test.YtfjhdfpdgjjcgaaGreatDoorSCheckR
namespace Go.Proofs.YtfjhdfpdgjjcgaaGreatDoor
open Go.RowKit

theorem rrow_info : (Tryz.prog.info? 64).map (fun i => (i.zero, i.size, i.bytes)) = some (some (.slice none 0 0), 1, 24) := by kernel_rfl
/-- The call gives a slice that holds these rows. -/
def GivesRows (rs : R3) (w : World) (e : Ending) (w' : World) : Prop :=
  (∃ A c ns, e = .returned (.slice A ns.length c) ∧ RowsAt w'.heap.size w' A ns ∧ rowsOf ns = rs ∧ (A = none → c = 0)) ∧ Below w.heap.size w w'

/-- The like, and all that is made is new. -/
def GivesRowsF (rs : R3) (w : World) (e : Ending) (w' : World) : Prop :=
  (∃ A c ns, e = .returned (.slice A (List.length ns) c) ∧ RowsAt w'.heap.size w' A ns ∧ rowsOf ns = rs ∧ (A = none → c = 0) ∧ (∀ a, A = some a → w.heap.size ≤ a.block) ∧ ∀ h ∈ ns, ∀ a, h.1 = some a → w.heap.size ≤ a.block) ∧ Below w.heap.size w w'

set_option maxHeartbeats 1600000 in
set_option maxRecDepth 100000 in
theorem refRows_fresh (A : Option Addr) (cap : Nat) (hs : List RH) (w : World) (hR : RowsAt w.heap.size w A hs) (hl : hs.length ≤ 65536) (hlr : ∀ r ∈ rowsOf hs, r.length ≤ 65536) :
    Calls Tryz.prog 12 #[.slice A hs.length cap] w (GivesRowsF (rowsOf hs) w) := by
  have HR := hide hR; have HLR := hide hlr; clear hR hlr
  obtain ⟨i0, hi, hz0, hz1, hz2⟩ := info_parts rrow_info
  go_enter Tryz.func12, Tryz.ntmps12
  go_wp2_with fail
  go_loopw [3, 8] (fun v i wr => ∃ (k : Nat) (ns : List RH), k ≤ hs.length ∧ i = .int .i64 k ∧ ns.length = k ∧ rowsOf ns = (rowsOf hs).take k ∧ wr.ownsRow w.heap.size 64 1 v k (ns.map hdr) ∧
    (∀ h ∈ ns, HdrOk wr.heap.size wr h ∧ ApH v h) ∧ (∀ h ∈ ns, ∀ a, h.1 = some a → w.heap.size ≤ a.block) ∧ Below w.heap.size w wr) (fun _ i _ => hs.length - (intOf i).toNat)
  case atStart => exact ⟨0, [], Nat.zero_le _, rfl, rfl, rfl, World.ownsRow_nil _ _ _ _, fun h hh => by simp at hh, fun h hh => by simp at hh, Below.refl _ _⟩
  case round =>
    obtain ⟨k, ns, hk, rfl, hnl, hrk, hown, hok, hnew, hbw⟩ := hrel
    have HNW := hide hnew; have HNL := hide hnl; have HRK := hide hrk; have HOK := hide hok; have HOW := hide hown
    clear hnl hrk hok hown hnew
    have hs0 := hbw.size
    by_cases hlt : k < hs.length
    · obtain ⟨b, off, A', c', r, rfl, hb, c0, hr, -, hg⟩ := (HR.out.below hbw).at hlt
      have hrl : r.length ≤ 65536 := by
        have := HLR.out (hs.getD k dH).2.2 (by unfold rowsOf; exact List.mem_map.2 ⟨_, getH_mem hlt, rfl⟩)
        rw [hg] at this; exact this
      have HT := hide (take_rows hlt)
      rw [hg] at HT
      have HCl := hide (refRow_any A' c' r wr (hr.mono hs0) hrl)
      clear hg hr hrl
      go_wp2_with fail
      refine HCl.out.mono ?_
      rintro e w2 ⟨⟨A2, c2, rfl, hA2, hz2', hb2'⟩, hb2⟩
      have HA2 := hide hA2; have HZ2 := hide hz2'; have HB2 := hide hb2'
      have hs2 := hb2.size
      have hown2 := HOW.out.kept (only_of_below hb2 none) (by cases hv : u3.ownBlock <;> simp)
      have HRL := hide (show ∀ a, A2 = some a → u3.ownBlock = some a.block → (A2, c2, r).2.2 = [] from fun a h1 h2 => by
        have := HB2.out a h1
        have := (HOW.out.lt _ h2).2
        omega)
      clear hA2 hz2' hb2'
      go_wp2_with (at_builtin; go_must (refine wpList_append_own_at _ rfl _ _ 35 rfl w.heap.size 64 i0 (.slice none 0 0) 1 24 Tryz.underlying35 hi hz0 hz1 hz2 rfl (by decide) u3 k (ns.map hdr) rfl (hown2.alloc _) ⟨w2.heap.size, 0, none⟩ 1 1 [hdr (A2, c2, r)] rfl rfl (hdr_new _ _ (A2, c2, r) _ rfl) (hdr_one _) (by unfold maxLen; omega) (by omega) (by simp; omega) ?_))
      intro v3 w3 hown3 hgrow3 _ hat3
      have HO3 := hide hown3; have HG3 := hide hgrow3; have HAT := hide hat3
      have hs3 := hgrow3.size
      simp at hs3
      clear hown3 hgrow3 hat3
      go_wp2_with fail
      go_roundw
      case rel =>
        have hal := Joins.below_alloc1 w2 (.cells #[hdr (A2, c2, r)] 64)
        have hok2 : ∀ h ∈ ns ++ [(A2, c2, r)], HdrOk (w2.alloc (.cells #[hdr (A2, c2, r)] 64)).heap.size (w2.alloc (.cells #[hdr (A2, c2, r)] 64)) h ∧ ApH u3 h := fun h hh => by
          rcases List.mem_append.1 hh with hh | hh
          · obtain ⟨a1, a2⟩ := HOK.out h hh
            exact ⟨(a1.on hb2).on hal, a2⟩
          · simp at hh
            subst hh
            exact ⟨HdrOk.on (h := (A2, c2, r)) ⟨HA2.out, HZ2.out⟩ hal, HRL.out⟩
        refine ⟨k + 1, ns ++ [(A2, c2, r)], by omega, by go_num, by rw [List.length_append, HNL.out]; rfl, ?_, ?_, fun h hh => ?_, fun h hh => ?_, ?_⟩
        · unfold rowsOf at *
          rw [List.map_append, HRK.out, HT.out]; rfl
        · rw [List.map_append]; exact HO3.out
        · obtain ⟨a1, a2⟩ := hok2 h hh
          exact ⟨hdr_grown a1 HG3.out (fun a h1 h2 => a2 a h1 h2), apH_step (H := w2.heap.size + 1) a2 a1 (by simp) HAT.out⟩
        · rcases List.mem_append.1 hh with hh | hh
          · exact HNW.out h hh
          · simp at hh
            subst hh
            intro a ha
            have := HB2.out a ha
            omega
        · exact ((hbw.trans (hb2.mono hs0)).alloc (by omega) _).grown HG3.out (by simp; omega) (fun j hj => (HOW.out.lt j hj).1)
      case measure => simp [intOf]; omega
    · obtain rfl : k = hs.length := by omega
      have hok := fun h hh => (HOK.out h hh).1
      have hrw := HOW.out
      rw [← HNL.out] at hrw
      obtain ⟨A1, c1, e1, hA1, hz1'⟩ := rows_of_row hrw hok (Nat.le_refl _)
      subst e1
      have HFr := hide (show ∀ a, A1 = some a → w.heap.size ≤ a.block from fun a ha => (hrw.lt a.block (by subst ha; rfl)).1)
      have HA1 := hide hA1; have HZ1 := hide hz1'
      clear hok hrw hA1 hz1'
      go_wp2_with fail
      go_ret
      exact ⟨⟨A1, c1, ns, rfl, HA1.out, by rw [HRK.out, List.take_of_length_le (by rw [rowsOf_len]; exact Nat.le_refl _)], HZ1.out, HFr.out, HNW.out⟩, hbw⟩

theorem refRows_any (A : Option Addr) (cap : Nat) (hs : List RH) (w : World) (hR : RowsAt w.heap.size w A hs) (hl : hs.length ≤ 65536) (hlr : ∀ r ∈ rowsOf hs, r.length ≤ 65536) :
    Calls Tryz.prog 12 #[.slice A hs.length cap] w (GivesRows (rowsOf hs) w) :=
  (refRows_fresh A cap hs w hR hl hlr).mono fun e w' h => by
    obtain ⟨⟨A1, c1, ns, h1, h2, h3, h4, _⟩, hb⟩ := h
    exact ⟨⟨A1, c1, ns, h1, h2, h3, h4⟩, hb⟩

set_option maxHeartbeats 3200000 in
set_option maxRecDepth 100000 in
theorem same_any (A B : Option Addr) (c d : Nat) (hs gs : List RH) (w : World) (hX : RowsAt w.heap.size w A hs) (hY : RowsAt w.heap.size w B gs) (hv : WfT (rowsOf hs)) (hlg : gs.length ≤ maxLen) :
    Calls Tryz.prog 14 #[.slice A hs.length c, .slice B gs.length d] w fun e w' => e = .returned (.bool (sameRs (rowsOf hs) (rowsOf gs))) ∧ Below w.heap.size w w' := by
  unfold maxLen at hlg
  have h1 := rowsOf_len hs
  have h2 := rowsOf_len gs
  by_cases hlen : hs.length = gs.length
  · have hne : ((hs.length : Int) != (gs.length : Int)) = false := by rw [bne_eq_false_iff_eq, hlen]
    have HL := hide hlen
    have hle : hs.length ≤ gs.length := by omega
    have HX := hide hX; have HY := hide hY; have HV := hide hv
    have HL1 := hide h1; have HL2 := hide h2
    clear hX hY hv hlen h1 h2
    go_enter Tryz.func14, Tryz.ntmps14
    go_wp2_with fail
    go_loopw [13] (fun i wr => ∃ k : Nat, k ≤ hs.length ∧ i = .int .i64 k ∧ preS2 (rowsOf hs) (rowsOf gs) k ∧ Below w.heap.size w wr) (fun i _ => hs.length - (intOf i).toNat)
    case atStart => exact ⟨0, Nat.zero_le _, rfl, fun j h => by omega, Below.refl _ _⟩
    case round =>
      obtain ⟨k, hk, rfl, hp, hbw⟩ := hrel
      have HP := hide hp; clear hp
      have hs0 := hbw.size
      by_cases hlt : k < hs.length
      · obtain ⟨b, off, A1, c1, r1, rfl, hb, d1, hr1, -, hg1⟩ := (HX.out.below hbw).at hlt
        obtain ⟨b', off', A2, c2, r2, rfl, hb', d2, hr2, -, hg2⟩ := (HY.out.below hbw).at (show k < gs.length by omega)
        have hw1 := HV.out.at hlt
        rw [hg1] at hw1
        have hk1 := rowsOf_at hlt
        have hk2 := rowsOf_at (show k < gs.length by omega)
        rw [hg1] at hk1
        rw [hg2] at hk2
        have HC := hide (fun w' (h1 : RowAt w'.heap.size w' A1 r1) (h2 : RowAt w'.heap.size w' A2 r2) => refCmpRows_any A1 A2 c1 c2 r1 r2 w' h1 h2 hw1.1 hw1)
        have HR1 := hide (hr1.mono hs0); have HR2 := hide (hr2.mono hs0)
        have HK1 := hide hk1; have HK2 := hide hk2
        have e5 : (0 : Int) ≤ (k : Int) := by omega
        have e6 : (k : Int) < (hs.length : Int) := by omega
        have e8 : (k : Int) < (gs.length : Int) := by omega
        have r0 := fun d os => cell_regrown d1 d os
        have r3 := fun d os => cell_regrown d2 d os
        clear hr1 hr2 hg1 hg2 hw1 hk1 hk2 d1 d2
        by_cases hll : r1.length = r2.length
        · have hq0 : ((r1.length : Int) != (r2.length : Int)) = false := by rw [bne_eq_false_iff_eq, hll]
          by_cases hc : cmpR r1 r2 = 0
          all_goals
            have hc0 := hc
            first | (rw [← bne_eq_false_iff_eq] at hc0) | (rw [← Ne, ← bne_iff_ne] at hc0)
            have HCC := hide hc
            clear hc hll
            go_wp2_with fail
            refine wp_region_quiet_below (by kernel_rfl) (by kernel_rfl) ?_
            repeat (go_big_quiet_step (first | (go_at_call 35; exact Calls.regrown_of (HC.out _ (HR1.out.on (below_regrown _ _ _)) (HR2.out.on (below_regrown _ _ _))))))
            refine wpQuiet_nil ?_
            intro _ hw'
            obtain ⟨⟨dq, osq⟩, hw''⟩ := hw'
            subst hw''
            have q9 := hbw.trans ((below_regrown _ dq osq).mono hs0)
            go_wp2_with fail
            first
              | (go_ret
                 exact ⟨ret_bool (sameRs_no (k := k) (by rw [HL1.out]; exact hlt) (by rw [HK1.out, HK2.out]; unfold sameRw; exact decide_eq_false HCC.out)).symm, q9⟩)
              | (go_roundw
                 case rel => exact ⟨k + 1, by omega, by go_num, preS2_succ HP.out (by rw [HK1.out, HK2.out]; unfold sameRw; exact decide_eq_true HCC.out), q9⟩
                 case measure => simp [intOf]; omega)
        · have hq0 : ((r1.length : Int) != (r2.length : Int)) = true := by rw [bne_iff_ne]; omega
          have HLL := hide hll
          clear hll HC
          go_wp2_with fail
          refine wp_region_quiet_below (by kernel_rfl) (by kernel_rfl) ?_
          repeat (go_big_quiet_step (fail))
          refine wpQuiet_nil ?_
          intro _ hw'
          obtain ⟨⟨dq, osq⟩, hw''⟩ := hw'
          subst hw''
          have q9 := hbw.trans ((below_regrown _ dq osq).mono hs0)
          go_wp2_with fail
          go_ret
          exact ⟨ret_bool (sameRs_no (k := k) (by rw [HL1.out]; exact hlt) (by rw [HK1.out, HK2.out]; exact sameRw_len HLL.out)).symm, q9⟩
      · go_wp2_with fail
        go_ret
        exact ⟨ret_bool (sameRs_yes (by rw [HL1.out, HL2.out]; exact HL.out) (by have := HP.out; rw [HL1.out, show hs.length = k by omega]; exact this)).symm, hbw⟩
  · have hne : ((hs.length : Int) != (gs.length : Int)) = true := by rw [bne_iff_ne]; omega
    have HR := hide (sameRs_len (rs := rowsOf hs) (ss := rowsOf gs) (by omega))
    clear hlen hX hY hv h1 h2
    go_enter Tryz.func14, Tryz.ntmps14
    go_wp2_with fail
    go_ret
    exact ⟨ret_bool HR.out.symm, Below.refl _ _⟩

set_option maxHeartbeats 1600000 in
set_option maxRecDepth 100000 in
theorem refTabCheck_any (S A : Option Addr) (c cap : Nat) (cs : List (ByteArray × Int)) (hs : List RH) (w : World) (hC : ColsAt w.heap.size w S cs) (hR : RowsAt w.heap.size w A hs) (hw : Wf cs) (hv : WfT (rowsOf hs)) :
    Calls Tryz.prog 29 #[.slice S cs.length c, .slice A hs.length cap] w fun e w' => e = .returned (.int .i64 (checkT cs (rowsOf hs))) ∧ Below w.heap.size w w' := by
  have HCk := hide (refCheck_any S c cs _ hC hw)
  have HC := hide hC; have HR := hide hR; have HW := hide hw; have HV := hide hv
  have hlen := rowsOf_len hs
  clear hC hR hw hv
  by_cases hz : checkC cs = 0
  · have hk0 : (checkC cs != 0) = false := by rw [bne_eq_false_iff_eq]; exact hz
    by_cases hm : hs.length ≤ 4096
    · have hm' : ¬ (4096 : Int) < (hs.length : Int) := by omega
      have HZ := hide hz
      have HLn := hide hlen
      have HMn := hide (show (rowsOf hs).length ≤ 4096 by omega)
      clear hz hlen
      go_enter Tryz.func29, Tryz.ntmps29
      go_wp2_with fail
      refine HCk.out.mono ?_
      rintro e w1 ⟨rfl, hb1⟩
      have HB1 := hide hb1
      clear hb1
      go_wp2_with fail
      go_loopw [6] (fun i wr => ∃ k : Nat, k ≤ hs.length ∧ i = .int .i64 k ∧ preFit cs (rowsOf hs) k ∧ Below w.heap.size w wr) (fun i _ => hs.length - (intOf i).toNat)
      case atStart => exact ⟨0, Nat.zero_le _, rfl, fun j h => by omega, HB1.out⟩
      case round =>
        obtain ⟨k, hk, rfl, hp, hbw⟩ := hrel
        have HPF := hide hp; clear hp
        have hs0 := hbw.size
        by_cases hlt : k < hs.length
        · obtain ⟨b, off, A', c', r, rfl, hb, c0, hr, hrn, hg⟩ := (HR.out.below hbw).at hlt
          have hwr := HV.out.at hlt
          rw [hg] at hwr
          have HCl := hide (refFits_any S A' c c' cs r wr ((HC.out.below hbw).mono hs0) (hr.mono hs0) HW.out hwr)
          have hrk := rowsOf_at hlt
          rw [hg] at hrk
          cases hf : rowFits cs r
          all_goals
            have HF := hide hf
            have HRK := hide hrk
            clear hf hrk hr hrn hg hwr
            go_wp2_with (go_at_call 53; refine HCl.out.mono ?_; rintro e w2 ⟨rfl, hb2⟩; rw [HF.out])
            have hq2 := hbw.trans (hb2.mono hs0)
            first
              | (go_ret
                 refine ⟨ret_int (checkT_type HZ.out HMn.out (fit_no (k := k) (by rw [HLn.out]; exact hlt) (by rw [HRK.out]; exact HF.out))).symm, hq2⟩)
              | (go_roundw
                 case rel => exact ⟨k + 1, by omega, by go_num, preFit_succ HPF.out (by rw [HRK.out]; exact HF.out), hq2⟩
                 case measure => simp [intOf]; omega)
        · obtain rfl : k = hs.length := by omega
          go_wp2_with fail
          go_ret
          exact ⟨ret_int (checkT_good HZ.out HMn.out (preFit_all (by rw [HLn.out]; exact HPF.out))).symm, hbw⟩
    · have hm' : (4096 : Int) < (hs.length : Int) := by omega
      have HT := hide (checkT_many hz (by omega : ¬ (rowsOf hs).length ≤ 4096))
      clear hz
      go_enter Tryz.func29, Tryz.ntmps29
      go_wp2_with fail
      refine HCk.out.mono ?_
      rintro e w1 ⟨rfl, hb1⟩
      go_wp2_with fail
      go_ret
      exact ⟨ret_int HT.out.symm, hb1⟩
  · have hk0 : (checkC cs != 0) = true := by rw [bne_iff_ne]; exact hz
    have HT := hide (checkT_cols (rs := rowsOf hs) hz)
    clear hz
    go_enter Tryz.func29, Tryz.ntmps29
    go_wp2_with fail
    refine HCk.out.mono ?_
    rintro e w1 ⟨rfl, hb1⟩
    go_wp2_with fail
    go_ret
    exact ⟨ret_int HT.out.symm, hb1⟩

set_option maxHeartbeats 3200000 in
set_option maxRecDepth 100000 in
theorem refSorted_any (A : Option Addr) (cap : Nat) (hs : List RH) (w : World) (hR : RowsAt w.heap.size w A hs) (hv : WfT (rowsOf hs)) :
    Calls Tryz.prog 30 #[.slice A hs.length cap] w fun e w' => e = .returned (.bool (adjB (rowsOf hs))) ∧ Below w.heap.size w w' := by
  have hl := hv.1
  rw [rowsOf_len] at hl
  unfold maxLen at hl
  have HR := hide hR; have HV := hide hv
  clear hR hv
  go_enter Tryz.func30, Tryz.ntmps30
  go_wp2_with fail
  go_loopw [3] (fun i wr => ∃ t : Nat, t ≤ hs.length ∧ i = .int .i64 ((t : Int) + 1) ∧ preA (rowsOf hs) (t + 1) ∧ Below w.heap.size w wr) (fun i _ => hs.length + 1 - (intOf i).toNat)
  case atStart => exact ⟨0, Nat.zero_le _, by first | rfl | go_num, fun j h => by omega, Below.refl _ _⟩
  case round =>
    obtain ⟨t, ht, rfl, hp, hbw⟩ := hrel
    have HP := hide hp; clear hp
    have hs0 := hbw.size
    by_cases hlt : t + 1 < hs.length
    · obtain ⟨b, off, A1, c1, r1, rfl, hb, d1, hr1, -, hg1⟩ := (HR.out.below hbw).at (show t < hs.length by omega)
      obtain ⟨b', off', A2, c2, r2, e, -, d2, hr2, -, hg2⟩ := (HR.out.below hbw).at hlt
      obtain ⟨rfl, rfl⟩ : b = b' ∧ off = off' := by simpa using e
      have hw1 := HV.out.at (show t < hs.length by omega)
      rw [hg1] at hw1
      have hk1 := rowsOf_at (show t < hs.length by omega)
      have hk2 := rowsOf_at hlt
      rw [hg1] at hk1
      rw [hg2] at hk2
      have HC := hide (fun w' (h1 : RowAt w'.heap.size w' A1 r1) (h2 : RowAt w'.heap.size w' A2 r2) => refCmpRows_any A1 A2 c1 c2 r1 r2 w' h1 h2 hw1.1 hw1)
      have HR1 := hide (hr1.mono hs0); have HR2 := hide (hr2.mono hs0)
      have HK1 := hide hk1; have HK2 := hide hk2
      have e1 : IntKind.i64.wrap ((t : Int) + 1 - 1) = (t : Int) := by rw [IntKind.wrap_i64]; omega
      have e2 : (0 : Int) ≤ (t : Int) + 1 := by omega
      have e3 : (t : Int) + 1 < (hs.length : Int) := by omega
      have e4 : ((t : Int) + 1).toNat = t + 1 := by omega
      have e5 : (0 : Int) ≤ (t : Int) := by omega
      have e6 : (t : Int) < (hs.length : Int) := by omega
      have r0 := fun d os => cell_regrown d1 d os
      have r3 := fun d os => cell_regrown d2 d os
      clear hr1 hr2 hg1 hg2 hw1 hk1 hk2 e d1 d2
      by_cases hc : 0 < cmpR r1 r2
      all_goals
        have HCC := hide hc
        go_wp2_with fail
        refine wp_region_quiet_below (by kernel_rfl) (by kernel_rfl) ?_
        repeat (go_big_quiet_step (first | (go_at_call 35; exact Calls.regrown_of (HC.out _ (HR1.out.on (below_regrown _ _ _)) (HR2.out.on (below_regrown _ _ _))))))
        refine wpQuiet_nil ?_
        intro _ hw'
        obtain ⟨⟨dq, osq⟩, hw''⟩ := hw'
        subst hw''
        have q9 := hbw.trans ((below_regrown _ dq osq).mono hs0)
        clear e4 e1
        go_wp2_with fail
        first
          | (go_ret
             exact ⟨ret_bool (adjB_no (j := t) (by rw [rowsOf_len]; omega) (by rw [HK1.out, HK2.out]; have := HCC.out; omega)).symm, q9⟩)
          | (go_roundw
             case rel =>
               refine ⟨t + 1, by omega, by go_num, preA_succ HP.out (fun _ => ?_), q9⟩
               rw [Nat.add_sub_cancel, HK1.out, HK2.out]; have := HCC.out; omega
             case measure => simp [intOf]; omega)
    · go_wp2_with fail
      go_ret
      exact ⟨ret_bool (adjB_iff.2 (fun j hj => HP.out j (by rw [rowsOf_len] at hj; omega))).symm, hbw⟩
end Go.Proofs.YtfjhdfpdgjjcgaaGreatDoor
