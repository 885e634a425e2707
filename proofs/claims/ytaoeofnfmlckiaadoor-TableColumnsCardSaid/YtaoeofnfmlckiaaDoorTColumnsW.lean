/-
  The walk of TableColumns.
-/
import Derived.Test.YtaoeofnfmlckiaaDoorTColumn
namespace Go.Proofs.YtaoeofnfmlckiaaDoor.tableColumns
open Go.RowKit

theorem bytes_eq (s t : ByteArray) : (s.toList == t.toList) = decide (s.data.toList = t.data.toList) := by
  rw [Lib.toList_data, Lib.toList_data, Bool.eq_iff_iff, beq_iff_eq, decide_eq_true_iff]

abbrev Done (S A : Option Addr) (c cap : Nat) (cs : List (ByteArray × Int)) (hs : List RH) (s : ByteArray) (w : World) : Prop :=
  Calls Tryd.prog 6 #[vTab S cs.length c A hs.length cap, .string s] w fun e w' => e = .returned (.bool true) ∧ Below w.heap.size w w'

set_option maxHeartbeats 6400000 in
set_option maxRecDepth 100000 in
theorem tableColumns_walk (S : Option Addr) (c : Nat) (cs : List (ByteArray × Int)) (A : Option Addr) (cap : Nat) (hs : List RH) (s : ByteArray) (w : World)
    (hC : ColsAt w.heap.size w S cs) (hw : Wf cs) (_hn : S = none → c = 0) (hR : RowsAt w.heap.size w A hs) (hv : WfT (rowsOf hs)) (_hnA : A = none → cap = 0) (hs63 : s.size ≤ maxLen) (hT : Tab w) : Done S A c cap cs hs s w := by
  unfold maxLen at hs63
  have hal := boxW_below w (.slice S cs.length c) (.slice A hs.length cap)
  have HBox := hide (fun w' => boxW_at (w := w) (a := .slice S cs.length c) (b := .slice A hs.length cap) (w' := w'))
  have HWE := hide (show boxW w (.slice S cs.length c) (.slice A hs.length cap) = w.alloc (.cells #[.slice S cs.length c, .slice A hs.length cap] 26) from rfl)
  have HC := hide (hC.on hal); have HR := hide (hR.on hal)
  generalize boxW w (.slice S cs.length c) (.slice A hs.length cap) = W at *
  have HL := hide hal; have HW := hide hw; have HV := hide hv
  have HAw := hide (aw_later hT)
  have HSm := hide (small_any S A c cap cs hs W HC.out HR.out hw hv)
  clear hC hw hR hv hT hal
  cases hsm : smallT cs (rowsOf hs)
  · have HS := hide hsm; clear hsm
    go_enter Tryd.func6, Tryd.ntmps6
    go_wp2_with fail
    rw [← HWE.out]
    refine HSm.out.mono ?_
    rintro e w1 ⟨rfl, hb1⟩
    rw [HS.out]
    have hq1 := then_below HL.out hb1
    go_wp2_with (go_at_call 9; refine (HAw.out _ hq1).mono ?_; rintro e wa ⟨rfl, hba⟩)
    go_ret
    exact ⟨rfl, then_below hq1 hba⟩
  by_cases hs1 : 100 < s.size
  · have hs1' : (100 : Int) < (s.size : Int) := by omega
    have HS := hide hsm; clear hsm
    go_enter Tryd.func6, Tryd.ntmps6
    go_wp2_with fail
    rw [← HWE.out]
    refine HSm.out.mono ?_
    rintro e w1 ⟨rfl, hb1⟩
    rw [HS.out]
    have hq1 := then_below HL.out hb1
    go_wp2_with (go_at_call 9; refine (HAw.out _ hq1).mono ?_; rintro e wa ⟨rfl, hba⟩)
    go_ret
    exact ⟨rfl, then_below hq1 hba⟩
  have hs2 : ¬ (100 : Int) < (s.size : Int) := by omega
  clear hs1
  obtain ⟨hlc, hlr, hlv⟩ := smallT_yes hsm
  rw [rowsOf_len] at hlr
  have HS := hide hsm; have HLV := hide hlv; clear hsm hlv
  have HRi := hide (fun w' (h : Below W.heap.size W w') => right_any' S A c cap cs hs w' (HC.out.on h) (HR.out.on h) HW.out HV.out (by omega) (by omega) (fun x hx => by have := HLV.out x hx; omega))
  have HCo := hide (fun w' (h : Below W.heap.size W w') => column_any S A c cap cs hs s w' (HC.out.on h) (HR.out.on h) HW.out HV.out (by omega))
  by_cases hz : fullT cs (rowsOf hs) = 0
  · have hz0 : (fullT cs (rowsOf hs) != 0) = false := by rw [bne_eq_false_iff_eq]; exact hz
    have HFit := hide (checkT_zero (fullT_zero hz).1).2.2
    by_cases hf : findK cs s < cs.length
    · have HCo2 := hide (fun w' h => (HCo.out w' h).mono fun e w1 (hh : ColumnV cs (rowsOf hs) s w' e w1) => (⟨by have := hh.1; rwa [if_pos hz, if_pos hf] at this, hh.2⟩ : (∃ A c, e = .returned (.tuple #[.slice A (colVals (rowsOf hs) (findK cs s)).length c, .int .i64 0]) ∧ RowAt w1.heap.size w1 A (colVals (rowsOf hs) (findK cs s))) ∧ Below w'.heap.size w' w1))
      have hcl := colVals_len (rowsOf hs) (findK cs s)
      rw [rowsOf_len] at hcl
      have HCL := hide hcl
      clear HCo hz hcl
      have hfi : ∀ k, k < cs.length → noneAhead cs s k → (cs.getD k (⟨#[]⟩, 0)).1.data.toList = s.data.toList → findK cs s = k := fun k hk h1 h2 => findK_at hk h1 h2
      have hfn : ¬ noneAhead cs s cs.length := fun h => by have := findK_none h; omega
      have HFI := hide hfi; have HFN := hide hfn
      clear hfi hfn
      go_enter Tryd.func6, Tryd.ntmps6
      go_wp2_with fail
      rw [← HWE.out]
      refine HSm.out.mono ?_
      rintro e w1 ⟨rfl, hb1⟩
      rw [HS.out]
      obtain ⟨b0, b1, bz⟩ := HBox.out _ hb1
      have HB1 := hide hb1; clear hb1
      go_wp2_with fail
      refine (HCo2.out _ HB1.out).mono ?_
      rintro e w2 ⟨⟨A2, c2, rfl, hA2⟩, hb2⟩
      rw [HCL.out]
      have HA2 := hide hA2
      have HB2 := hide (then_below HB1.out hb2)
      obtain ⟨b0', b1', bz'⟩ := HBox.out _ HB2.out
      clear hA2 hb2 b0 b1 bz
      go_wp2_with fail
      refine (HRi.out _ HB2.out).mono ?_
      rintro e w3 ⟨rfl, hb3⟩
      have HB3 := hide (then_below HB2.out hb3)
      have HA3 := hide (HA2.out.on hb3)
      obtain ⟨b0, b1, bz⟩ := HBox.out _ HB3.out
      clear hb3 b0' b1' bz'
      go_wp2_with fail
      clear b0 b1 bz
      go_loopw [45] (fun i wr => ∃ k : Nat, k ≤ cs.length ∧ i = .int .i64 k ∧ noneAhead cs s k ∧ Below w3.heap.size w3 wr) (fun i _ => cs.length - (intOf i).toNat)
      case atStart => exact ⟨0, Nat.zero_le _, rfl, fun j h => by omega, Below.refl _ _⟩
      case round =>
        obtain ⟨k, hk, rfl, hp, hbw⟩ := hrel
        have HP := hide hp; clear hp
        have hs0 := hbw.size
        by_cases hlt : k < cs.length
        · have hbW := then_below HB3.out hbw
          obtain ⟨b, off, rfl, hb, g0, g1⟩ := HC.out.below hbW k hlt
          have HEq := hide (fun h => HFI.out k hlt HP.out h)
          have HNe := hide (fun h => noneAhead_succ HP.out h)
          obtain ⟨b0, b1, bz⟩ := HBox.out _ hbW
          generalize cs.getD k (⟨#[]⟩, 0) = q at g0 g1 HEq HNe
          obtain ⟨nm, ty⟩ := q
          have hbe := bytes_eq nm s
          by_cases he : nm.data.toList = s.data.toList
          · rw [decide_eq_true he] at hbe
            have hkf := HEq.out he
            rw [hkf] at HA3
            clear he HEq HNe
            have HKF := hide hkf; clear hkf
            go_wp2_with fail
            obtain ⟨wa, hwa⟩ : ∃ wa : World, wa = wr := ⟨_, rfl⟩
            subst hwa
            clear b0 b1 bz
            go_loopw [67] (fun i w4 => ∃ m : Nat, m ≤ hs.length ∧ i = .int .i64 m ∧ Below w3.heap.size w3 w4) (fun i _ => hs.length - (intOf i).toNat)
            case atStart => exact ⟨0, Nat.zero_le _, rfl, hbw.alloc hs0 _⟩
            case round =>
              obtain ⟨m, hm, rfl, hbw4⟩ := hrel
              have hbW4 := then_below HB3.out hbw4
              by_cases hlt2 : m < hs.length
              · obtain ⟨b', off', A1, c1, r1, rfl, hb', d1, hr1, -, hg1⟩ := (HR.out.below hbW4).at hlt2
                have hrk := rowsOf_at hlt2
                rw [hg1] at hrk
                have hrl : r1.length = cs.length := by
                  have := HFit.out
                  rw [List.all_eq_true] at this
                  exact rowFits_length (this r1 (by unfold rowsOf; exact List.mem_map.2 ⟨_, getH_mem hlt2, by rw [hg1]⟩))
                have hil : (k : Int) < (r1.length : Int) := by omega
                obtain ⟨b2, off2, rfl, hb2, y0, y1, y2⟩ := hr1 k (by omega)
                obtain ⟨b3, off3, rfl, hb3, x0, x1, x2⟩ := (HA3.out.below hbw4) m (by rw [colVals_len, rowsOf_len]; exact hlt2)
                have hcv : (colVals (rowsOf hs) k).getD m (0, 0, ⟨#[]⟩) = r1.getD k (0, 0, ⟨#[]⟩) := by
                  unfold colVals
                  rw [List.getD_eq_getElem?_getD (l := List.map _ (rowsOf hs)), List.getElem?_map, List.getElem?_eq_getElem (by rw [rowsOf_len]; exact hlt2)]
                  rw [List.getD_eq_getElem?_getD (l := rowsOf hs), List.getElem?_eq_getElem (by rw [rowsOf_len]; exact hlt2)] at hrk
                  simp only [Option.getD_some] at hrk
                  simp only [Option.map_some, Option.getD_some, hrk]
                rw [hcv] at x0 x1 x2
                generalize r1.getD k (0, 0, ⟨#[]⟩) = v at x0 x1 x2 y0 y1 y2
                obtain ⟨kk, n, t⟩ := v
                have hgd := run_guard_neq kk n kk n t t
                have hneq := fun w => (run_neq_val kk n kk n t t w).trans (by simp : _ = Result.ok (Value.bool false) w)
                have hk0 : (0 : Int) ≤ (k : Int) := by omega
                have hm0 : (0 : Int) ≤ (m : Int) := by omega
                have hm1 : (m : Int) < (hs.length : Int) := by omega
                clear hr1 hg1 hrk hrl hcv
                go_wp2_with fail
                go_quiet (fail)
                go_wp2_with fail
                go_roundw
                case rel => exact ⟨m + 1, by omega, by go_num, below_drewN hbw4 _⟩
                case measure => simp [intOf]; omega
              · obtain rfl : m = hs.length := by omega
                have hqF := then_below HL.out hbW4
                go_wp2_with (go_at_call 9; refine (HAw.out _ hqF).mono ?_; rintro e wa ⟨rfl, hba⟩)
                go_ret
                exact ⟨rfl, then_below hqF hba⟩
          · rw [decide_eq_false he] at hbe
            have HN := hide (HNe.out he)
            clear he HEq HNe
            go_wp2_with fail
            go_roundw
            case rel => exact ⟨k + 1, by omega, by go_num, HN.out, hbw.alloc hs0 _⟩
            case measure => simp [intOf]; omega
        · exact absurd (by have := HP.out; rwa [show k = cs.length by omega] at this) HFN.out
    · have HCo2 := hide (fun w' h => (HCo.out w' h).mono fun e w1 (hh : ColumnV cs (rowsOf hs) s w' e w1) => (⟨by have := hh.1; rwa [if_pos hz, if_neg hf] at this, hh.2⟩ : e = .returned (.tuple #[.slice none 0 0, .int .i64 13]) ∧ Below w'.heap.size w' w1))
      have hfi : ∀ k, k < cs.length → noneAhead cs s k → ¬ (cs.getD k (⟨#[]⟩, 0)).1.data.toList = s.data.toList := fun k hk h1 h2 => by have := findK_at hk h1 h2; omega
      have HFI := hide hfi
      clear HCo hz hf hfi
      go_enter Tryd.func6, Tryd.ntmps6
      go_wp2_with fail
      rw [← HWE.out]
      refine HSm.out.mono ?_
      rintro e w1 ⟨rfl, hb1⟩
      rw [HS.out]
      obtain ⟨b0, b1, bz⟩ := HBox.out _ hb1
      have HB1 := hide hb1; clear hb1
      go_wp2_with fail
      refine (HCo2.out _ HB1.out).mono ?_
      rintro e w2 ⟨rfl, hb2⟩
      have HB2 := hide (then_below HB1.out hb2)
      obtain ⟨b0', b1', bz'⟩ := HBox.out _ HB2.out
      clear hb2 b0 b1 bz
      go_wp2_with fail
      refine (HRi.out _ HB2.out).mono ?_
      rintro e w3 ⟨rfl, hb3⟩
      have HB3 := hide (then_below HB2.out hb3)
      obtain ⟨b0, b1, bz⟩ := HBox.out _ HB3.out
      clear hb3 b0' b1' bz'
      go_wp2_with fail
      clear b0 b1 bz
      go_loopw [45] (fun i wr => ∃ k : Nat, k ≤ cs.length ∧ i = .int .i64 k ∧ noneAhead cs s k ∧ Below w3.heap.size w3 wr) (fun i _ => cs.length - (intOf i).toNat)
      case atStart => exact ⟨0, Nat.zero_le _, rfl, fun j h => by omega, Below.refl _ _⟩
      case round =>
        obtain ⟨k, hk, rfl, hp, hbw⟩ := hrel
        have HP := hide hp; clear hp
        have hs0 := hbw.size
        have hbW := then_below HB3.out hbw
        by_cases hlt : k < cs.length
        · obtain ⟨b, off, rfl, hb, g0, g1⟩ := HC.out.below hbW k hlt
          have HEq := hide (HFI.out k hlt HP.out)
          have HNe := hide (noneAhead_succ HP.out HEq.out)
          generalize cs.getD k (⟨#[]⟩, 0) = q at g0 g1 HEq
          obtain ⟨nm, ty⟩ := q
          have hbe := bytes_eq nm s
          rw [decide_eq_false HEq.out] at hbe
          go_wp2_with fail
          go_roundw
          case rel => exact ⟨k + 1, by omega, by go_num, HNe.out, hbw.alloc hs0 _⟩
          case measure => simp [intOf]; omega
        · have hqF := then_below HL.out hbW
          go_wp2_with (go_at_call 9; refine (HAw.out _ hqF).mono ?_; rintro e wa ⟨rfl, hba⟩)
          go_ret
          exact ⟨rfl, then_below hqF hba⟩
  · have hz0 : (fullT cs (rowsOf hs) != 0) = true := by rw [bne_iff_ne]; exact hz
    have HCo2 := hide (fun w' h => (HCo.out w' h).mono fun e w1 (hh : ColumnV cs (rowsOf hs) s w' e w1) => (⟨by have := hh.1; rwa [if_neg hz] at this, hh.2⟩ : e = .returned (.tuple #[.slice none 0 0, .int .i64 (fullT cs (rowsOf hs))]) ∧ Below w'.heap.size w' w1))
    clear HCo hz
    go_enter Tryd.func6, Tryd.ntmps6
    go_wp2_with fail
    rw [← HWE.out]
    refine HSm.out.mono ?_
    rintro e w1 ⟨rfl, hb1⟩
    rw [HS.out]
    obtain ⟨b0, b1, bz⟩ := HBox.out _ hb1
    have HB1 := hide hb1; clear hb1
    go_wp2_with fail
    refine (HCo2.out _ HB1.out).mono ?_
    rintro e w2 ⟨rfl, hb2⟩
    have HB2 := hide (then_below HB1.out hb2)
    obtain ⟨b0', b1', bz'⟩ := HBox.out _ HB2.out
    clear hb2 b0 b1 bz
    go_wp2_with fail
    refine (HRi.out _ HB2.out).mono ?_
    rintro e w3 ⟨rfl, hb3⟩
    have hq3 := then_below HL.out (then_below HB2.out hb3)
    clear b0' b1' bz'
    go_wp2_with (go_at_call 9; refine (HAw.out _ hq3).mono ?_; rintro e wa ⟨rfl, hba⟩)
    go_ret
    exact ⟨rfl, then_below hq3 hba⟩
end Go.Proofs.YtaoeofnfmlckiaaDoor.tableColumns
