/-
  The law's guards: small, empty, right.
-/
import Derived.Test.YtfjhdfpdgjjcgaaGreatDoorTRef
import Derived.Test.YtfjhdfpdgjjcgaaGreatDoorTMake
import Derived.Deep.RegionHeld3
namespace Go.Proofs.YtfjhdfpdgjjcgaaGreatDoor
open Go.RowKit

def colsSmall (cs : List (ByteArray × Int)) : Bool := cs.all fun c => decide (c.1.size ≤ 100)
def valsSmall (r : List (Int × Int × ByteArray)) : Bool := r.all fun v => decide (v.2.2.size ≤ 100)
def rowSmall (r : List (Int × Int × ByteArray)) : Bool := decide (r.length ≤ 20) && valsSmall r
def smallT (cs : List (ByteArray × Int)) (rs : R3) : Bool := colsSmall cs && (rs.all rowSmall && (decide (cs.length ≤ 20) && decide (rs.length ≤ 60)))
/-- All of the first k. -/
def preAll {α : Type} (p : α → Bool) (d : α) (l : List α) (k : Nat) : Prop := ∀ j, j < k → p (l.getD j d) = true
theorem preAll_succ {α : Type} {p : α → Bool} {d : α} {l : List α} {k : Nat} (h : preAll p d l k) (hc : p (l.getD k d) = true) : preAll p d l (k + 1) := fun j hj => by
  by_cases e : j = k
  · subst e; exact hc
  · exact h j (by omega)
theorem preAll_all {α : Type} {p : α → Bool} {d : α} {l : List α} (h : preAll p d l l.length) : l.all p = true := by
  rw [List.all_eq_true]; intro r hr
  obtain ⟨j, hj, e⟩ := List.getElem_of_mem hr
  have := h j hj
  rw [List.getD_eq_getElem?_getD, List.getElem?_eq_getElem hj] at this
  rw [← e]; exact this
theorem all_no2 {α : Type} {p : α → Bool} {d : α} {l : List α} {k : Nat} (hk : k < l.length) (h : p (l.getD k d) = false) : l.all p = false := by
  rw [Bool.eq_false_iff]; intro ha
  rw [List.all_eq_true] at ha
  have := ha (l.getD k d) (by rw [List.getD_eq_getElem?_getD, List.getElem?_eq_getElem hk]; exact List.getElem_mem hk)
  rw [h] at this; cases this
theorem smallT_cols {cs : List (ByteArray × Int)} {rs : R3} (h : colsSmall cs = false) : smallT cs rs = false := by unfold smallT; rw [h]; rfl
theorem smallT_rows {cs : List (ByteArray × Int)} {rs : R3} (h : rs.all rowSmall = false) : smallT cs rs = false := by unfold smallT; rw [h]; simp
theorem smallT_end {cs : List (ByteArray × Int)} {rs : R3} (h1 : colsSmall cs = true) (h2 : rs.all rowSmall = true) : smallT cs rs = (decide (cs.length ≤ 20) && decide (rs.length ≤ 60)) := by unfold smallT; rw [h1, h2]; rfl
theorem smallT_yes {cs : List (ByteArray × Int)} {rs : R3} (h : smallT cs rs = true) : cs.length ≤ 20 ∧ rs.length ≤ 60 ∧ ∀ r ∈ rs, r.length ≤ 20 := by
  unfold smallT at h
  simp only [Bool.and_eq_true, decide_eq_true_eq, List.all_eq_true] at h
  obtain ⟨_, h2, h3, h4⟩ := h
  refine ⟨h3, h4, fun r hr => ?_⟩
  have := h2 r hr
  unfold rowSmall at this
  simp only [Bool.and_eq_true, decide_eq_true_eq] at this
  exact this.1

set_option maxHeartbeats 3200000 in
set_option maxRecDepth 100000 in
theorem small_any (S A : Option Addr) (c d : Nat) (cs : List (ByteArray × Int)) (hs : List RH) (w : World) (hC : ColsAt w.heap.size w S cs) (hR : RowsAt w.heap.size w A hs) (hw : Wf cs) (hv : WfT (rowsOf hs)) :
    Calls Tryz.prog 6 #[vTab S cs.length c A hs.length d] w fun e w' => e = .returned (.bool (smallT cs (rowsOf hs))) ∧ Below w.heap.size w w' := by
  have hlc := hw.1
  have hlh := hv.1
  rw [rowsOf_len] at hlh
  unfold maxLen at hlc hlh
  have hal := Joins.below_alloc1 w (.cells #[.slice S cs.length c, .slice A hs.length d] 26)
  have HC := hide (hC.on hal); have HR := hide (hR.on hal); have HV := hide hv
  have HL := hide hal
  have hsz : (w.alloc (.cells #[.slice S cs.length c, .slice A hs.length d] 26)).heap.size = w.heap.size + 1 := by simp
  have hc0 : (w.alloc (.cells #[.slice S cs.length c, .slice A hs.length d] 26)).cell? ⟨w.heap.size, 0, none⟩ = some (.slice S cs.length c) := by simp
  have hc1 : (w.alloc (.cells #[.slice S cs.length c, .slice A hs.length d] 26)).cell? ⟨w.heap.size, 1, none⟩ = some (.slice A hs.length d) := by simp
  generalize hW : w.alloc (.cells #[.slice S cs.length c, .slice A hs.length d] 26) = W at *
  have HW := hide hW; have HSZ := hide hsz; have HC0 := hide hc0; have HC1 := hide hc1
  clear hC hR hw hv hal hW hsz hc0 hc1
  go_enter Tryz.func6, Tryz.ntmps6
  go_wp2_with fail
  rw [HW.out]
  go_loopw [12] (fun i wr => ∃ k : Nat, k ≤ cs.length ∧ i = .int .i64 k ∧ preAll (fun c => decide (c.1.size ≤ 100)) (⟨#[]⟩, 0) cs k ∧ Below W.heap.size W wr) (fun i _ => cs.length - (intOf i).toNat)
  case atStart => exact ⟨0, Nat.zero_le _, rfl, fun j h => by omega, Below.refl _ _⟩
  case round =>
    obtain ⟨k, hk, rfl, hp, hbw⟩ := hrel
    have HP := hide hp; clear hp
    have hs0 := hbw.size
    by_cases hlt : k < cs.length
    · obtain ⟨b, off, rfl, hb, h0, h1⟩ := HC.out.below hbw k hlt
      have HN := hide (fun h => all_no2 (p := fun c => decide (c.1.size ≤ 100)) (d := ((⟨#[]⟩, 0) : ByteArray × Int)) hlt h)
      have HY := hide (fun h => preAll_succ HP.out h)
      generalize cs.getD k (⟨#[]⟩, 0) = q at h0 h1 HN HY
      obtain ⟨nm, ty⟩ := q
      go_wp2_with fail
      · have hq : (100 : Int) < (nm.size : Int) := by assumption
        go_ret
        exact ⟨ret_bool (smallT_cols (HN.out (by simp; omega))).symm, HL.out.trans ((hbw.alloc hs0 _).mono HL.out.size)⟩
      · have hq : (nm.size : Int) ≤ (100 : Int) := by assumption
        go_roundw
        case rel => exact ⟨k + 1, by omega, by go_num, HY.out (by simp; omega), hbw.alloc hs0 _⟩
        case measure => simp [intOf]; omega
    · obtain rfl : k = cs.length := by omega
      have t1 := (hbw.cell (p := ⟨w.heap.size, 1, none⟩) (by have := HSZ.out; simp only; omega)).trans HC1.out
      have HCS := hide (preAll_all HP.out)
      go_wp2_with fail
      clear t1
      obtain ⟨wa, hwa⟩ : ∃ wa : World, wa = wr := ⟨_, rfl⟩
      subst hwa
      go_loopw [6, 8, 24, 33] (fun _ _ i _ w2 => ∃ k : Nat, k ≤ hs.length ∧ i = .int .i64 k ∧ preAll rowSmall [] (rowsOf hs) k ∧ Below W.heap.size W w2) (fun _ _ i _ _ => hs.length - (intOf i).toNat)
      case atStart => exact ⟨0, Nat.zero_le _, rfl, fun j h => by omega, hbw⟩
      case round =>
        obtain ⟨j, hj, rfl, hp2, hbw2⟩ := hrel
        have HP2 := hide hp2; clear hp2
        have hs2 := hbw2.size
        by_cases hlt2 : j < hs.length
        · obtain ⟨b, off, A1, c1, r1, rfl, hb, d1, hr1, -, hg1⟩ := (HR.out.below hbw2).at hlt2
          have hk1 := rowsOf_at hlt2
          rw [hg1] at hk1
          have hwr := HV.out.at hlt2
          rw [hg1] at hwr
          have hrl := hwr.1
          unfold maxLen at hrl
          have hrl1 : r1.length ≤ 9223372036854775807 := by omega
          have HWR := hide hwr
          have HK1 := hide hk1
          have HG := hide hg1
          clear hr1 hg1 hk1 hwr hrl
          have HNo := hide (fun h => smallT_rows (cs := cs) (all_no2 (p := rowSmall) (d := []) (show j < (rowsOf hs).length by rw [rowsOf_len]; exact hlt2) (by rw [HK1.out]; exact h)))
          by_cases h20 : r1.length ≤ 20
          · have h20' : ¬ (20 : Int) < (r1.length : Int) := by omega
            go_wp2_with fail
            obtain ⟨wb, hwb⟩ : ∃ wb : World, wb = wr := ⟨_, rfl⟩
            subst hwb
            go_loopw [8, 33] (fun _ i w3 => ∃ m : Nat, m ≤ r1.length ∧ i = .int .i64 m ∧ preAll (fun v => decide (v.2.2.size ≤ 100)) (0, 0, ⟨#[]⟩) r1 m ∧ Below W.heap.size W w3) (fun _ i _ => r1.length - (intOf i).toNat)
            case atStart => exact ⟨0, Nat.zero_le _, rfl, fun j h => by omega, hbw2⟩
            case round =>
              obtain ⟨m, hm, rfl, hp3, hbw3⟩ := hrel
              have HP3 := hide hp3; clear hp3
              have hs3 := hbw3.size
              by_cases hlt3 : m < r1.length
              · have hr3 := ((HR.out.below hbw3).2 _ (getH_mem hlt2)).1
                rw [HG.out] at hr3
                obtain ⟨b2, off2, rfl, hb2, g0, g1, g2⟩ := hr3 m hlt3
                have HN3 := hide (fun h => HNo.out (show rowSmall r1 = false by unfold rowSmall valsSmall; rw [all_no2 (p := fun v : Int × Int × ByteArray => decide (v.2.2.size ≤ 100)) (d := (0, 0, ⟨#[]⟩)) hlt3 h]; simp))
                have HY3 := hide (fun h => preAll_succ HP3.out h)
                clear hr3
                generalize r1.getD m (0, 0, ⟨#[]⟩) = v at g0 g1 g2 HN3 HY3
                obtain ⟨kk, n, s⟩ := v
                go_wp2_with fail
                · have hq : (100 : Int) < (s.size : Int) := by assumption
                  go_ret
                  exact ⟨ret_bool (HN3.out (by simp; omega)).symm, HL.out.trans ((hbw3.alloc hs3 _).mono HL.out.size)⟩
                · have hq : (s.size : Int) ≤ (100 : Int) := by assumption
                  go_roundw
                  case rel => exact ⟨m + 1, by omega, by go_num, HY3.out (by simp; omega), hbw3.alloc hs3 _⟩
                  case measure => simp [intOf]; omega
              · obtain rfl : m = r1.length := by omega
                have HYr := hide (show rowSmall ((rowsOf hs).getD j []) = true by rw [HK1.out]; unfold rowSmall valsSmall; rw [decide_eq_true h20, preAll_all HP3.out]; rfl)
                go_wp2_with fail
                go_roundw
                case rel => exact ⟨j + 1, by omega, by go_num, preAll_succ HP2.out HYr.out, hbw3⟩
                case measure => simp [intOf]; omega
          · have h20' : (20 : Int) < (r1.length : Int) := by omega
            have HZ := hide (HNo.out (by unfold rowSmall; rw [decide_eq_false h20]; rfl))
            go_wp2_with fail
            go_ret
            exact ⟨ret_bool HZ.out.symm, HL.out.trans (hbw2.mono HL.out.size)⟩
        · obtain rfl : j = hs.length := by omega
          have t0 := (hbw2.cell (p := ⟨w.heap.size, 0, none⟩) (by have := HSZ.out; simp only; omega)).trans HC0.out
          have t1 := (hbw2.cell (p := ⟨w.heap.size, 1, none⟩) (by have := HSZ.out; simp only; omega)).trans HC1.out
          have HE := hide (smallT_end (rs := rowsOf hs) HCS.out (preAll_all (by rw [rowsOf_len]; exact HP2.out)))
          have hrl := rowsOf_len hs
          have HRL := hide hrl
          clear hrl
          by_cases h20 : cs.length ≤ 20
          all_goals
            have H20 := hide h20
            go_wp2_with fail
            go_ret
            exact ⟨ret_bool (by rw [HE.out, HRL.out]; first | (rw [decide_eq_true H20.out, Bool.true_and, Bool.eq_iff_iff]; simp; omega) | (rw [decide_eq_false H20.out]; rfl)), HL.out.trans (hbw2.mono HL.out.size)⟩
end Go.Proofs.YtfjhdfpdgjjcgaaGreatDoor
