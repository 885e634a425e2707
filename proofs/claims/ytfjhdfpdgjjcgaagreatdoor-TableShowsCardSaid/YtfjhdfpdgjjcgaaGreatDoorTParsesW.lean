/-
  The walk of TableParses.
-/
import Derived.Test.YtfjhdfpdgjjcgaaGreatDoorZP
import Derived.Test.YtfjhdfpdgjjcgaaGreatDoorTTabDig
import Derived.Test.YtfjhdfpdgjjcgaaGreatDoorTRefShow
import Derived.Test.YtfjhdfpdgjjcgaaGreatDoorTRight
import Derived.Test.YtfjhdfpdgjjcgaaGreatDoorTBox
import Derived.Deep.RegionHeld3
namespace Go.Proofs.YtfjhdfpdgjjcgaaGreatDoor
open Go.RowKit

theorem parseT_read {l : List UInt8} {x : List (ByteArray × Int) × R3} (h : parseT l = some x) : readT l = some x := by
  unfold parseT at h
  split at h
  · cases h
  · rename_i y hy
    split at h
    · injection h with h; rw [← h]; exact hy
    · cases h
/-- What the document's Show wants of rows that are right. -/
theorem show_wants {cs : List (ByteArray × Int)} {rs : R3} (hf : fullT cs rs = 0) (hg : ∀ r ∈ rs, ∀ v ∈ r, Good v) (hw : WfT rs) : cs.length ≤ 20 ∧ (∀ c ∈ cs, c.1.size ≤ 100) ∧ rs.length ≤ 4096 ∧ ∀ r ∈ rs, (∀ v ∈ r, Good v) ∧ WfR r ∧ r.length ≤ 16 := by
  have hz := checkT_zero (fullT_zero hf).1
  have hc := (checkC_ok hz.1).2.1
  exact ⟨by omega, check_names hz.1, hz.2.1, fun r hr => ⟨hg r hr, hw.2 r hr, fits_len (fullT_zero hf).1 r hr⟩⟩
/-- The document's Show of a copy of right rows. -/
theorem refShow_copy (S A : Option Addr) (c cap : Nat) (cs : List (ByteArray × Int)) (ms : List RH) (rs : R3) (s : ByteArray) (w : World) (hf : fullT cs rs = 0) (hg : ∀ r ∈ rs, ∀ v ∈ r, Good v) (hw : WfT rs) (hs : showX cs rs = s.data.toList)
    (hC : ColsAt w.heap.size w S cs) (hR : RowsAt w.heap.size w A ms) (he : rowsOf ms = rs) :
    Calls Tryz.prog 22 #[.slice S cs.length c, .slice A ms.length cap] w fun e w' => e = .returned (.string s) ∧ Below w.heap.size w w' := by
  subst he
  obtain ⟨h1, h2, h3, h4⟩ := show_wants hf hg hw
  have h := refShowT_any S A c cap cs ms w hC hR h1 h2 (by rw [rowsOf_len] at h3; exact h3) h4
  rw [hs, ← of_data (s := s) rfl] at h
  exact h
end Go.Proofs.YtfjhdfpdgjjcgaaGreatDoor

namespace Go.Proofs.YtfjhdfpdgjjcgaaGreatDoor.tableParses
open Go.RowKit

set_option maxHeartbeats 3200000 in
set_option maxRecDepth 100000 in
theorem tableParses_walk (s : ByteArray) (w : World) (_hs : s.size ≤ maxLen) (hT : Tab w) (hE : Errs w) (hM : Mx w) :
    Calls Tryz.prog 5 #[.string s] w fun e w' => e = .returned (.bool true) ∧ Below w.heap.size w w' := by
  have HAw := hide (aw_later hT)
  by_cases h6 : (600 : Int) < (s.size : Int)
  · clear hT hE hM _hs
    go_enter Tryz.func5, Tryz.ntmps5
    go_wp2_with (go_at_call 7; refine (HAw.out _ (Below.refl _ _)).mono ?_; rintro e wa ⟨rfl, hba⟩)
    go_ret
    exact ⟨rfl, hba⟩
  · have HP := hide (parseT_any s w (by omega) hT hE hM)
    cases hp : parseT s.data.toList with
    | none =>
      rw [hp] at HP
      clear hp hT hE hM _hs
      go_enter Tryz.func5, Tryz.ntmps5
      go_wp2_with fail
      refine HP.out.mono ?_
      rintro e w1 ⟨rfl, hb1⟩
      have HQ := hide (alloc_after hb1 (.cells #[.slice none 0 0, .slice none 0 0] 26))
      clear hb1
      go_wp2_with fail
      refine (empty_zero _).mono ?_
      rintro e w2 ⟨rfl, hb2⟩
      have hq := hide (then_below HQ.out hb2)
      clear hb2
      go_wp2_with fail
      refine (HAw.out _ hq.out).mono ?_
      rintro e wa ⟨rfl, hba⟩
      go_wp2_with fail
      go_ret
      exact ⟨rfl, then_below hq.out hba⟩
    | some x =>
      have hwf := readT_wf (by simp; omega) (parseT_read hp)
      obtain ⟨cs, rs⟩ := x
      rw [hp] at HP
      obtain ⟨hf, hsh, hgd⟩ := parseT_sound hp
      obtain ⟨hwc, hwt⟩ := hwf
      simp only at hwc hwt
      have HWC := hide hwc; have HWT := hide hwt; have HF := hide hf; have HGD := hide hgd
      have HSH := hide (show showX cs rs = s.data.toList by rw [showX_T]; exact hsh)
      have hw4 := show_wants hf hgd hwt
      have htt : (s.toList == s.toList) = true := by simp
      clear hp hT hE hM hwc hwt hf hgd hsh _hs
      go_enter Tryz.func5, Tryz.ntmps5
      go_wp2_with fail
      refine HP.out.mono ?_
      rintro e w1 ⟨⟨S, c, A, cap, ns, rfl, hS, hA, hns⟩, hb1⟩
      simp only at hS hns
      subst hns
      rw [rowsOf_len] at hw4
      obtain ⟨hlc, -, hlr, hl16⟩ := hw4
      have HL16 := hide hl16
      have hbP : TabBox (w1.alloc (.cells #[.slice S cs.length c, .slice A ns.length cap] 26)) w1.heap.size (.slice S cs.length c) (.slice A ns.length cap) := heap_alloc_new w1 _
      have hb4 : Below w1.heap.size w1 (w1.alloc (.cells #[.slice S cs.length c, .slice A ns.length cap] 26)) := Joins.below_alloc1 w1 _
      have HQ4 := hide (then_below hb1 hb4)
      have hS4 := hS.on hb4; have hA4 := hA.on hb4
      have hPz : w1.heap.size < (w1.alloc (.cells #[.slice S cs.length c, .slice A ns.length cap] 26)).heap.size := by simp
      clear hS hA hb1 hb4 hl16
      go_wp2_with fail
      generalize w1.alloc (.cells #[.slice S cs.length c, .slice A ns.length cap] 26) = W4 at *
      generalize w1.heap.size = P at *
      have HBP := hide hbP; have HPZ := hide hPz
      have HRi := hide (fun w' (h : Below W4.heap.size W4 w') => (right_any' S A c cap cs ns w' (hS4.on h) (hA4.on h) HWC.out HWT.out (by omega) (by omega) (fun x hx => by have := (HL16.out x hx).2.2; omega)).mono fun e w1 (hh : e = .returned (.int .i64 (fullT cs (rowsOf ns))) ∧ Below w'.heap.size w' w1) => (⟨by rw [hh.1, HF.out], hh.2⟩ : e = .returned (.int .i64 0) ∧ Below w'.heap.size w' w1))
      have HSc := hide (fun w' (h : Below W4.heap.size W4 w') => refSchema_any S c cs w' (hS4.on h) (by omega))
      have HRw := hide (fun w' (h : Below W4.heap.size W4 w') => refRows_any A cap ns w' (hA4.on h) (by omega) (fun x hx => by have := (HL16.out x hx).2.2; omega))
      have HSw := hide (fun S' A' c' d' ms w' h1 h2 h3 => refShow_copy S' A' c' d' cs ms (rowsOf ns) s w' HF.out HGD.out HWT.out HSH.out h1 h2 h3)
      have HAw2 := hide (fun w' (h : Below W4.heap.size W4 w') => HAw.out w' (then_below HQ4.out h))
      have HALL := hide (fun w' (h : Below W4.heap.size W4 w') => (⟨(HBP.out.kept h HPZ.out).facts.1, (HBP.out.kept h HPZ.out).facts.2.1, (HBP.out.kept h HPZ.out).facts.2.2.2.2, h⟩ : w'.cell? ⟨P, 0, none⟩ = some (.slice S cs.length c) ∧ w'.cell? ⟨P, 1, none⟩ = some (.slice A ns.length cap) ∧ P < w'.heap.size ∧ Below W4.heap.size W4 w'))
      clear hbP hPz hS4 hA4 HF HGD HWT HWC HSH HL16 HP
      go_region_held3 (fun w' => w'.cell? ⟨P, 0, none⟩ = some (.slice S cs.length c) ∧ w'.cell? ⟨P, 1, none⟩ = some (.slice A ns.length cap) ∧ P < w'.heap.size ∧ Below W4.heap.size W4 w')
        ((refine HALL.out _ ?_; first | with_reducible assumption | exact Below.refl _ _ | exact (Below.refl _ _).drew | ((try go_split_ands); first | with_reducible assumption | with_reducible exact after_below hbE (by with_reducible assumption) | with_reducible exact after_below hbC (by with_reducible assumption) | with_reducible exact after_below hbA (by with_reducible assumption) | with_reducible exact after_below hbB (by with_reducible assumption) | with_reducible exact after_below hbD (by with_reducible assumption))))
        (first
          | (go_at_call 23; (try go_split_ands); refine (HSc.out _ (by with_reducible assumption)).mono ?_; rintro e w5 ⟨⟨A1, c1, rfl, hA1⟩, hbA⟩)
          | (go_at_call 12; (try go_split_ands); refine (HRw.out _ (by with_reducible assumption)).mono ?_; rintro e w6 ⟨⟨A2, c2, ms, rfl, hA2, hms, -⟩, hbB⟩)
          | (go_at_call 22; (try go_split_ands); refine (HSw.out _ _ _ _ _ _ (by first | with_reducible assumption | with_reducible exact hA1.on hbB) (by first | with_reducible assumption | with_reducible exact hA2.on hbA) (by with_reducible assumption)).mono ?_; rintro e w7 ⟨rfl, hbC⟩)
          | (go_at_call 9; (try go_split_ands); refine (HRi.out _ (by with_reducible assumption)).mono ?_; rintro e w8 ⟨rfl, hbD⟩)
          | (go_at_call 7; (try go_split_ands); refine (HAw2.out _ (by with_reducible assumption)).mono ?_; rintro e w9 ⟨rfl, hbE⟩))
      all_goals
        go_split_ands
        have hfin := then_below HQ4.out (by with_reducible assumption)
        go_wp2_with fail
        go_ret
        exact ⟨rfl, hfin⟩
end Go.Proofs.YtfjhdfpdgjjcgaaGreatDoor.tableParses
