/-
  The law's words on a table: right, empty.
-/
import Derived.Test.YtfjhdfpdgjjcgaaGreatDoorTLaw
namespace Go.Proofs.YtfjhdfpdgjjcgaaGreatDoor
open Go.RowKit

/-- What a call does to blocks that were there, behind another call; the later one first. -/
theorem after_below {a b c : World} (k : Below b.heap.size b c) (h : Below a.heap.size a b) : Below a.heap.size a c := then_below h k

set_option maxHeartbeats 800000 in
theorem empty_zero (w : World) : Calls Tryz.prog 11 #[vZero] w fun e w' => e = .returned (.bool true) ∧ Below w.heap.size w w' := by
  go_enter Tryz.func11, Tryz.ntmps11
  go_wp2_with fail
  go_ret
  exact ⟨rfl, by go_grown⟩

set_option maxHeartbeats 3200000 in
set_option maxRecDepth 100000 in
theorem right_any' (S A : Option Addr) (c d : Nat) (cs : List (ByteArray × Int)) (hs : List RH) (w : World) (hC : ColsAt w.heap.size w S cs) (hR : RowsAt w.heap.size w A hs) (hw : Wf cs) (hv : WfT (rowsOf hs)) (hlc : cs.length ≤ 65536) (hl : hs.length ≤ 65536)
    (hlr : ∀ r ∈ rowsOf hs, r.length ≤ 65536) :
    Calls Tryz.prog 9 #[vTab S cs.length c A hs.length d] w fun e w' => e = .returned (.int .i64 (fullT cs (rowsOf hs))) ∧ Below w.heap.size w w' := by
  have hal := Joins.below_alloc1 w (.cells #[.slice S cs.length c, .slice A hs.length d] 26)
  have HL := hide hal
  have hsz : (w.alloc (.cells #[.slice S cs.length c, .slice A hs.length d] 26)).heap.size = w.heap.size + 1 := by simp
  have hc0 : (w.alloc (.cells #[.slice S cs.length c, .slice A hs.length d] 26)).cell? ⟨w.heap.size, 0, none⟩ = some (.slice S cs.length c) := by simp
  have hc1 : (w.alloc (.cells #[.slice S cs.length c, .slice A hs.length d] 26)).cell? ⟨w.heap.size, 1, none⟩ = some (.slice A hs.length d) := by simp
  have HC := hide (hC.on hal); have HR := hide (hR.on hal)
  generalize hW : w.alloc (.cells #[.slice S cs.length c, .slice A hs.length d] 26) = W at *
  have HW := hide hW; have HSZ := hide hsz; have HC0 := hide hc0; have HC1 := hide hc1
  have HSch := hide (fun w' (h : Below W.heap.size W w') => refSchema_any S c cs w' (HC.out.on h) hlc)
  have HRws := hide (fun w' (h : Below W.heap.size W w') => refRows_any A d hs w' (HR.out.on h) hl hlr)
  have HCk := hide (fun S' A' c' d' ns w' (h1 : ColsAt w'.heap.size w' S' cs) (h2 : RowsAt w'.heap.size w' A' ns) (h3 : rowsOf ns = rowsOf hs) => (refTabCheck_any S' A' c' d' cs ns w' h1 h2 hw (h3 ▸ hv)).mono fun e w1 (h : e = .returned (.int .i64 (checkT cs (rowsOf ns))) ∧ Below w'.heap.size w' w1) => (⟨by rw [h.1, h3], h.2⟩ : e = .returned (.int .i64 (checkT cs (rowsOf hs))) ∧ Below w'.heap.size w' w1))
  have HSo := hide (fun A' d' ns w' (h2 : RowsAt w'.heap.size w' A' ns) (h3 : rowsOf ns = rowsOf hs) => (refSorted_any A' d' ns w' h2 (h3 ▸ hv)).mono fun e w1 (h : e = .returned (.bool (adjB (rowsOf ns))) ∧ Below w'.heap.size w' w1) => (⟨by rw [h.1, h3], h.2⟩ : e = .returned (.bool (adjB (rowsOf hs))) ∧ Below w'.heap.size w' w1))
  have HF := hide (show fullT cs (rowsOf hs) = if checkT cs (rowsOf hs) = 0 then if adjB (rowsOf hs) = true then 0 else 20 else checkT cs (rowsOf hs) from rfl)
  clear hC hR hw hv hal hW hsz hc0 hc1 hlc hl hlr
  generalize checkT cs (rowsOf hs) = z at HCk HF
  generalize fullT cs (rowsOf hs) = full at HF ⊢
  have hadj : adjB (rowsOf hs) = adjB (rowsOf hs) := rfl
  generalize adjB (rowsOf hs) = srt at HSo HF hadj
  clear hadj
  by_cases hz : z = 0
  · have hz0 : (z == 0) = true := by rw [beq_iff_eq]; exact hz
    have HZ := hide hz
    clear hz
    go_enter Tryz.func9, Tryz.ntmps9
    go_wp2_with fail
    rw [HW.out]
    have HALL := hide (fun w' (h : Below W.heap.size W w') => (⟨(h.cell (p := ⟨w.heap.size, 0, none⟩) (by have := HSZ.out; simp only; omega)).trans HC0.out, (h.cell (p := ⟨w.heap.size, 1, none⟩) (by have := HSZ.out; simp only; omega)).trans HC1.out, Nat.lt_of_lt_of_le (by have := HSZ.out; omega) h.size, h⟩ : w'.cell? ⟨w.heap.size, 0, none⟩ = some (.slice S cs.length c) ∧ w'.cell? ⟨w.heap.size, 1, none⟩ = some (.slice A hs.length d) ∧ w.heap.size < w'.heap.size ∧ Below W.heap.size W w'))
    go_region_held3 (fun w' => w'.cell? ⟨w.heap.size, 0, none⟩ = some (.slice S cs.length c) ∧ w'.cell? ⟨w.heap.size, 1, none⟩ = some (.slice A hs.length d) ∧ w.heap.size < w'.heap.size ∧ Below W.heap.size W w')
      ((refine HALL.out _ ?_; first | assumption | exact (Below.refl _ _).drew | ((try go_split_ands); first | assumption | exact after_below (by assumption) (by assumption))))
      (first
        | (go_at_call 23; (try go_split_ands); refine (HSch.out _ (by assumption)).mono ?_; rintro e w1 ⟨⟨A1, c1, rfl, hA1⟩, hbA⟩)
        | (go_at_call 12; (try go_split_ands); refine (HRws.out _ (by assumption)).mono ?_; rintro e w2 ⟨⟨A2, c2, ns, rfl, hA2, hns, -⟩, hbB⟩)
        | (go_at_call 29; (try go_split_ands); refine (HCk.out _ _ _ _ _ _ (by first | assumption | exact hA1.on hbB) (by first | assumption | exact hA2.on hbA) (by assumption)).mono ?_; rintro e w3 ⟨rfl, hbC⟩))
    all_goals
      go_split_ands
      go_wp2_with fail
      refine (HRws.out _ (by assumption)).mono ?_
      rintro e w4 ⟨⟨A4, c4, ns4, rfl, hA4, hns4, -⟩, hb4⟩
      go_wp2_with fail
      refine (HSo.out _ _ _ _ hA4 hns4).mono ?_
      rintro e w5 ⟨rfl, hb5⟩
      cases srt
      all_goals
        go_wp2_with fail
        go_ret
        exact ⟨ret_int (by rw [HF.out, HZ.out]; rfl), HL.out.trans ((then_below (after_below hb4 (by assumption)) hb5).mono HL.out.size)⟩
  · have hz0 : (z == 0) = false := by rw [beq_eq_false_iff_ne]; exact hz
    have HZ := hide hz
    clear hz
    go_enter Tryz.func9, Tryz.ntmps9
    go_wp2_with fail
    rw [HW.out]
    have HALL := hide (fun w' (h : Below W.heap.size W w') => (⟨(h.cell (p := ⟨w.heap.size, 0, none⟩) (by have := HSZ.out; simp only; omega)).trans HC0.out, (h.cell (p := ⟨w.heap.size, 1, none⟩) (by have := HSZ.out; simp only; omega)).trans HC1.out, Nat.lt_of_lt_of_le (by have := HSZ.out; omega) h.size, h⟩ : w'.cell? ⟨w.heap.size, 0, none⟩ = some (.slice S cs.length c) ∧ w'.cell? ⟨w.heap.size, 1, none⟩ = some (.slice A hs.length d) ∧ w.heap.size < w'.heap.size ∧ Below W.heap.size W w'))
    go_region_held3 (fun w' => w'.cell? ⟨w.heap.size, 0, none⟩ = some (.slice S cs.length c) ∧ w'.cell? ⟨w.heap.size, 1, none⟩ = some (.slice A hs.length d) ∧ w.heap.size < w'.heap.size ∧ Below W.heap.size W w')
      ((refine HALL.out _ ?_; first | assumption | exact (Below.refl _ _).drew | ((try go_split_ands); first | assumption | exact after_below (by assumption) (by assumption))))
      (first
        | (go_at_call 23; (try go_split_ands); refine (HSch.out _ (by assumption)).mono ?_; rintro e w1 ⟨⟨A1, c1, rfl, hA1⟩, hbA⟩)
        | (go_at_call 12; (try go_split_ands); refine (HRws.out _ (by assumption)).mono ?_; rintro e w2 ⟨⟨A2, c2, ns, rfl, hA2, hns, -⟩, hbB⟩)
        | (go_at_call 29; (try go_split_ands); refine (HCk.out _ _ _ _ _ _ (by first | assumption | exact hA1.on hbB) (by first | assumption | exact hA2.on hbA) (by assumption)).mono ?_; rintro e w3 ⟨rfl, hbC⟩))
    all_goals
      go_split_ands
      go_wp2_with fail
      go_ret
      exact ⟨ret_int (by rw [HF.out, if_neg HZ.out]), HL.out.trans (Below.mono (by assumption) HL.out.size)⟩
end Go.Proofs.YtfjhdfpdgjjcgaaGreatDoor
