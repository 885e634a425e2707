/-
  The laws' fixed answer: a table of three rows is made, shown, and a row counted.
-/
import Derived.Test.YtfjhdfpdgjjcgaaGreatDoorTShow
import Derived.Test.YtfjhdfpdgjjcgaaGreatDoorTRight
import Derived.KernelRfl
namespace Go.Proofs.YtfjhdfpdgjjcgaaGreatDoor
open Go.RowKit

def awakeC : List (ByteArray × Int) := [(⟨#[97]⟩, 1)]
def awakeR : R3 := [[(1, 2, ⟨#[]⟩)], [(0, 0, ⟨#[]⟩)], [(1, 2, ⟨#[]⟩)]]
def awakeS : R3 := [[(0, 0, ⟨#[]⟩)], [(1, 2, ⟨#[]⟩)], [(1, 2, ⟨#[]⟩)]]
theorem awake_check : checkT awakeC awakeR = 0 := by kernel_rfl
theorem awake_sort : sortR awakeR = awakeS := by kernel_rfl
theorem awake_full : fullT awakeC awakeS = 0 := by kernel_rfl
theorem awake_show : showX awakeC awakeS = [40, 97, 32, 105, 110, 116, 41, 10, 110, 117, 108, 108, 10, 50, 10, 50, 10] := by
  have h2 : Lib.itoa 2 = [50] := by
    unfold Lib.itoa
    rw [if_neg (by decide)]
    rw [Lib.decDigits, dif_pos (by decide)]; rfl
  have s0 : showL (0, 0, ⟨#[]⟩) = [110, 117, 108, 108] := by unfold showL showV; rw [show rightV ((0 : Int), (0 : Int), (⟨#[]⟩ : ByteArray)).1 0 ⟨#[]⟩ = true by kernel_rfl]; rfl
  have s1 : showL (1, 2, ⟨#[]⟩) = [50] := by
    unfold showL showV
    rw [show rightV ((1 : Int), (2 : Int), (⟨#[]⟩ : ByteArray)).1 2 ⟨#[]⟩ = true by kernel_rfl]
    exact h2
  have l0 : lineX [(0, 0, ⟨#[]⟩)] = [110, 117, 108, 108] := by
    show [] ++ ((if 0 < 0 then [44, 32] else []) ++ showL (0, 0, ⟨#[]⟩)) = _
    rw [s0]; rfl
  have l1 : lineX [(1, 2, ⟨#[]⟩)] = [50] := by
    show [] ++ ((if 0 < 0 then [44, 32] else []) ++ showL (1, 2, ⟨#[]⟩)) = _
    rw [s1]; rfl
  unfold showX
  have hl : linesX awakeS = [110, 117, 108, 108, 10, 50, 10, 50, 10] := by
    unfold awakeS linesX
    simp only [List.flatMap_cons, List.flatMap_nil]
    rw [l0, l1]; rfl
  rw [hl]
  have hc : showC awakeC = [40, 97, 32, 105, 110, 116, 41] := by kernel_rfl
  rw [hc]; rfl
theorem awake_count : countR awakeS [(1, 2, ⟨#[]⟩)] = 2 := by kernel_rfl
theorem awake_wf : Wf awakeC := by
  refine ⟨by decide, fun c hc => ?_⟩
  simp [awakeC] at hc
  subst hc
  refine ⟨by decide, by decide, by decide⟩
theorem awake_wft (rs : R3) (h : rs.length ≤ 3) (hm : ∀ r ∈ rs, r = [(1, 2, ⟨#[]⟩)] ∨ r = [(0, 0, ⟨#[]⟩)]) : WfT rs := by
  refine ⟨by unfold maxLen; omega, fun r hr => ?_⟩
  rcases hm r hr with rfl | rfl
  · refine ⟨by decide, fun v hv => ?_⟩
    simp at hv; subst hv
    refine ⟨⟨by decide, by decide⟩, ⟨by decide, by decide⟩, by decide⟩
  · refine ⟨by decide, fun v hv => ?_⟩
    simp at hv; subst hv
    refine ⟨⟨by decide, by decide⟩, ⟨by decide, by decide⟩, by decide⟩
theorem alloc_after {a b : World} (h : Below a.heap.size a b) (o : Obj) : Below a.heap.size a (b.alloc o) := h.alloc h.size o
/-- A row of one value, in a block of its own. -/
theorem row_one (w : World) (k n : Int) (s : ByteArray) : RowAt (w.alloc (.cells #[.int .i64 k, .int .i64 n, .string s] 54)).heap.size (w.alloc (.cells #[.int .i64 k, .int .i64 n, .string s] 54)) (some ⟨w.heap.size, 0, none⟩) [(k, n, s)] := fun j hj => by
  obtain rfl : j = 0 := by simp at hj; omega
  exact ⟨w.heap.size, 0, rfl, by simp, by simp, by simp, by simp⟩

set_option maxHeartbeats 3200000 in
set_option maxRecDepth 100000 in
theorem awake_any (w : World) (hT : Tab w) : Calls Tryz.prog 7 #[] w fun e w' => e = .returned (.bool true) ∧ Below w.heap.size w w' := by
  have HT := hide hT; clear hT
  go_enter Tryz.func7, Tryz.ntmps7
  go_wp2_with fail
  refine (of_any 2 _).mono ?_
  rintro e w2 ⟨rfl, hb2⟩
  have hc2 : ColsAt w2.heap.size w2 (some ⟨w.heap.size, 0, none⟩) awakeC := ColsAt.on (w := w.alloc (.cells #[.string ⟨#[97]⟩, .int .i64 1] 52)) (fun j hj => by
    obtain rfl : j = 0 := by simp [awakeC] at hj; omega
    exact ⟨w.heap.size, 0, rfl, by simp, by simp [awakeC], by simp [awakeC]⟩) hb2
  have hq2 : Below w.heap.size w w2 := then_below (Joins.below_alloc1 w _) hb2
  have hr3 := row_one w2 1 2 ⟨#[]⟩
  have hq3 := alloc_after hq2 (.cells #[.int .i64 1, .int .i64 2, .string ⟨#[]⟩] 54)
  have hc3 := hc2.on (Joins.below_alloc1 w2 (.cells #[.int .i64 1, .int .i64 2, .string ⟨#[]⟩] 54))
  have HR3 := hide hr3; have HQ3 := hide hq3; have HC3 := hide hc3
  clear hb2 hc2 hq2 hr3 hq3 hc3
  go_wp2_with fail
  refine (null_any _).mono ?_
  rintro e w4 ⟨rfl, hb4⟩
  have hr5a := (HR3.out.on hb4).on (Joins.below_alloc1 w4 (.cells #[.int .i64 0, .int .i64 0, .string ⟨#[]⟩] 54))
  have hr5 := row_one w4 0 0 ⟨#[]⟩
  have hq5 := alloc_after (then_below HQ3.out hb4) (.cells #[.int .i64 0, .int .i64 0, .string ⟨#[]⟩] 54)
  have hc5 := (HC3.out.on hb4).on (Joins.below_alloc1 w4 (.cells #[.int .i64 0, .int .i64 0, .string ⟨#[]⟩] 54))
  have HR5a := hide hr5a; have HR5 := hide hr5; have HQ5 := hide hq5; have HC5 := hide hc5
  clear hb4 hr5a hr5 hq5 hc5
  go_wp2_with fail
  refine (of_any 2 _).mono ?_
  rintro e w6 ⟨rfl, hb6⟩
  have hal := Joins.below_alloc1 w6 (.cells #[.int .i64 1, .int .i64 2, .string ⟨#[]⟩] 54)
  have hr7a := (HR5a.out.on hb6).on hal
  have hr7b := (HR5.out.on hb6).on hal
  have hr7c := row_one w6 1 2 ⟨#[]⟩
  have hq7 := alloc_after (then_below HQ5.out hb6) (.cells #[.int .i64 1, .int .i64 2, .string ⟨#[]⟩] 54)
  have hc7 := (HC5.out.on hb6).on hal
  have hal8 := Joins.below_alloc1 (w6.alloc (.cells #[.int .i64 1, .int .i64 2, .string ⟨#[]⟩] 54)) (.cells #[.slice (some ⟨w2.heap.size, 0, none⟩) 1 1, .slice (some ⟨w4.heap.size, 0, none⟩) 1 1, .slice (some ⟨w6.heap.size, 0, none⟩) 1 1] 27)
  have HRows := hide (show RowsAt _ ((w6.alloc (.cells #[.int .i64 1, .int .i64 2, .string ⟨#[]⟩] 54)).alloc (.cells #[.slice (some ⟨w2.heap.size, 0, none⟩) 1 1, .slice (some ⟨w4.heap.size, 0, none⟩) 1 1, .slice (some ⟨w6.heap.size, 0, none⟩) 1 1] 27)) (some ⟨w6.heap.size + 1, 0, none⟩)
      [(some ⟨w2.heap.size, 0, none⟩, 1, [(1, 2, ⟨#[]⟩)]), (some ⟨w4.heap.size, 0, none⟩, 1, [(0, 0, ⟨#[]⟩)]), (some ⟨w6.heap.size, 0, none⟩, 1, [(1, 2, ⟨#[]⟩)])] from
    ⟨fun j hj => by
      refine ⟨w6.heap.size + 1, 0, rfl, (by simp : _ < ((w6.alloc (.cells #[.int .i64 1, .int .i64 2, .string ⟨#[]⟩] 54)).alloc (.cells #[.slice (some ⟨w2.heap.size, 0, none⟩) 1 1, .slice (some ⟨w4.heap.size, 0, none⟩) 1 1, .slice (some ⟨w6.heap.size, 0, none⟩) 1 1] 27)).heap.size), ?_⟩
      match j, hj with
      | 0, _ => simp [hdr]
      | 1, _ => simp [hdr]
      | 2, _ => simp [hdr], fun h hh => by
      simp only [List.mem_cons, List.not_mem_nil, or_false] at hh
      rcases hh with rfl | rfl | rfl
      · exact ⟨hr7a.on hal8, fun h => by cases h⟩
      · exact ⟨hr7b.on hal8, fun h => by cases h⟩
      · exact ⟨hr7c.on hal8, fun h => by cases h⟩⟩)
  have HC8 := hide (hc7.on hal8)
  have HQ8 := hide (then_below hq7 hal8)
  clear hb6 hal hr7a hr7b hr7c hq7 hc7 hal8
  have HM := hide (make_any (some ⟨w.heap.size, 0, none⟩) (some ⟨w6.heap.size + 1, 0, none⟩) 1 3 awakeC _ _ HC8.out (fun h => by cases h) HRows.out awake_wf (awake_wft awakeR (by decide) (fun r hr => by simp [awakeR] at hr; rcases hr with rfl | rfl | rfl <;> simp)) (by decide)
    (fun r hr => by
      have : r ∈ awakeR := hr
      simp [awakeR] at this; rcases this with rfl | rfl | rfl <;> decide))
  go_wp2_with fail
  refine HM.out.mono ?_
  rintro e w9 ⟨hcase, hb9⟩
  have hcase2 : ∃ v, e = .returned (.tuple #[v, .int .i64 0]) ∧ TabAt awakeC awakeS w9 v := by
    have h : (if checkT awakeC awakeR = 0 then ∃ v, e = Ending.returned (.tuple #[v, .int .i64 0]) ∧ TabAt awakeC (sortR awakeR) w9 v else e = .returned (.tuple #[vZero, .int .i64 (checkT awakeC awakeR)])) := hcase
    rw [if_pos awake_check, awake_sort] at h
    exact h
  obtain ⟨v, rfl, S, c, g, cap, ns, rfl, hS, hSn, hns, hA⟩ := hcase2
  have hq9 := then_below HQ8.out hb9
  have hal := Joins.below_alloc1 w9 (.cells #[.slice S awakeC.length c, .slice (some ⟨g, 0, none⟩) ns.length cap] 26)
  have hnl : ns.length = 3 := by have := congrArg List.length hns; rw [rowsOf_len] at this; exact this
  have HSh := hide (fun w' (h : Below (w9.alloc (.cells #[.slice S awakeC.length c, .slice (some ⟨g, 0, none⟩) ns.length cap] 26)).heap.size (w9.alloc (.cells #[.slice S awakeC.length c, .slice (some ⟨g, 0, none⟩) ns.length cap] 26)) w') =>
    (tabShow_any S (some ⟨g, 0, none⟩) c cap awakeC ns w' ((hS.on hal).on h) ((hA.on hal).on h) awake_wf (hns ▸ awake_wft awakeS (by decide) (fun r hr => by simp [awakeS] at hr; rcases hr with rfl | rfl | rfl <;> simp))
      ((HT.out.stays (then_below hq9 hal) (Nat.le_refl _)).stays h (Nat.le_refl _))).mono fun e w1 (hh : e = .returned (.string ⟨(if fullT awakeC (rowsOf ns) = 0 then showX awakeC (rowsOf ns) else []).toArray⟩) ∧ Below w'.heap.size w' w1) =>
        (⟨by rw [hh.1, hns, if_pos awake_full, awake_show], hh.2⟩ : e = .returned (.string ⟨#[40, 97, 32, 105, 110, 116, 41, 10, 110, 117, 108, 108, 10, 50, 10, 50, 10]⟩) ∧ Below w'.heap.size w' w1))
  have HCo := hide (fun B w' (h : Below (w9.alloc (.cells #[.slice S awakeC.length c, .slice (some ⟨g, 0, none⟩) ns.length cap] 26)).heap.size (w9.alloc (.cells #[.slice S awakeC.length c, .slice (some ⟨g, 0, none⟩) ns.length cap] 26)) w') (hr : RowAt w'.heap.size w' B [(1, 2, ⟨#[]⟩)]) =>
    (count_any S (some ⟨g, 0, none⟩) B awakeC.length c cap 1 ns [(1, 2, ⟨#[]⟩)] w' ((hA.on hal).on h) hr (by unfold maxLen; omega) (by decide)).mono fun e w1 (hh : e = .returned (.int .i64 (countR (rowsOf ns) [(1, 2, ⟨#[]⟩)] : Nat)) ∧ Below w'.heap.size w' w1) =>
        (⟨by rw [hh.1, hns, awake_count]; rfl, hh.2⟩ : e = .returned (.int .i64 2) ∧ Below w'.heap.size w' w1))
  have HQ9 := hide (then_below hq9 hal)
  have hcl : awakeC.length = 1 := rfl
  rw [hcl] at HSh HCo HQ9
  clear hcase hb9 hS hSn hns hA hal hq9 HM hcl
  have t0 : (w9.alloc (.cells #[.slice S 1 c, .slice (some ⟨g, 0, none⟩) ns.length cap] 26)).cell? ⟨w9.heap.size, 0, none⟩ = some (.slice S 1 c) := by simp
  have t1 : (w9.alloc (.cells #[.slice S 1 c, .slice (some ⟨g, 0, none⟩) ns.length cap] 26)).cell? ⟨w9.heap.size, 1, none⟩ = some (.slice (some ⟨g, 0, none⟩) ns.length cap) := by simp
  have tz : w9.heap.size < (w9.alloc (.cells #[.slice S 1 c, .slice (some ⟨g, 0, none⟩) ns.length cap] 26)).heap.size := by simp
  rw [hnl] at HSh HCo HQ9 t0 t1 tz
  go_wp2_with fail
  generalize hW : w9.alloc (.cells #[.slice S awakeC.length c, .slice (some ⟨g, 0, none⟩) 3 cap] 26) = W
  rw [show awakeC.length = 1 from rfl] at hW
  rw [hW] at HSh HCo HQ9 t0 t1 tz
  generalize w9.heap.size = T at *
  have HALL := hide (fun w' (h : Below W.heap.size W w') => (⟨(h.cell (p := ⟨T, 0, none⟩) tz).trans t0, (h.cell (p := ⟨T, 1, none⟩) tz).trans t1, Nat.lt_of_lt_of_le tz h.size, h⟩ : w'.cell? ⟨T, 0, none⟩ = some (.slice S 1 c) ∧ w'.cell? ⟨T, 1, none⟩ = some (.slice (some ⟨g, 0, none⟩) 3 cap) ∧ T < w'.heap.size ∧ Below W.heap.size W w'))
  clear t0 t1 tz hW
  go_region_held3 (fun w' => w'.cell? ⟨T, 0, none⟩ = some (.slice S 1 c) ∧ w'.cell? ⟨T, 1, none⟩ = some (.slice (some ⟨g, 0, none⟩) 3 cap) ∧ T < w'.heap.size ∧ Below W.heap.size W w')
    ((refine HALL.out _ ?_; first | assumption | exact (Below.refl _ _).drew | ((try go_split_ands); first | assumption | exact alloc_after (by assumption) _ | exact after_below (by assumption) (by assumption))))
    (first
      | (go_at_call 18; (try go_split_ands); refine (HSh.out _ (by assumption)).mono ?_; rintro e w1 ⟨rfl, hbA⟩)
      | (go_at_call 25; refine (of_any 2 _).mono ?_; rintro e w2 ⟨rfl, hbB⟩)
      | (go_at_call 17; (try go_split_ands); refine (HCo.out _ _ (alloc_after (a := W) (by first | assumption | exact after_below (by assumption) (after_below (by assumption) (by assumption))) _) (row_one _ _ _ _)).mono ?_; rintro e w3 ⟨rfl, hbC⟩))
  all_goals
    go_split_ands
    go_wp2_with fail
    go_ret
    exact ⟨rfl, HQ9.out.trans (Below.mono (by assumption) HQ9.out.size)⟩
end Go.Proofs.YtfjhdfpdgjjcgaaGreatDoor
