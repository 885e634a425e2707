/-
  Make: the rows in their order, in memory of the call's own; or the error.
-/
import Derived.Test.YtfjhdfpdgjjcgaaGreatDoorTCopy
import Derived.Test.YtfjhdfpdgjjcgaaGreatDoorTSortF
import Derived.Test.YtfjhdfpdgjjcgaaGreatDoorTCheck
namespace Go.Proofs.YtfjhdfpdgjjcgaaGreatDoor
open Go.RowKit

/-- The zero table. -/
abbrev vZero : Value := .agg #[.slice none 0 0, .slice none 0 0]
/-- A table that reads as these columns and rows. -/
def TabAt (cs : List (ByteArray × Int)) (rs : R3) (w : World) (v : Value) : Prop :=
  ∃ S c g cap ns, v = .agg #[.slice S cs.length c, .slice (some ⟨g, 0, none⟩) ns.length cap] ∧ ColsAt w.heap.size w S cs ∧ (S = none → c = 0) ∧ rowsOf ns = rs ∧ RowsAt w.heap.size w (some ⟨g, 0, none⟩) ns
def MakeV (cs : List (ByteArray × Int)) (rs : R3) (w : World) (e : Ending) (w' : World) : Prop :=
  (if checkT cs rs = 0 then ∃ v, e = .returned (.tuple #[v, .int .i64 0]) ∧ TabAt cs (sortR rs) w' v else e = .returned (.tuple #[vZero, .int .i64 (checkT cs rs)])) ∧ Below w.heap.size w w'

/-- A table that reads as these columns and rows, its rows in a block that is not below B. -/
def TabF (cs : List (ByteArray × Int)) (rs : R3) (B : Nat) (w : World) (v : Value) : Prop :=
  ∃ S c g cap ns, v = .agg #[.slice S cs.length c, .slice (some ⟨g, 0, none⟩) ns.length cap] ∧ ColsAt w.heap.size w S cs ∧ (S = none → c = 0) ∧ rowsOf ns = rs ∧ RowsAt w.heap.size w (some ⟨g, 0, none⟩) ns ∧ B ≤ g
def MakeF (cs : List (ByteArray × Int)) (rs : R3) (w : World) (e : Ending) (w' : World) : Prop :=
  (if checkT cs rs = 0 then ∃ v, e = .returned (.tuple #[v, .int .i64 0]) ∧ TabF cs (sortR rs) w.heap.size w' v else e = .returned (.tuple #[vZero, .int .i64 (checkT cs rs)])) ∧ Below w.heap.size w w'

set_option maxHeartbeats 3200000 in
set_option maxRecDepth 100000 in
theorem make_fresh (S A : Option Addr) (c cap : Nat) (cs : List (ByteArray × Int)) (hs : List RH) (w : World) (hC : ColsAt w.heap.size w S cs) (hn : S = none → c = 0) (hR : RowsAt w.heap.size w A hs) (hw : Wf cs) (hv : WfT (rowsOf hs)) (hlc : cs.length ≤ 65536)
    (hlr : ∀ r ∈ rowsOf hs, r.length ≤ 65536) :
    Calls Tryz.prog 24 #[.slice S cs.length c, .slice A hs.length cap] w (MakeF cs (rowsOf hs) w) := by
  have hal := Joins.below_alloc1 w (.cells #[.slice none 0 0, .slice none 0 0] 26)
  have HCk := hide (checkRows_any S A c cap cs hs _ (hC.on hal) (hR.on hal) hw hv)
  have HC := hide (hC.on hal); have HR := hide (hR.on hal); have HN := hide hn; have HLR := hide hlr
  have HL := hide hal
  have HRes := hide (show ResAt (w.alloc (.cells #[.slice none 0 0, .slice none 0 0] 26)) w.heap.size from ⟨(0, 0), heap_alloc_new w _⟩)
  have HSZ := hide (show (w.alloc (.cells #[.slice none 0 0, .slice none 0 0] 26)).heap.size = w.heap.size + 1 by simp)
  have HP := hide (show ∀ e w', ((if checkT cs (rowsOf hs) = 0 then ∃ v, e = Ending.returned (.tuple #[v, .int .i64 0]) ∧ TabF cs (sortR (rowsOf hs)) w.heap.size w' v else e = .returned (.tuple #[vZero, .int .i64 (checkT cs (rowsOf hs))])) ∧ Below w.heap.size w w') → MakeF cs (rowsOf hs) w e w' from fun _ _ h => h)
  clear hC hn hR hw hlr hal
  by_cases hz : checkT cs (rowsOf hs) = 0
  · have hk0 : (checkT cs (rowsOf hs) != 0) = false := by rw [bne_eq_false_iff_eq]; exact hz
    have HZ := hide hz
    have hl : hs.length ≤ 4096 := by have := (checkT_zero hz).2.1; rwa [rowsOf_len] at this
    clear hz hv
    go_enter Tryz.func24, Tryz.ntmps24
    go_wp2_with fail
    refine HCk.out.mono ?_
    rintro e w1 ⟨rfl, hb1⟩
    have HB1 := hide hb1
    have HCp := hide (copy_any S c cs A cap hs w1 (HC.out.on hb1) HN.out (HR.out.on hb1) hlc (by omega) HLR.out)
    clear hb1
    go_wp2_with fail
    refine HCp.out.mono ?_
    rintro e w2 ⟨⟨S2, c2, g, cap2, ns, rfl, hown⟩, hb2⟩
    obtain ⟨o1, o2, o3, o4, o5, o6, o7⟩ := hown
    have hz1 : w.heap.size + 1 ≤ w1.heap.size := by have := HB1.out.size; rw [HSZ.out] at this; exact this
    have hz2 := hb2.size
    have hbal := Joins.below_alloc1 w2 (.cells #[.slice S2 cs.length c2, .slice (some ⟨g, 0, none⟩) ns.length cap2] 26)
    have HSo := hide (sort_any g cap2 ns (w2.alloc (.cells #[.slice S2 cs.length c2, .slice (some ⟨g, 0, none⟩) ns.length cap2] 26)) (by simp; omega)
      (fun j hj => ⟨(hbal.cell (p := ⟨g, j, none⟩) o7).trans (o4 j hj).1, (hbal.frozen (p := ⟨g, j, none⟩) o7).trans (o4 j hj).2⟩)
      (fun h hh => ⟨(o5 h hh).1.on hbal, (o5 h hh).2, by
        have := HLR.out h.2.2 (by rw [← o3]; unfold rowsOf; exact List.mem_map.2 ⟨h, hh, rfl⟩)
        unfold maxLen; omega⟩) (by have := congrArg List.length o3; rw [rowsOf_len, rowsOf_len] at this; omega))
    have HC2 := hide (o1.on hbal)
    have HB2 := hide ((HB1.out.trans (hb2.mono (by rw [HSZ.out]; omega))))
    have HO2 := hide o2; have HO3 := hide o3
    clear o1 o2 o3 o4 o5 hb2 hbal HCp
    go_wp2_with fail
    refine HSo.out.mono ?_
    rintro e w3 ⟨rfl, ⟨ns', hnl, hrs, hpm, hrows⟩, hgrow⟩
    have HR3 := hide hrows; have HRS := hide hrs; have HG3 := hide hgrow
    have hz3 := hgrow.size
    simp at hz3
    have l0 := (World.cell?_of_block (a := ⟨w2.heap.size, 0, none⟩) (hgrow.block w2.heap.size (by simp) (by simp; omega))).trans (World.cell?_alloc_mark w2 _ _ (0, 0) 0)
    have l1 := (World.cell?_of_block (a := ⟨w2.heap.size, 1, none⟩) (hgrow.block w2.heap.size (by simp) (by simp; omega))).trans (World.cell?_alloc_mark w2 _ _ (0, 0) 1)
    simp at l0 l1
    have HC3 := hide (HC2.out.grown hgrow (fun a ha e => HO2.out.2 a ha (by injection e with e; exact e.symm)))
    have hb3 : Below (w.heap.size + 1) w2 w3 := ⟨hgrow.os, hgrow.tape, hgrow.output, by omega, fun k hk => by
      rw [hgrow.block k (by simp; omega) (by simp; omega)]
      exact Lib.alloc_old w2 _ k (by omega)⟩
    have hb03 := HB2.out.trans (hb3.mono (by rw [HSZ.out]; exact Nat.le_refl _))
    have hres3 := HRes.out.below hb03 (by rw [HSZ.out]; omega)
    have r0 := (hb03.cell (p := ⟨w.heap.size, 0, none⟩) (by rw [HSZ.out]; exact Nat.lt_succ_self _)).trans (World.cell?_alloc_mark w _ _ (0, 0) 0)
    have r1 := (hb03.cell (p := ⟨w.heap.size, 1, none⟩) (by rw [HSZ.out]; exact Nat.lt_succ_self _)).trans (World.cell?_alloc_mark w _ _ (0, 0) 1)
    have f0 := (hb03.frozen (p := ⟨w.heap.size, 0, none⟩) (by rw [HSZ.out]; exact Nat.lt_succ_self _)).trans (by simp : _ = false)
    have f1 := (hb03.frozen (p := ⟨w.heap.size, 1, none⟩) (by rw [HSZ.out]; exact Nat.lt_succ_self _)).trans (by simp : _ = false)
    simp at r0 r1
    have HB03 := hide hb03; have HRES3 := hide hres3; have HNL := hide hnl
    have hlt0 : w.heap.size < w3.heap.size := by omega
    clear hnl hrs hpm hrows hgrow hb3 hb03 hres3
    go_wp2_with fail
    have hbut : ButAt w.heap.size w3 ((w3.setCell ⟨w.heap.size, 0, none⟩ (.slice S2 cs.length c2)).setCell ⟨w.heap.size, 1, none⟩ (.slice (some ⟨g, 0, none⟩) ns.length cap2)) := (butAt_set _ _ _ _).trans (butAt_set _ _ _ _)
    refine bodyPost_ret (v := .tuple #[.agg #[.slice S2 cs.length c2, .slice (some ⟨g, 0, none⟩) ns.length cap2], .int .i64 0]) (by simp [results, Tryz.results24, go_sem, r0, r1]) rfl ?_
    refine HP.out _ _ ⟨?_, ?_⟩
    · rw [if_pos HZ.out]
      refine ⟨_, rfl, S2, c2, g, cap2, ns', by rw [HNL.out], ?_, HO2.out.1, by rw [HRS.out, HO3.out], ?_, by omega⟩
      · rw [hbut.2]; exact HC3.out.but HRES3.out hbut
      · rw [hbut.2]; exact HR3.out.but HRES3.out hbut (by omega)
    · exact ((HL.out.trans (HB03.out.mono HL.out.size)).setCell (p := ⟨w.heap.size, 0, none⟩) (Nat.le_refl _) _).setCell (p := ⟨w.heap.size, 1, none⟩) (Nat.le_refl _) _
  · have hk0 : (checkT cs (rowsOf hs) != 0) = true := by rw [bne_iff_ne]; exact hz
    have HZ := hide hz
    clear hz hv
    go_enter Tryz.func24, Tryz.ntmps24
    go_wp2_with fail
    refine HCk.out.mono ?_
    rintro e w1 ⟨rfl, hb1⟩
    have r0 := (hb1.cell (p := ⟨w.heap.size, 0, none⟩) (by simp)).trans (World.cell?_alloc_mark w _ _ (0, 0) 0)
    have r1 := (hb1.cell (p := ⟨w.heap.size, 1, none⟩) (by simp)).trans (World.cell?_alloc_mark w _ _ (0, 0) 1)
    have f0 := (hb1.frozen (p := ⟨w.heap.size, 0, none⟩) (by simp)).trans (by simp : _ = false)
    have f1 := (hb1.frozen (p := ⟨w.heap.size, 1, none⟩) (by simp)).trans (by simp : _ = false)
    simp at r0 r1
    have hlt0 : w.heap.size < w1.heap.size := by have := hb1.size; simp at this; omega
    have HB1 := hide (then_below HL.out hb1)
    clear hb1
    go_wp2_with fail
    refine bodyPost_ret (v := .tuple #[vZero, .int .i64 (checkT cs (rowsOf hs))]) (by simp [results, Tryz.results24, go_sem, r0, r1]) rfl ?_
    refine HP.out _ _ ⟨by rw [if_neg HZ.out], ?_⟩
    exact (HB1.out.setCell (p := ⟨w.heap.size, 0, none⟩) (Nat.le_refl _) _).setCell (p := ⟨w.heap.size, 1, none⟩) (Nat.le_refl _) _
theorem make_any (S A : Option Addr) (c cap : Nat) (cs : List (ByteArray × Int)) (hs : List RH) (w : World) (hC : ColsAt w.heap.size w S cs) (hn : S = none → c = 0) (hR : RowsAt w.heap.size w A hs) (hw : Wf cs) (hv : WfT (rowsOf hs)) (hlc : cs.length ≤ 65536)
    (hlr : ∀ r ∈ rowsOf hs, r.length ≤ 65536) :
    Calls Tryz.prog 24 #[.slice S cs.length c, .slice A hs.length cap] w (MakeV cs (rowsOf hs) w) :=
  (make_fresh S A c cap cs hs w hC hn hR hw hv hlc hlr).mono fun e w' h => by
    obtain ⟨h1, hb⟩ := h
    refine ⟨?_, hb⟩
    by_cases hz : checkT cs (rowsOf hs) = 0
    · rw [if_pos hz] at h1 ⊢
      obtain ⟨v, he, S2, c2, g, cap2, ns, a1, a2, a3, a4, a5, _⟩ := h1
      exact ⟨v, he, S2, c2, g, cap2, ns, a1, a2, a3, a4, a5⟩
    · rw [if_neg hz] at h1 ⊢
      exact h1
end Go.Proofs.YtfjhdfpdgjjcgaaGreatDoor
