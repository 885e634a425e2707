/-
  Show: the text of valid columns, through a Builder.
-/
import Derived.Test.YtfjhdfpdgjjcgaaGreatDoorSBuild
import Derived.Test.YtfjhdfpdgjjcgaaGreatDoorSCheck
import Derived.Test.YtfjhdfpdgjjcgaaGreatDoorSShowL
namespace Go.Proofs.YtfjhdfpdgjjcgaaGreatDoor
open Go.RowKit

def wordC (n : Int) : List UInt8 := if n = 1 then [105, 110, 116] else [116, 101, 120, 116]
theorem tail_word (n : Int) : tailC n = 32 :: wordC n := by unfold tailC wordC; split <;> rfl
theorem wordC_len (n : Int) : (wordC n).length ≤ 4 := by unfold wordC; split <;> simp
theorem wordOf_any (n : Int) (w : World) : Calls Tryz.prog 60 #[.int .i64 n] w fun e w' => e = .returned (.string ⟨(wordC n).toArray⟩) ∧ w = w' := by
  by_cases h : n = 1
  · subst h
    go_enter Tryz.func60, Tryz.ntmps60
    go_wp2
    go_ret
    exact ⟨rfl, rfl⟩
  · have hb : (n == 1) = false := by rw [beq_eq_false_iff_ne]; exact h
    have HR := hide (show wordC n = [116, 101, 120, 116] by unfold wordC; rw [if_neg h])
    clear h
    go_enter Tryz.func60, Tryz.ntmps60
    go_wp2
    go_ret
    rw [HR.out]
    exact ⟨rfl, rfl⟩

theorem check_names {cs : List (ByteArray × Int)} (h : checkC cs = 0) : ∀ c ∈ cs, c.1.size ≤ 100 := fun c hc => by
  obtain ⟨_, _, hcl⟩ := checkC_ok h
  obtain ⟨j, hj, e⟩ := List.getElem_of_mem hc
  have := (badC_name (hcl j hj)).1
  rw [List.getD_eq_getElem?_getD, List.getElem?_eq_getElem hj] at this
  simp only [Option.getD_some, e] at this
  have := nameB_size this
  omega

set_option maxHeartbeats 1600000 in
set_option maxRecDepth 100000 in
theorem show_bad (A : Option Addr) (cap : Nat) (cs : List (ByteArray × Int)) (w : World) (hC : ColsAt w.heap.size w A cs) (hw : Wf cs) (hz : ¬ checkC cs = 0) :
    Calls Tryz.prog 39 #[.slice A cs.length cap] w fun e w' => e = .returned (.string ⟨#[]⟩) ∧ Below w.heap.size w w' := by
  have hk0 : (checkC cs != 0) = true := by rw [bne_iff_ne]; exact hz
  have HC := hide (check_any A cap cs w hC hw)
  clear hz hC hw
  go_enter Tryz.func39, Tryz.ntmps39
  go_wp2_with fail
  refine HC.out.mono ?_
  rintro e w1 ⟨rfl, hb1⟩
  go_wp2_with fail
  go_ret
  exact ⟨rfl, hb1⟩

set_option maxHeartbeats 3200000 in
set_option maxRecDepth 100000 in
theorem show_good (A : Option Addr) (cap : Nat) (cs : List (ByteArray × Int)) (w : World) (hC : ColsAt w.heap.size w A cs) (hw : Wf cs) (hz : checkC cs = 0) :
    Calls Tryz.prog 39 #[.slice A cs.length cap] w fun e w' => e = .returned (.string ⟨(showC cs).toArray⟩) ∧ Below w.heap.size w w' := by
  have hl : cs.length ≤ 16 := (checkC_ok hz).2.1
  have HN := hide (check_names hz)
  have HL := hide (showK_len HN.out)
  have HD := hide (show showC cs = showK cs cs.length ++ [41] from rfl)
  have HCk := hide (check_any A cap cs w hC hw)
  have HC := hide hC
  have HZ := hide hz
  clear hz hC hw
  go_enter Tryz.func39, Tryz.ntmps39
  go_wp2_with fail
  refine HCk.out.mono ?_
  rintro e w1 ⟨rfl, hb1⟩
  rw [HZ.out]
  have HC1 := hide (HC.out.on hb1)
  clear HCk
  go_wp2_with fail
  refine (writeByte_any w1.heap.size w1.heap.size [] 40 _ (holds_fresh w1) (by simp) (by simp)).mono ?_
  rintro e w2 ⟨rfl, hh2, hb2, -⟩
  have HB2 := hide ((Joins.below_alloc1 w1 (.cells #[.pointer none, .slice none 0 0] 73)).trans hb2)
  have HH2 := hide hh2
  clear hh2 hb2
  go_wp2_with fail
  go_loopw [12] (fun i wr => ∃ k : Nat, k ≤ cs.length ∧ i = .int .i64 k ∧ Holds w1.heap.size w1.heap.size (showK cs k) wr ∧ Below w1.heap.size w1 wr) (fun i _ => cs.length - (intOf i).toNat)
  case atStart => exact ⟨0, Nat.zero_le _, rfl, HH2.out, HB2.out⟩
  case round =>
    obtain ⟨k, hk, rfl, hh, hbw⟩ := hrel
    have HH := hide hh
    have hlt1 := hh.lt
    have hs := hbw.size
    clear hh
    by_cases hlt : k < cs.length
    · obtain ⟨b, off, rfl, hb, c0, c1⟩ := HC1.out.below hbw k hlt
      have hn := HN.out (cs.getD k (⟨#[]⟩, 0)) (by rw [List.getD_eq_getElem?_getD, List.getElem?_eq_getElem hlt]; exact List.getElem_mem hlt)
      have HS := hide (show showK cs (k + 1) = showK cs k ++ ((if 0 < k then [44, 32] else []) ++ ((cs.getD k (⟨#[]⟩, 0)).1.data.toList ++ tailC (cs.getD k (⟨#[]⟩, 0)).2)) from rfl)
      have hl1 := HL.out k
      generalize cs.getD k (⟨#[]⟩, 0) = c at c0 c1 HS hn
      obtain ⟨nm, ty⟩ := c
      have hwl := wordC_len ty
      have ha := Joins.below_alloc1 wr (.cells #[.string nm, .int .i64 ty] 52)
      have hh0 := HH.out.kept ha
      have hg0 : (wr.alloc (.cells #[.string nm, .int .i64 ty] 52)).heap[wr.heap.size]? = some (.cells #[.string nm, .int .i64 ty] 52 (0, 0)) := heap_alloc_new wr _
      have hq0 := hbw.trans (ha.mono hs)
      have hne : wr.heap.size ≠ w1.heap.size := by omega
      have HG0 := hide hg0; have HH0 := hide hh0; have HNE := hide hne
      generalize showK cs k = pre at *
      clear hg0 hh0 ha hne
      by_cases h0k : 0 < k
      · go_wp2_with fail
        refine (writeString_any w1.heap.size w1.heap.size pre ⟨#[44, 32]⟩ _ HH0.out (by show pre.length + 2 ≤ _; omega) hq0.size).mono ?_
        rintro e v1 ⟨rfl, hh, hb, hk⟩
        have HH1 := hide hh
        have HG1 := hide (hk _ _ _ _ HNE.out (by decide) HG0.out)
        have hq1 := hq0.trans hb
        have hz1 := hq1.size
        clear hh hb hk
        have HH1' : Hid (Holds w1.heap.size w1.heap.size (pre ++ [44, 32]) v1) := HH1
        have y0 : v1.cell? ⟨wr.heap.size, 0, none⟩ = some (.string nm) := by rw [Lib.cell_of_heap HG1.out]; rfl
        have y1 : v1.cell? ⟨wr.heap.size, 1, none⟩ = some (.int .i64 ty) := by rw [Lib.cell_of_heap HG1.out]; rfl
        go_wp2_with fail
        refine (writeString_any w1.heap.size w1.heap.size (pre ++ [44, 32]) nm _ HH1'.out (by simp only [List.length_append, List.length_cons, List.length_nil]; omega) hq1.size).mono ?_
        rintro e v2 ⟨rfl, hh, hb, hk⟩
        have HH2 := hide hh
        have HG2 := hide (hk _ _ _ _ HNE.out (by decide) HG1.out)
        have hq2 := hq1.trans hb
        have hz2 := hq2.size
        clear hh hb hk
        clear y0 y1
        go_wp2_with fail
        refine (writeByte_any w1.heap.size w1.heap.size ((pre ++ [44, 32]) ++ nm.data.toList) 32 _ HH2.out (by simp only [List.length_append, List.length_cons, List.length_nil, Array.length_toList, ByteArray.size_data]; omega) hq2.size).mono ?_
        rintro e v3 ⟨rfl, hh, hb, hk⟩
        have HH3 := hide hh
        have HG3 := hide (hk _ _ _ _ HNE.out (by decide) HG2.out)
        have hq3 := hq2.trans hb
        have hz3 := hq3.size
        clear hh hb hk
        have z0 : v3.cell? ⟨wr.heap.size, 0, none⟩ = some (.string nm) := by rw [Lib.cell_of_heap HG3.out]; rfl
        have z1 : v3.cell? ⟨wr.heap.size, 1, none⟩ = some (.int .i64 ty) := by rw [Lib.cell_of_heap HG3.out]; rfl
        go_wp2_with (go_at_call 60; refine (wordOf_any ty _).mono ?_; rintro e w' ⟨rfl, rfl⟩)
        refine (writeString_any w1.heap.size w1.heap.size ((pre ++ [44, 32]) ++ nm.data.toList ++ [32]) ⟨(wordC ty).toArray⟩ _ HH3.out (by rw [size_of]; simp only [List.length_append, List.length_cons, List.length_nil, Array.length_toList, ByteArray.size_data]; omega) hq3.size).mono ?_
        rintro e v4 ⟨rfl, hh, hb, hk⟩
        have HH4 := hide hh
        have HG4 := hide (hk _ _ _ _ HNE.out (by decide) HG3.out)
        have hq4 := hq3.trans hb
        have hz4 := hq4.size
        clear hh hb hk
        clear z0 z1
        go_wp2_with fail
        go_roundw
        case rel =>
          refine ⟨k + 1, by omega, by go_num, ?_, hq4⟩
          have := HH4.out
          rw [list_of] at this
          rw [HS.out, tail_word]
          rw [if_pos h0k]; simpa using this
        case measure => simp [intOf]; omega
      · have hz0 := hq0.size
        have y0 : (wr.alloc (.cells #[.string nm, .int .i64 ty] 52)).cell? ⟨wr.heap.size, 0, none⟩ = some (.string nm) := by rw [Lib.cell_of_heap HG0.out]; rfl
        have y1 : (wr.alloc (.cells #[.string nm, .int .i64 ty] 52)).cell? ⟨wr.heap.size, 1, none⟩ = some (.int .i64 ty) := by rw [Lib.cell_of_heap HG0.out]; rfl
        go_wp2_with fail
        refine (writeString_any w1.heap.size w1.heap.size pre nm _ HH0.out (by omega) hq0.size).mono ?_
        rintro e v2 ⟨rfl, hh, hb, hk⟩
        have HH2 := hide hh
        have HG2 := hide (hk _ _ _ _ HNE.out (by decide) HG0.out)
        have hq2 := hq0.trans hb
        have hz2 := hq2.size
        clear hh hb hk
        clear y0 y1
        go_wp2_with fail
        refine (writeByte_any w1.heap.size w1.heap.size (pre ++ nm.data.toList) 32 _ HH2.out (by simp only [List.length_append, Array.length_toList, ByteArray.size_data]; omega) hq2.size).mono ?_
        rintro e v3 ⟨rfl, hh, hb, hk⟩
        have HH3 := hide hh
        have HG3 := hide (hk _ _ _ _ HNE.out (by decide) HG2.out)
        have hq3 := hq2.trans hb
        have hz3 := hq3.size
        clear hh hb hk
        have z0 : v3.cell? ⟨wr.heap.size, 0, none⟩ = some (.string nm) := by rw [Lib.cell_of_heap HG3.out]; rfl
        have z1 : v3.cell? ⟨wr.heap.size, 1, none⟩ = some (.int .i64 ty) := by rw [Lib.cell_of_heap HG3.out]; rfl
        go_wp2_with (go_at_call 60; refine (wordOf_any ty _).mono ?_; rintro e w' ⟨rfl, rfl⟩)
        refine (writeString_any w1.heap.size w1.heap.size (pre ++ nm.data.toList ++ [32]) ⟨(wordC ty).toArray⟩ _ HH3.out (by rw [size_of]; simp only [List.length_append, List.length_cons, List.length_nil, Array.length_toList, ByteArray.size_data]; omega) hq3.size).mono ?_
        rintro e v4 ⟨rfl, hh, hb, hk⟩
        have HH4 := hide hh
        have HG4 := hide (hk _ _ _ _ HNE.out (by decide) HG3.out)
        have hq4 := hq3.trans hb
        have hz4 := hq4.size
        clear hh hb hk
        clear z0 z1
        go_wp2_with fail
        go_roundw
        case rel =>
          refine ⟨k + 1, by omega, by go_num, ?_, hq4⟩
          have := HH4.out
          rw [list_of] at this
          rw [HS.out, tail_word]
          rw [if_neg h0k]; simpa using this
        case measure => simp [intOf]; omega
    · obtain rfl : k = cs.length := by omega
      have hl1 := HL.out cs.length
      generalize showK cs cs.length = pre at *
      go_wp2_with fail
      refine (writeByte_any w1.heap.size w1.heap.size pre 41 _ HH.out (by omega) hs).mono ?_
      rintro e v1 ⟨rfl, hh1, hb1', -⟩
      have HH1 := hide hh1
      have hq1 := hbw.trans hb1'
      have hz1 := hq1.size
      clear hh1 hb1'
      go_wp2_with fail
      refine (string_any w1.heap.size w1.heap.size (pre ++ [41]) _ HH1.out hz1).mono ?_
      rintro e v2 ⟨rfl, hb2⟩
      go_wp2_with fail
      go_ret
      exact ⟨by rw [HD.out]; rfl, hb1.trans ((hq1.trans hb2).mono hb1.size)⟩
end Go.Proofs.YtfjhdfpdgjjcgaaGreatDoor
