/-
  Show of a table: its text, through a Builder.
-/
import Derived.Test.YtfjhdfpdgjjcgaaGreatDoorTShowM
import Derived.Test.YtfjhdfpdgjjcgaaGreatDoorTCheck
import Derived.Test.YtfjhdfpdgjjcgaaGreatDoorTMake
import Derived.Test.YtfjhdfpdgjjcgaaGreatDoorTEqual
import Derived.Test.YtfjhdfpdgjjcgaaGreatDoorSShow
import Derived.Test.YtfjhdfpdgjjcgaaGreatDoorVShow
import Derived.Lib.ItoaLen
import Derived.Lib.ItoaNum
namespace Go.Proofs.YtfjhdfpdgjjcgaaGreatDoor
open Go.RowKit

set_option maxHeartbeats 3200000 in
set_option maxRecDepth 100000 in
theorem showRow_any (B b : Nat) (l : List UInt8) (A : Option Addr) (c : Nat) (vs : List (Int × Int × ByteArray)) (w : World) (hH : Holds B b l w) (hBw : B ≤ w.heap.size) (hR : RowAt B w A vs) (hv : WfR vs) (hll : l.length ≤ 140000000000) (hl : vs.length ≤ 65536)
    (hT : ∀ w', Below B w w' → Tab w') :
    Calls Tryz.prog 40 #[.pointer (some ⟨b, 0, none⟩), .slice A vs.length c] w fun e w' => e = .returned (.tuple #[]) ∧ Holds B b (l ++ (lineX vs ++ [10])) w' ∧ Below B w w' := by
  have HR := hide hR; have HV := hide hv; have HT := hide hT; have HH := hide hH
  have HK := hide (lineK_len (vs := vs) (fun v hv' => (valWf_i64 (hv.2 v hv')).2))
  clear hR hv hT hH
  go_enter Tryz.func40, Tryz.ntmps40
  go_wp2_with fail
  go_loopw [8] (fun i wr => ∃ k : Nat, k ≤ vs.length ∧ i = .int .i64 k ∧ Holds B b (l ++ lineK vs k) wr ∧ Below B w wr) (fun i _ => vs.length - (intOf i).toNat)
  case atStart => exact ⟨0, Nat.zero_le _, rfl, by show Holds B b (l ++ []) w; rw [List.append_nil]; exact HH.out, Below.refl _ _⟩
  case round =>
    obtain ⟨k, hk, rfl, hh, hbw⟩ := hrel
    have HHk := hide hh
    have hltb := hh.lt
    have hs := hbw.size
    clear hh
    by_cases hlt : k < vs.length
    · obtain ⟨b1, off, rfl, hb1, c0, c1, c2⟩ := HR.out.below hbw k hlt
      have hvw := HV.out.at hlt
      have hl1 := HK.out k hk
      have HS := hide (show lineK vs (k + 1) = lineK vs k ++ ((if 0 < k then [44, 32] else []) ++ showL (vs.getD k (0, 0, ⟨#[]⟩))) from rfl)
      generalize vs.getD k (0, 0, ⟨#[]⟩) = v at c0 c1 c2 HS hvw
      obtain ⟨kk, n, s⟩ := v
      have hsz := hvw.2.2
      have hin := (valWf_i64 hvw).2
      have hlen := showL_len (v := (kk, n, s)) hin
      have ha := Joins.below_alloc1 wr (.cells #[.int .i64 kk, .int .i64 n, .string s] 54)
      have hh0 := HHk.out.kept ha
      have hg0 : (wr.alloc (.cells #[.int .i64 kk, .int .i64 n, .string s] 54)).heap[wr.heap.size]? = some (.cells #[.int .i64 kk, .int .i64 n, .string s] 54 (0, 0)) := heap_alloc_new wr _
      have hq0 := hbw.trans (ha.mono (by omega))
      have hne : wr.heap.size ≠ b := by omega
      have HG0 := hide hg0; have HH0 := hide hh0; have HNE := hide hne; have HIN := hide hin; have HSZ := hide hsz
      have HSL := hide (show showL (kk, n, s) = showV kk n s from rfl)
      have HLE := hide hlen
      generalize lineK vs k = pre at *
      have hpl : (l ++ pre).length ≤ 150000000000 := by rw [List.length_append]; omega
      have HQ0 := hide hq0
      clear hg0 hh0 ha hne hvw hin hsz hlen hq0
      by_cases h0k : 0 < k
      · go_wp2_with fail
        refine (writeString_any B b (l ++ pre) ⟨#[44, 32]⟩ _ HH0.out (by show (l ++ pre).length + 2 ≤ _; omega) (by have := HQ0.out.size; omega)).mono ?_
        rintro e v1 ⟨rfl, hh, hb, hk'⟩
        have HH1 : Hid (Holds B b ((l ++ pre) ++ [44, 32]) v1) := hide hh
        have HG1 := hide (hk' _ _ _ _ HNE.out (by decide) HG0.out)
        have hq1 := HQ0.out.trans hb
        have hz1 := hq1.size
        have y0 : v1.cell? ⟨wr.heap.size, 0, none⟩ = some (.int .i64 kk) := by rw [Lib.cell_of_heap HG1.out]; rfl
        have y1 : v1.cell? ⟨wr.heap.size, 1, none⟩ = some (.int .i64 n) := by rw [Lib.cell_of_heap HG1.out]; rfl
        have y2 : v1.cell? ⟨wr.heap.size, 2, none⟩ = some (.string s) := by rw [Lib.cell_of_heap HG1.out]; rfl
        clear hh hb hk'
        go_wp2_with fail
        refine (showV_any kk n s _ HSZ.out HIN.out (HT.out _ hq1)).mono ?_
        rintro e v2 ⟨rfl, hb2⟩
        have HH2 := hide (HH1.out.kept hb2)
        have hq2 := hq1.trans (hb2.mono (by omega))
        have hz2 := hq2.size
        clear hb2 y0 y1 y2
        go_wp2_with fail
        refine (writeString_any B b ((l ++ pre) ++ [44, 32]) ⟨(showV kk n s).toArray⟩ _ HH2.out (by rw [size_of, ← HSL.out]; have := HLE.out; simp only [List.length_append, List.length_cons, List.length_nil] at hpl ⊢; omega) (by omega)).mono ?_
        rintro e v3 ⟨rfl, hh, hb, -⟩
        have HH3 := hide hh
        have hq3 := hq2.trans hb
        clear hh hb
        go_wp2_with fail
        go_roundw
        case rel =>
          refine ⟨k + 1, by omega, by go_num, ?_, hq3⟩
          have := HH3.out
          rw [HS.out, HSL.out, if_pos h0k]; simpa using this
        case measure => simp [intOf]; omega
      · have y0 : (wr.alloc (.cells #[.int .i64 kk, .int .i64 n, .string s] 54)).cell? ⟨wr.heap.size, 0, none⟩ = some (.int .i64 kk) := by rw [Lib.cell_of_heap HG0.out]; rfl
        have y1 : (wr.alloc (.cells #[.int .i64 kk, .int .i64 n, .string s] 54)).cell? ⟨wr.heap.size, 1, none⟩ = some (.int .i64 n) := by rw [Lib.cell_of_heap HG0.out]; rfl
        have y2 : (wr.alloc (.cells #[.int .i64 kk, .int .i64 n, .string s] 54)).cell? ⟨wr.heap.size, 2, none⟩ = some (.string s) := by rw [Lib.cell_of_heap HG0.out]; rfl
        go_wp2_with fail
        refine (showV_any kk n s _ HSZ.out HIN.out (HT.out _ HQ0.out)).mono ?_
        rintro e v2 ⟨rfl, hb2⟩
        have HH2 := hide (HH0.out.kept hb2)
        have hz0 := HQ0.out.size
        have hq2 := HQ0.out.trans (hb2.mono (by omega))
        have hz2 := hq2.size
        clear hb2 y0 y1 y2
        go_wp2_with fail
        refine (writeString_any B b (l ++ pre) ⟨(showV kk n s).toArray⟩ _ HH2.out (by rw [size_of, ← HSL.out]; have := HLE.out; omega) (by omega)).mono ?_
        rintro e v3 ⟨rfl, hh, hb, -⟩
        have HH3 := hide hh
        have hq3 := hq2.trans hb
        clear hh hb
        go_wp2_with fail
        go_roundw
        case rel =>
          refine ⟨k + 1, by omega, by go_num, ?_, hq3⟩
          have := HH3.out
          rw [HS.out, HSL.out, if_neg h0k]; simpa using this
        case measure => simp [intOf]; omega
    · obtain rfl : k = vs.length := by omega
      have hl1 := HK.out vs.length (Nat.le_refl _)
      have hpl : (l ++ lineK vs vs.length).length ≤ 150000000000 := by rw [List.length_append]; omega
      go_wp2_with fail
      refine (writeString_any B b (l ++ lineK vs vs.length) ⟨#[10]⟩ _ HHk.out (by show (l ++ lineK vs vs.length).length + 1 ≤ _; omega) (by omega)).mono ?_
      rintro e v1 ⟨rfl, hh, hb, -⟩
      have HH1 : Hid (Holds B b ((l ++ lineK vs vs.length) ++ [10]) v1) := hide hh
      have hq1 := hbw.trans hb
      clear hh hb
      go_wp2_with fail
      go_end0
      exact ⟨rfl, by rw [← List.append_assoc]; exact HH1.out, hq1⟩

set_option maxHeartbeats 1600000 in
set_option maxRecDepth 100000 in
theorem tabShow_bad (S A : Option Addr) (c d : Nat) (cs : List (ByteArray × Int)) (hs : List RH) (w : World) (hC : ColsAt w.heap.size w S cs) (hR : RowsAt w.heap.size w A hs) (hw : Wf cs) (hv : WfT (rowsOf hs)) (hz : ¬ fullT cs (rowsOf hs) = 0) :
    Calls Tryz.prog 18 #[vTab S cs.length c A hs.length d] w fun e w' => e = .returned (.string ⟨#[]⟩) ∧ Below w.heap.size w w' := by
  have hk0 : (fullT cs (rowsOf hs) != 0) = true := by rw [bne_iff_ne]; exact hz
  have hal := Joins.below_alloc1 w (.cells #[.slice S cs.length c, .slice A hs.length d] 26)
  have HC := hide (tabCheck_any S A c d cs hs _ (hC.on hal) (hR.on hal) hw hv)
  have HL := hide hal
  clear hz hC hR hw hv hal
  go_enter Tryz.func18, Tryz.ntmps18
  go_wp2_with fail
  refine HC.out.mono ?_
  rintro e w1 ⟨rfl, hb1⟩
  go_wp2_with fail
  go_ret
  exact ⟨rfl, then_below HL.out hb1⟩

set_option maxHeartbeats 3200000 in
set_option maxRecDepth 100000 in
theorem tabShow_good (S A : Option Addr) (c d : Nat) (cs : List (ByteArray × Int)) (hs : List RH) (w : World) (hC : ColsAt w.heap.size w S cs) (hR : RowsAt w.heap.size w A hs) (hw : Wf cs) (hv : WfT (rowsOf hs)) (hz : fullT cs (rowsOf hs) = 0) (hT : Tab w) :
    Calls Tryz.prog 18 #[vTab S cs.length c A hs.length d] w fun e w' => e = .returned (.string ⟨(showX cs (rowsOf hs)).toArray⟩) ∧ Below w.heap.size w w' := by
  have hal := Joins.below_alloc1 w (.cells #[.slice S cs.length c, .slice A hs.length d] 26)
  have hct := (fullT_zero hz).1
  have hcc := (checkT_zero hct).1
  have hlen := (checkT_zero hct).2.1
  rw [rowsOf_len] at hlen
  have HFL := hide (fits_len hct)
  have HCL := hide (showK_len (check_names hcc))
  have hcl : cs.length ≤ 16 := (checkC_ok hcc).2.1
  have hcK := HCL.out cs.length
  have hcL : (showC cs).length ≤ 2000 := by unfold showC; simp only [List.length_append, List.length_cons, List.length_nil]; omega
  have HZ := hide hz; have HCC := hide hcc
  have HC := hide (tabCheck_any S A c d cs hs _ (hC.on hal) (hR.on hal) hw hv)
  have HCo := hide (hC.on hal); have HR := hide (hR.on hal); have HW := hide hw; have HV := hide hv; have HT := hide hT
  have HL := hide hal
  have HLL := hide (show (linesX (rowsOf hs)).length ≤ 4096 * 2200 from by
    have := linesX_len (rs := rowsOf hs) (fun r hr => ⟨hv.2 r hr, HFL.out r hr⟩)
    rw [rowsOf_len] at this
    have h2 : hs.length * 2200 ≤ 4096 * 2200 := Nat.mul_le_mul_right _ hlen
    omega)
  have HTL := hide (fun k => show (linesX ((rowsOf hs).take k)).length ≤ 4096 * 2200 from by
    have := linesX_len (rs := (rowsOf hs).take k) (fun r hr => ⟨hv.2 r (List.mem_of_mem_take hr), HFL.out r (List.mem_of_mem_take hr)⟩)
    have h1 : ((rowsOf hs).take k).length ≤ hs.length := by rw [List.length_take, rowsOf_len]; omega
    have h2 : ((rowsOf hs).take k).length * 2200 ≤ 4096 * 2200 := Nat.mul_le_mul_right _ (by omega)
    omega)
  clear hz hC hR hw hv hal hT hct hcc
  go_enter Tryz.func18, Tryz.ntmps18
  go_wp2_with fail
  refine HC.out.mono ?_
  rintro e w1 ⟨rfl, hb1⟩
  rw [HZ.out]
  have HC1 := hide (HCo.out.on hb1); have HR1 := hide (HR.out.on hb1)
  have HB1 := hide (then_below HL.out hb1)
  have hz1 : w.heap.size < w1.heap.size := by have := hb1.size; simp at this; omega
  have t0 := (hb1.cell (p := ⟨w.heap.size, 0, none⟩) (by simp)).trans (by simp : _ = some (.slice S cs.length c))
  have t1 := (hb1.cell (p := ⟨w.heap.size, 1, none⟩) (by simp)).trans (by simp : _ = some (.slice A hs.length d))
  have hbb := Joins.below_alloc1 w1 (.cells #[.pointer none, .slice none 0 0] 73)
  have HBB := hide hbb
  have HC2 := hide (HC1.out.on hbb)
  have HT1 := hide (show ∀ w', Below w1.heap.size w1 w' → Tab w' from fun w' h => (HT.out.stays HB1.out (Nat.le_refl _)).stays h (Nat.le_refl _))
  have HT0 := hide t0; have HT1' := hide t1
  clear HC hb1 hbb
  go_wp2_with fail
  refine (show_good S c cs _ HC2.out HW.out HCC.out).mono ?_
  rintro e w2 ⟨rfl, hb2⟩
  have hh2 := (holds_fresh w1).kept hb2
  have HH2 := hide hh2
  have hq2 := HBB.out.trans (hb2.mono (by simp))
  have hz2 : w1.heap.size + 1 ≤ w2.heap.size := by have := hb2.size; simpa using this
  have HQ2 := hide hq2
  clear hb2 hh2 hq2 t0 t1
  go_wp2_with fail
  refine (writeString_any w1.heap.size w1.heap.size [] ⟨(showC cs).toArray⟩ _ HH2.out (by rw [size_of]; simp; omega) (by omega)).mono ?_
  rintro e w3 ⟨rfl, hh, hb, -⟩
  have HH3 : Hid (Holds w1.heap.size w1.heap.size (showC cs) w3) := hide hh
  have HQ3 := hide (HQ2.out.trans hb)
  have hz3 := HQ3.out.size
  clear hh hb
  go_wp2_with fail
  refine (writeString_any w1.heap.size w1.heap.size (showC cs) ⟨#[10]⟩ _ HH3.out (by show (showC cs).length + 1 ≤ _; omega) hz3).mono ?_
  rintro e w4 ⟨rfl, hh, hb, -⟩
  have HH4 : Hid (Holds w1.heap.size w1.heap.size (showC cs ++ [10]) w4) := hide hh
  have HQ4 := hide (HQ3.out.trans hb)
  have hz4 := HQ4.out.size
  have u1 := (HQ4.out.cell (p := ⟨w.heap.size, 1, none⟩) (by simp only; omega)).trans HT1'.out
  clear hh hb
  go_wp2_with fail
  clear u1
  go_loopw [17] (fun i wr => ∃ k : Nat, k ≤ hs.length ∧ i = .int .i64 k ∧ Holds w1.heap.size w1.heap.size ((showC cs ++ [10]) ++ linesX ((rowsOf hs).take k)) wr ∧ Below w1.heap.size w1 wr) (fun i _ => hs.length - (intOf i).toNat)
  case atStart => exact ⟨0, Nat.zero_le _, rfl, by show Holds _ _ ((showC cs ++ [10]) ++ []) _; rw [List.append_nil]; exact HH4.out, HQ4.out⟩
  case round =>
    obtain ⟨k, hk, rfl, hh, hbw⟩ := hrel
    have HHk := hide hh
    have hs0 := hbw.size
    clear hh
    by_cases hlt : k < hs.length
    · obtain ⟨b, off, A1, c1, r1, rfl, hb, d1, hr1, -, hg1⟩ := (HR1.out.below hbw).at hlt
      have hwr := HV.out.at hlt
      have hrk := rowsOf_at hlt
      have hrl := HFL.out (hs.getD k dH).2.2 (by unfold rowsOf; exact List.mem_map.2 ⟨_, getH_mem hlt, rfl⟩)
      rw [hg1] at hwr hrk hrl
      have hrl1 : r1.length ≤ 16 := hrl
      have HX := hide (linesX_take (rs := rowsOf hs) (by rw [rowsOf_len]; exact hlt))
      have hln := HTL.out k
      have HSh := hide (showRow_any w1.heap.size w1.heap.size ((showC cs ++ [10]) ++ linesX ((rowsOf hs).take k)) A1 c1 r1 wr HHk.out hs0 hr1 hwr (by simp only [List.length_append, List.length_cons, List.length_nil]; omega) (by omega) (fun w' h => HT1.out w' (hbw.trans h)))
      have HRK := hide hrk
      clear hr1 hg1 hwr hrk hrl
      go_wp2_with fail
      refine HSh.out.mono ?_
      rintro e w5 ⟨rfl, hh, hb⟩
      have HH5 := hide hh
      have hq5 := hbw.trans hb
      clear hh hb
      go_wp2_with fail
      go_roundw
      case rel =>
        refine ⟨k + 1, by omega, by go_num, ?_, hq5⟩
        rw [HX.out, HRK.out, ← List.append_assoc]
        exact HH5.out
      case measure => simp [intOf]; omega
    · obtain rfl : k = hs.length := by omega
      have ht : (rowsOf hs).take hs.length = rowsOf hs := List.take_of_length_le (by rw [rowsOf_len]; exact Nat.le_refl _)
      rw [ht] at HHk
      clear ht
      go_wp2_with fail
      refine (string_any w1.heap.size w1.heap.size _ _ HHk.out hs0).mono ?_
      rintro e w5 ⟨rfl, hb5⟩
      go_wp2_with fail
      go_ret
      exact ⟨ret_text (by unfold showX; simp), HB1.out.trans ((hbw.trans hb5).mono HB1.out.size)⟩

theorem tabShow_any (S A : Option Addr) (c d : Nat) (cs : List (ByteArray × Int)) (hs : List RH) (w : World) (hC : ColsAt w.heap.size w S cs) (hR : RowsAt w.heap.size w A hs) (hw : Wf cs) (hv : WfT (rowsOf hs)) (hT : Tab w) :
    Calls Tryz.prog 18 #[vTab S cs.length c A hs.length d] w fun e w' => e = .returned (.string ⟨(if fullT cs (rowsOf hs) = 0 then showX cs (rowsOf hs) else []).toArray⟩) ∧ Below w.heap.size w w' := by
  by_cases hz : fullT cs (rowsOf hs) = 0
  · rw [if_pos hz]; exact tabShow_good S A c d cs hs w hC hR hw hv hz hT
  · rw [if_neg hz]; exact tabShow_bad S A c d cs hs w hC hR hw hv hz
end Go.Proofs.YtfjhdfpdgjjcgaaGreatDoor
