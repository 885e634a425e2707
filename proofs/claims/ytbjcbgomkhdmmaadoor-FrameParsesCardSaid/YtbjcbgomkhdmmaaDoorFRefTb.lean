/-
  The reference's encoding: tables.
-/
import Derived.Test.YtbjcbgomkhdmmaaDoorFRefV
import Derived.Test.YtbjcbgomkhdmmaaDoorFOutV
import Derived.Test.YtbjcbgomkhdmmaaDoorFRowsH
namespace Go.Proofs.YtbjcbgomkhdmmaaDoor
open Go.RowKit

set_option maxHeartbeats 6400000 in
set_option maxRecDepth 100000 in
theorem refTable_any (S A : Option Addr) (c cap : Nat) (cs : List (ByteArray × Int)) (hs : List RH) (w : World) (hC : ColsAt w.heap.size w S cs) (hR : RowsAt w.heap.size w A hs) (hc : ∀ x ∈ cs, Int64 x.2) (hv : ∀ x ∈ rowsOf hs, ∀ y ∈ x, okV y)
    (hw : cs.length ≤ maxLen) (hwr : WfT (rowsOf hs)) (hl : (tabB cs (rowsOf hs)).length ≤ 4294900000) :
    Calls Tryd.prog 32 #[.slice S cs.length c, .slice A hs.length cap] w (OwnRes w (tabB cs (rowsOf hs))) := by
  have hrl := hwr.1
  rw [rowsOf_len] at hrl
  have htl : (tabB cs (rowsOf hs)).length = (intB cs.length).length + (encC cs).length + (intB hs.length).length + (encR (rowsOf hs)).length := by unfold tabB; rw [List.length_append, List.length_append, List.length_append, rowsOf_len]
  rw [htl] at hl
  have HTab := hide (show tabB cs (rowsOf hs) = intB cs.length ++ encC cs ++ intB hs.length ++ encR (rowsOf hs) by unfold tabB; rw [rowsOf_len])
  unfold maxLen at hw hrl
  have HC := hide hC; have HR := hide hR; have HI64 := hide hc; have HV := hide hv; have HWr := hide hwr
  have HI := hide (refInt_any (cs.length : Int) w ⟨by omega, by omega⟩)
  unfold OwnRes at HI ⊢
  clear hC hR hc hv hwr htl
  go_enter Tryd.func32, Tryd.ntmps32
  go_wp2_with fail
  refine HI.out.mono ?_
  rintro e w1 ⟨v1, rfl, hr1, hb1⟩
  have HR1 := hide hr1
  have HB1 := hide hb1
  clear hr1 hb1
  go_wp2_with fail
  go_loopw [5, 6] (fun v i wr => ∃ k : Nat, k ≤ cs.length ∧ i = .int .i64 k ∧ wr.ownsRow w.heap.size 5 1 v ((intB cs.length).length + (encC (cs.take k)).length) (byC (intB cs.length ++ encC (cs.take k))) ∧ Below w.heap.size w wr) (fun _ i _ => cs.length - (intOf i).toNat)
  case atStart => exact ⟨0, Nat.zero_le _, rfl, by simpa [encC] using HR1.out, HB1.out⟩
  case round =>
    obtain ⟨k, hk, rfl, hor, hbw⟩ := hrel
    clear HR1 HB1 HI
    have hsz := hbw.size
    by_cases hlt2 : k < cs.length
    · have HLt := hide hlt2
      obtain ⟨b, off, rfl, hb, h0, h1⟩ := HC.out k hlt2
      have HK := hide (encC_take hlt2)
      have hbig := encC_le cs (k + 1)
      rw [HK.out, List.length_append] at hbig
      have h64 := HI64.out (cs.getD k (⟨#[]⟩, 0)) (by rw [List.getD_eq_getElem?_getD, List.getElem?_eq_getElem hlt2]; exact List.getElem_mem hlt2)
      have hcl := colB_len (cs.getD k (⟨#[]⟩, 0))
      generalize hcol : cs.getD k (⟨#[]⟩, 0) = col at *
      obtain ⟨nm, ty⟩ := col
      simp only at h0 h1 h64 hcl
      have htot : (colB (nm, ty)).length = (textB nm.data.toList).length + (intB ty).length := by unfold colB; rw [List.length_append]
      have HTx := hide (refText_any nm wr (by omega))
      have HIt := hide (fun w' => refInt_any ty w' h64)
      unfold OwnRes at HTx HIt
      have HAll := hide (show byC ((intB cs.length ++ encC (cs.take k)) ++ (textB nm.data.toList ++ intB ty)) = byC (intB cs.length ++ encC (cs.take (k + 1))) by rw [HK.out]; unfold colB; simp [List.append_assoc])
      have HAl := hide (show (intB cs.length).length + (encC (cs.take k)).length + (textB nm.data.toList).length + (intB ty).length = (intB cs.length).length + (encC (cs.take (k + 1))).length by rw [HK.out, List.length_append, htot]; omega)
      have HC1 := hide (fun w' (h : Below w.heap.size w w') => (h.cell (p := ⟨b, off + k * 2 + 1, none⟩) hb).trans h1)
      have hx0 := (hbw.cell (p := ⟨b, off + k * 2, none⟩) hb).trans h0
      have HOr := hide hor
      have HBw := hide hbw
      have hpl : (intB cs.length).length + (encC (cs.take k)).length = (intB cs.length ++ encC (cs.take k)).length := by rw [List.length_append]
      rw [hpl] at HOr HAl
      have hpb : (intB cs.length ++ encC (cs.take k)).length + (textB nm.data.toList).length + (intB ty).length ≤ 4294900000 := by rw [← hpl]; omega
      clear hcol hor hbw h64 hbig hcl htot hk hpl h0 h1
      generalize intB cs.length ++ encC (cs.take k) = pre at *
      generalize textB nm.data.toList = tb at *
      generalize intB ty = ib at *
      obtain ⟨A5, c5, rfl, -⟩ := row_slice HOr.out
      go_wp2_with fail
      refine HTx.out.mono ?_
      rintro e w2 ⟨v2, rfl, hr2, hb2⟩
      have HO2 := hide (row_keep HOr.out fun b e => hb2.block b (HOr.out.lt b e).2)
      have HL2 := hide (HBw.out.trans (hb2.mono hsz))
      have hs2 := HL2.out.size
      obtain ⟨A2, c2, rfl, hBy, -, hn2, -⟩ := bytes_of_row hr2
      have HBy := hide hBy
      have HN2 := hide hn2
      clear hr2 hb2 hBy hn2 hx0
      go_wp2_with (at_builtin; go_must (refine append_bytes rfl _ _ rfl w.heap.size (.slice A5 pre.length c5) pre tb pre.length rfl HO2.out _ A2 tb.length c2 rfl rfl HBy.out HN2.out (by omega) hs2 ?_))
      intro v3 w3 hown3 hgrow3 hat3
      have HL3 := hide (grow_below0 HL2.out HO2.out hs2 hgrow3)
      have HO3 := hide hown3
      have hs3 := HL3.out.size
      have hx1 := HC1.out w3 HL3.out
      obtain ⟨A3, c3, rfl, -⟩ := row_slice hown3
      clear hown3 hgrow3 hat3
      go_wp2_with fail
      refine (HIt.out w3).mono ?_
      rintro e w4 ⟨v4, rfl, hr4, hb4⟩
      have HO4 := hide (row_keep HO3.out fun b e => hb4.block b (HO3.out.lt b e).2)
      have HL4 := hide (HL3.out.trans (hb4.mono hs3))
      have hs4 := HL4.out.size
      obtain ⟨A4, c4, rfl, hBy4, -, hn4, -⟩ := bytes_of_row hr4
      have HBy4 := hide hBy4
      have HN4 := hide hn4
      clear hr4 hb4 hBy4 hn4 hx1
      go_wp2_with (at_builtin; go_must (refine append_bytes rfl _ _ rfl w.heap.size (.slice A3 (pre.length + tb.length) c3) (pre ++ tb) ib (pre.length + tb.length) rfl HO4.out _ A4 ib.length c4 rfl rfl HBy4.out HN4.out (by omega) hs4 ?_))
      intro v5 w5 hown5 hgrow5 hat5
      have HL5 := hide (grow_below0 HL4.out HO4.out hs4 hgrow5)
      have HO5 := hide (show w5.ownsRow w.heap.size 5 1 v5 ((intB cs.length).length + (encC (cs.take (k + 1))).length) (byC (intB cs.length ++ encC (cs.take (k + 1)))) by rw [← HAl.out, ← HAll.out]; exact hown5)
      obtain ⟨A6, c6, rfl, -⟩ := row_slice hown5
      clear hown5 hgrow5 hat5
      go_wp2_with fail
      go_roundw
      case rel => exact ⟨k + 1, HLt.out, by go_num, HO5.out, HL5.out⟩
      case measure => have := HLt.out; simp [intOf]; omega
    · obtain rfl : k = cs.length := by omega
      rw [List.take_length] at hor
      have HIr := hide (refInt_any (hs.length : Int) wr ⟨by omega, by omega⟩)
      unfold OwnRes at HIr
      have HOr := hide hor
      have HBw := hide hbw
      have HTb2 := hide (show byC ((intB cs.length ++ encC cs) ++ intB hs.length ++ encR (rowsOf hs)) = byC (tabB cs (rowsOf hs)) by rw [HTab.out])
      have HTl2 := hide (show (intB cs.length).length + (encC cs).length + (intB hs.length).length + (encR (rowsOf hs)).length = (tabB cs (rowsOf hs)).length by rw [HTab.out, List.length_append, List.length_append, List.length_append])
      have hpl : (intB cs.length).length + (encC cs).length + (intB hs.length).length + (encR (rowsOf hs)).length ≤ 4294900000 := hl
      clear hor hbw hk hlt2 hl
      generalize (intB cs.length).length + (encC cs).length = n1 at *
      generalize intB cs.length ++ encC cs = pre at *
      generalize intB hs.length = ib at *
      obtain ⟨A5, c5, rfl, -⟩ := row_slice HOr.out
      go_wp2_with fail
      refine HIr.out.mono ?_
      rintro e w2 ⟨v2, rfl, hr2, hb2⟩
      have HO2 := hide (row_keep HOr.out fun b e => hb2.block b (HOr.out.lt b e).2)
      have HL2 := hide (HBw.out.trans (hb2.mono hsz))
      have hs2 := HL2.out.size
      obtain ⟨A2, c2, rfl, hBy, -, hn2, -⟩ := bytes_of_row hr2
      have HBy := hide hBy
      have HN2 := hide hn2
      clear hr2 hb2 hBy hn2
      go_wp2_with (at_builtin; go_must (refine append_bytes rfl _ _ rfl w.heap.size (.slice A5 n1 c5) pre ib n1 rfl HO2.out _ A2 ib.length c2 rfl rfl HBy.out HN2.out (by omega) hs2 ?_))
      intro v3 w3 hown3 hgrow3 hat3
      have HL3 := hide (grow_below0 HL2.out HO2.out hs2 hgrow3)
      have HO3 := hide hown3
      obtain ⟨A3, c3, rfl, -⟩ := row_slice hown3
      clear hown3 hgrow3 hat3
      go_wp2_with fail
      have hn2' : n1 + ib.length + (encR (rowsOf hs)).length ≤ 4294900000 := hpl
      clear hpl
      go_loopw [5, 7] (fun v i wr => ∃ k : Nat, k ≤ hs.length ∧ i = .int .i64 k ∧ wr.ownsRow w.heap.size 5 1 v (n1 + ib.length + (encR ((rowsOf hs).take k)).length) (byC (pre ++ ib ++ encR ((rowsOf hs).take k))) ∧ Below w.heap.size w wr) (fun _ i _ => hs.length - (intOf i).toNat)
      case atStart => exact ⟨0, Nat.zero_le _, rfl, by simpa [encR] using HO3.out, HL3.out⟩
      case round =>
        obtain ⟨k, hk, rfl, hor, hbw⟩ := hrel
        clear HO3 HL3 HL2 HO2 HBy HN2 HOr HBw HIr
        have hsz := hbw.size
        by_cases hlt2 : k < hs.length
        · have HLt := hide hlt2
          obtain ⟨b, off, A', c', r, rfl, hb, hx, hr, hrn, hg⟩ := HR.out.at hlt2
          have HK := hide (show encR ((rowsOf hs).take (k + 1)) = encR ((rowsOf hs).take k) ++ encV r by have := encR_take hlt2; rw [hg] at this; exact this)
          have hbig := encR_le (rowsOf hs) (k + 1)
          rw [HK.out, List.length_append] at hbig
          have hrm : r ∈ rowsOf hs := by
            unfold rowsOf
            refine List.mem_map.2 ⟨_, getH_mem hlt2, ?_⟩
            rw [hg]
          have HVr := hide (HV.out r hrm)
          have hrl2 := (HWr.out.2 r hrm).1
          unfold maxLen at hrl2
          have HAll := hide (show byC (pre ++ ib ++ encR ((rowsOf hs).take k) ++ encV r) = byC (pre ++ ib ++ encR ((rowsOf hs).take (k + 1))) by rw [HK.out]; simp [List.append_assoc])
          have HAl := hide (show n1 + ib.length + (encR ((rowsOf hs).take k)).length + (encV r).length = n1 + ib.length + (encR ((rowsOf hs).take (k + 1))).length by rw [HK.out, List.length_append]; omega)
          have hp2 : n1 + ib.length + (encR ((rowsOf hs).take k)).length + (encV r).length ≤ 4294900000 := by omega
          have HX := hide (fun w' (h : Below w.heap.size w w') => (h.cell (p := ⟨b, off + k, none⟩) hb).trans hx)
          have HRr := hide hr
          have HOr := hide hor
          have HBw := hide hbw
          clear hor hbw hr hrn hg hbig hrm hk hx hn2'
          generalize n1 + ib.length + (encR ((rowsOf hs).take k)).length = n2 at *
          generalize pre ++ ib ++ encR ((rowsOf hs).take k) = pre2 at *
          obtain ⟨A5, c5, rfl, -⟩ := row_slice HOr.out
          go_wp2_with fail
          go_loopw [5, 8] (fun v i wr => ∃ j : Nat, j ≤ r.length ∧ i = .int .i64 j ∧ wr.ownsRow w.heap.size 5 1 v (n2 + (encV (r.take j)).length) (byC (pre2 ++ encV (r.take j))) ∧ Below w.heap.size w wr) (fun _ i _ => r.length - (intOf i).toNat)
          case atStart => exact ⟨0, Nat.zero_le _, rfl, by simpa [encV] using HOr.out, HBw.out⟩
          case round =>
            obtain ⟨j, hj, rfl, hor, hbw⟩ := hrel
            clear HOr HBw
            have hsz := hbw.size
            have hx := HX.out _ hbw
            by_cases hlt3 : j < r.length
            · have HLj := hide hlt3
              obtain ⟨b2, off2, rfl, hb2, h0, h1, h2⟩ := (HRr.out.below hbw) j hlt3
              have HK2 := hide (encV_take hlt3)
              have hbig := encV_le r (j + 1)
              rw [HK2.out, List.length_append] at hbig
              have hok := HVr.out (r.getD j (0, 0, ⟨#[]⟩)) (by rw [List.getD_eq_getElem?_getD, List.getElem?_eq_getElem hlt3]; exact List.getElem_mem hlt3)
              generalize hval : r.getD j (0, 0, ⟨#[]⟩) = val at *
              obtain ⟨k0, n0, s0⟩ := val
              simp only at h0 h1 h2
              have HVc := hide (refValue_any (k0, n0, s0) wr hok)
              unfold OwnRes at HVc
              have HAll2 := hide (show byC (pre2 ++ encV (r.take j) ++ valB (k0, n0, s0)) = byC (pre2 ++ encV (r.take (j + 1))) by rw [HK2.out, List.append_assoc])
              have HAl2 := hide (show n2 + (encV (r.take j)).length + (valB (k0, n0, s0)).length = n2 + (encV (r.take (j + 1))).length by rw [HK2.out, List.length_append]; omega)
              have hp3 : n2 + (encV (r.take j)).length + (valB (k0, n0, s0)).length ≤ 4294900000 := by omega
              have HOr := hide hor
              have HBw := hide hbw
              clear hval hor hbw hbig hok hj hp2
              generalize n2 + (encV (r.take j)).length = n3 at *
              generalize pre2 ++ encV (r.take j) = pre3 at *
              generalize valB (k0, n0, s0) = tb at *
              obtain ⟨A5, c5, rfl, -⟩ := row_slice HOr.out
              go_wp2_with fail
              refine HVc.out.mono ?_
              rintro e w3 ⟨v3, rfl, hr3, hb3⟩
              have HO2 := hide (row_keep HOr.out fun b e => hb3.block b (HOr.out.lt b e).2)
              have HL2 := hide (HBw.out.trans (hb3.mono hsz))
              have hs2 := HL2.out.size
              obtain ⟨A2, c2, rfl, hBy, -, hn2, -⟩ := bytes_of_row hr3
              have HBy := hide hBy
              have HN2 := hide hn2
              clear hr3 hb3 hBy hn2 hx h0 h1 h2
              go_wp2_with (at_builtin; go_must (refine append_bytes rfl _ _ rfl w.heap.size (.slice A5 n3 c5) pre3 tb n3 rfl HO2.out _ A2 tb.length c2 rfl rfl HBy.out HN2.out (by omega) hs2 ?_))
              intro v4 w4 hown4 hgrow4 hat4
              have HL4 := hide (grow_below0 HL2.out HO2.out hs2 hgrow4)
              have HO4 := hide (show w4.ownsRow w.heap.size 5 1 v4 (n2 + (encV (r.take (j + 1))).length) (byC (pre2 ++ encV (r.take (j + 1)))) by rw [← HAl2.out, ← HAll2.out]; exact hown4)
              obtain ⟨A6, c6, rfl, -⟩ := row_slice hown4
              clear hown4 hgrow4 hat4
              go_wp2_with fail
              go_roundw
              case rel => exact ⟨j + 1, HLj.out, by go_num, HO4.out, HL4.out⟩
              case measure => have := HLj.out; simp [intOf]; omega
            · obtain rfl : j = r.length := by omega
              rw [List.take_length, HAl.out, HAll.out] at hor
              have HOr := hide hor
              have HBw := hide hbw
              clear hor hbw hj hlt3
              obtain ⟨A5, c5, rfl, -⟩ := row_slice HOr.out
              go_wp2_with fail
              go_roundw
              case rel => exact ⟨k + 1, HLt.out, by go_num, HOr.out, HBw.out⟩
              case measure => have := HLt.out; simp [intOf]; omega
        · obtain rfl : k = hs.length := by omega
          have hid : (rowsOf hs).take hs.length = rowsOf hs := List.take_of_length_le (by rw [rowsOf_len]; exact Nat.le_refl _)
          rw [hid, HTb2.out, HTl2.out] at hor
          have HOr := hide hor
          have HBw := hide hbw
          clear hor hbw hid hk hlt2
          obtain ⟨A5, c5, rfl, -⟩ := row_slice HOr.out
          go_wp2_with fail
          go_ret
          exact ⟨_, rfl, HOr.out, HBw.out⟩
end Go.Proofs.YtbjcbgomkhdmmaaDoor
