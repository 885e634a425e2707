/-
  The walk of the document's Sort.
-/
import Derived.Test.YtfjhdfpdgjjcgaaGreatDoorTSortR
namespace Go.Proofs.YtfjhdfpdgjjcgaaGreatDoor
open Go.RowKit

set_option maxHeartbeats 6400000 in
set_option maxRecDepth 100000 in
theorem refSort_any (A : Option Addr) (cap : Nat) (hs : List RH) (w : World) (hR : RowsAt w.heap.size w A hs) (hv : WfT (rowsOf hs)) (hl : hs.length ≤ 65536) :
    Calls Tryz.prog 15 #[.slice A hs.length cap] w (GivesRows (sortR (rowsOf hs)) w) := by
  have HR := hide hR; have HV := hide hv
  clear hR hv
  obtain ⟨i0, hi, hz0, hz1, hz2⟩ := info_parts rrow_info
  go_enter Tryz.func15, Tryz.ntmps15
  go_wp2_with fail
  go_loopw [3, 4, 5, 6, 7] (fun v i _ _ _ wr => ∃ (k : Nat) (ns : List RH), k ≤ hs.length ∧ i = .int .i64 k ∧ ns = sortH (hs.take k) ∧ wr.ownsRow w.heap.size 64 1 v ns.length (ns.map hdr) ∧ Below w.heap.size w wr) (fun _ i _ _ _ _ => hs.length - (intOf i).toNat)
  case atStart => exact ⟨0, [], Nat.zero_le _, rfl, rfl, World.ownsRow_nil _ _ _ _, Below.refl _ _⟩
  case round =>
    obtain ⟨k, ns, hk, rfl, hns, hown, hbw⟩ := hrel
    have hnl : ns.length = k := by rw [hns, sortH_len, List.length_take]; omega
    have hmem : ∀ x ∈ ns, x ∈ hs := fun x hx => List.mem_of_mem_take (sortH_mem (hns ▸ hx))
    have HNS := hide hns; have HNL := hide hnl; have HMEM := hide hmem; have HOW := hide hown
    have hs0 := hbw.size
    clear hns hmem hown
    by_cases hlt : k < hs.length
    · have HSN := hide (show sortH (hs.take (k + 1)) = insH (hs.getD k dH) ns by rw [take_row hlt, sortH_snoc, HNS.out])
      have HX := hide (HR.out.2 _ (getH_mem hlt))
      have HWX := hide (HV.out.at hlt)
      have HXm := hide (getH_mem hlt)
      obtain ⟨b, off, eA, hb, c0⟩ := HR.out.1 k hlt
      have HC0 := hide c0
      generalize hs.getD k dH = x at HSN HX HWX HXm HC0
      clear c0
      subst eA
      have hnl2 : ns.length ≤ 65536 := by omega
      clear hnl
      go_wp2_with fail
      obtain ⟨wa, hwa⟩ : ∃ wa : World, wa = wr := ⟨_, rfl⟩
      subst hwa
      go_loopw [5, 6, 7] (fun v5 p i w2 => ∃ (m : Nat) (L : List RH) (pb : Bool), m ≤ ns.length ∧ i = .int .i64 m ∧ p = .bool pb ∧ Put x ns L m pb ∧ L.length ≤ m + 1 ∧ (∀ y ∈ L, y = x ∨ y ∈ ns) ∧ w2.ownsRow w.heap.size 64 1 v5 L.length (L.map hdr) ∧
        w2.ownsRow w.heap.size 64 1 u3 ns.length (ns.map hdr) ∧ (∀ g, u3.ownBlock = some g → ¬ v5.ownBlock = some g) ∧ Below w.heap.size w w2) (fun _ _ i _ => ns.length - (intOf i).toNat)
      case atStart => exact ⟨0, [], false, Nat.zero_le _, rfl, rfl, Put.start _ _, Nat.zero_le _, fun y hy => by simp at hy, World.ownsRow_nil _ _ _ _, HOW.out, fun g _ h => by simp [Value.ownBlock] at h, hbw⟩
      case round =>
        obtain ⟨m, L, pb, hm, rfl, rfl, hput, hLl, hLm, hown5, hown3, hap, hbw2⟩ := hrel
        have HPUT := hide hput; have HLM := hide hLm; have HO5 := hide hown5; have HO3 := hide hown3; have HAP := hide hap
        have hs2 := hbw2.size
        clear hput hLm hown5 hown3 hap
        by_cases hlt2 : m < ns.length
        · have hok3 : ∀ y ∈ ns, HdrOk w.heap.size wr y := fun y hy => (HR.out.2 y (HMEM.out y hy)).below hbw2
          obtain ⟨A3, c3, e3, hA3, -⟩ := rows_of_row HO3.out hok3 hs2
          subst e3
          obtain ⟨b3, off3, eA3, hb3, d0⟩ := hA3.1 m hlt2
          subst eA3
          have hy := HR.out.2 _ (HMEM.out _ (getH_mem hlt2))
          have HYm := hide (getH_mem hlt2)
          have HPb := hide (fun h => Put.behind (h := x) (L := L) h hlt2)
          have HPa := hide (fun h => Put.ahead (h := x) (L := L) h hlt2)
          have HPp := hide (fun h => Put.pass (h := x) (L := L) h hlt2)
          have HYok := hide hy
          have HWy := hide (show WfR (ns.getD m dH).2.2 from HV.out.2 _ (by unfold rowsOf; exact List.mem_map.2 ⟨_, HMEM.out _ (getH_mem hlt2), rfl⟩))
          have HCell := hide (fun (w' : World) (h : w'.ownsRow w.heap.size 64 1 (.slice (some ⟨b3, off3, none⟩) ns.length c3) ns.length (ns.map hdr)) => own_cell h hlt2)
          generalize ns.getD m dH = y at d0 HYm HPb HPa HPp HYok HWy HCell
          have HC0r := hide ((hbw2.cell (p := ⟨b, off + k, none⟩) hb).trans HC0.out)
          have HD0 := hide d0
          have HLT3 := hide hb3
          clear hok3 hA3 hy d0
          have ek0 : (0 : Int) ≤ (k : Int) := by omega
          have ek1 : (k : Int) < (hs.length : Int) := by omega
          have em0 : (0 : Int) ≤ (m : Int) := by omega
          have em1 : (m : Int) < (ns.length : Int) := by omega
          cases pb
          · have r0 := fun d os => cell_regrown HC0r.out d os
            have r3 := fun d os => cell_regrown HD0.out d os
            obtain ⟨Ax, cx, rx⟩ := x
            obtain ⟨Ay, cy, ry⟩ := y
            have HC := hide (fun w' (h1 : RowAt w'.heap.size w' Ax rx) (h2 : RowAt w'.heap.size w' Ay ry) => refCmpRows_any Ax Ay cx cy rx ry w' h1 h2 HWX.out.1 HWX.out)
            have HR1 := hide ((HX.out.1.below hbw2).mono hs2)
            have HR2 := hide ((HYok.out.1.below hbw2).mono hs2)
            unfold hdr at r0 r3
            by_cases hc : cmpR rx ry < 0
            · have HCC := hide hc
              go_wp2_with fail
              refine wp_region_quiet_below (by kernel_rfl) (by kernel_rfl) ?_
              repeat (go_big_quiet_step ((first | (go_at_call 35; exact Calls.regrown_of (HC.out _ (HR1.out.on (below_regrown _ _ _)) (HR2.out.on (below_regrown _ _ _)))))))
              refine wpQuiet_nil ?_
              intro _ hw'
              obtain ⟨⟨dq, osq⟩, hw''⟩ := hw'
              subst hw''
              have q1 : Below wr.heap.size wr (Go.Sort.grow (redrawn wr dq) osq) := below_regrown _ dq osq
              generalize Go.Sort.grow (redrawn wr dq) osq = w1 at q1 ⊢
              have HQ1 := hide (hbw2.trans (q1.mono hs2))
              have z1 : w.heap.size ≤ w1.heap.size := HQ1.out.size
              have HO5a := hide (HO5.out.kept (only_of_below q1 none) (by cases hv : u5.ownBlock <;> simp))
              have HO3a := hide (HO3.out.kept (only_of_below q1 none) (.inr (fun h => by cases h)))
              have e0 := (q1.cell (p := ⟨b, off + k, none⟩) (Nat.lt_of_lt_of_le hb hs2)).trans HC0r.out
              have e1 := (q1.cell (p := ⟨b3, off3 + m, none⟩) HLT3.out).trans HD0.out
              unfold hdr at e0 e1
              clear q1
              go_wp2_with (at_builtin; go_must (refine wpList_append_own_at _ rfl _ _ 35 rfl w.heap.size 64 i0 (.slice none 0 0) 1 24 Tryz.underlying35 hi hz0 hz1 hz2 rfl (by decide) u5 L.length (L.map hdr) rfl (HO5a.out.alloc _) ⟨w1.heap.size, 0, none⟩ 1 1 [hdr (Ax, cx, rx)] rfl rfl (hdr_new _ _ (Ax, cx, rx) _ rfl) (hdr_one _) (by unfold maxLen; omega) (by omega) (by simp; omega) ?_))
              intro v6 w3 hown6 hgrow6 _ hat6
              obtain ⟨own3b, hap6⟩ := own_apart HO3a.out HAP.out hgrow6 hat6
              have e2 := HCell.out w3 own3b
              have HO6 := hide hown6; have HG6 := hide hgrow6; have HAP6 := hide hap6; have HO3b := hide own3b
              have z3 := hgrow6.size
              simp at z3
              unfold hdr at e2
              clear hown6 hgrow6 hat6 hap6 own3b e0 e1
              go_wp2_with (at_builtin; go_must (refine wpList_append_own_at _ rfl _ _ 35 rfl w.heap.size 64 i0 (.slice none 0 0) 1 24 Tryz.underlying35 hi hz0 hz1 hz2 rfl (by decide) v6 (L.length + 1) ((L ++ [(Ax, cx, rx)]).map hdr) rfl ((show w3.ownsRow w.heap.size 64 1 v6 (L.length + 1) ((L ++ [(Ax, cx, rx)]).map hdr) by rw [List.map_append]; exact HO6.out).alloc _) ⟨w3.heap.size, 0, none⟩ 1 1 [hdr (Ay, cy, ry)] rfl rfl (hdr_new _ _ (Ay, cy, ry) _ rfl) (hdr_one _) (by unfold maxLen; omega) (by omega) (by simp; omega) ?_))
              intro v7 w4 hown7 hgrow7 _ hat7
              obtain ⟨own3c, hap7⟩ := own_apart HO3b.out HAP6.out hgrow7 hat7
              have HO7 := hide hown7; have HG7 := hide hgrow7; have HAP7 := hide hap7; have HO3c := hide own3c
              have z4 := hgrow7.size
              simp at z4
              clear hown7 hgrow7 hat7 hap7 own3c e2
              go_wp2_with fail
              go_roundw
              case rel =>
                refine ⟨m + 1, L ++ [(Ax, cx, rx)] ++ [(Ay, cy, ry)], true, by omega, by go_num, rfl, HPa.out HPUT.out HCC.out, by have := Put.len_false HPUT.out hm; simp only [List.length_append, List.length_cons, List.length_nil]; omega, fun z hz => ?_, ?_, HO3c.out, HAP7.out, ?_⟩
                · rcases List.mem_append.1 hz with hz | hz
                  · rcases List.mem_append.1 hz with hz | hz
                    · exact HLM.out z hz
                    · simp at hz; exact .inl hz
                  · simp at hz; subst hz; exact .inr HYm.out
                · rw [show (L ++ [(Ax, cx, rx)] ++ [(Ay, cy, ry)]).map hdr = L.map hdr ++ [hdr (Ax, cx, rx), hdr (Ay, cy, ry)] by simp, show (L ++ [(Ax, cx, rx)] ++ [(Ay, cy, ry)]).length = L.length + 1 + 1 by simp]; exact HO7.out
                · exact (((HQ1.out.alloc (by omega) _).grown HG6.out (by simp; omega) (fun j hj => (HO5a.out.lt j hj).1)).alloc (by omega) _).grown HG7.out (by simp; omega) (fun j hj => (HO6.out.lt j hj).1)
              case measure => simp [intOf]; omega
            · have HCC := hide hc
              go_wp2_with fail
              refine wp_region_quiet_below (by kernel_rfl) (by kernel_rfl) ?_
              repeat (go_big_quiet_step ((first | (go_at_call 35; exact Calls.regrown_of (HC.out _ (HR1.out.on (below_regrown _ _ _)) (HR2.out.on (below_regrown _ _ _)))))))
              refine wpQuiet_nil ?_
              intro _ hw'
              obtain ⟨⟨dq, osq⟩, hw''⟩ := hw'
              subst hw''
              have q1 : Below wr.heap.size wr (Go.Sort.grow (redrawn wr dq) osq) := below_regrown _ dq osq
              generalize Go.Sort.grow (redrawn wr dq) osq = w1 at q1 ⊢
              have HQ1 := hide (hbw2.trans (q1.mono hs2))
              have z1 : w.heap.size ≤ w1.heap.size := HQ1.out.size
              have HO5a := hide (HO5.out.kept (only_of_below q1 none) (by cases hv : u5.ownBlock <;> simp))
              have HO3a := hide (HO3.out.kept (only_of_below q1 none) (.inr (fun h => by cases h)))
              have e0 := (q1.cell (p := ⟨b, off + k, none⟩) (Nat.lt_of_lt_of_le hb hs2)).trans HC0r.out
              have e1 := (q1.cell (p := ⟨b3, off3 + m, none⟩) HLT3.out).trans HD0.out
              unfold hdr at e0 e1
              clear q1
              go_wp2_with (at_builtin; go_must (refine wpList_append_own_at _ rfl _ _ 35 rfl w.heap.size 64 i0 (.slice none 0 0) 1 24 Tryz.underlying35 hi hz0 hz1 hz2 rfl (by decide) u5 L.length (L.map hdr) rfl (HO5a.out.alloc _) ⟨w1.heap.size, 0, none⟩ 1 1 [hdr (Ay, cy, ry)] rfl rfl (hdr_new _ _ (Ay, cy, ry) _ rfl) (hdr_one _) (by unfold maxLen; omega) (by omega) (by simp; omega) ?_))
              intro v7 w4 hown7 hgrow7 _ hat7
              obtain ⟨own3c, hap7⟩ := own_apart HO3a.out HAP.out hgrow7 hat7
              have HO7 := hide hown7; have HG7 := hide hgrow7; have HAP7 := hide hap7; have HO3c := hide own3c
              have z4 := hgrow7.size
              simp at z4
              clear hown7 hgrow7 hat7 hap7 own3c e0 e1
              go_wp2_with fail
              go_roundw
              case rel =>
                refine ⟨m + 1, L ++ [(Ay, cy, ry)], false, by omega, by go_num, rfl, HPp.out HPUT.out HCC.out, by simp only [List.length_append, List.length_cons, List.length_nil]; omega, fun z hz => ?_, ?_, HO3c.out, HAP7.out, ?_⟩
                · rcases List.mem_append.1 hz with hz | hz
                  · exact HLM.out z hz
                  · simp at hz; subst hz; exact .inr HYm.out
                · have := HO7.out
                  rw [List.map_append, List.length_append]; exact this
                · exact (HQ1.out.alloc (by omega) _).grown HG7.out (by simp; omega) (fun j hj => (HO5a.out.lt j hj).1)
              case measure => simp [intOf]; omega
          · obtain ⟨Ay, cy, ry⟩ := y
            go_wp2_with fail
            refine wp_region_quiet_below (by kernel_rfl) (by kernel_rfl) ?_
            repeat (go_big_quiet_step (fail))
            refine wpQuiet_nil ?_
            intro _ hw'
            obtain ⟨⟨dq, osq⟩, hw''⟩ := hw'
            subst hw''
            have q1 : Below wr.heap.size wr (Go.Sort.grow (redrawn wr dq) osq) := below_regrown _ dq osq
            generalize Go.Sort.grow (redrawn wr dq) osq = w1 at q1 ⊢
            have HQ1 := hide (hbw2.trans (q1.mono hs2))
            have z1 : w.heap.size ≤ w1.heap.size := HQ1.out.size
            have HO5a := hide (HO5.out.kept (only_of_below q1 none) (by cases hv : u5.ownBlock <;> simp))
            have HO3a := hide (HO3.out.kept (only_of_below q1 none) (.inr (fun h => by cases h)))
            have e0 := (q1.cell (p := ⟨b, off + k, none⟩) (Nat.lt_of_lt_of_le hb hs2)).trans HC0r.out
            have e1 := (q1.cell (p := ⟨b3, off3 + m, none⟩) HLT3.out).trans HD0.out
            unfold hdr at e0 e1
            clear q1
            go_wp2_with (at_builtin; go_must (refine wpList_append_own_at _ rfl _ _ 35 rfl w.heap.size 64 i0 (.slice none 0 0) 1 24 Tryz.underlying35 hi hz0 hz1 hz2 rfl (by decide) u5 L.length (L.map hdr) rfl (HO5a.out.alloc _) ⟨w1.heap.size, 0, none⟩ 1 1 [hdr (Ay, cy, ry)] rfl rfl (hdr_new _ _ (Ay, cy, ry) _ rfl) (hdr_one _) (by unfold maxLen; omega) (by omega) (by simp; omega) ?_))
            intro v7 w4 hown7 hgrow7 _ hat7
            obtain ⟨own3c, hap7⟩ := own_apart HO3a.out HAP.out hgrow7 hat7
            have HO7 := hide hown7; have HG7 := hide hgrow7; have HAP7 := hide hap7; have HO3c := hide own3c
            have z4 := hgrow7.size
            simp at z4
            clear hown7 hgrow7 hat7 hap7 own3c e0 e1
            go_wp2_with fail
            go_roundw
            case rel =>
              refine ⟨m + 1, L ++ [(Ay, cy, ry)], true, by omega, by go_num, rfl, HPb.out HPUT.out, by simp only [List.length_append, List.length_cons, List.length_nil]; omega, fun z hz => ?_, ?_, HO3c.out, HAP7.out, ?_⟩
              · rcases List.mem_append.1 hz with hz | hz
                · exact HLM.out z hz
                · simp at hz; subst hz; exact .inr HYm.out
              · have := HO7.out
                rw [List.map_append, List.length_append]; exact this
              · exact (HQ1.out.alloc (by omega) _).grown HG7.out (by simp; omega) (fun j hj => (HO5a.out.lt j hj).1)
            case measure => simp [intOf]; omega
        · obtain rfl : m = ns.length := by omega
          have e3 : ∃ A3 c3, u3 = .slice A3 ns.length c3 := by
            rcases HO3.out.2 with ⟨e, h0⟩ | ⟨g, cap, cur, e, _⟩
            · exact ⟨none, 0, by rw [e, h0]⟩
            · exact ⟨_, _, e⟩
          obtain ⟨A3, c3, rfl⟩ := e3
          cases pb
          · have HL := hide (Put.end_false HPUT.out)
            have hll := Put.len_false HPUT.out hm
            have e0 := (hbw2.cell (p := ⟨b, off + k, none⟩) hb).trans HC0.out
            obtain ⟨Ax, cx, rx⟩ := x
            unfold hdr at e0
            go_wp2_with (at_builtin; go_must (refine wpList_append_own_at _ rfl _ _ 35 rfl w.heap.size 64 i0 (.slice none 0 0) 1 24 Tryz.underlying35 hi hz0 hz1 hz2 rfl (by decide) u5 L.length (L.map hdr) rfl (HO5.out.alloc _) ⟨wr.heap.size, 0, none⟩ 1 1 [hdr (Ax, cx, rx)] rfl rfl (hdr_new _ _ (Ax, cx, rx) _ rfl) (hdr_one _) (by unfold maxLen; omega) (by omega) (by simp; omega) ?_))
            intro v7 w4 hown7 hgrow7 _ hat7
            have HO7 := hide hown7; have HG7 := hide hgrow7
            have z4 := hgrow7.size
            simp at z4
            clear hown7 hgrow7 hat7 e0
            go_wp2_with fail
            go_roundw
            case rel =>
              refine ⟨k + 1, insH (Ax, cx, rx) ns, by omega, by go_num, HSN.out.symm, ?_, (hbw2.alloc (by omega) _).grown HG7.out (by simp; omega) (fun j hj => (HO5.out.lt j hj).1)⟩
              rw [← HL.out, show (L ++ [(Ax, cx, rx)]).map hdr = L.map hdr ++ [hdr (Ax, cx, rx)] by simp, show (L ++ [(Ax, cx, rx)]).length = ns.length + 1 by simp [hll]]; exact HO7.out
            case measure => simp [intOf]; omega
          · have HL := hide (Put.end_true HPUT.out)
            go_wp2_with fail
            go_roundw
            case rel => exact ⟨k + 1, insH x ns, by omega, by go_num, HSN.out.symm, by rw [← HL.out]; exact HO5.out, hbw2⟩
            case measure => simp [intOf]; omega
    · obtain rfl : k = hs.length := by omega
      have hok : ∀ y ∈ ns, HdrOk w.heap.size wr y := fun y hy => (HR.out.2 y (HMEM.out y hy)).below hbw
      obtain ⟨A1, c1, e1, hA1, hz1'⟩ := rows_of_row HOW.out hok hs0
      subst e1
      have HA1 := hide hA1; have HZ1 := hide hz1'
      have HRW := hide (show rowsOf ns = sortR (rowsOf hs) by rw [HNS.out, List.take_length, rowsOf_sortH])
      clear hok hA1 hz1' hnl
      go_wp2_with fail
      go_ret
      exact ⟨⟨A1, c1, ns, rfl, HA1.out, HRW.out, HZ1.out⟩, hbw⟩
end Go.Proofs.YtfjhdfpdgjjcgaaGreatDoor
