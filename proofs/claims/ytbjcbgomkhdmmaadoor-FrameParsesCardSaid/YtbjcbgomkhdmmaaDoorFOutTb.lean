/-
  The encoder: tables.
-/
import Derived.Test.YtbjcbgomkhdmmaaDoorFOutV
namespace Go.Proofs.YtbjcbgomkhdmmaaDoor
open Go.RowKit

theorem OutAt.low {base g : Nat} {v : Value} {l : List UInt8} {w : World} (h : OutAt base g w v l) : base ≤ w.heap.size := by have := h.hg; have := h.lt; omega
set_option maxHeartbeats 6400000 in
set_option maxRecDepth 100000 in
theorem outTable_any {base g : Nat} {v : Value} {l : List UInt8} (S A : Option Addr) (c cap : Nat) (cs : List (ByteArray × Int)) (hs : List RH) (w : World) (hC : ColsAt base w S cs) (hR : RowsAt base w A hs) (hc : ∀ x ∈ cs, Int64 x.2) (hv : ∀ x ∈ rowsOf hs, ∀ y ∈ x, okV y)
    (hw : cs.length ≤ maxLen) (hwr : WfT (rowsOf hs)) (hO : OutAt base g w v l) (hl : l.length + (tabB cs (rowsOf hs)).length ≤ 4294900000) :
    Calls Tryd.prog 12 #[vO g, .agg #[.slice S cs.length c, .slice A hs.length cap]] w fun e w' => e = .returned (vO g) ∧ ∃ v', OutAt base g w' v' (l ++ tabB cs (rowsOf hs)) ∧ OutTurn g v v' w w' := by
  have hlt := hO.lt
  have hlow := hO.low
  have hrl := hwr.1
  rw [rowsOf_len] at hrl
  have htl : (tabB cs (rowsOf hs)).length = (intB cs.length).length + (encC cs).length + (intB hs.length).length + (encR (rowsOf hs)).length := by unfold tabB; rw [List.length_append, List.length_append, List.length_append, rowsOf_len]
  rw [htl] at hl
  have HTab := hide (show tabB cs (rowsOf hs) = intB cs.length ++ encC cs ++ intB hs.length ++ encR (rowsOf hs) by unfold tabB; rw [rowsOf_len])
  unfold maxLen at hw hrl
  have HBx := hide ((Below.refl w.heap.size w).alloc (Nat.le_refl _) (.cells #[.slice S cs.length c, .slice A hs.length cap] 27))
  have HB1 := hide (fun (w' : World) o => (Below.refl w'.heap.size w').alloc (Nat.le_refl _) o)
  have HO1 := hide (hO.below HBx.out)
  have HO0 := hide hO
  have HCl := hide (fun v' w' (h : OutTurn g v v' (w.alloc (.cells #[.slice S cs.length c, .slice A hs.length cap] 27)) w') => turn_cell hO h)
  have HCs := hide (fun v' w' (h : OutTurn g v v' (w.alloc (.cells #[.slice S cs.length c, .slice A hs.length cap] 27)) w') => (hC.below (HBx.out.mono hlow)).below (h.below HO1.out))
  have HRs := hide (fun v' w' (h : OutTurn g v v' (w.alloc (.cells #[.slice S cs.length c, .slice A hs.length cap] 27)) w') => (hR.below (HBx.out.mono hlow)).below (h.below HO1.out))
  have HW0 := hide ((HB1.out w (.cells #[.slice S cs.length c, .slice A hs.length cap] 27)))
  have HI := hide (outInt_any (cs.length : Int) _ ⟨by omega, by omega⟩ HO1.out (by omega))
  have HI64 := hide hc
  have HV := hide hv
  have HWr := hide hwr
  clear hC hR hc hv hwr hO htl
  go_enter Tryd.func12, Tryd.ntmps12
  go_wp2_with fail
  refine HI.out.mono ?_
  rintro e w1 ⟨rfl, v1, ho1, ht1⟩
  have hc0 : w1.cell? ⟨w.heap.size, 0, none⟩ = some (.slice S cs.length c) := (HCl.out _ _ ht1 0).trans (by simp)
  have HO2 := hide ho1
  have HT2 := hide ht1
  clear ho1 ht1
  go_wp2_with fail
  go_loopw [19] (fun i wr => ∃ (k : Nat) (v' : Value), k ≤ cs.length ∧ i = .int .i64 k ∧ OutAt base g wr v' (l ++ intB cs.length ++ encC (cs.take k)) ∧ OutTurn g v v' (w.alloc (.cells #[.slice S cs.length c, .slice A hs.length cap] 27)) wr) (fun i _ => cs.length - (intOf i).toNat)
  case atStart => exact ⟨0, v1, Nat.zero_le _, rfl, by have := HO2.out; simpa [encC] using this, HT2.out⟩
  case round =>
    obtain ⟨k, v', hk, rfl, hor, htr⟩ := hrel
    clear HO2 HT2 HI hc0
    by_cases hlt2 : k < cs.length
    · have HLt := hide hlt2
      obtain ⟨b, off, rfl, hb, h0, h1⟩ := (HCs.out _ _ htr) k hlt2
      have HK := hide (encC_take hlt2)
      have hbig := encC_le cs (k + 1)
      rw [HK.out, List.length_append] at hbig
      have h64 := HI64.out (cs.getD k (⟨#[]⟩, 0)) (by rw [List.getD_eq_getElem?_getD, List.getElem?_eq_getElem hlt2]; exact List.getElem_mem hlt2)
      have hcl := colB_len (cs.getD k (⟨#[]⟩, 0))
      have hbl := hor.low
      generalize hcol : cs.getD k (⟨#[]⟩, 0) = col at *
      obtain ⟨nm, ty⟩ := col
      simp only at h0 h1 h64 hcl
      have HTr := hide htr
      have HB := hide (HB1.out wr (.cells #[.string nm, .int .i64 ty] 53))
      have hll : (l ++ intB cs.length ++ encC (cs.take k)).length = l.length + (intB cs.length).length + (encC (cs.take k)).length := by rw [List.length_append, List.length_append]
      have HT1 := hide (fun w' (h : OutAt base g w' v' (l ++ intB cs.length ++ encC (cs.take k))) => outText_any nm w' h (by rw [hll]; omega))
      have HI1 := hide (fun w' v2 (h : OutAt base g w' v2 ((l ++ intB cs.length ++ encC (cs.take k)) ++ textB nm.data.toList)) => outInt_any ty w' h64 h (by
        have := hbig
        simp only [colB, List.length_append] at this
        rw [List.length_append, hll]; omega))
      have HCc := hide (fun v2 w' (h : OutTurn g v' v2 (wr.alloc (.cells #[.string nm, .int .i64 ty] 53)) w') => (⟨(turn_cell hor h 0).trans (by simp), (turn_cell hor h 1).trans (by simp)⟩ : w'.cell? ⟨wr.heap.size, 0, none⟩ = some (.string nm) ∧ w'.cell? ⟨wr.heap.size, 1, none⟩ = some (.int .i64 ty)))
      have HDr := hide (Below.refl (wr.alloc (.cells #[.string nm, .int .i64 ty] 53)).heap.size (wr.alloc (.cells #[.string nm, .int .i64 ty] 53))).drew
      have HOr := hide (hor.below HB.out)
      have HAll := hide (show (l ++ intB cs.length ++ encC (cs.take k)) ++ textB nm.data.toList ++ intB ty = l ++ intB cs.length ++ encC (cs.take (k + 1)) by rw [HK.out]; unfold colB; simp [List.append_assoc])
      clear hcol htr hor h64 hbig hcl hll hk
      generalize l ++ intB cs.length ++ encC (cs.take k) = pre at *
      go_wp2_with fail
      go_region_held3 (fun w' => w'.cell? ⟨wr.heap.size, 0, none⟩ = some (.string nm) ∧ w'.cell? ⟨wr.heap.size, 1, none⟩ = some (.int .i64 ty)) (refine ⟨?_, ?_⟩ <;> first | assumption | simp)
        (first
          | (go_at_call 25; (try go_split_ands); refine (HI1.out _ _ ho3).mono ?_; rintro e w4 ⟨rfl, v4, ho4, ht4⟩; obtain ⟨hk2, hk3⟩ := HCc.out _ _ (((OutTurn.of_below HDr.out).trans ht3).trans ht4))
          | (go_at_call 28; (try go_split_ands); refine (HT1.out _ (HOr.out.below HDr.out)).mono ?_; rintro e w3 ⟨rfl, v3, ho3, ht3⟩; obtain ⟨hk0, hk1⟩ := HCc.out _ _ ((OutTurn.of_below HDr.out).trans ht3)))
      have HA := hide (show OutAt base g w4 v4 (l ++ intB cs.length ++ encC (cs.take (k + 1))) ∧ OutTurn g v v4 (w.alloc (.cells #[.slice (some ⟨b, off, none⟩) cs.length c, .slice A hs.length cap] 27)) w4 from ⟨by rw [← HAll.out]; exact ho4, HTr.out.trans ((OutTurn.of_below HB.out).trans ((OutTurn.of_below HDr.out).trans (ht3.trans ht4)))⟩)
      clear ho3 ht3 ho4 ht4
      go_wp2_with fail
      go_roundw
      case rel => exact ⟨k + 1, v4, HLt.out, by go_num, HA.out⟩
      case measure => have := HLt.out; simp [intOf]; omega
    · obtain rfl : k = cs.length := by omega
      rw [List.take_length] at hor
      have hc1 : wr.cell? ⟨w.heap.size, 1, none⟩ = some (.slice A hs.length cap) := (HCl.out _ _ htr 1).trans (by simp)
      have hll : (l ++ intB cs.length ++ encC cs).length = l.length + (intB cs.length).length + (encC cs).length := by rw [List.length_append, List.length_append]
      have HI2 := hide (outInt_any (hs.length : Int) wr ⟨by omega, by omega⟩ hor (by rw [hll]; omega))
      have HTr := hide htr
      clear hor htr hk hlt2
      go_wp2_with fail
      refine HI2.out.mono ?_
      rintro e w2 ⟨rfl, v2, ho2, ht2⟩
      have HT3 := hide (HTr.out.trans ht2)
      have HO3 := hide ho2
      have hc2 : w2.cell? ⟨w.heap.size, 1, none⟩ = some (.slice A hs.length cap) := (HCl.out _ _ HT3.out 1).trans (by simp)
      clear ho2 ht2 hc1
      have hll2 : (l ++ intB cs.length ++ encC cs ++ intB hs.length).length = l.length + (intB cs.length).length + (encC cs).length + (intB hs.length).length := by rw [List.length_append, hll]
      have HTb2 := hide (show l ++ intB cs.length ++ encC cs ++ intB hs.length ++ encR (rowsOf hs) = l ++ tabB cs (rowsOf hs) by rw [HTab.out]; simp [List.append_assoc])
      clear hll
      generalize l ++ intB cs.length ++ encC cs ++ intB hs.length = pre at *
      have hpl : pre.length + (encR (rowsOf hs)).length ≤ 4294900000 := by omega
      clear hll2
      go_wp2_with fail
      go_loopw [39] (fun i wr => ∃ (k : Nat) (v' : Value), k ≤ hs.length ∧ i = .int .i64 k ∧ OutAt base g wr v' (pre ++ encR ((rowsOf hs).take k)) ∧ OutTurn g v v' (w.alloc (.cells #[.slice S cs.length c, .slice A hs.length cap] 27)) wr) (fun i _ => hs.length - (intOf i).toNat)
      case atStart => exact ⟨0, v2, Nat.zero_le _, rfl, by have := HO3.out; simpa [encR] using this, HT3.out⟩
      case round =>
        obtain ⟨k, v', hk, rfl, hor, htr⟩ := hrel
        clear HO3 HT3 HI2 hc2
        by_cases hlt2 : k < hs.length
        · have HLt := hide hlt2
          obtain ⟨b, off, A', c', r, rfl, hb, hx, hr, hrn, hg⟩ := (HRs.out _ _ htr).at hlt2
          have HK := hide (show encR ((rowsOf hs).take (k + 1)) = encR ((rowsOf hs).take k) ++ encV r by have := encR_take hlt2; rw [hg] at this; exact this)
          have HRow := hide (fun v'' w' h => (show RowAt base w' A' r from by have := ((HRs.out v'' w' h).2 _ (getH_mem hlt2)).1; rw [hg] at this; exact this))
          have hbig := encR_le (rowsOf hs) (k + 1)
          rw [HK.out, List.length_append] at hbig
          have hrm : r ∈ rowsOf hs := by
            unfold rowsOf
            refine List.mem_map.2 ⟨_, getH_mem hlt2, ?_⟩
            rw [hg]
          have HVr := hide (HV.out r hrm)
          have hrl2 := (HWr.out.2 r hrm).1
          unfold maxLen at hrl2
          have HAll := hide (show pre ++ encR ((rowsOf hs).take k) ++ encV r = pre ++ encR ((rowsOf hs).take (k + 1)) by rw [HK.out, List.append_assoc])
          have hp2 : (pre ++ encR ((rowsOf hs).take k)).length + (encV r).length ≤ 4294900000 := by rw [List.length_append]; omega
          have HOr := hide hor
          have HTr := hide htr
          clear hor htr hr hrn hg hbig hrm hk
          generalize pre ++ encR ((rowsOf hs).take k) = pre2 at *
          go_wp2_with fail
          go_loopw [45] (fun i wr => ∃ (j : Nat) (v' : Value), j ≤ r.length ∧ i = .int .i64 j ∧ OutAt base g wr v' (pre2 ++ encV (r.take j)) ∧ OutTurn g v v' (w.alloc (.cells #[.slice S cs.length c, .slice (some ⟨b, off, none⟩) hs.length cap] 27)) wr) (fun i _ => r.length - (intOf i).toNat)
          case atStart => exact ⟨0, v', Nat.zero_le _, rfl, by have := HOr.out; simpa [encV] using this, HTr.out⟩
          case round =>
            obtain ⟨j, vj, hj, rfl, hor, htr⟩ := hrel
            clear HOr HTr hx
            by_cases hlt3 : j < r.length
            · have HLj := hide hlt3
              obtain ⟨b2, off2, rfl, hb2, h0, h1, h2⟩ := (HRow.out _ _ htr) j hlt3
              have HK2 := hide (encV_take hlt3)
              have hbig := encV_le r (j + 1)
              rw [HK2.out, List.length_append] at hbig
              have hok := HVr.out (r.getD j (0, 0, ⟨#[]⟩)) (by rw [List.getD_eq_getElem?_getD, List.getElem?_eq_getElem hlt3]; exact List.getElem_mem hlt3)
              generalize hval : r.getD j (0, 0, ⟨#[]⟩) = val at *
              obtain ⟨k0, n0, s0⟩ := val
              simp only at h0 h1 h2
              have HB := hide (HB1.out wr (.cells #[.int .i64 k0, .int .i64 n0, .string s0] 36))
              have HVc := hide (outValue_any (k0, n0, s0) _ hok (hor.below HB.out) (by rw [List.length_append]; omega))
              have HTr := hide htr
              clear hval hor htr hbig hok hj
              go_wp2_with fail
              refine HVc.out.mono ?_
              rintro e w3 ⟨rfl, v3, ho3, ht3⟩
              have HA := hide (show OutAt base g w3 v3 (pre2 ++ encV (r.take (j + 1))) ∧ OutTurn g v v3 (w.alloc (.cells #[.slice S cs.length c, .slice (some ⟨b, off, none⟩) hs.length cap] 27)) w3 from ⟨by rw [HK2.out, ← List.append_assoc]; exact ho3, HTr.out.trans ((OutTurn.of_below HB.out).trans ht3)⟩)
              clear ho3 ht3
              go_wp2_with fail
              go_roundw
              case rel => exact ⟨j + 1, v3, HLj.out, by go_num, HA.out⟩
              case measure => have := HLj.out; simp [intOf]; omega
            · obtain rfl : j = r.length := by omega
              rw [List.take_length] at hor
              have HA := hide (show OutAt base g wr vj (pre ++ encR ((rowsOf hs).take (k + 1))) ∧ OutTurn g v vj (w.alloc (.cells #[.slice S cs.length c, .slice (some ⟨b, off, none⟩) hs.length cap] 27)) wr from ⟨by rw [← HAll.out]; exact hor, htr⟩)
              clear hor htr hj hlt3
              go_wp2_with fail
              go_roundw
              case rel => exact ⟨k + 1, vj, HLt.out, by go_num, HA.out⟩
              case measure => have := HLt.out; simp [intOf]; omega
        · obtain rfl : k = hs.length := by omega
          have hid : (rowsOf hs).take hs.length = rowsOf hs := List.take_of_length_le (by rw [rowsOf_len]; exact Nat.le_refl _)
          rw [hid, HTb2.out] at hor
          have HA := hide (show ∃ v', OutAt base g wr v' (l ++ tabB cs (rowsOf hs)) ∧ OutTurn g v v' w wr from ⟨v', hor, (OutTurn.of_below HW0.out).trans htr⟩)
          clear hor htr hid hk hlt2
          go_wp2_with fail
          go_ret
          exact ⟨rfl, HA.out⟩
end Go.Proofs.YtbjcbgomkhdmmaaDoor
