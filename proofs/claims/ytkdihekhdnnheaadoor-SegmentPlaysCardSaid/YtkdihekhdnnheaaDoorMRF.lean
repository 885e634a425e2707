/-
  The reference's head of a file.
  The reference's frame of a group.
-/
import Derived.Test.YtkdihekhdnnheaaDoorFRefFrm
import Derived.Test.YtkdihekhdnnheaaDoorFPFrame
import Derived.Test.YtkdihekhdnnheaaDoorGPure
import Derived.Test.YtkdihekhdnnheaaDoorGFrm
namespace Go.Proofs.YtkdihekhdnnheaaDoor
open Go.RowKit

set_option maxHeartbeats 3200000 in
set_option maxRecDepth 100000 in
theorem refHead_any (g : Int) (A : Option Addr) (c : Nat) (cp : List UInt8) (w : World) (hg : Int64 g) (hB : BytesAt w.heap.size w A cp) (hl : cp.length ≤ 1073741000) :
    Calls Tryd.prog 8 #[.int .i64 g, .slice A cp.length c] w (OwnRes w (headB g cp)) := by
  have hdt : (⟨cp.toArray⟩ : ByteArray).data.toList = cp := rfl
  have hsz : (⟨cp.toArray⟩ : ByteArray).size = cp.length := by simp [ByteArray.size]
  have HI1 := hide (refInt_any 1 w ⟨by decide, by decide⟩)
  have HI2 := hide (fun w' => refInt_any g w' hg)
  have HT := hide (fun w' => refText_any ⟨cp.toArray⟩ w' (by rw [hsz]; omega))
  rw [hdt] at HT
  have HCv := hide (fun (w' : World) (h : Below w.heap.size w w') => conv_bytes A c cp w' (hB.on h))
  have htl : (textB cp).length ≤ 9 + cp.length := by unfold textB; rw [List.length_append]; have := (intB_len (cp.length : Int)).2; omega
  have h1l := (intB_len 1).2
  have h2l := (intB_len g).2
  have HF := hide (fun (A : Option Addr) (n c : Nat) (l : List UInt8) (w' : World) (hn : n = l.length) (hB : BytesAt w'.heap.size w' A l) (hl : l.length ≤ 1073741824) => refFrame_any A n c l w' hn hB hl)
  have HE := hide (show headB g cp = frameB (intB 1 ++ intB g ++ textB cp) from rfl)
  unfold OwnRes at HI1 HI2 HT HF ⊢
  rw [HE.out]
  clear hdt hsz hB HE
  generalize intB 1 = i1 at *
  generalize intB g = i2 at *
  generalize textB cp = tb at *
  go_enter Tryd.func8, Tryd.ntmps8
  go_wp2_with fail
  refine HI1.out.mono ?_
  rintro e w1 ⟨v1, rfl, hr1, hb1⟩
  have HR1 := hide hr1
  have HB1 := hide hb1
  have hs1 := hb1.size
  obtain ⟨A1, c1, rfl, -⟩ := row_slice hr1
  clear hr1 hb1 HI1
  go_wp2_with fail
  refine (HI2.out w1).mono ?_
  rintro e w2 ⟨v2, rfl, hr2, hb2⟩
  have HB2 := hide (HB1.out.trans (hb2.mono hs1))
  have hs2 := HB2.out.size
  have HR2 := hide (row_keep HR1.out (w' := w2) fun b e => hb2.block b (HR1.out.lt b e).2)
  obtain ⟨A2, c2, rfl, hBy2, _, hn2, _⟩ := bytes_of_row hr2
  clear hr2 hb2 HI2
  go_wp2_with (at_builtin; go_must (refine append_bytes rfl _ _ rfl w.heap.size (.slice A1 i1.length c1) i1 i2 i1.length rfl HR2.out _ A2 i2.length c2 rfl rfl hBy2 hn2 (by omega) hs2 ?_))
  intro v3 w3 hown3 hgrow3 hat3
  have HB3 := hide (grow_below0 HB2.out HR2.out hs2 hgrow3)
  have HR3 := hide hown3
  have hs3 := HB3.out.size
  have hcv := HCv.out w3 HB3.out
  obtain ⟨A3, c3, rfl, -⟩ := row_slice hown3
  clear hown3 hgrow3 hat3 hBy2 hn2 HCv
  go_wp2_with fail
  refine (HT.out w3).mono ?_
  rintro e w4 ⟨v4, rfl, hr4, hb4⟩
  have HB4 := hide (HB3.out.trans (hb4.mono hs3))
  have hs4 := HB4.out.size
  have HR4 := hide (row_keep HR3.out (w' := w4) fun b e => hb4.block b (HR3.out.lt b e).2)
  obtain ⟨A4, c4, rfl, hBy4, _, hn4, _⟩ := bytes_of_row hr4
  clear hr4 hb4 HT hcv
  go_wp2_with (at_builtin; go_must (refine append_bytes rfl _ _ rfl w.heap.size (.slice A3 (i1.length + i2.length) c3) (i1 ++ i2) tb (i1.length + i2.length) rfl HR4.out _ A4 tb.length c4 rfl rfl hBy4 hn4 (by omega) hs4 ?_))
  intro v5 w5 hown5 hgrow5 hat5
  have HB5 := hide (grow_below0 HB4.out HR4.out hs4 hgrow5)
  have hs5 := HB5.out.size
  have HLn := hide (show i1.length + i2.length + tb.length = (i1 ++ i2 ++ tb).length by rw [List.length_append, List.length_append])
  have hown6 : w5.ownsRow w.heap.size 5 1 v5 (i1 ++ i2 ++ tb).length (byC (i1 ++ i2 ++ tb)) := by rw [← HLn.out]; first | exact hown5 | (rw [List.append_assoc]; exact hown5)
  have hll : (i1 ++ i2 ++ tb).length ≤ 1073741824 := by rw [← HLn.out]; omega
  obtain ⟨l, hl5⟩ : ∃ l, l = i1 ++ i2 ++ tb := ⟨_, rfl⟩
  rw [← hl5] at hown6 hll
  have HL5 := hide hl5
  obtain ⟨A5, c5, rfl, hBy5, _, _, _⟩ := bytes_of_row hown6
  have HFr := hide (HF.out A5 l.length c5 l w5 rfl hBy5 hll)
  clear hown5 hown6 hgrow5 hat5 hBy4 hn4 hBy5 HF hl5 hll HLn HR1 HR2 HR3 HR4
  go_wp2_with fail
  refine HFr.out.mono ?_
  rintro e w6 ⟨v6, rfl, hr6, hb6⟩
  have HR6 := hide hr6
  have HO6 := hide (HB5.out.trans (hb6.mono hs5))
  have hr7 : w6.ownsRow w.heap.size 5 1 v6 (frameB l).length (byC (frameB l)) := ⟨hr6.1, by
    rcases hr6.2 with h | ⟨g', cap, cur, e1, e2, e3⟩
    · exact .inl h
    · exact .inr ⟨g', cap, cur, e1, Nat.le_trans hs5 e2, e3⟩⟩
  have HR7 := hide hr7
  obtain ⟨A6, c6, rfl, -⟩ := row_slice hr6
  clear hr6 hb6 hr7
  go_wp2_with fail
  go_ret
  rw [← HL5.out]
  exact ⟨_, rfl, HR7.out, HO6.out⟩
end Go.Proofs.YtkdihekhdnnheaaDoor
namespace Go.Proofs.YtkdihekhdnnheaaDoor
open Go.RowKit

set_option maxHeartbeats 3200000 in
set_option maxRecDepth 100000 in
theorem refGroup_any {P : Nat → Prop} (A : Option Addr) (c : Nat) (rs : List BH) (w : World) (hR : RecsIn P w A rs) (hl : rs.length ≤ 2000) (hm : ∀ j, j < rs.length → (rs.getD j dH).l.length ≤ 2000) :
    Calls Tryd.prog 10 #[.slice A rs.length c] w (OwnRes w (groupB (lsOf rs))) := by
  have HR := hide hR
  have hi2 := (intB_len 2).2
  have hin := (intB_len ((lsOf rs).length : Int)).2
  have hmm : ∀ r ∈ lsOf rs, r.length ≤ 2000 := fun r hr => by
    obtain ⟨j, hj, e⟩ := List.getElem_of_mem hr
    have h := hm j (by rw [lsOf_len] at hj; exact hj)
    rw [← lsOf_get (by rw [lsOf_len] at hj; exact hj), List.getD_eq_getElem?_getD, List.getElem?_eq_getElem hj, e] at h
    exact h
  have hen := fun k => (encR_bd ((lsOf rs).take k) 2000 fun r hr => hmm r (List.mem_of_mem_take hr)).2
  have hll := lsOf_len rs
  have HEn := hide (fun (k : Nat) => (show (encR ((lsOf rs).take k)).length ≤ 2009 * 2000 from Nat.le_trans (hen k) (by
    have : ((lsOf rs).take k).length ≤ 2000 := by rw [List.length_take, hll]; omega
    exact Nat.mul_le_mul (by omega) this)))
  have HTk := hide (fun (k : Nat) (hk : k < rs.length) => encR_take (l := lsOf rs) (k := k) (by rw [hll]; exact hk))
  have HI1 := hide (refInt_any 2 w ⟨by decide, by decide⟩)
  have hIn : Int64 ((lsOf rs).length : Int) := ⟨by omega, by omega⟩
  rw [hll] at hIn
  have HI2 := hide (fun w' => refInt_any ((rs.length : Nat) : Int) w' hIn)
  have hin2 : (intB ((rs.length : Nat) : Int)).length ≤ 9 := by rw [← hll]; exact hin
  have HHC := hide (show groupC (lsOf rs) = intB 2 ++ intB ((rs.length : Nat) : Int) ++ encR ((lsOf rs).take rs.length) by unfold groupC; rw [← hll, List.take_length])
  have HHm := hide (show (groupC (lsOf rs)).length ≤ 5000000 by
    have h := HEn.out rs.length
    rw [HHC.out, List.length_append, List.length_append]; omega)
  have HFa := hide (fun (B : Option Addr) d w' (h1 : BytesAt w'.heap.size w' B (groupC (lsOf rs))) => refFrame_any B (groupC (lsOf rs)).length d (groupC (lsOf rs)) w' rfl h1 (by have := HHm.out; omega))
  unfold groupB
  unfold OwnRes at HI1 HI2 HFa ⊢
  clear hR hen hin hIn
  generalize groupC (lsOf rs) = hc at *
  generalize frameB hc = fb at *
  generalize intB 2 = i1 at *
  generalize intB ((rs.length : Nat) : Int) = i2 at *
  go_enter Tryd.func10, Tryd.ntmps10
  go_wp2_with fail
  refine HI1.out.mono ?_
  rintro e w1 ⟨v1, rfl, hr1, hb1⟩
  have HR1 := hide hr1
  have HB1 := hide hb1
  have hs1 := hb1.size
  obtain ⟨A1, c1, rfl, -⟩ := row_slice hr1
  clear hr1 hb1
  go_wp2_with fail
  refine (HI2.out w1).mono ?_
  rintro e w2 ⟨v2, rfl, hr2, hb2⟩
  have HB2 := hide (HB1.out.trans (hb2.mono hs1))
  have hs2 := HB2.out.size
  have HR2 := hide (row_keep HR1.out (w' := w2) fun b e => hb2.block b (HR1.out.lt b e).2)
  obtain ⟨A2, c2, rfl, hBy2, _, hn2, _⟩ := bytes_of_row hr2
  clear hr2 hb2
  go_wp2_with (at_builtin; go_must (refine append_bytes rfl _ _ rfl w.heap.size (.slice A1 i1.length c1) i1 i2 i1.length rfl HR2.out _ A2 i2.length c2 rfl rfl hBy2 hn2 (by omega) hs2 ?_))
  intro v3 w3 hown3 hgrow3 hat3
  have HB3 := hide (grow_below0 HB2.out HR2.out hs2 hgrow3)
  have HR3 := hide (show w3.ownsRow w.heap.size 5 1 v3 (i1 ++ i2 ++ encR ((lsOf rs).take 0)).length (byC (i1 ++ i2 ++ encR ((lsOf rs).take 0))) by
    rw [show i1 ++ i2 ++ encR ((lsOf rs).take 0) = i1 ++ i2 by simp [encR], List.length_append]; exact hown3)
  clear hown3 hgrow3 hat3 hBy2 hn2 HI1 HI2 HR1 HR2 HB1 HB2
  go_wp2_with fail
  go_loopw [3, 4] (fun v i wr => ∃ k : Nat, k ≤ rs.length ∧ i = .int .i64 k ∧ wr.ownsRow w.heap.size 5 1 v (i1 ++ i2 ++ encR ((lsOf rs).take k)).length (byC (i1 ++ i2 ++ encR ((lsOf rs).take k))) ∧ Below w.heap.size w wr) (fun _ i _ => rs.length - (intOf i).toNat)
  case atStart => exact ⟨0, Nat.zero_le _, rfl, HR3.out, HB3.out⟩
  case round =>
    obtain ⟨k, hk, rfl, hrow, hbw⟩ := hrel
    have HRow := hide hrow
    have HB := hide hbw
    have hsw := hbw.size
    have hek := HEn.out k
    clear hbw HR3 HB3
    by_cases hlt : k < rs.length
    · have HLt := hide hlt
      obtain ⟨b, off, A0, c0, l0, rfl, -, hb, hcell, hby, hl0, -, -⟩ := HR.out.got hlt
      have hcw := (HB.out.cell (p := ⟨b, off + k, none⟩) hb).trans hcell
      have hcv := conv_bytes A0 c0 l0 wr (hby.bytes.on HB.out)
      have hl2 := hm k hlt
      rw [← lsOf_get hlt, hl0] at hl2
      have hz : (ByteArray.mk l0.toArray).size = l0.length := by simp [ByteArray.size]
      have HTx := hide (refText_any ⟨l0.toArray⟩ wr (by rw [hz]; omega))
      rw [show (ByteArray.mk l0.toArray).data.toList = l0 from rfl] at HTx
      have htl : (textB l0).length ≤ 9 + l0.length := by unfold textB; rw [List.length_append]; have := (intB_len (l0.length : Int)).2; omega
      have HNx := hide (show i1 ++ i2 ++ encR ((lsOf rs).take (k + 1)) = (i1 ++ i2 ++ encR ((lsOf rs).take k)) ++ textB l0 by rw [HTk.out k hlt, hl0]; simp only [List.append_assoc])
      have hln : (i1 ++ i2 ++ encR ((lsOf rs).take k)).length ≤ 5000000 := by rw [List.length_append, List.length_append]; omega
      unfold OwnRes at HTx
      generalize i1 ++ i2 ++ encR ((lsOf rs).take k) = lk at *
      generalize textB l0 = tb at *
      obtain ⟨A3, c3, rfl, -⟩ := row_slice hrow
      clear hk hcell hby hl0 hz hrow hek HHC
      go_wp2_with fail
      refine HTx.out.mono ?_
      rintro e w4 ⟨v4, rfl, hr4, hb4⟩
      have HB4 := hide (HB.out.trans (hb4.mono hsw))
      have hs4 := HB4.out.size
      have HR4 := hide (row_keep HRow.out (w' := w4) fun b e => hb4.block b (HRow.out.lt b e).2)
      obtain ⟨A4, c4, rfl, hBy4, _, hn4, _⟩ := bytes_of_row hr4
      clear hr4 hb4 hcv hcw
      go_wp2_with (at_builtin; go_must (refine append_bytes rfl _ _ rfl w.heap.size (.slice A3 lk.length c3) lk tb lk.length rfl HR4.out _ A4 tb.length c4 rfl rfl hBy4 hn4 (by omega) hs4 ?_))
      intro v5 w5 hown5 hgrow5 hat5
      have HA := hide (show w5.ownsRow w.heap.size 5 1 v5 (i1 ++ i2 ++ encR ((lsOf rs).take (k + 1))).length (byC (i1 ++ i2 ++ encR ((lsOf rs).take (k + 1)))) ∧ Below w.heap.size w w5 from ⟨by rw [HNx.out, List.length_append]; exact hown5, grow_below0 HB4.out HR4.out hs4 hgrow5⟩)
      clear hown5 hgrow5 hat5
      go_wp2_with fail
      go_roundw
      case rel => exact ⟨k + 1, HLt.out, by go_num, HA.out⟩
      case measure => have := HLt.out; simp [intOf]; omega
    · obtain rfl : k = rs.length := by omega
      rw [← HHC.out] at hrow
      obtain ⟨A5, c5, rfl, hBy5, _, _, _⟩ := bytes_of_row hrow
      have HF5 := hide (HFa.out A5 c5 wr hBy5)
      clear hk hlt HRow hrow hBy5 hek HHC
      go_wp2_with fail
      refine HF5.out.mono ?_
      rintro e w6 ⟨v6, rfl, hr6, hb6⟩
      have HR6 := hide (own_mono hr6 hsw)
      have HB6 := hide (HB.out.trans (hb6.mono hsw))
      obtain ⟨A6, c6, rfl, -⟩ := row_slice hr6
      clear hr6 hb6
      go_wp2_with fail
      go_ret
      exact ⟨_, rfl, HR6.out, HB6.out⟩
end Go.Proofs.YtkdihekhdnnheaaDoor
