/-
  The frames that are written: heads, groups.
-/
import Derived.Test.YtkdihekhdnnheaaDoorGPure
import Derived.Test.YtkdihekhdnnheaaDoorGMem
import Derived.Deep.RegionWith
import Derived.Deep.RegionLaw
import Derived.Deep.QuietTactic
import Derived.Deep.DeepCutAuto
import Derived.Tactics2
import Derived.Deep.RegionHeld3
namespace Go.Proofs.YtkdihekhdnnheaaDoor
open Go.RowKit

theorem OwnRes.len {w w' : World} {l : List UInt8} {e : Ending} (h : OwnRes w l e w') : ∃ A c, e = .returned (.slice A l.length c) ∧ BytesAt w'.heap.size w' A l ∧ (∀ a, A = some a → w.heap.size ≤ a.block) ∧ (A = none → c = 0) ∧ l.length ≤ c ∧ Below w.heap.size w w' := by
  obtain ⟨v', rfl, hr, hb⟩ := h
  obtain ⟨A, c, rfl, h1, h2, h3, h4⟩ := bytes_of_row hr
  exact ⟨A, c, rfl, h1, fun a e => (h2 a e).1, h3, h4, hb⟩
set_option maxHeartbeats 3200000 in
set_option maxRecDepth 100000 in
theorem headFrame_any (gen : Int) (A : Option Addr) (c : Nat) (cp : List UInt8) (w : World) (hg : Int64 gen) (hB : BytesAt w.heap.size w A cp) (hT : Tab w) (hl : cp.length ≤ 1073741824) :
    Calls Tryd.prog 58 #[.int .i64 gen, .slice A cp.length c] w (OwnRes w (headB gen cp)) := by
  have HB := hide hB
  have HT := hide hT
  have hi1 := (intB_len 1).2
  have hig := (intB_len gen).2
  have htb := (textB_bd cp).2
  have HOW := hide (show OwnRes w (headB gen cp) = OwnRes w (headB gen cp) from rfl)
  have HO0 := hide (out_new w)
  have HB0 := hide ((Below.refl w.heap.size w).alloc (Nat.le_refl _) (.cells #[.slice none 0 0] 81))
  have HOd := hide (HO0.out.below (Below.refl _ _).drew)
  have H1 := hide (outInt_any 1 _ (show Int64 1 from ⟨by omega, by omega⟩) HOd.out (by simp))
  have HHC := hide (show headC gen cp = [] ++ intB 1 ++ intB gen ++ textB cp from rfl)
  have hHl : (headC gen cp).length = (intB 1).length + (intB gen).length + (textB cp).length := by simp [headC]; omega
  have HFa := hide (fun (B : Option Addr) d w' (h1 : BytesAt w'.heap.size w' B (headC gen cp)) (h2 : Below w.heap.size w w') (h3 : B = none → d = 0) => frame_any B d (headC gen cp) w' h1 (hT.on h2) (by omega) h3)
  have HLm := hide (show ([] ++ intB 1).length ≤ 4294967000 by rw [List.nil_append]; omega)
  have HLn := hide (show ([] ++ intB 1 ++ intB gen).length + (ByteArray.mk cp.toArray).size ≤ 4294960000 by
    have hz : (ByteArray.mk cp.toArray).size = cp.length := by simp [ByteArray.size]
    rw [hz, List.nil_append, List.length_append]; omega)
  unfold headB
  have hHm : (headC gen cp).length ≤ 1073742000 := by omega
  clear hB hT hHl hi1 hig htb hl
  generalize headC gen cp = hc at *
  unfold OwnRes at HFa ⊢
  clear HOW
  generalize frameB hc = fb at *
  go_enter Tryd.func58, Tryd.ntmps58
  go_upto_region 2 with fail
  refine wp_region_held_drew (S := fun w' => Below w.heap.size w w') (by kernel_rfl) (HB0.out.drew) (fun hS => ?_)
  refine wpAnyH_take (i := 1) (oi := ⟨some 7, _, _, _, _, _⟩) (v := ?_) rfl (by kernel_rfl) (by kernel_rfl) (by kernel_rfl) (fun _ _ _ h => h) (Or.inl ⟨by rfl, ?_⟩) hS ?_
  rotate_left 1
  · intro w' hw'
    have hcv := conv_bytes A c cp w' (HB.out.on hw')
    go_simp
    all_goals with_reducible rfl
  try simp only [Act.put, List.setIfInBounds_toArray, List.set_cons_zero, List.set_cons_succ]
  refine wpAnyH_take (i := 3) (oi := ⟨some 9, _, _, _, _, _⟩) (v := ?_) rfl (by kernel_rfl) (by kernel_rfl) (by kernel_rfl) (fun _ _ _ h => h) (Or.inl ⟨by rfl, ?_⟩) hS ?_
  rotate_left 1
  · intro w' hw'
    have hcv := conv_bytes A c cp w' (HB.out.on hw')
    go_simp
    all_goals with_reducible rfl
  try simp only [Act.put, List.setIfInBounds_toArray, List.set_cons_zero, List.set_cons_succ]
  refine wpAnyH_take (i := 4) (oi := ⟨some 10, _, _, _, _, _⟩) (v := ?_) rfl (by kernel_rfl) (by kernel_rfl) (by kernel_rfl) (fun _ _ _ h => h) (Or.inl ⟨by rfl, ?_⟩) hS ?_
  rotate_left 1
  · intro w' hw'
    have hcv := conv_bytes A c cp w' (HB.out.on hw')
    go_simp
    all_goals with_reducible rfl
  try simp only [Act.put, List.setIfInBounds_toArray, List.set_cons_zero, List.set_cons_succ]
  refine wpAnyH_ready (rs := [0]) (by kernel_rfl) (by simp) ?_
  refine AllReadyH.cons (o := ⟨some 6, _, _, _, _, _⟩) rfl (fun K hK => ?_) AllReadyH.nil
  go_simp
  go_at_call 51
  refine H1.out.mono ?_
  rintro e w1 ⟨rfl, v1, ho1, ht1⟩
  have HO1 := hide ho1
  clear ho1
  have HB1 := hide (HB0.out.drew.trans (ht1.below HOd.out))
  clear ht1
  refine hK.out _ _ (HB1.out) (fun hS => ?_)
  clear hK K
  try simp only [Act.put, List.setIfInBounds_toArray, List.set_cons_zero, List.set_cons_succ]
  refine wpAnyH_ready (rs := [2]) (by kernel_rfl) (by simp) ?_
  refine AllReadyH.cons (o := ⟨some 8, _, _, _, _, _⟩) rfl (fun K hK => ?_) AllReadyH.nil
  go_simp
  go_at_call 51
  refine (outInt_any gen w1 hg HO1.out HLm.out).mono ?_
  rintro e w2 ⟨rfl, v2, ho2, ht2⟩
  have HO2 := hide ho2
  clear ho2
  have HB2 := hide (HB1.out.trans (ht2.below HO1.out))
  clear ht2
  refine hK.out _ _ (HB2.out) (fun hS => ?_)
  clear hK K
  try simp only [Act.put, List.setIfInBounds_toArray, List.set_cons_zero, List.set_cons_succ]
  refine wpAnyH_ready (rs := [5]) (by kernel_rfl) (by simp) ?_
  refine AllReadyH.cons (o := ⟨some 11, _, _, _, _, _⟩) rfl (fun K hK => ?_) AllReadyH.nil
  go_simp
  go_at_call 52
  refine (outText_any ⟨cp.toArray⟩ w2 HO2.out HLn.out).mono ?_
  rintro e w3 ⟨rfl, v3, ho3, ht3⟩
  have HO3 := hide ho3
  clear ho3
  have HB3 := hide (HB2.out.trans (ht3.below HO2.out))
  clear ht3
  refine hK.out _ _ (HB3.out) (fun hS => ?_)
  clear hK K
  try simp only [Act.put, List.setIfInBounds_toArray, List.set_cons_zero, List.set_cons_succ]
  refine wpAnyH_done (by kernel_rfl) ?_ _
  have HOut := hide (show OutAt w.heap.size w.heap.size w3 v3 hc by rw [HHC.out]; have h := HO3.out; simpa using h)
  have HBy := hide (outBytes_any w3 HOut.out (by omega))
  clear HO1 HO2 HO3 HB1 HB2 hS
  go_wp2_with fail
  refine HBy.out.mono ?_
  rintro e w4 ⟨v4, rfl, hr4, hb4⟩
  obtain ⟨A4, c4, rfl, h1, -, h3, h4⟩ := bytes_of_row hr4
  have HB4 := hide (HB3.out.trans (hb4.mono HB3.out.size))
  have HF4 := hide (HFa.out A4 c4 w4 h1 HB4.out h3)
  clear hr4 h1 h3 h4 hb4
  go_wp2_with fail
  refine HF4.out.mono ?_
  rintro e w5 ⟨v5, rfl, hr5, hb5⟩
  have HR5 := hide (own_mono hr5 HB4.out.size)
  have HB5 := hide (HB4.out.trans (hb5.mono HB4.out.size))
  obtain ⟨A5, c5, rfl, -⟩ := row_slice hr5
  clear hr5 hb5
  go_wp2_with fail
  go_ret
  exact ⟨_, rfl, HR5.out, HB5.out⟩
set_option maxHeartbeats 1600000 in
set_option maxRecDepth 100000 in
theorem frameSize_any (A : Option Addr) (c : Nat) (l : List UInt8) (w : World) (hB : BytesAt w.heap.size w A l) (hT : Tab w) (hl : l.length ≤ 4294960000) (hnil : A = none → c = 0) :
    Calls Tryd.prog 62 #[.slice A l.length c] w fun e w' => e = .returned (.int .i64 ((frameB l).length : Nat)) ∧ Below w.heap.size w w' := by
  have HF := hide (frame_any A c l w hB hT hl hnil)
  unfold OwnRes at HF
  have hfb := (frameB_bd l).2
  have hfm : (frameB l).length ≤ 4294967000 := by omega
  clear hB hT hnil hfb hl
  generalize frameB l = fb at *
  go_enter Tryd.func62, Tryd.ntmps62
  go_wp2_with fail
  refine HF.out.mono ?_
  rintro e w1 ⟨v1, rfl, hr1, hb1⟩
  obtain ⟨A1, c1, rfl, -⟩ := row_slice hr1
  have HB1 := hide hb1
  clear hr1 hb1
  go_wp2_with fail
  go_ret
  exact ⟨rfl, HB1.out⟩
set_option maxHeartbeats 6400000 in
set_option maxRecDepth 100000 in
theorem groupFrame_any {P : Nat → Prop} (A : Option Addr) (c : Nat) (rs : List BH) (w : World) (hR : RecsIn P w A rs) (hT : Tab w) (hl : rs.length ≤ 2000) (hm : ∀ j, j < rs.length → (rs.getD j dH).l.length ≤ 2000) :
    Calls Tryd.prog 31 #[.slice A rs.length c] w (OwnRes w (groupB (lsOf rs))) := by
  have HR := hide hR
  have hi2 := (intB_len 2).2
  have hin := (intB_len ((lsOf rs).length : Int)).2
  have hmm : ∀ r ∈ lsOf rs, r.length ≤ 2000 := fun r hr => by
    obtain ⟨j, hj, e⟩ := List.getElem_of_mem hr
    have h := hm j (by rw [lsOf_len] at hj; exact hj)
    rw [← lsOf_get (by rw [lsOf_len] at hj; exact hj), List.getD_eq_getElem?_getD, List.getElem?_eq_getElem hj, e] at h
    exact h
  have hen := fun k => (encR_bd ((lsOf rs).take k) 2000 fun r hr => hmm r (List.mem_of_mem_take hr)).2
  have hll := lsOf_len rs
  have HEn := hide (fun (k : Nat) => (show (encR ((lsOf rs).take k)).length ≤ 2009 * 2000 from Nat.le_trans (hen k) (by
    have : ((lsOf rs).take k).length ≤ 2000 := by rw [List.length_take, hll]; omega
    exact Nat.mul_le_mul (by omega) this)))
  have HTk := hide (fun (k : Nat) (hk : k < rs.length) => encR_take (l := lsOf rs) (k := k) (by rw [hll]; exact hk))
  have HO0 := hide (out_new w)
  have HB0 := hide ((Below.refl w.heap.size w).alloc (Nat.le_refl _) (.cells #[.slice none 0 0] 81))
  have H1 := hide (outInt_any 2 _ (show Int64 2 from ⟨by omega, by omega⟩) HO0.out (by simp))
  have HIn := hide (show Int64 ((lsOf rs).length : Int) from ⟨by omega, by omega⟩)
  rw [hll] at HIn
  have hin2 : (intB ((rs.length : Nat) : Int)).length ≤ 9 := by rw [← hll]; exact hin
  have HHC := hide (show groupC (lsOf rs) = intB 2 ++ intB ((rs.length : Nat) : Int) ++ encR ((lsOf rs).take rs.length) by unfold groupC; rw [← hll, List.take_length])
  have HHm := hide (show (groupC (lsOf rs)).length ≤ 5000000 by
    have h := HEn.out rs.length
    rw [HHC.out, List.length_append, List.length_append]; omega)
  have HFa := hide (fun (B : Option Addr) d w' (h1 : BytesAt w'.heap.size w' B (groupC (lsOf rs))) (h2 : Below w.heap.size w w') (h3 : B = none → d = 0) => frame_any B d (groupC (lsOf rs)) w' h1 (hT.on h2) (by have := HHm.out; omega) h3)
  have HLm := hide (show ([] ++ intB 2).length ≤ 4294967000 by rw [List.nil_append]; omega)
  have HL2 := hide (show (intB 2 ++ intB ((rs.length : Nat) : Int)).length ≤ 18 by rw [List.length_append]; omega)
  unfold groupB
  unfold OwnRes at HFa ⊢
  clear hR hT hen hin hi2 hin2 hll
  generalize groupC (lsOf rs) = hc at *
  generalize frameB hc = fb at *
  go_enter Tryd.func31, Tryd.ntmps31
  go_wp2_with fail
  refine H1.out.mono ?_
  rintro e w1 ⟨rfl, v1, ho1, ht1⟩
  have HB1 := hide (HB0.out.trans (ht1.below HO0.out))
  have H2 := hide (outInt_any (rs.length : Nat) _ HIn.out ho1 HLm.out)
  have HO1 := hide ho1
  clear ho1 ht1
  go_wp2_with fail
  refine H2.out.mono ?_
  rintro e w2 ⟨rfl, v2, ho2, ht2⟩
  have HB2 := hide (HB1.out.trans (ht2.below HO1.out))
  have HO2 := hide (show OutAt w.heap.size w.heap.size w2 v2 (intB 2 ++ intB ((rs.length : Nat) : Int) ++ encR ((lsOf rs).take 0)) by simpa [encR] using ho2)
  clear ho2 ht2 H1 H2 HO1 HB1 HO0 HB0 HLm
  go_wp2_with fail
  go_loopw [12] (fun i wr => ∃ (k : Nat) (v : Value), k ≤ rs.length ∧ i = .int .i64 k ∧ OutAt w.heap.size w.heap.size wr v (intB 2 ++ intB ((rs.length : Nat) : Int) ++ encR ((lsOf rs).take k)) ∧ Below w.heap.size w wr) (fun i _ => rs.length - (intOf i).toNat)
  case atStart => exact ⟨0, v2, Nat.zero_le _, rfl, HO2.out, HB2.out⟩
  case round =>
    obtain ⟨k, v, hk, rfl, ho, hbw⟩ := hrel
    have HO := hide ho
    have HB := hide hbw
    clear ho hbw HO2 HB2
    by_cases hlt : k < rs.length
    · have HLt := hide hlt
      obtain ⟨b, off, A0, c0, l0, rfl, -, hb, hcell, hby, hl0, -, -⟩ := HR.out.got hlt
      have hcw := (HB.out.cell (p := ⟨b, off + k, none⟩) hb).trans hcell
      have hcv := conv_bytes A0 c0 l0 wr (hby.bytes.on HB.out)
      have hl2 := hm k hlt
      rw [← lsOf_get hlt, hl0] at hl2
      have HTx := hide (outText_any ⟨l0.toArray⟩ wr HO.out (by
        have hz : (ByteArray.mk l0.toArray).size = l0.length := by simp [ByteArray.size]
        have h := HEn.out k
        have h2 := HL2.out
        rw [hz, List.length_append]; omega))
      have HNx := hide (show intB 2 ++ intB ((rs.length : Nat) : Int) ++ encR ((lsOf rs).take (k + 1)) = intB 2 ++ intB ((rs.length : Nat) : Int) ++ encR ((lsOf rs).take k) ++ textB l0 by rw [HTk.out k hlt, hl0]; simp only [List.append_assoc])
      clear hk hcell hby hl0 hl2
      go_wp2_with fail
      refine HTx.out.mono ?_
      rintro e w3 ⟨rfl, v3, ho3, ht3⟩
      have HA := hide (show OutAt w.heap.size w.heap.size w3 v3 (intB 2 ++ intB ((rs.length : Nat) : Int) ++ encR ((lsOf rs).take (k + 1))) ∧ Below w.heap.size w w3 from ⟨by rw [HNx.out]; simpa using ho3, HB.out.trans (ht3.below HO.out)⟩)
      clear ho3 ht3
      go_wp2_with fail
      go_roundw
      case rel => exact ⟨k + 1, v3, HLt.out, by go_num, HA.out⟩
      case measure => have := HLt.out; simp [intOf]; omega
    · obtain rfl : k = rs.length := by omega
      have HOut := hide (show OutAt w.heap.size w.heap.size wr v hc by rw [HHC.out]; exact HO.out)
      have HBy := hide (outBytes_any wr HOut.out (by have := HHm.out; omega))
      clear hk hlt HO
      go_wp2_with fail
      refine HBy.out.mono ?_
      rintro e w4 ⟨v4, rfl, hr4, hb4⟩
      obtain ⟨A4, c4, rfl, h1, -, h3, h4⟩ := bytes_of_row hr4
      have HB4 := hide (HB.out.trans (hb4.mono HB.out.size))
      have HF4 := hide (HFa.out A4 c4 w4 h1 HB4.out h3)
      clear hr4 h1 h3 h4 hb4
      go_wp2_with fail
      refine HF4.out.mono ?_
      rintro e w5 ⟨v5, rfl, hr5, hb5⟩
      have HR5 := hide (own_mono hr5 HB4.out.size)
      have HB5 := hide (HB4.out.trans (hb5.mono HB4.out.size))
      obtain ⟨A5, c5, rfl, -⟩ := row_slice hr5
      clear hr5 hb5
      go_wp2_with fail
      go_ret
      exact ⟨_, rfl, HR5.out, HB5.out⟩
/-- What Need tells. -/
def needN (rs : List (List UInt8)) : Nat := if rs.length = 0 then 0 else (groupB rs).length
set_option maxHeartbeats 1600000 in
set_option maxRecDepth 100000 in
theorem need_any {P : Nat → Prop} (A : Option Addr) (c : Nat) (rs : List BH) (w : World) (hR : RecsIn P w A rs) (hT : Tab w) (hl : rs.length ≤ 2000) (hm : ∀ j, j < rs.length → (rs.getD j dH).l.length ≤ 2000) :
    Calls Tryd.prog 11 #[.slice A rs.length c] w fun e w' => e = .returned (.int .i64 (needN (lsOf rs) : Nat)) ∧ Below w.heap.size w w' := by
  have HF := hide (groupFrame_any A c rs w hR hT hl hm)
  unfold OwnRes at HF
  have hmm : ∀ r ∈ lsOf rs, r.length ≤ 2000 := fun r hr => by
    obtain ⟨j, hj, e⟩ := List.getElem_of_mem hr
    have h := hm j (by rw [lsOf_len] at hj; exact hj)
    rw [← lsOf_get (by rw [lsOf_len] at hj; exact hj), List.getD_eq_getElem?_getD, List.getElem?_eq_getElem hj, e] at h
    exact h
  have hgb := (groupB_bd (lsOf rs) 2000 hmm).2
  rw [lsOf_len] at hgb
  have hgm : (groupB (lsOf rs)).length ≤ 5000000 := by omega
  have HN := hide (show needN (lsOf rs) = if rs.length = 0 then 0 else (groupB (lsOf rs)).length by unfold needN; rw [lsOf_len])
  clear hR hT hm hmm hgb
  generalize needN (lsOf rs) = q at *
  generalize groupB (lsOf rs) = fb at *
  by_cases h0 : rs.length = 0
  · have HQ := hide (show q = 0 by rw [HN.out, if_pos h0])
    have h1 : rs.length ≤ 0 := by omega
    rw [h0]
    clear h0 HF
    go_enter Tryd.func11, Tryd.ntmps11
    go_wp2_with fail
    go_ret
    exact ⟨by rw [HQ.out]; rfl, Below.refl _ _⟩
  · have HQ := hide (show q = fb.length by rw [HN.out, if_neg h0])
    have h1 : 0 < rs.length := by omega
    clear h0
    go_enter Tryd.func11, Tryd.ntmps11
    go_wp2_with fail
    refine HF.out.mono ?_
    rintro e w1 ⟨v1, rfl, hr1, hb1⟩
    obtain ⟨A1, c1, rfl, -⟩ := row_slice hr1
    have HB1 := hide hb1
    clear hr1 hb1
    go_wp2_with fail
    go_ret
    exact ⟨by rw [HQ.out]; rfl, HB1.out⟩
end Go.Proofs.YtkdihekhdnnheaaDoor
