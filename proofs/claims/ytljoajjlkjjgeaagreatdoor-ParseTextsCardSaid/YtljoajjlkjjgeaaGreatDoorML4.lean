/-
  A list of string, with commas between.
  A list of bywash/relop.Pair, with commas between.
  A list of bywash/relop.Agg, with commas between.
  A list of bywash/relop.Order, with commas between.
-/
import Derived.Test.YtljoajjlkjjgeaaGreatDoorMN3
namespace Go.Proofs.YtljoajjlkjjgeaaGreatDoor
open Go.RowKit Go.Sort LM Go

theorem infoStr : (Tryz.prog.info? 9).map (fun i => (i.zero, i.size, i.bytes)) = some (some (.string ⟨#[]⟩), 1, 16) := by kernel_rfl
set_option maxHeartbeats 8000000 in
set_option maxRecDepth 100000 in
theorem listStr_any {q : Nat} {TL : List Tk} {E : Nat} {M : Rule ByteArray} {G : PSt → Prop} {F : Nat} (hG : Good F G) (hN : Nice M) (hF : F ≤ 20000)
  (HM : ∀ s1 w1, G s1 → ParAt q TL E w1 s1 → Calls Tryz.prog 70 #[pP q] w1 (OneTo q TL E w1 (dS (M s1).1) (M s1).2)) (s : PSt) (w : World) (hs : G s) (H : ParAt q TL E w s) :
  Calls Tryz.prog 90 #[pP q, .func (.func 70) #[pP q] #[]] w (OneTo q TL E w (.row 1 ((listS F M s).1.map (fun s => [dS s]))) (listS F M s).2) := by
 obtain ⟨i0, hi, hz0, hz1, hz2⟩ := info_parts infoStr
 have HG := hide hG
 have HN := hide hN
 have HMh := hide HM
 have hR : listS F M s = listG M F [(M s).1] (M s).2 := rfl
 have HR := hide hR
 generalize listS F M s = RES at *
 have cq := H.lt
 have hT1 := hN.tr s H.wf
 have HG1 := hide (hG.tr _ _ hs hT1)
 have hl1 := hG.len _ HG1.out
 have HC := hide (fun s1 w1 (h : ParAt q TL E w1 s1) => accept_any [44] w1 h)
 have HM1 := hide (HM s w hs H)
 clear HM hR hG hN hT1 H hs
 unfold OneTo
 unfold OneTo at HM1 HMh
 go_enter Tryz.func90, Tryz.ntmps90
 go_wp2_with fail
 refine HM1.out.mono ?_
 rintro e w1 ⟨v, rfl, hv, h1, ht1⟩
 obtain rfl := hv.str
 have HV1 := hide (RepC.cons (rep_str (New w.heap.size) w1 (M s).1) (RepC.nil _ _))
 have H1 := hide h1
 have HT1 := hide ht1
 have hs1 := ht1.size
 have hlen1 : ([.string (M s).1] : List Value).length = 1 := rfl
 clear h1 ht1 hv HM1
 go_wp2_with (refine wpList_buildOne rfl 22 9 _ rfl 1 ([.string (M s).1] : List Value) rfl hlen1 (by decide) (by decide) Tryz.underlying22 i0 (.string ⟨#[]⟩) hi hz0 hz1 ?_)
 obtain ⟨W, hW⟩ : ∃ W, W = w1.alloc (.cells ([.string (M s).1] : List Value).toArray 9) := ⟨_, rfl⟩
 have HW := hide hW
 have ho0 : W.ownsRow w.heap.size 9 1 (.slice (some ⟨w1.heap.size, 0, none⟩) 1 1) 1 ([.string (M s).1] : List Value) := by rw [hW]; exact own_one w1 _ _ _ _ hs1 hlen1
 have HO := hide ho0
 have HV2 := hide (show RepL (Off1 w.heap.size W (.slice (some ⟨w1.heap.size, 0, none⟩) 1 1)) W 1 ([(M s).1].map (fun s => [dS s])) ([.string (M s).1] : List Value) from ⟨fun e he => by
  rw [List.map_singleton, List.mem_singleton] at he
  rw [he]; exact rfl, by
  rw [hW, List.map_singleton, List.flatten_singleton]
  have _hb := Joins.below_alloc1 w1 (.cells ([.string (M s).1] : List Value).toArray 9)
  exact HV1.out.stay (Off1.one (Nat.le_refl _) _ 1 1)⟩)
 have HP2 := hide (show ParAt q TL E W (M s).2 by rw [hW]; exact H1.out.alloc _)
 have HTW := hide (show Turn q w W by rw [hW]; exact HT1.out.alloc _)
 clear hW ho0 H1 HT1 HV1 hlen1
 rw [← HW.out]
 clear HW
 go_loopw [5] (fun v wr => ∃ (n : Nat) (els : List ByteArray) (s1 : PSt) (cs : List Value), wr.ownsRow w.heap.size 9 1 v els.length cs ∧ Hid (RepL (Off1 w.heap.size wr v) wr 1 (els.map (fun s => [dS s])) cs) ∧ Hid (RES = listG M n els s1) ∧ s1.L.length ≤ n ∧ n + els.length ≤ F + 1 ∧ Hid (ParAt q TL E wr s1) ∧ Hid (G s1) ∧ Hid (Turn q w wr)) (fun _ wr => measL wr q)
 case atStart => exact ⟨F, [(M s).1], (M s).2, _, HO.out, HV2, HR, hl1, by simp, HP2, HG1, HTW⟩
 case round =>
  obtain ⟨n, els, s1, cs, hrow, HV, HRn, hln, hne, HP, HGs, HTr⟩ := hrel
  clear HP2 HG1 HTW HR HV2 HO
  have hqr : q < w.heap.size := cq
  have HCs := hide (HC.out s1 wr HP.out)
  have hmeas := hide (meas_eq HP.out)
  cases hb : isT (aheadS 0 s1) [44]
  ·have HE := hide (HRn.out.trans (listG_end hb))
   rw [hb] at HCs
   clear HRn HC HMh
   have HO := hide hrow
   clear hrow
   go_wp2_with fail
   refine HCs.out.mono ?_
   rintro e w2 ⟨rfl, h2, ht2⟩
   have H2 := hide h2
   have HT2 := hide ht2
   clear h2 ht2
   go_wp2_with fail
   go_ret
   rw [HE.out]
   refine ⟨_, rfl, ?_, H2.out, HTr.out.trans HT2.out⟩
   have ho := own_turn HO.out HT2.out cq
   rw [show els.length = (els.map (fun s => [dS s])).length by simp] at ho
   exact rep_of_row ho (fun g hg => (ho.lt g hg).1) (HV.out.stay ((Off1.turn HT2.out cq).trans (Stay.at (fun _ k => k.1) _)))
  ·obtain ⟨n, rfl⟩ : ∃ m, n = m + 1 := ⟨n - 1, by have := take_lt HP.out.wf hb; omega⟩
   have HE := hide (HRn.out.trans (listG_step hb))
   have hlt := take_lt HP.out.wf hb
   have HTk := hide (take_tr HP.out.wf)
   rw [hb] at HCs
   have HG2 := hide (HG.out.tr _ _ HGs.out HTk.out)
   have HM2 := hide (fun w1 h => HMh.out (takeS s1).2 w1 HG2.out h)
   have HTm := hide (HN.out.tr (takeS s1).2 HTk.out.wf)
   have HG3 := hide (HG.out.tr _ _ HG2.out HTm.out)
   have hlm := HTm.out.len
   generalize (takeS s1).2 = s2 at *
   have HO := hide hrow
   clear hrow HRn HC HMh hb
   go_wp2_with fail
   refine HCs.out.mono ?_
   rintro e w2 ⟨rfl, h2, ht2⟩
   simp only [if_true] at h2
   have H2 := hide h2
   have HT2 := hide (HTr.out.trans ht2)
   have HO2 := hide (own_turn HO.out ht2 cq)
   have HV2 := hide (HV.out.stay (Off1.turn ht2 cq))
   clear h2 ht2 HO HV HTr HCs
   go_wp2_with fail
   refine (HM2.out w2 H2.out).mono ?_
   rintro e w3 ⟨v, rfl, hv, h3, ht3⟩
   obtain rfl := hv.str
   have HV3V := hide (RepC.cons (rep_str (New w2.heap.size) w3 (M s2).1) (RepC.nil _ _))
   have H3 := hide h3
   have HT3 := hide (HT2.out.trans ht3)
   have r3 := own_turn HO2.out ht3 cq
   have HV3 := hide (HV2.out.stay (Off1.turn ht3 cq))
   have hs3 := ht3.size
   have hlen3 : ([.string (M s2).1] : List Value).length = 1 := rfl
   have h1c := HV3V.out.one_cell
   have HBd := hide (fun g (hg : u5.ownBlock = some g) => (HO2.out.lt g hg).2)
   have hsz22 : w.heap.size ≤ w2.heap.size := HT2.out.size
   clear h3 ht3 hv HM2 HT2 HO2 HV2 H2
   have hsz2 : w.heap.size ≤ w3.heap.size := HT3.out.size
   go_wp2_with (first | (refine wpList_buildOne rfl 22 9 _ rfl 1 ([.string (M s2).1] : List Value) rfl hlen3 (by decide) (by decide) Tryz.underlying22 i0 (.string ⟨#[]⟩) hi hz0 hz1 ?_) | (at_builtin; go_must (refine wpList_append_own_at _ rfl _ _ 22 rfl w.heap.size 9 i0 (.string ⟨#[]⟩) 1 16 Tryz.underlying22 hi hz0 hz1 hz2 rfl (by decide) _ _ _ rfl (r3.alloc _) ⟨w3.heap.size, 0, none⟩ 1 1 ([.string (M s2).1] : List Value) rfl (by rw [hlen3]) (new_cells _ _ _ _ rfl) h1c (by unfold maxLen; omega) (by omega) (by simp; omega) ?_)))
   intro v4 w4 hown4 hgrow4 _ hat4
   have hsa := hgrow4.size
   have HT4 := hide (Turn.grown (HT3.out.alloc (.cells ([.string (M s2).1] : List Value).toArray 9)) hgrow4 (fun g hg => (r3.lt g hg).1))
   have H4 := hide ((H3.out.alloc (.cells ([.string (M s2).1] : List Value).toArray 9)).grown hgrow4 (fun g hg => by have := (r3.lt g hg).1; omega))
   have hst := Stay.trans (Off1.alloc (base := w.heap.size) (v := u5) (.cells ([.string (M s2).1] : List Value).toArray 9)) (Off1.grow hgrow4 (v' := v4) (by simpa using hat4))
   have HV4 := hide ((HV3.out.stay hst).snoc (e := [dS (M s2).1]) (vs := ([.string (M s2).1] : List Value)) rfl (HV3V.out.stay ((Off1.news (v := u5) (by omega) HBd.out).trans hst)))
   have HO4 := hide hown4
   have hm4 := hide (meas_eq H4.out)
   clear hgrow4 hat4 hown4 hst HV3 HT3 H3 r3 hlen3 h1c HBd
   go_wp2_with fail
   go_roundw
   case rel =>
    refine ⟨n, els ++ [(M s2).1], _, cs ++ ([.string (M s2).1] : List Value), ?_, ?_, HE, by omega, by simp; omega, H4, HG3, HT4⟩
    ·rw [List.length_append]; exact HO4.out
    ·rw [List.map_append, List.map_singleton]; exact HV4
   case measure =>
    rw [hm4.out, hmeas.out]; omega
end Go.Proofs.YtljoajjlkjjgeaaGreatDoor
namespace Go.Proofs.YtljoajjlkjjgeaaGreatDoor
open Go.RowKit Go.Sort LM Go

theorem infoPair : (Tryz.prog.info? 70).map (fun i => (i.zero, i.size, i.bytes)) = some (some (.agg #[.string ⟨#[]⟩, .string ⟨#[]⟩]), 2, 32) := by kernel_rfl
set_option maxHeartbeats 8000000 in
set_option maxRecDepth 100000 in
theorem listPair_any {q : Nat} {TL : List Tk} {E : Nat} {α : Type} {M : Rule α} (enc : α → List Dt) {G : PSt → Prop} {F : Nat} (hG : Good F G) (hN : Nice M) (hF : F ≤ 20000) (henc : ∀ a, (enc a).length = 2)
  (HM : ∀ s1 w1, G s1 → ParAt q TL E w1 s1 → Calls Tryz.prog 77 #[pP q] w1 (AggTo q TL E w1 (enc (M s1).1) (M s1).2)) (s : PSt) (w : World) (hs : G s) (H : ParAt q TL E w s) :
  Calls Tryz.prog 76 #[pP q, .func (.func 77) #[pP q] #[]] w (OneTo q TL E w (.row 2 ((listS F M s).1.map enc)) (listS F M s).2) := by
 obtain ⟨i0, hi, hz0, hz1, hz2⟩ := info_parts infoPair
 have HG := hide hG
 have HN := hide hN
 have HMh := hide HM
 have hR : listS F M s = listG M F [(M s).1] (M s).2 := rfl
 have HR := hide hR
 generalize listS F M s = RES at *
 have cq := H.lt
 have hT1 := hN.tr s H.wf
 have HG1 := hide (hG.tr _ _ hs hT1)
 have hl1 := hG.len _ HG1.out
 have HC := hide (fun s1 w1 (h : ParAt q TL E w1 s1) => accept_any [44] w1 h)
 have HM1 := hide (HM s w hs H)
 clear HM hR hG hN hT1 H hs
 unfold OneTo
 unfold AggTo at HM1 HMh
 go_enter Tryz.func76, Tryz.ntmps76
 go_wp2_with fail
 refine HM1.out.mono ?_
 rintro e w1 ⟨vs1, rfl, hv, h1, ht1⟩
 have HV1 := hide hv
 have H1 := hide h1
 have HT1 := hide ht1
 have hs1 := ht1.size
 have hlen1 : vs1.length = 2 := (hv.1).trans (henc _)
 clear h1 ht1 hv HM1
 go_wp2_with (refine wpList_buildOne rfl 37 70 _ rfl 2 vs1 rfl hlen1 (by decide) (by decide) Tryz.underlying37 i0 (.agg #[.string ⟨#[]⟩, .string ⟨#[]⟩]) hi hz0 hz1 ?_)
 obtain ⟨W, hW⟩ : ∃ W, W = w1.alloc (.cells vs1.toArray 70) := ⟨_, rfl⟩
 have HW := hide hW
 have ho0 : W.ownsRow w.heap.size 70 2 (.slice (some ⟨w1.heap.size, 0, none⟩) 1 1) 1 vs1 := by rw [hW]; exact own_one w1 _ _ _ _ hs1 hlen1
 have HO := hide ho0
 have HV2 := hide (show RepL (Off1 w.heap.size W (.slice (some ⟨w1.heap.size, 0, none⟩) 1 1)) W 2 ([(M s).1].map enc) vs1 from ⟨fun e he => by
  rw [List.map_singleton, List.mem_singleton] at he
  rw [he]; exact henc _, by
  rw [hW, List.map_singleton, List.flatten_singleton]
  have _hb := Joins.below_alloc1 w1 (.cells vs1.toArray 70)
  exact HV1.out.stay (Off1.one (Nat.le_refl _) _ 1 1)⟩)
 have HP2 := hide (show ParAt q TL E W (M s).2 by rw [hW]; exact H1.out.alloc _)
 have HTW := hide (show Turn q w W by rw [hW]; exact HT1.out.alloc _)
 clear hW ho0 H1 HT1 HV1 hlen1
 rw [← HW.out]
 clear HW
 go_loopw [5] (fun v wr => ∃ (n : Nat) (els : List α) (s1 : PSt) (cs : List Value), wr.ownsRow w.heap.size 70 2 v els.length cs ∧ Hid (RepL (Off1 w.heap.size wr v) wr 2 (els.map enc) cs) ∧ Hid (RES = listG M n els s1) ∧ s1.L.length ≤ n ∧ n + els.length ≤ F + 1 ∧ Hid (ParAt q TL E wr s1) ∧ Hid (G s1) ∧ Hid (Turn q w wr)) (fun _ wr => measL wr q)
 case atStart => exact ⟨F, [(M s).1], (M s).2, _, HO.out, HV2, HR, hl1, by simp, HP2, HG1, HTW⟩
 case round =>
  obtain ⟨n, els, s1, cs, hrow, HV, HRn, hln, hne, HP, HGs, HTr⟩ := hrel
  clear HP2 HG1 HTW HR HV2 HO
  have hqr : q < w.heap.size := cq
  have HCs := hide (HC.out s1 wr HP.out)
  have hmeas := hide (meas_eq HP.out)
  cases hb : isT (aheadS 0 s1) [44]
  ·have HE := hide (HRn.out.trans (listG_end hb))
   rw [hb] at HCs
   clear HRn HC HMh
   have HO := hide hrow
   clear hrow
   go_wp2_with fail
   refine HCs.out.mono ?_
   rintro e w2 ⟨rfl, h2, ht2⟩
   have H2 := hide h2
   have HT2 := hide ht2
   clear h2 ht2
   go_wp2_with fail
   go_ret
   rw [HE.out]
   refine ⟨_, rfl, ?_, H2.out, HTr.out.trans HT2.out⟩
   have ho := own_turn HO.out HT2.out cq
   rw [show els.length = (els.map enc).length by simp] at ho
   exact rep_of_row ho (fun g hg => (ho.lt g hg).1) (HV.out.stay ((Off1.turn HT2.out cq).trans (Stay.at (fun _ k => k.1) _)))
  ·obtain ⟨n, rfl⟩ : ∃ m, n = m + 1 := ⟨n - 1, by have := take_lt HP.out.wf hb; omega⟩
   have HE := hide (HRn.out.trans (listG_step hb))
   have hlt := take_lt HP.out.wf hb
   have HTk := hide (take_tr HP.out.wf)
   rw [hb] at HCs
   have HG2 := hide (HG.out.tr _ _ HGs.out HTk.out)
   have HM2 := hide (fun w1 h => HMh.out (takeS s1).2 w1 HG2.out h)
   have HTm := hide (HN.out.tr (takeS s1).2 HTk.out.wf)
   have HG3 := hide (HG.out.tr _ _ HG2.out HTm.out)
   have hlm := HTm.out.len
   generalize (takeS s1).2 = s2 at *
   have HO := hide hrow
   clear hrow HRn HC HMh hb
   go_wp2_with fail
   refine HCs.out.mono ?_
   rintro e w2 ⟨rfl, h2, ht2⟩
   simp only [if_true] at h2
   have H2 := hide h2
   have HT2 := hide (HTr.out.trans ht2)
   have HO2 := hide (own_turn HO.out ht2 cq)
   have HV2 := hide (HV.out.stay (Off1.turn ht2 cq))
   clear h2 ht2 HO HV HTr HCs
   go_wp2_with fail
   refine (HM2.out w2 H2.out).mono ?_
   rintro e w3 ⟨vs3, rfl, hv, h3, ht3⟩
   have HV3V := hide hv
   have H3 := hide h3
   have HT3 := hide (HT2.out.trans ht3)
   have r3 := own_turn HO2.out ht3 cq
   have HV3 := hide (HV2.out.stay (Off1.turn ht3 cq))
   have hs3 := ht3.size
   have hlen3 : vs3.length = 2 := (HV3V.out.1).trans (henc _)
   have h1c := HV3V.out.one_cell
   have HBd := hide (fun g (hg : u5.ownBlock = some g) => (HO2.out.lt g hg).2)
   have hsz22 : w.heap.size ≤ w2.heap.size := HT2.out.size
   clear h3 ht3 hv HM2 HT2 HO2 HV2 H2
   have hsz2 : w.heap.size ≤ w3.heap.size := HT3.out.size
   go_wp2_with (first | (refine wpList_buildOne rfl 37 70 _ rfl 2 vs3 rfl hlen3 (by decide) (by decide) Tryz.underlying37 i0 (.agg #[.string ⟨#[]⟩, .string ⟨#[]⟩]) hi hz0 hz1 ?_) | (at_builtin; go_must (refine wpList_append_own_at _ rfl _ _ 37 rfl w.heap.size 70 i0 (.agg #[.string ⟨#[]⟩, .string ⟨#[]⟩]) 2 32 Tryz.underlying37 hi hz0 hz1 hz2 rfl (by decide) _ _ _ rfl (r3.alloc _) ⟨w3.heap.size, 0, none⟩ 1 1 vs3 rfl (by rw [hlen3]) (new_cells _ _ _ _ rfl) h1c (by unfold maxLen; omega) (by omega) (by simp; omega) ?_)))
   intro v4 w4 hown4 hgrow4 _ hat4
   have hsa := hgrow4.size
   have HT4 := hide (Turn.grown (HT3.out.alloc (.cells vs3.toArray 70)) hgrow4 (fun g hg => (r3.lt g hg).1))
   have H4 := hide ((H3.out.alloc (.cells vs3.toArray 70)).grown hgrow4 (fun g hg => by have := (r3.lt g hg).1; omega))
   have hst := Stay.trans (Off1.alloc (base := w.heap.size) (v := u5) (.cells vs3.toArray 70)) (Off1.grow hgrow4 (v' := v4) (by simpa using hat4))
   have HV4 := hide ((HV3.out.stay hst).snoc (e := (enc (M s2).1)) (vs := vs3) (henc _) (HV3V.out.stay ((Off1.news (v := u5) (by omega) HBd.out).trans hst)))
   have HO4 := hide hown4
   have hm4 := hide (meas_eq H4.out)
   clear hgrow4 hat4 hown4 hst HV3 HT3 H3 r3 hlen3 h1c HBd
   go_wp2_with fail
   go_roundw
   case rel =>
    refine ⟨n, els ++ [(M s2).1], _, cs ++ vs3, ?_, ?_, HE, by omega, by simp; omega, H4, HG3, HT4⟩
    ·rw [List.length_append]; exact HO4.out
    ·rw [List.map_append, List.map_singleton]; exact HV4
   case measure =>
    rw [hm4.out, hmeas.out]; omega
end Go.Proofs.YtljoajjlkjjgeaaGreatDoor
namespace Go.Proofs.YtljoajjlkjjgeaaGreatDoor
open Go.RowKit Go.Sort LM Go

theorem infoAgg : (Tryz.prog.info? 72).map (fun i => (i.zero, i.size, i.bytes)) = some (some (.agg #[.string ⟨#[]⟩, .string ⟨#[]⟩, .string ⟨#[]⟩]), 3, 48) := by kernel_rfl
set_option maxHeartbeats 8000000 in
set_option maxRecDepth 100000 in
theorem listAgg_any {q : Nat} {TL : List Tk} {E : Nat} {α : Type} {M : Rule α} (enc : α → List Dt) {G : PSt → Prop} {F : Nat} (hG : Good F G) (hN : Nice M) (hF : F ≤ 20000) (henc : ∀ a, (enc a).length = 3)
  (HM : ∀ s1 w1, G s1 → ParAt q TL E w1 s1 → Calls Tryz.prog 80 #[pP q] w1 (AggTo q TL E w1 (enc (M s1).1) (M s1).2)) (s : PSt) (w : World) (hs : G s) (H : ParAt q TL E w s) :
  Calls Tryz.prog 110 #[pP q, .func (.func 80) #[pP q] #[]] w (OneTo q TL E w (.row 3 ((listS F M s).1.map enc)) (listS F M s).2) := by
 obtain ⟨i0, hi, hz0, hz1, hz2⟩ := info_parts infoAgg
 have HG := hide hG
 have HN := hide hN
 have HMh := hide HM
 have hR : listS F M s = listG M F [(M s).1] (M s).2 := rfl
 have HR := hide hR
 generalize listS F M s = RES at *
 have cq := H.lt
 have hT1 := hN.tr s H.wf
 have HG1 := hide (hG.tr _ _ hs hT1)
 have hl1 := hG.len _ HG1.out
 have HC := hide (fun s1 w1 (h : ParAt q TL E w1 s1) => accept_any [44] w1 h)
 have HM1 := hide (HM s w hs H)
 clear HM hR hG hN hT1 H hs
 unfold OneTo
 unfold AggTo at HM1 HMh
 go_enter Tryz.func110, Tryz.ntmps110
 go_wp2_with fail
 refine HM1.out.mono ?_
 rintro e w1 ⟨vs1, rfl, hv, h1, ht1⟩
 have HV1 := hide hv
 have H1 := hide h1
 have HT1 := hide ht1
 have hs1 := ht1.size
 have hlen1 : vs1.length = 3 := (hv.1).trans (henc _)
 clear h1 ht1 hv HM1
 go_wp2_with (refine wpList_buildOne rfl 38 72 _ rfl 3 vs1 rfl hlen1 (by decide) (by decide) Tryz.underlying38 i0 (.agg #[.string ⟨#[]⟩, .string ⟨#[]⟩, .string ⟨#[]⟩]) hi hz0 hz1 ?_)
 obtain ⟨W, hW⟩ : ∃ W, W = w1.alloc (.cells vs1.toArray 72) := ⟨_, rfl⟩
 have HW := hide hW
 have ho0 : W.ownsRow w.heap.size 72 3 (.slice (some ⟨w1.heap.size, 0, none⟩) 1 1) 1 vs1 := by rw [hW]; exact own_one w1 _ _ _ _ hs1 hlen1
 have HO := hide ho0
 have HV2 := hide (show RepL (Off1 w.heap.size W (.slice (some ⟨w1.heap.size, 0, none⟩) 1 1)) W 3 ([(M s).1].map enc) vs1 from ⟨fun e he => by
  rw [List.map_singleton, List.mem_singleton] at he
  rw [he]; exact henc _, by
  rw [hW, List.map_singleton, List.flatten_singleton]
  have _hb := Joins.below_alloc1 w1 (.cells vs1.toArray 72)
  exact HV1.out.stay (Off1.one (Nat.le_refl _) _ 1 1)⟩)
 have HP2 := hide (show ParAt q TL E W (M s).2 by rw [hW]; exact H1.out.alloc _)
 have HTW := hide (show Turn q w W by rw [hW]; exact HT1.out.alloc _)
 clear hW ho0 H1 HT1 HV1 hlen1
 rw [← HW.out]
 clear HW
 go_loopw [5] (fun v wr => ∃ (n : Nat) (els : List α) (s1 : PSt) (cs : List Value), wr.ownsRow w.heap.size 72 3 v els.length cs ∧ Hid (RepL (Off1 w.heap.size wr v) wr 3 (els.map enc) cs) ∧ Hid (RES = listG M n els s1) ∧ s1.L.length ≤ n ∧ n + els.length ≤ F + 1 ∧ Hid (ParAt q TL E wr s1) ∧ Hid (G s1) ∧ Hid (Turn q w wr)) (fun _ wr => measL wr q)
 case atStart => exact ⟨F, [(M s).1], (M s).2, _, HO.out, HV2, HR, hl1, by simp, HP2, HG1, HTW⟩
 case round =>
  obtain ⟨n, els, s1, cs, hrow, HV, HRn, hln, hne, HP, HGs, HTr⟩ := hrel
  clear HP2 HG1 HTW HR HV2 HO
  have hqr : q < w.heap.size := cq
  have HCs := hide (HC.out s1 wr HP.out)
  have hmeas := hide (meas_eq HP.out)
  cases hb : isT (aheadS 0 s1) [44]
  ·have HE := hide (HRn.out.trans (listG_end hb))
   rw [hb] at HCs
   clear HRn HC HMh
   have HO := hide hrow
   clear hrow
   go_wp2_with fail
   refine HCs.out.mono ?_
   rintro e w2 ⟨rfl, h2, ht2⟩
   have H2 := hide h2
   have HT2 := hide ht2
   clear h2 ht2
   go_wp2_with fail
   go_ret
   rw [HE.out]
   refine ⟨_, rfl, ?_, H2.out, HTr.out.trans HT2.out⟩
   have ho := own_turn HO.out HT2.out cq
   rw [show els.length = (els.map enc).length by simp] at ho
   exact rep_of_row ho (fun g hg => (ho.lt g hg).1) (HV.out.stay ((Off1.turn HT2.out cq).trans (Stay.at (fun _ k => k.1) _)))
  ·obtain ⟨n, rfl⟩ : ∃ m, n = m + 1 := ⟨n - 1, by have := take_lt HP.out.wf hb; omega⟩
   have HE := hide (HRn.out.trans (listG_step hb))
   have hlt := take_lt HP.out.wf hb
   have HTk := hide (take_tr HP.out.wf)
   rw [hb] at HCs
   have HG2 := hide (HG.out.tr _ _ HGs.out HTk.out)
   have HM2 := hide (fun w1 h => HMh.out (takeS s1).2 w1 HG2.out h)
   have HTm := hide (HN.out.tr (takeS s1).2 HTk.out.wf)
   have HG3 := hide (HG.out.tr _ _ HG2.out HTm.out)
   have hlm := HTm.out.len
   generalize (takeS s1).2 = s2 at *
   have HO := hide hrow
   clear hrow HRn HC HMh hb
   go_wp2_with fail
   refine HCs.out.mono ?_
   rintro e w2 ⟨rfl, h2, ht2⟩
   simp only [if_true] at h2
   have H2 := hide h2
   have HT2 := hide (HTr.out.trans ht2)
   have HO2 := hide (own_turn HO.out ht2 cq)
   have HV2 := hide (HV.out.stay (Off1.turn ht2 cq))
   clear h2 ht2 HO HV HTr HCs
   go_wp2_with fail
   refine (HM2.out w2 H2.out).mono ?_
   rintro e w3 ⟨vs3, rfl, hv, h3, ht3⟩
   have HV3V := hide hv
   have H3 := hide h3
   have HT3 := hide (HT2.out.trans ht3)
   have r3 := own_turn HO2.out ht3 cq
   have HV3 := hide (HV2.out.stay (Off1.turn ht3 cq))
   have hs3 := ht3.size
   have hlen3 : vs3.length = 3 := (HV3V.out.1).trans (henc _)
   have h1c := HV3V.out.one_cell
   have HBd := hide (fun g (hg : u5.ownBlock = some g) => (HO2.out.lt g hg).2)
   have hsz22 : w.heap.size ≤ w2.heap.size := HT2.out.size
   clear h3 ht3 hv HM2 HT2 HO2 HV2 H2
   have hsz2 : w.heap.size ≤ w3.heap.size := HT3.out.size
   go_wp2_with (first | (refine wpList_buildOne rfl 38 72 _ rfl 3 vs3 rfl hlen3 (by decide) (by decide) Tryz.underlying38 i0 (.agg #[.string ⟨#[]⟩, .string ⟨#[]⟩, .string ⟨#[]⟩]) hi hz0 hz1 ?_) | (at_builtin; go_must (refine wpList_append_own_at _ rfl _ _ 38 rfl w.heap.size 72 i0 (.agg #[.string ⟨#[]⟩, .string ⟨#[]⟩, .string ⟨#[]⟩]) 3 48 Tryz.underlying38 hi hz0 hz1 hz2 rfl (by decide) _ _ _ rfl (r3.alloc _) ⟨w3.heap.size, 0, none⟩ 1 1 vs3 rfl (by rw [hlen3]) (new_cells _ _ _ _ rfl) h1c (by unfold maxLen; omega) (by omega) (by simp; omega) ?_)))
   intro v4 w4 hown4 hgrow4 _ hat4
   have hsa := hgrow4.size
   have HT4 := hide (Turn.grown (HT3.out.alloc (.cells vs3.toArray 72)) hgrow4 (fun g hg => (r3.lt g hg).1))
   have H4 := hide ((H3.out.alloc (.cells vs3.toArray 72)).grown hgrow4 (fun g hg => by have := (r3.lt g hg).1; omega))
   have hst := Stay.trans (Off1.alloc (base := w.heap.size) (v := u5) (.cells vs3.toArray 72)) (Off1.grow hgrow4 (v' := v4) (by simpa using hat4))
   have HV4 := hide ((HV3.out.stay hst).snoc (e := (enc (M s2).1)) (vs := vs3) (henc _) (HV3V.out.stay ((Off1.news (v := u5) (by omega) HBd.out).trans hst)))
   have HO4 := hide hown4
   have hm4 := hide (meas_eq H4.out)
   clear hgrow4 hat4 hown4 hst HV3 HT3 H3 r3 hlen3 h1c HBd
   go_wp2_with fail
   go_roundw
   case rel =>
    refine ⟨n, els ++ [(M s2).1], _, cs ++ vs3, ?_, ?_, HE, by omega, by simp; omega, H4, HG3, HT4⟩
    ·rw [List.length_append]; exact HO4.out
    ·rw [List.map_append, List.map_singleton]; exact HV4
   case measure =>
    rw [hm4.out, hmeas.out]; omega
end Go.Proofs.YtljoajjlkjjgeaaGreatDoor
namespace Go.Proofs.YtljoajjlkjjgeaaGreatDoor
open Go.RowKit Go.Sort LM Go

theorem infoOrd : (Tryz.prog.info? 74).map (fun i => (i.zero, i.size, i.bytes)) = some (some (.agg #[.string ⟨#[]⟩, .bool false]), 2, 24) := by kernel_rfl
set_option maxHeartbeats 8000000 in
set_option maxRecDepth 100000 in
theorem listOrd_any {q : Nat} {TL : List Tk} {E : Nat} {α : Type} {M : Rule α} (enc : α → List Dt) {G : PSt → Prop} {F : Nat} (hG : Good F G) (hN : Nice M) (hF : F ≤ 20000) (henc : ∀ a, (enc a).length = 2)
  (HM : ∀ s1 w1, G s1 → ParAt q TL E w1 s1 → Calls Tryz.prog 83 #[pP q] w1 (AggTo q TL E w1 (enc (M s1).1) (M s1).2)) (s : PSt) (w : World) (hs : G s) (H : ParAt q TL E w s) :
  Calls Tryz.prog 82 #[pP q, .func (.func 83) #[pP q] #[]] w (OneTo q TL E w (.row 2 ((listS F M s).1.map enc)) (listS F M s).2) := by
 obtain ⟨i0, hi, hz0, hz1, hz2⟩ := info_parts infoOrd
 have HG := hide hG
 have HN := hide hN
 have HMh := hide HM
 have hR : listS F M s = listG M F [(M s).1] (M s).2 := rfl
 have HR := hide hR
 generalize listS F M s = RES at *
 have cq := H.lt
 have hT1 := hN.tr s H.wf
 have HG1 := hide (hG.tr _ _ hs hT1)
 have hl1 := hG.len _ HG1.out
 have HC := hide (fun s1 w1 (h : ParAt q TL E w1 s1) => accept_any [44] w1 h)
 have HM1 := hide (HM s w hs H)
 clear HM hR hG hN hT1 H hs
 unfold OneTo
 unfold AggTo at HM1 HMh
 go_enter Tryz.func82, Tryz.ntmps82
 go_wp2_with fail
 refine HM1.out.mono ?_
 rintro e w1 ⟨vs1, rfl, hv, h1, ht1⟩
 have HV1 := hide hv
 have H1 := hide h1
 have HT1 := hide ht1
 have hs1 := ht1.size
 have hlen1 : vs1.length = 2 := (hv.1).trans (henc _)
 clear h1 ht1 hv HM1
 go_wp2_with (refine wpList_buildOne rfl 39 74 _ rfl 2 vs1 rfl hlen1 (by decide) (by decide) Tryz.underlying39 i0 (.agg #[.string ⟨#[]⟩, .bool false]) hi hz0 hz1 ?_)
 obtain ⟨W, hW⟩ : ∃ W, W = w1.alloc (.cells vs1.toArray 74) := ⟨_, rfl⟩
 have HW := hide hW
 have ho0 : W.ownsRow w.heap.size 74 2 (.slice (some ⟨w1.heap.size, 0, none⟩) 1 1) 1 vs1 := by rw [hW]; exact own_one w1 _ _ _ _ hs1 hlen1
 have HO := hide ho0
 have HV2 := hide (show RepL (Off1 w.heap.size W (.slice (some ⟨w1.heap.size, 0, none⟩) 1 1)) W 2 ([(M s).1].map enc) vs1 from ⟨fun e he => by
  rw [List.map_singleton, List.mem_singleton] at he
  rw [he]; exact henc _, by
  rw [hW, List.map_singleton, List.flatten_singleton]
  have _hb := Joins.below_alloc1 w1 (.cells vs1.toArray 74)
  exact HV1.out.stay (Off1.one (Nat.le_refl _) _ 1 1)⟩)
 have HP2 := hide (show ParAt q TL E W (M s).2 by rw [hW]; exact H1.out.alloc _)
 have HTW := hide (show Turn q w W by rw [hW]; exact HT1.out.alloc _)
 clear hW ho0 H1 HT1 HV1 hlen1
 rw [← HW.out]
 clear HW
 go_loopw [5] (fun v wr => ∃ (n : Nat) (els : List α) (s1 : PSt) (cs : List Value), wr.ownsRow w.heap.size 74 2 v els.length cs ∧ Hid (RepL (Off1 w.heap.size wr v) wr 2 (els.map enc) cs) ∧ Hid (RES = listG M n els s1) ∧ s1.L.length ≤ n ∧ n + els.length ≤ F + 1 ∧ Hid (ParAt q TL E wr s1) ∧ Hid (G s1) ∧ Hid (Turn q w wr)) (fun _ wr => measL wr q)
 case atStart => exact ⟨F, [(M s).1], (M s).2, _, HO.out, HV2, HR, hl1, by simp, HP2, HG1, HTW⟩
 case round =>
  obtain ⟨n, els, s1, cs, hrow, HV, HRn, hln, hne, HP, HGs, HTr⟩ := hrel
  clear HP2 HG1 HTW HR HV2 HO
  have hqr : q < w.heap.size := cq
  have HCs := hide (HC.out s1 wr HP.out)
  have hmeas := hide (meas_eq HP.out)
  cases hb : isT (aheadS 0 s1) [44]
  ·have HE := hide (HRn.out.trans (listG_end hb))
   rw [hb] at HCs
   clear HRn HC HMh
   have HO := hide hrow
   clear hrow
   go_wp2_with fail
   refine HCs.out.mono ?_
   rintro e w2 ⟨rfl, h2, ht2⟩
   have H2 := hide h2
   have HT2 := hide ht2
   clear h2 ht2
   go_wp2_with fail
   go_ret
   rw [HE.out]
   refine ⟨_, rfl, ?_, H2.out, HTr.out.trans HT2.out⟩
   have ho := own_turn HO.out HT2.out cq
   rw [show els.length = (els.map enc).length by simp] at ho
   exact rep_of_row ho (fun g hg => (ho.lt g hg).1) (HV.out.stay ((Off1.turn HT2.out cq).trans (Stay.at (fun _ k => k.1) _)))
  ·obtain ⟨n, rfl⟩ : ∃ m, n = m + 1 := ⟨n - 1, by have := take_lt HP.out.wf hb; omega⟩
   have HE := hide (HRn.out.trans (listG_step hb))
   have hlt := take_lt HP.out.wf hb
   have HTk := hide (take_tr HP.out.wf)
   rw [hb] at HCs
   have HG2 := hide (HG.out.tr _ _ HGs.out HTk.out)
   have HM2 := hide (fun w1 h => HMh.out (takeS s1).2 w1 HG2.out h)
   have HTm := hide (HN.out.tr (takeS s1).2 HTk.out.wf)
   have HG3 := hide (HG.out.tr _ _ HG2.out HTm.out)
   have hlm := HTm.out.len
   generalize (takeS s1).2 = s2 at *
   have HO := hide hrow
   clear hrow HRn HC HMh hb
   go_wp2_with fail
   refine HCs.out.mono ?_
   rintro e w2 ⟨rfl, h2, ht2⟩
   simp only [if_true] at h2
   have H2 := hide h2
   have HT2 := hide (HTr.out.trans ht2)
   have HO2 := hide (own_turn HO.out ht2 cq)
   have HV2 := hide (HV.out.stay (Off1.turn ht2 cq))
   clear h2 ht2 HO HV HTr HCs
   go_wp2_with fail
   refine (HM2.out w2 H2.out).mono ?_
   rintro e w3 ⟨vs3, rfl, hv, h3, ht3⟩
   have HV3V := hide hv
   have H3 := hide h3
   have HT3 := hide (HT2.out.trans ht3)
   have r3 := own_turn HO2.out ht3 cq
   have HV3 := hide (HV2.out.stay (Off1.turn ht3 cq))
   have hs3 := ht3.size
   have hlen3 : vs3.length = 2 := (HV3V.out.1).trans (henc _)
   have h1c := HV3V.out.one_cell
   have HBd := hide (fun g (hg : u5.ownBlock = some g) => (HO2.out.lt g hg).2)
   have hsz22 : w.heap.size ≤ w2.heap.size := HT2.out.size
   clear h3 ht3 hv HM2 HT2 HO2 HV2 H2
   have hsz2 : w.heap.size ≤ w3.heap.size := HT3.out.size
   go_wp2_with (first | (refine wpList_buildOne rfl 39 74 _ rfl 2 vs3 rfl hlen3 (by decide) (by decide) Tryz.underlying39 i0 (.agg #[.string ⟨#[]⟩, .bool false]) hi hz0 hz1 ?_) | (at_builtin; go_must (refine wpList_append_own_at _ rfl _ _ 39 rfl w.heap.size 74 i0 (.agg #[.string ⟨#[]⟩, .bool false]) 2 24 Tryz.underlying39 hi hz0 hz1 hz2 rfl (by decide) _ _ _ rfl (r3.alloc _) ⟨w3.heap.size, 0, none⟩ 1 1 vs3 rfl (by rw [hlen3]) (new_cells _ _ _ _ rfl) h1c (by unfold maxLen; omega) (by omega) (by simp; omega) ?_)))
   intro v4 w4 hown4 hgrow4 _ hat4
   have hsa := hgrow4.size
   have HT4 := hide (Turn.grown (HT3.out.alloc (.cells vs3.toArray 74)) hgrow4 (fun g hg => (r3.lt g hg).1))
   have H4 := hide ((H3.out.alloc (.cells vs3.toArray 74)).grown hgrow4 (fun g hg => by have := (r3.lt g hg).1; omega))
   have hst := Stay.trans (Off1.alloc (base := w.heap.size) (v := u5) (.cells vs3.toArray 74)) (Off1.grow hgrow4 (v' := v4) (by simpa using hat4))
   have HV4 := hide ((HV3.out.stay hst).snoc (e := (enc (M s2).1)) (vs := vs3) (henc _) (HV3V.out.stay ((Off1.news (v := u5) (by omega) HBd.out).trans hst)))
   have HO4 := hide hown4
   have hm4 := hide (meas_eq H4.out)
   clear hgrow4 hat4 hown4 hst HV3 HT3 H3 r3 hlen3 h1c HBd
   go_wp2_with fail
   go_roundw
   case rel =>
    refine ⟨n, els ++ [(M s2).1], _, cs ++ vs3, ?_, ?_, HE, by omega, by simp; omega, H4, HG3, HT4⟩
    ·rw [List.length_append]; exact HO4.out
    ·rw [List.map_append, List.map_singleton]; exact HV4
   case measure =>
    rw [hm4.out, hmeas.out]; omega
end Go.Proofs.YtljoajjlkjjgeaaGreatDoor
