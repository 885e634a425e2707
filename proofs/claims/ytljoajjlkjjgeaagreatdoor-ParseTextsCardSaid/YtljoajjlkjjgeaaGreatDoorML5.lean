/-
  A list of bywash/schema.Column, with commas between.
  A list of bywash/parse.Input, with commas between.
  A list of bywash/parse.named, with commas between.
  A list of bywash/expr.Expr, with commas between.
-/
import Derived.Test.YtljoajjlkjjgeaaGreatDoorMN3
namespace Go.Proofs.YtljoajjlkjjgeaaGreatDoor
open Go.RowKit Go.Sort LM Go

theorem infoCol : (Tryz.prog.info? 45).map (fun i => (i.zero, i.size, i.bytes)) = some (some (.agg #[.string ⟨#[]⟩, .int .i64 0]), 2, 24) := by kernel_rfl
set_option maxHeartbeats 8000000 in
set_option maxRecDepth 100000 in
theorem listCol_any {q : Nat} {TL : List Tk} {E : Nat} {α : Type} {M : Rule α} (enc : α → List Dt) {G : PSt → Prop} {F : Nat} (hG : Good F G) (hN : Nice M) (hF : F ≤ 20000) (henc : ∀ a, (enc a).length = 2)
  (HM : ∀ s1 w1, G s1 → ParAt q TL E w1 s1 → Calls Tryz.prog 114 #[pP q] w1 (AggTo q TL E w1 (enc (M s1).1) (M s1).2)) (s : PSt) (w : World) (hs : G s) (H : ParAt q TL E w s) :
  Calls Tryz.prog 113 #[pP q, .func (.func 114) #[pP q] #[]] w (OneTo q TL E w (.row 2 ((listS F M s).1.map enc)) (listS F M s).2) := by
 obtain ⟨i0, hi, hz0, hz1, hz2⟩ := info_parts infoCol
 have HG := hide hG
 have HN := hide hN
 have HMh := hide HM
 have hR : listS F M s = listG M F [(M s).1] (M s).2 := rfl
 have HR := hide hR
 generalize listS F M s = RES at *
 have cq := H.lt
 have hT1 := hN.tr s H.wf
 have HG1 := hide (hG.tr _ _ hs hT1)
 have hl1 := hG.len _ HG1.out
 have HC := hide (fun s1 w1 (h : ParAt q TL E w1 s1) => accept_any [44] w1 h)
 have HM1 := hide (HM s w hs H)
 clear HM hR hG hN hT1 H hs
 unfold OneTo
 unfold AggTo at HM1 HMh
 go_enter Tryz.func113, Tryz.ntmps113
 go_wp2_with fail
 refine HM1.out.mono ?_
 rintro e w1 ⟨vs1, rfl, hv, h1, ht1⟩
 have HV1 := hide hv
 have H1 := hide h1
 have HT1 := hide ht1
 have hs1 := ht1.size
 have hlen1 : vs1.length = 2 := (hv.1).trans (henc _)
 clear h1 ht1 hv HM1
 go_wp2_with (refine wpList_buildOne rfl 28 45 _ rfl 2 vs1 rfl hlen1 (by decide) (by decide) Tryz.underlying28 i0 (.agg #[.string ⟨#[]⟩, .int .i64 0]) hi hz0 hz1 ?_)
 obtain ⟨W, hW⟩ : ∃ W, W = w1.alloc (.cells vs1.toArray 45) := ⟨_, rfl⟩
 have HW := hide hW
 have ho0 : W.ownsRow w.heap.size 45 2 (.slice (some ⟨w1.heap.size, 0, none⟩) 1 1) 1 vs1 := by rw [hW]; exact own_one w1 _ _ _ _ hs1 hlen1
 have HO := hide ho0
 have HV2 := hide (show RepL (Off1 w.heap.size W (.slice (some ⟨w1.heap.size, 0, none⟩) 1 1)) W 2 ([(M s).1].map enc) vs1 from ⟨fun e he => by
  rw [List.map_singleton, List.mem_singleton] at he
  rw [he]; exact henc _, by
  rw [hW, List.map_singleton, List.flatten_singleton]
  have _hb := Joins.below_alloc1 w1 (.cells vs1.toArray 45)
  exact HV1.out.stay (Off1.one (Nat.le_refl _) _ 1 1)⟩)
 have HP2 := hide (show ParAt q TL E W (M s).2 by rw [hW]; exact H1.out.alloc _)
 have HTW := hide (show Turn q w W by rw [hW]; exact HT1.out.alloc _)
 clear hW ho0 H1 HT1 HV1 hlen1
 rw [← HW.out]
 clear HW
 go_loopw [5] (fun v wr => ∃ (n : Nat) (els : List α) (s1 : PSt) (cs : List Value), wr.ownsRow w.heap.size 45 2 v els.length cs ∧ Hid (RepL (Off1 w.heap.size wr v) wr 2 (els.map enc) cs) ∧ Hid (RES = listG M n els s1) ∧ s1.L.length ≤ n ∧ n + els.length ≤ F + 1 ∧ Hid (ParAt q TL E wr s1) ∧ Hid (G s1) ∧ Hid (Turn q w wr)) (fun _ wr => measL wr q)
 case atStart => exact ⟨F, [(M s).1], (M s).2, _, HO.out, HV2, HR, hl1, by simp, HP2, HG1, HTW⟩
 case round =>
  obtain ⟨n, els, s1, cs, hrow, HV, HRn, hln, hne, HP, HGs, HTr⟩ := hrel
  clear HP2 HG1 HTW HR HV2 HO
  have hqr : q < w.heap.size := cq
  have HCs := hide (HC.out s1 wr HP.out)
  have hmeas := hide (meas_eq HP.out)
  cases hb : isT (aheadS 0 s1) [44]
  ·have HE := hide (HRn.out.trans (listG_end hb))
   rw [hb] at HCs
   clear HRn HC HMh
   have HO := hide hrow
   clear hrow
   go_wp2_with fail
   refine HCs.out.mono ?_
   rintro e w2 ⟨rfl, h2, ht2⟩
   have H2 := hide h2
   have HT2 := hide ht2
   clear h2 ht2
   go_wp2_with fail
   go_ret
   rw [HE.out]
   refine ⟨_, rfl, ?_, H2.out, HTr.out.trans HT2.out⟩
   have ho := own_turn HO.out HT2.out cq
   rw [show els.length = (els.map enc).length by simp] at ho
   exact rep_of_row ho (fun g hg => (ho.lt g hg).1) (HV.out.stay ((Off1.turn HT2.out cq).trans (Stay.at (fun _ k => k.1) _)))
  ·obtain ⟨n, rfl⟩ : ∃ m, n = m + 1 := ⟨n - 1, by have := take_lt HP.out.wf hb; omega⟩
   have HE := hide (HRn.out.trans (listG_step hb))
   have hlt := take_lt HP.out.wf hb
   have HTk := hide (take_tr HP.out.wf)
   rw [hb] at HCs
   have HG2 := hide (HG.out.tr _ _ HGs.out HTk.out)
   have HM2 := hide (fun w1 h => HMh.out (takeS s1).2 w1 HG2.out h)
   have HTm := hide (HN.out.tr (takeS s1).2 HTk.out.wf)
   have HG3 := hide (HG.out.tr _ _ HG2.out HTm.out)
   have hlm := HTm.out.len
   generalize (takeS s1).2 = s2 at *
   have HO := hide hrow
   clear hrow HRn HC HMh hb
   go_wp2_with fail
   refine HCs.out.mono ?_
   rintro e w2 ⟨rfl, h2, ht2⟩
   simp only [if_true] at h2
   have H2 := hide h2
   have HT2 := hide (HTr.out.trans ht2)
   have HO2 := hide (own_turn HO.out ht2 cq)
   have HV2 := hide (HV.out.stay (Off1.turn ht2 cq))
   clear h2 ht2 HO HV HTr HCs
   go_wp2_with fail
   refine (HM2.out w2 H2.out).mono ?_
   rintro e w3 ⟨vs3, rfl, hv, h3, ht3⟩
   have HV3V := hide hv
   have H3 := hide h3
   have HT3 := hide (HT2.out.trans ht3)
   have r3 := own_turn HO2.out ht3 cq
   have HV3 := hide (HV2.out.stay (Off1.turn ht3 cq))
   have hs3 := ht3.size
   have hlen3 : vs3.length = 2 := (HV3V.out.1).trans (henc _)
   have h1c := HV3V.out.one_cell
   have HBd := hide (fun g (hg : u5.ownBlock = some g) => (HO2.out.lt g hg).2)
   have hsz22 : w.heap.size ≤ w2.heap.size := HT2.out.size
   clear h3 ht3 hv HM2 HT2 HO2 HV2 H2
   have hsz2 : w.heap.size ≤ w3.heap.size := HT3.out.size
   go_wp2_with (first | (refine wpList_buildOne rfl 28 45 _ rfl 2 vs3 rfl hlen3 (by decide) (by decide) Tryz.underlying28 i0 (.agg #[.string ⟨#[]⟩, .int .i64 0]) hi hz0 hz1 ?_) | (at_builtin; go_must (refine wpList_append_own_at _ rfl _ _ 28 rfl w.heap.size 45 i0 (.agg #[.string ⟨#[]⟩, .int .i64 0]) 2 24 Tryz.underlying28 hi hz0 hz1 hz2 rfl (by decide) _ _ _ rfl (r3.alloc _) ⟨w3.heap.size, 0, none⟩ 1 1 vs3 rfl (by rw [hlen3]) (new_cells _ _ _ _ rfl) h1c (by unfold maxLen; omega) (by omega) (by simp; omega) ?_)))
   intro v4 w4 hown4 hgrow4 _ hat4
   have hsa := hgrow4.size
   have HT4 := hide (Turn.grown (HT3.out.alloc (.cells vs3.toArray 45)) hgrow4 (fun g hg => (r3.lt g hg).1))
   have H4 := hide ((H3.out.alloc (.cells vs3.toArray 45)).grown hgrow4 (fun g hg => by have := (r3.lt g hg).1; omega))
   have hst := Stay.trans (Off1.alloc (base := w.heap.size) (v := u5) (.cells vs3.toArray 45)) (Off1.grow hgrow4 (v' := v4) (by simpa using hat4))
   have HV4 := hide ((HV3.out.stay hst).snoc (e := (enc (M s2).1)) (vs := vs3) (henc _) (HV3V.out.stay ((Off1.news (v := u5) (by omega) HBd.out).trans hst)))
   have HO4 := hide hown4
   have hm4 := hide (meas_eq H4.out)
   clear hgrow4 hat4 hown4 hst HV3 HT3 H3 r3 hlen3 h1c HBd
   go_wp2_with fail
   go_roundw
   case rel =>
    refine ⟨n, els ++ [(M s2).1], _, cs ++ vs3, ?_, ?_, HE, by omega, by simp; omega, H4, HG3, HT4⟩
    ·rw [List.length_append]; exact HO4.out
    ·rw [List.map_append, List.map_singleton]; exact HV4
   case measure =>
    rw [hm4.out, hmeas.out]; omega
end Go.Proofs.YtljoajjlkjjgeaaGreatDoor
namespace Go.Proofs.YtljoajjlkjjgeaaGreatDoor
open Go.RowKit Go.Sort LM Go

theorem infoInp : (Tryz.prog.info? 56).map (fun i => (i.zero, i.size, i.bytes)) = some (some (.agg #[.string ⟨#[]⟩, .int .i64 0, .int .i64 0, .string ⟨#[]⟩]), 4, 48) := by kernel_rfl
set_option maxHeartbeats 8000000 in
set_option maxRecDepth 100000 in
theorem listInp_any {q : Nat} {TL : List Tk} {E : Nat} {α : Type} {M : Rule α} (enc : α → List Dt) {G : PSt → Prop} {F : Nat} (hG : Good F G) (hN : Nice M) (hF : F ≤ 20000) (henc : ∀ a, (enc a).length = 4)
  (HM : ∀ s1 w1, G s1 → ParAt q TL E w1 s1 → Calls Tryz.prog 88 #[pP q] w1 (AggTo q TL E w1 (enc (M s1).1) (M s1).2)) (s : PSt) (w : World) (hs : G s) (H : ParAt q TL E w s) :
  Calls Tryz.prog 87 #[pP q, .func (.func 88) #[pP q] #[]] w (OneTo q TL E w (.row 4 ((listS F M s).1.map enc)) (listS F M s).2) := by
 obtain ⟨i0, hi, hz0, hz1, hz2⟩ := info_parts infoInp
 have HG := hide hG
 have HN := hide hN
 have HMh := hide HM
 have hR : listS F M s = listG M F [(M s).1] (M s).2 := rfl
 have HR := hide hR
 generalize listS F M s = RES at *
 have cq := H.lt
 have hT1 := hN.tr s H.wf
 have HG1 := hide (hG.tr _ _ hs hT1)
 have hl1 := hG.len _ HG1.out
 have HC := hide (fun s1 w1 (h : ParAt q TL E w1 s1) => accept_any [44] w1 h)
 have HM1 := hide (HM s w hs H)
 clear HM hR hG hN hT1 H hs
 unfold OneTo
 unfold AggTo at HM1 HMh
 go_enter Tryz.func87, Tryz.ntmps87
 go_wp2_with fail
 refine HM1.out.mono ?_
 rintro e w1 ⟨vs1, rfl, hv, h1, ht1⟩
 have HV1 := hide hv
 have H1 := hide h1
 have HT1 := hide ht1
 have hs1 := ht1.size
 have hlen1 : vs1.length = 4 := (hv.1).trans (henc _)
 clear h1 ht1 hv HM1
 go_wp2_with (refine wpList_buildOne rfl 30 56 _ rfl 4 vs1 rfl hlen1 (by decide) (by decide) Tryz.underlying30 i0 (.agg #[.string ⟨#[]⟩, .int .i64 0, .int .i64 0, .string ⟨#[]⟩]) hi hz0 hz1 ?_)
 obtain ⟨W, hW⟩ : ∃ W, W = w1.alloc (.cells vs1.toArray 56) := ⟨_, rfl⟩
 have HW := hide hW
 have ho0 : W.ownsRow w.heap.size 56 4 (.slice (some ⟨w1.heap.size, 0, none⟩) 1 1) 1 vs1 := by rw [hW]; exact own_one w1 _ _ _ _ hs1 hlen1
 have HO := hide ho0
 have HV2 := hide (show RepL (Off1 w.heap.size W (.slice (some ⟨w1.heap.size, 0, none⟩) 1 1)) W 4 ([(M s).1].map enc) vs1 from ⟨fun e he => by
  rw [List.map_singleton, List.mem_singleton] at he
  rw [he]; exact henc _, by
  rw [hW, List.map_singleton, List.flatten_singleton]
  have _hb := Joins.below_alloc1 w1 (.cells vs1.toArray 56)
  exact HV1.out.stay (Off1.one (Nat.le_refl _) _ 1 1)⟩)
 have HP2 := hide (show ParAt q TL E W (M s).2 by rw [hW]; exact H1.out.alloc _)
 have HTW := hide (show Turn q w W by rw [hW]; exact HT1.out.alloc _)
 clear hW ho0 H1 HT1 HV1 hlen1
 rw [← HW.out]
 clear HW
 go_loopw [5] (fun v wr => ∃ (n : Nat) (els : List α) (s1 : PSt) (cs : List Value), wr.ownsRow w.heap.size 56 4 v els.length cs ∧ Hid (RepL (Off1 w.heap.size wr v) wr 4 (els.map enc) cs) ∧ Hid (RES = listG M n els s1) ∧ s1.L.length ≤ n ∧ n + els.length ≤ F + 1 ∧ Hid (ParAt q TL E wr s1) ∧ Hid (G s1) ∧ Hid (Turn q w wr)) (fun _ wr => measL wr q)
 case atStart => exact ⟨F, [(M s).1], (M s).2, _, HO.out, HV2, HR, hl1, by simp, HP2, HG1, HTW⟩
 case round =>
  obtain ⟨n, els, s1, cs, hrow, HV, HRn, hln, hne, HP, HGs, HTr⟩ := hrel
  clear HP2 HG1 HTW HR HV2 HO
  have hqr : q < w.heap.size := cq
  have HCs := hide (HC.out s1 wr HP.out)
  have hmeas := hide (meas_eq HP.out)
  cases hb : isT (aheadS 0 s1) [44]
  ·have HE := hide (HRn.out.trans (listG_end hb))
   rw [hb] at HCs
   clear HRn HC HMh
   have HO := hide hrow
   clear hrow
   go_wp2_with fail
   refine HCs.out.mono ?_
   rintro e w2 ⟨rfl, h2, ht2⟩
   have H2 := hide h2
   have HT2 := hide ht2
   clear h2 ht2
   go_wp2_with fail
   go_ret
   rw [HE.out]
   refine ⟨_, rfl, ?_, H2.out, HTr.out.trans HT2.out⟩
   have ho := own_turn HO.out HT2.out cq
   rw [show els.length = (els.map enc).length by simp] at ho
   exact rep_of_row ho (fun g hg => (ho.lt g hg).1) (HV.out.stay ((Off1.turn HT2.out cq).trans (Stay.at (fun _ k => k.1) _)))
  ·obtain ⟨n, rfl⟩ : ∃ m, n = m + 1 := ⟨n - 1, by have := take_lt HP.out.wf hb; omega⟩
   have HE := hide (HRn.out.trans (listG_step hb))
   have hlt := take_lt HP.out.wf hb
   have HTk := hide (take_tr HP.out.wf)
   rw [hb] at HCs
   have HG2 := hide (HG.out.tr _ _ HGs.out HTk.out)
   have HM2 := hide (fun w1 h => HMh.out (takeS s1).2 w1 HG2.out h)
   have HTm := hide (HN.out.tr (takeS s1).2 HTk.out.wf)
   have HG3 := hide (HG.out.tr _ _ HG2.out HTm.out)
   have hlm := HTm.out.len
   generalize (takeS s1).2 = s2 at *
   have HO := hide hrow
   clear hrow HRn HC HMh hb
   go_wp2_with fail
   refine HCs.out.mono ?_
   rintro e w2 ⟨rfl, h2, ht2⟩
   simp only [if_true] at h2
   have H2 := hide h2
   have HT2 := hide (HTr.out.trans ht2)
   have HO2 := hide (own_turn HO.out ht2 cq)
   have HV2 := hide (HV.out.stay (Off1.turn ht2 cq))
   clear h2 ht2 HO HV HTr HCs
   go_wp2_with fail
   refine (HM2.out w2 H2.out).mono ?_
   rintro e w3 ⟨vs3, rfl, hv, h3, ht3⟩
   have HV3V := hide hv
   have H3 := hide h3
   have HT3 := hide (HT2.out.trans ht3)
   have r3 := own_turn HO2.out ht3 cq
   have HV3 := hide (HV2.out.stay (Off1.turn ht3 cq))
   have hs3 := ht3.size
   have hlen3 : vs3.length = 4 := (HV3V.out.1).trans (henc _)
   have h1c := HV3V.out.one_cell
   have HBd := hide (fun g (hg : u5.ownBlock = some g) => (HO2.out.lt g hg).2)
   have hsz22 : w.heap.size ≤ w2.heap.size := HT2.out.size
   clear h3 ht3 hv HM2 HT2 HO2 HV2 H2
   have hsz2 : w.heap.size ≤ w3.heap.size := HT3.out.size
   go_wp2_with (first | (refine wpList_buildOne rfl 30 56 _ rfl 4 vs3 rfl hlen3 (by decide) (by decide) Tryz.underlying30 i0 (.agg #[.string ⟨#[]⟩, .int .i64 0, .int .i64 0, .string ⟨#[]⟩]) hi hz0 hz1 ?_) | (at_builtin; go_must (refine wpList_append_own_at _ rfl _ _ 30 rfl w.heap.size 56 i0 (.agg #[.string ⟨#[]⟩, .int .i64 0, .int .i64 0, .string ⟨#[]⟩]) 4 48 Tryz.underlying30 hi hz0 hz1 hz2 rfl (by decide) _ _ _ rfl (r3.alloc _) ⟨w3.heap.size, 0, none⟩ 1 1 vs3 rfl (by rw [hlen3]) (new_cells _ _ _ _ rfl) h1c (by unfold maxLen; omega) (by omega) (by simp; omega) ?_)))
   intro v4 w4 hown4 hgrow4 _ hat4
   have hsa := hgrow4.size
   have HT4 := hide (Turn.grown (HT3.out.alloc (.cells vs3.toArray 56)) hgrow4 (fun g hg => (r3.lt g hg).1))
   have H4 := hide ((H3.out.alloc (.cells vs3.toArray 56)).grown hgrow4 (fun g hg => by have := (r3.lt g hg).1; omega))
   have hst := Stay.trans (Off1.alloc (base := w.heap.size) (v := u5) (.cells vs3.toArray 56)) (Off1.grow hgrow4 (v' := v4) (by simpa using hat4))
   have HV4 := hide ((HV3.out.stay hst).snoc (e := (enc (M s2).1)) (vs := vs3) (henc _) (HV3V.out.stay ((Off1.news (v := u5) (by omega) HBd.out).trans hst)))
   have HO4 := hide hown4
   have hm4 := hide (meas_eq H4.out)
   clear hgrow4 hat4 hown4 hst HV3 HT3 H3 r3 hlen3 h1c HBd
   go_wp2_with fail
   go_roundw
   case rel =>
    refine ⟨n, els ++ [(M s2).1], _, cs ++ vs3, ?_, ?_, HE, by omega, by simp; omega, H4, HG3, HT4⟩
    ·rw [List.length_append]; exact HO4.out
    ·rw [List.map_append, List.map_singleton]; exact HV4
   case measure =>
    rw [hm4.out, hmeas.out]; omega
end Go.Proofs.YtljoajjlkjjgeaaGreatDoor
namespace Go.Proofs.YtljoajjlkjjgeaaGreatDoor
open Go.RowKit Go.Sort LM Go

theorem infoNamed : (Tryz.prog.info? 146).map (fun i => (i.zero, i.size, i.bytes)) = some (some (.agg #[.int .i64 0, .string ⟨#[]⟩, .int .i64 0, .int .i64 0, .string ⟨#[]⟩, .string ⟨#[]⟩, .slice none 0 0, .string ⟨#[]⟩]), 8, 112) := by kernel_rfl
set_option maxHeartbeats 8000000 in
set_option maxRecDepth 100000 in
theorem listNamed_any {q : Nat} {TL : List Tk} {E : Nat} {α : Type} {M : Rule α} (enc : α → List Dt) {G : PSt → Prop} {F : Nat} (hG : Good F G) (hN : Nice M) (hF : F ≤ 20000) (henc : ∀ a, (enc a).length = 8)
  (HM : ∀ s1 w1, G s1 → ParAt q TL E w1 s1 → Calls Tryz.prog 75 #[pP q] w1 (AggTo q TL E w1 (enc (M s1).1) (M s1).2)) (s : PSt) (w : World) (hs : G s) (H : ParAt q TL E w s) :
  Calls Tryz.prog 74 #[pP q, .func (.func 75) #[pP q] #[]] w (OneTo q TL E w (.row 8 ((listS F M s).1.map enc)) (listS F M s).2) := by
 obtain ⟨i0, hi, hz0, hz1, hz2⟩ := info_parts infoNamed
 have HG := hide hG
 have HN := hide hN
 have HMh := hide HM
 have hR : listS F M s = listG M F [(M s).1] (M s).2 := rfl
 have HR := hide hR
 generalize listS F M s = RES at *
 have cq := H.lt
 have hT1 := hN.tr s H.wf
 have HG1 := hide (hG.tr _ _ hs hT1)
 have hl1 := hG.len _ HG1.out
 have HC := hide (fun s1 w1 (h : ParAt q TL E w1 s1) => accept_any [44] w1 h)
 have HM1 := hide (HM s w hs H)
 clear HM hR hG hN hT1 H hs
 unfold OneTo
 unfold AggTo at HM1 HMh
 go_enter Tryz.func74, Tryz.ntmps74
 go_wp2_with fail
 refine HM1.out.mono ?_
 rintro e w1 ⟨vs1, rfl, hv, h1, ht1⟩
 have HV1 := hide hv
 have H1 := hide h1
 have HT1 := hide ht1
 have hs1 := ht1.size
 have hlen1 : vs1.length = 8 := (hv.1).trans (henc _)
 clear h1 ht1 hv HM1
 go_wp2_with (refine wpList_buildOne rfl 143 146 _ rfl 8 vs1 rfl hlen1 (by decide) (by decide) Tryz.underlying143 i0 (.agg #[.int .i64 0, .string ⟨#[]⟩, .int .i64 0, .int .i64 0, .string ⟨#[]⟩, .string ⟨#[]⟩, .slice none 0 0, .string ⟨#[]⟩]) hi hz0 hz1 ?_)
 obtain ⟨W, hW⟩ : ∃ W, W = w1.alloc (.cells vs1.toArray 146) := ⟨_, rfl⟩
 have HW := hide hW
 have ho0 : W.ownsRow w.heap.size 146 8 (.slice (some ⟨w1.heap.size, 0, none⟩) 1 1) 1 vs1 := by rw [hW]; exact own_one w1 _ _ _ _ hs1 hlen1
 have HO := hide ho0
 have HV2 := hide (show RepL (Off1 w.heap.size W (.slice (some ⟨w1.heap.size, 0, none⟩) 1 1)) W 8 ([(M s).1].map enc) vs1 from ⟨fun e he => by
  rw [List.map_singleton, List.mem_singleton] at he
  rw [he]; exact henc _, by
  rw [hW, List.map_singleton, List.flatten_singleton]
  have _hb := Joins.below_alloc1 w1 (.cells vs1.toArray 146)
  exact HV1.out.stay (Off1.one (Nat.le_refl _) _ 1 1)⟩)
 have HP2 := hide (show ParAt q TL E W (M s).2 by rw [hW]; exact H1.out.alloc _)
 have HTW := hide (show Turn q w W by rw [hW]; exact HT1.out.alloc _)
 clear hW ho0 H1 HT1 HV1 hlen1
 rw [← HW.out]
 clear HW
 go_loopw [5] (fun v wr => ∃ (n : Nat) (els : List α) (s1 : PSt) (cs : List Value), wr.ownsRow w.heap.size 146 8 v els.length cs ∧ Hid (RepL (Off1 w.heap.size wr v) wr 8 (els.map enc) cs) ∧ Hid (RES = listG M n els s1) ∧ s1.L.length ≤ n ∧ n + els.length ≤ F + 1 ∧ Hid (ParAt q TL E wr s1) ∧ Hid (G s1) ∧ Hid (Turn q w wr)) (fun _ wr => measL wr q)
 case atStart => exact ⟨F, [(M s).1], (M s).2, _, HO.out, HV2, HR, hl1, by simp, HP2, HG1, HTW⟩
 case round =>
  obtain ⟨n, els, s1, cs, hrow, HV, HRn, hln, hne, HP, HGs, HTr⟩ := hrel
  clear HP2 HG1 HTW HR HV2 HO
  have hqr : q < w.heap.size := cq
  have HCs := hide (HC.out s1 wr HP.out)
  have hmeas := hide (meas_eq HP.out)
  cases hb : isT (aheadS 0 s1) [44]
  ·have HE := hide (HRn.out.trans (listG_end hb))
   rw [hb] at HCs
   clear HRn HC HMh
   have HO := hide hrow
   clear hrow
   go_wp2_with fail
   refine HCs.out.mono ?_
   rintro e w2 ⟨rfl, h2, ht2⟩
   have H2 := hide h2
   have HT2 := hide ht2
   clear h2 ht2
   go_wp2_with fail
   go_ret
   rw [HE.out]
   refine ⟨_, rfl, ?_, H2.out, HTr.out.trans HT2.out⟩
   have ho := own_turn HO.out HT2.out cq
   rw [show els.length = (els.map enc).length by simp] at ho
   exact rep_of_row ho (fun g hg => (ho.lt g hg).1) (HV.out.stay ((Off1.turn HT2.out cq).trans (Stay.at (fun _ k => k.1) _)))
  ·obtain ⟨n, rfl⟩ : ∃ m, n = m + 1 := ⟨n - 1, by have := take_lt HP.out.wf hb; omega⟩
   have HE := hide (HRn.out.trans (listG_step hb))
   have hlt := take_lt HP.out.wf hb
   have HTk := hide (take_tr HP.out.wf)
   rw [hb] at HCs
   have HG2 := hide (HG.out.tr _ _ HGs.out HTk.out)
   have HM2 := hide (fun w1 h => HMh.out (takeS s1).2 w1 HG2.out h)
   have HTm := hide (HN.out.tr (takeS s1).2 HTk.out.wf)
   have HG3 := hide (HG.out.tr _ _ HG2.out HTm.out)
   have hlm := HTm.out.len
   generalize (takeS s1).2 = s2 at *
   have HO := hide hrow
   clear hrow HRn HC HMh hb
   go_wp2_with fail
   refine HCs.out.mono ?_
   rintro e w2 ⟨rfl, h2, ht2⟩
   simp only [if_true] at h2
   have H2 := hide h2
   have HT2 := hide (HTr.out.trans ht2)
   have HO2 := hide (own_turn HO.out ht2 cq)
   have HV2 := hide (HV.out.stay (Off1.turn ht2 cq))
   clear h2 ht2 HO HV HTr HCs
   go_wp2_with fail
   refine (HM2.out w2 H2.out).mono ?_
   rintro e w3 ⟨vs3, rfl, hv, h3, ht3⟩
   have HV3V := hide hv
   have H3 := hide h3
   have HT3 := hide (HT2.out.trans ht3)
   have r3 := own_turn HO2.out ht3 cq
   have HV3 := hide (HV2.out.stay (Off1.turn ht3 cq))
   have hs3 := ht3.size
   have hlen3 : vs3.length = 8 := (HV3V.out.1).trans (henc _)
   have h1c := HV3V.out.one_cell
   have HBd := hide (fun g (hg : u5.ownBlock = some g) => (HO2.out.lt g hg).2)
   have hsz22 : w.heap.size ≤ w2.heap.size := HT2.out.size
   clear h3 ht3 hv HM2 HT2 HO2 HV2 H2
   have hsz2 : w.heap.size ≤ w3.heap.size := HT3.out.size
   go_wp2_with (first | (refine wpList_buildOne rfl 143 146 _ rfl 8 vs3 rfl hlen3 (by decide) (by decide) Tryz.underlying143 i0 (.agg #[.int .i64 0, .string ⟨#[]⟩, .int .i64 0, .int .i64 0, .string ⟨#[]⟩, .string ⟨#[]⟩, .slice none 0 0, .string ⟨#[]⟩]) hi hz0 hz1 ?_) | (at_builtin; go_must (refine wpList_append_own_at _ rfl _ _ 143 rfl w.heap.size 146 i0 (.agg #[.int .i64 0, .string ⟨#[]⟩, .int .i64 0, .int .i64 0, .string ⟨#[]⟩, .string ⟨#[]⟩, .slice none 0 0, .string ⟨#[]⟩]) 8 112 Tryz.underlying143 hi hz0 hz1 hz2 rfl (by decide) _ _ _ rfl (r3.alloc _) ⟨w3.heap.size, 0, none⟩ 1 1 vs3 rfl (by rw [hlen3]) (new_cells _ _ _ _ rfl) h1c (by unfold maxLen; omega) (by omega) (by simp; omega) ?_)))
   intro v4 w4 hown4 hgrow4 _ hat4
   have hsa := hgrow4.size
   have HT4 := hide (Turn.grown (HT3.out.alloc (.cells vs3.toArray 146)) hgrow4 (fun g hg => (r3.lt g hg).1))
   have H4 := hide ((H3.out.alloc (.cells vs3.toArray 146)).grown hgrow4 (fun g hg => by have := (r3.lt g hg).1; omega))
   have hst := Stay.trans (Off1.alloc (base := w.heap.size) (v := u5) (.cells vs3.toArray 146)) (Off1.grow hgrow4 (v' := v4) (by simpa using hat4))
   have HV4 := hide ((HV3.out.stay hst).snoc (e := (enc (M s2).1)) (vs := vs3) (henc _) (HV3V.out.stay ((Off1.news (v := u5) (by omega) HBd.out).trans hst)))
   have HO4 := hide hown4
   have hm4 := hide (meas_eq H4.out)
   clear hgrow4 hat4 hown4 hst HV3 HT3 H3 r3 hlen3 h1c HBd
   go_wp2_with fail
   go_roundw
   case rel =>
    refine ⟨n, els ++ [(M s2).1], _, cs ++ vs3, ?_, ?_, HE, by omega, by simp; omega, H4, HG3, HT4⟩
    ·rw [List.length_append]; exact HO4.out
    ·rw [List.map_append, List.map_singleton]; exact HV4
   case measure =>
    rw [hm4.out, hmeas.out]; omega
end Go.Proofs.YtljoajjlkjjgeaaGreatDoor
namespace Go.Proofs.YtljoajjlkjjgeaaGreatDoor
open Go.RowKit Go.Sort LM Go

theorem infoExpr : (Tryz.prog.info? 36).map (fun i => (i.zero, i.size, i.bytes)) = some (some (.agg #[.int .i64 0, .string ⟨#[]⟩, .int .i64 0, .int .i64 0, .string ⟨#[]⟩, .string ⟨#[]⟩, .slice none 0 0]), 7, 96) := by kernel_rfl
set_option maxHeartbeats 8000000 in
set_option maxRecDepth 100000 in
theorem listExpr_any {q : Nat} {TL : List Tk} {E : Nat} {α : Type} {M : Rule α} (enc : α → List Dt) {G : PSt → Prop} {F : Nat} (hG : Good F G) (hN : Nice M) (hF : F ≤ 20000) (henc : ∀ a, (enc a).length = 7)
  (HM : ∀ s1 w1, G s1 → ParAt q TL E w1 s1 → Calls Tryz.prog 162 #[pP q] w1 (AggTo q TL E w1 (enc (M s1).1) (M s1).2)) (s : PSt) (w : World) (hs : G s) (H : ParAt q TL E w s) :
  Calls Tryz.prog 161 #[pP q, .func (.func 162) #[pP q] #[]] w (OneTo q TL E w (.row 7 ((listS F M s).1.map enc)) (listS F M s).2) := by
 obtain ⟨i0, hi, hz0, hz1, hz2⟩ := info_parts infoExpr
 have HG := hide hG
 have HN := hide hN
 have HMh := hide HM
 have hR : listS F M s = listG M F [(M s).1] (M s).2 := rfl
 have HR := hide hR
 generalize listS F M s = RES at *
 have cq := H.lt
 have hT1 := hN.tr s H.wf
 have HG1 := hide (hG.tr _ _ hs hT1)
 have hl1 := hG.len _ HG1.out
 have HC := hide (fun s1 w1 (h : ParAt q TL E w1 s1) => accept_any [44] w1 h)
 have HM1 := hide (HM s w hs H)
 clear HM hR hG hN hT1 H hs
 unfold OneTo
 unfold AggTo at HM1 HMh
 go_enter Tryz.func161, Tryz.ntmps161
 go_wp2_with fail
 refine HM1.out.mono ?_
 rintro e w1 ⟨vs1, rfl, hv, h1, ht1⟩
 have HV1 := hide hv
 have H1 := hide h1
 have HT1 := hide ht1
 have hs1 := ht1.size
 have hlen1 : vs1.length = 7 := (hv.1).trans (henc _)
 clear h1 ht1 hv HM1
 go_wp2_with (refine wpList_buildOne rfl 34 36 _ rfl 7 vs1 rfl hlen1 (by decide) (by decide) Tryz.underlying34 i0 (.agg #[.int .i64 0, .string ⟨#[]⟩, .int .i64 0, .int .i64 0, .string ⟨#[]⟩, .string ⟨#[]⟩, .slice none 0 0]) hi hz0 hz1 ?_)
 obtain ⟨W, hW⟩ : ∃ W, W = w1.alloc (.cells vs1.toArray 36) := ⟨_, rfl⟩
 have HW := hide hW
 have ho0 : W.ownsRow w.heap.size 36 7 (.slice (some ⟨w1.heap.size, 0, none⟩) 1 1) 1 vs1 := by rw [hW]; exact own_one w1 _ _ _ _ hs1 hlen1
 have HO := hide ho0
 have HV2 := hide (show RepL (Off1 w.heap.size W (.slice (some ⟨w1.heap.size, 0, none⟩) 1 1)) W 7 ([(M s).1].map enc) vs1 from ⟨fun e he => by
  rw [List.map_singleton, List.mem_singleton] at he
  rw [he]; exact henc _, by
  rw [hW, List.map_singleton, List.flatten_singleton]
  have _hb := Joins.below_alloc1 w1 (.cells vs1.toArray 36)
  exact HV1.out.stay (Off1.one (Nat.le_refl _) _ 1 1)⟩)
 have HP2 := hide (show ParAt q TL E W (M s).2 by rw [hW]; exact H1.out.alloc _)
 have HTW := hide (show Turn q w W by rw [hW]; exact HT1.out.alloc _)
 clear hW ho0 H1 HT1 HV1 hlen1
 rw [← HW.out]
 clear HW
 go_loopw [5] (fun v wr => ∃ (n : Nat) (els : List α) (s1 : PSt) (cs : List Value), wr.ownsRow w.heap.size 36 7 v els.length cs ∧ Hid (RepL (Off1 w.heap.size wr v) wr 7 (els.map enc) cs) ∧ Hid (RES = listG M n els s1) ∧ s1.L.length ≤ n ∧ n + els.length ≤ F + 1 ∧ Hid (ParAt q TL E wr s1) ∧ Hid (G s1) ∧ Hid (Turn q w wr)) (fun _ wr => measL wr q)
 case atStart => exact ⟨F, [(M s).1], (M s).2, _, HO.out, HV2, HR, hl1, by simp, HP2, HG1, HTW⟩
 case round =>
  obtain ⟨n, els, s1, cs, hrow, HV, HRn, hln, hne, HP, HGs, HTr⟩ := hrel
  clear HP2 HG1 HTW HR HV2 HO
  have hqr : q < w.heap.size := cq
  have HCs := hide (HC.out s1 wr HP.out)
  have hmeas := hide (meas_eq HP.out)
  cases hb : isT (aheadS 0 s1) [44]
  ·have HE := hide (HRn.out.trans (listG_end hb))
   rw [hb] at HCs
   clear HRn HC HMh
   have HO := hide hrow
   clear hrow
   go_wp2_with fail
   refine HCs.out.mono ?_
   rintro e w2 ⟨rfl, h2, ht2⟩
   have H2 := hide h2
   have HT2 := hide ht2
   clear h2 ht2
   go_wp2_with fail
   go_ret
   rw [HE.out]
   refine ⟨_, rfl, ?_, H2.out, HTr.out.trans HT2.out⟩
   have ho := own_turn HO.out HT2.out cq
   rw [show els.length = (els.map enc).length by simp] at ho
   exact rep_of_row ho (fun g hg => (ho.lt g hg).1) (HV.out.stay ((Off1.turn HT2.out cq).trans (Stay.at (fun _ k => k.1) _)))
  ·obtain ⟨n, rfl⟩ : ∃ m, n = m + 1 := ⟨n - 1, by have := take_lt HP.out.wf hb; omega⟩
   have HE := hide (HRn.out.trans (listG_step hb))
   have hlt := take_lt HP.out.wf hb
   have HTk := hide (take_tr HP.out.wf)
   rw [hb] at HCs
   have HG2 := hide (HG.out.tr _ _ HGs.out HTk.out)
   have HM2 := hide (fun w1 h => HMh.out (takeS s1).2 w1 HG2.out h)
   have HTm := hide (HN.out.tr (takeS s1).2 HTk.out.wf)
   have HG3 := hide (HG.out.tr _ _ HG2.out HTm.out)
   have hlm := HTm.out.len
   generalize (takeS s1).2 = s2 at *
   have HO := hide hrow
   clear hrow HRn HC HMh hb
   go_wp2_with fail
   refine HCs.out.mono ?_
   rintro e w2 ⟨rfl, h2, ht2⟩
   simp only [if_true] at h2
   have H2 := hide h2
   have HT2 := hide (HTr.out.trans ht2)
   have HO2 := hide (own_turn HO.out ht2 cq)
   have HV2 := hide (HV.out.stay (Off1.turn ht2 cq))
   clear h2 ht2 HO HV HTr HCs
   go_wp2_with fail
   refine (HM2.out w2 H2.out).mono ?_
   rintro e w3 ⟨vs3, rfl, hv, h3, ht3⟩
   have HV3V := hide hv
   have H3 := hide h3
   have HT3 := hide (HT2.out.trans ht3)
   have r3 := own_turn HO2.out ht3 cq
   have HV3 := hide (HV2.out.stay (Off1.turn ht3 cq))
   have hs3 := ht3.size
   have hlen3 : vs3.length = 7 := (HV3V.out.1).trans (henc _)
   have h1c := HV3V.out.one_cell
   have HBd := hide (fun g (hg : u5.ownBlock = some g) => (HO2.out.lt g hg).2)
   have hsz22 : w.heap.size ≤ w2.heap.size := HT2.out.size
   clear h3 ht3 hv HM2 HT2 HO2 HV2 H2
   have hsz2 : w.heap.size ≤ w3.heap.size := HT3.out.size
   go_wp2_with (first | (refine wpList_buildOne rfl 34 36 _ rfl 7 vs3 rfl hlen3 (by decide) (by decide) Tryz.underlying34 i0 (.agg #[.int .i64 0, .string ⟨#[]⟩, .int .i64 0, .int .i64 0, .string ⟨#[]⟩, .string ⟨#[]⟩, .slice none 0 0]) hi hz0 hz1 ?_) | (at_builtin; go_must (refine wpList_append_own_at _ rfl _ _ 34 rfl w.heap.size 36 i0 (.agg #[.int .i64 0, .string ⟨#[]⟩, .int .i64 0, .int .i64 0, .string ⟨#[]⟩, .string ⟨#[]⟩, .slice none 0 0]) 7 96 Tryz.underlying34 hi hz0 hz1 hz2 rfl (by decide) _ _ _ rfl (r3.alloc _) ⟨w3.heap.size, 0, none⟩ 1 1 vs3 rfl (by rw [hlen3]) (new_cells _ _ _ _ rfl) h1c (by unfold maxLen; omega) (by omega) (by simp; omega) ?_)))
   intro v4 w4 hown4 hgrow4 _ hat4
   have hsa := hgrow4.size
   have HT4 := hide (Turn.grown (HT3.out.alloc (.cells vs3.toArray 36)) hgrow4 (fun g hg => (r3.lt g hg).1))
   have H4 := hide ((H3.out.alloc (.cells vs3.toArray 36)).grown hgrow4 (fun g hg => by have := (r3.lt g hg).1; omega))
   have hst := Stay.trans (Off1.alloc (base := w.heap.size) (v := u5) (.cells vs3.toArray 36)) (Off1.grow hgrow4 (v' := v4) (by simpa using hat4))
   have HV4 := hide ((HV3.out.stay hst).snoc (e := (enc (M s2).1)) (vs := vs3) (henc _) (HV3V.out.stay ((Off1.news (v := u5) (by omega) HBd.out).trans hst)))
   have HO4 := hide hown4
   have hm4 := hide (meas_eq H4.out)
   clear hgrow4 hat4 hown4 hst HV3 HT3 H3 r3 hlen3 h1c HBd
   go_wp2_with fail
   go_roundw
   case rel =>
    refine ⟨n, els ++ [(M s2).1], _, cs ++ vs3, ?_, ?_, HE, by omega, by simp; omega, H4, HG3, HT4⟩
    ·rw [List.length_append]; exact HO4.out
    ·rw [List.map_append, List.map_singleton]; exact HV4
   case measure =>
    rw [hm4.out, hmeas.out]; omega
end Go.Proofs.YtljoajjlkjjgeaaGreatDoor
