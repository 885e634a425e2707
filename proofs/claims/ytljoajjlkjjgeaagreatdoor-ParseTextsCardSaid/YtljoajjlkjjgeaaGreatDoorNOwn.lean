/-
  Parse, and that its definitions lie in a row of the call's own.
-/
import Derived.Test.YtljoajjlkjjgeaaGreatDoorMW2
import Derived.Test.YtljoajjlkjjgeaaGreatDoorMD2
import Derived.Deep.Onto
namespace Go.Proofs.YtljoajjlkjjgeaaGreatDoor
open Go.RowKit Go.Sort LM Go

/-- A row of the call's own that reads as these definitions. -/
def OwnDefs (els : List Df) (w w1 : World) (v : Value) : Prop := ∃ cs, w1.ownsRow w.heap.size 43 25 v els.length cs ∧ RepL (Off1 w.heap.size w1 v) w1 25 (els.map Df.enc) cs
def RowTo (q : Nat) (TL : List Tk) (E : Nat) (w : World) (els : List Df) (s : PSt) (e : Ending) (w' : World) : Prop := ∃ v cs, e = .returned v ∧ w'.ownsRow w.heap.size 43 25 v els.length cs ∧ RepL (Off1 w.heap.size w' v) w' 25 (els.map Df.enc) cs ∧ ParAt q TL E w' s ∧ Turn q w w'
set_option maxHeartbeats 8000000 in
set_option maxRecDepth 100000 in
theorem textR_any {q : Nat} {TL : List Tk} {E F : Nat} (hF : F ≤ 19000) (hT : TokOk TL) (s : PSt) (w : World) (hs : Ok F (F + 1) s) (H : ParAt q TL E w s) :
    Calls Tryz.prog 42 #[pP q] w (RowTo q TL E w (textS F s).1 (textS F s).2) := by
  obtain ⟨i0, hi, hz0, hz1, hz2⟩ := info_parts infoDef
  have HD := hide (fun s1 w1 (ok : Ok F (F + 1) s1) (h : ParAt q TL E w1 s1) => def_ok hF hT s1 w1 ok h)
  have HE := hide (fun s1 w1 (h : ParAt q TL E w1 s1) => expect_any [59] w1 h)
  have HG := hide (good_ok F (F + 1))
  have HNd := hide (nice_def F)
  have HR := hide (show textS F s = textG F (F + 1) [] s from rfl)
  have HG1 := hide hs
  have hl1 := hs.len
  have HP1 := hide H
  have cq := H.lt
  generalize textS F s = RES at *
  have hqq : q < w.heap.size := cq
  clear hs H hT
  unfold RowTo
  unfold AggTo at HD
  unfold StepTo at HE
  go_enter Tryz.func42, Tryz.ntmps42
  go_wp2_with fail
  go_loopw [3] (fun v wr => ∃ (n : Nat) (els : List Df) (s1 : PSt) (cs : List Value), wr.ownsRow w.heap.size 43 25 v els.length cs ∧ Hid (RepL (Off1 w.heap.size wr v) wr 25 (els.map Df.enc) cs) ∧ Hid (RES = textG F n els s1) ∧ s1.L.length < n ∧ n + els.length ≤ F + 1 ∧ Hid (ParAt q TL E wr s1) ∧ Hid (Ok F (F + 1) s1) ∧ Hid (Turn q w wr)) (fun _ wr => measL wr q)
  case atStart => exact ⟨F + 1, [], s, [], World.ownsRow_nil _ _ _ _, hide (RepL.nil _ _ _), HR, by omega, by simp, HP1, HG1, hide (Turn.refl q w)⟩
  case round =>
    obtain ⟨n, els, s1, cs, hrow, HV, HRn, hln, hne, HP, HGs, HTr⟩ := hrel
    clear HP1 HG1 HR
    obtain ⟨n, rfl⟩ : ∃ m, n = m + 1 := ⟨n - 1, by omega⟩
    have hmeas := hide (meas_eq HP.out)
    obtain ⟨A, cap, K, hK, -, -, -, -, hbx⟩ := HP.out.ex
    obtain ⟨c0, c1, c2, c3, c4, cf, cq2⟩ := blk_cell hbx
    have hKl : K.length = s1.L.length := by rw [← hK]; simp
    by_cases hb : s1.L = []
    · have HEnd := hide (HRn.out.trans (textG_end hb))
      rw [hKl, hb] at c0
      simp only [List.length_nil] at c0
      clear HRn HD HE hK hbx c1 c2 c3 c4
      have HO := hide hrow
      clear hrow
      go_wp2_with fail
      go_ret
      rw [HEnd.out]
      exact ⟨_, cs, rfl, HO.out, HV.out, HP.out, HTr.out⟩
    · have HStep := hide (HRn.out.trans (textG_step hb))
      have hpos : 0 < K.length := by rw [hKl]; exact List.length_pos_iff.2 hb
      have hposI : (0 : Int) < (K.length : Nat) := by omega
      have hD := hide (HD.out s1 wr HGs.out HP.out)
      have HTd := hide (HNd.out.tr s1 HP.out.wf)
      have HG2 := hide (HG.out.tr _ _ HGs.out HTd.out)
      have hTe := tr_expect [59] HTd.out.wf
      have HG3 := hide (HG.out.tr _ _ HG2.out hTe)
      have hlt : (expectS [59] (defS F s1).2).L.length < s1.L.length := by
        by_cases he : (defS F s1).2.L = []
        · have h1 := hTe.len
          rw [he] at h1
          have := List.length_pos_iff.2 hb
          simp at h1
          rw [h1]
          simpa using this
        · exact Nat.lt_of_lt_of_le (expect_short [59] HTd.out.wf he) HTd.out.len
      have HE2 := hide (HE.out (defS F s1).2)
      have hencl := enc_len (defS F s1).1.pl
      have hdl : (defS F s1).1.enc.length = 25 := def_len _
      generalize defS F s1 = D at *
      clear HRn HD HE hK hbx c1 c2 c3 c4 hTe HTd hencl
      generalize K.length = kn at *
      have HO := hide hrow
      clear hrow
      go_wp2_with fail
      refine hD.out.mono ?_
      rintro e w3 ⟨vs3, rfl, hv, h3, ht3⟩
      have HV3V := hide hv
      have H3 := hide h3
      have HT3 := hide (HTr.out.trans ht3)
      have r3 := own_turn HO.out ht3 cq
      have HV3 := hide (HV.out.stay (Off1.turn ht3 cq))
      have hs3 := ht3.size
      have hlen3 : vs3.length = 25 := HV3V.out.1.trans hdl
      have h1c := HV3V.out.one_cell
      have HBd := hide (fun g (hg : u3.ownBlock = some g) => (HO.out.lt g hg).2)
      have hszr : w.heap.size ≤ wr.heap.size := HTr.out.size
      clear h3 ht3 hv hD HTr HO HV
      have hsz2 : w.heap.size ≤ w3.heap.size := HT3.out.size
      go_wp2_with (first | (refine wpList_buildOne rfl 80 43 _ rfl 25 vs3 rfl hlen3 (by decide) (by decide) Tryz.underlying80 i0 (.agg #[.int .i64 0, .string ⟨#[]⟩, .slice none 0 0, .int .i64 0, .int .i64 0, .int .i64 0, .slice none 0 0, .int .i64 0, .string ⟨#[]⟩, .slice none 0 0, .int .i64 0, .string ⟨#[]⟩, .int .i64 0, .int .i64 0, .string ⟨#[]⟩, .string ⟨#[]⟩, .slice none 0 0, .slice none 0 0, .slice none 0 0, .slice none 0 0, .slice none 0 0, .slice none 0 0, .int .i64 0, .string ⟨#[]⟩, .slice none 0 0]) hi hz0 hz1 ?_) | (at_builtin; go_must (refine wpList_append_own_at _ rfl _ _ 80 rfl w.heap.size 43 i0 (.agg #[.int .i64 0, .string ⟨#[]⟩, .slice none 0 0, .int .i64 0, .int .i64 0, .int .i64 0, .slice none 0 0, .int .i64 0, .string ⟨#[]⟩, .slice none 0 0, .int .i64 0, .string ⟨#[]⟩, .int .i64 0, .int .i64 0, .string ⟨#[]⟩, .string ⟨#[]⟩, .slice none 0 0, .slice none 0 0, .slice none 0 0, .slice none 0 0, .slice none 0 0, .slice none 0 0, .int .i64 0, .string ⟨#[]⟩, .slice none 0 0]) 25 408 Tryz.underlying80 hi hz0 hz1 hz2 rfl (by decide) _ _ _ rfl (r3.alloc _) ⟨w3.heap.size, 0, none⟩ 1 1 vs3 rfl (by rw [hlen3]) (new_cells _ _ _ _ rfl) h1c (by unfold maxLen; omega) (by omega) (by simp; omega) ?_)))
      intro v4 w4 hown4 hgrow4 _ hat4
      have HT4 := hide (Turn.grown (HT3.out.alloc (.cells vs3.toArray 43)) hgrow4 (fun g hg => (r3.lt g hg).1))
      have H4 := hide ((H3.out.alloc (.cells vs3.toArray 43)).grown hgrow4 (fun g hg => by have := (r3.lt g hg).1; omega))
      have hst := Stay.trans (Off1.alloc (base := w.heap.size) (v := u3) (.cells vs3.toArray 43)) (Off1.grow hgrow4 (v' := v4) (by simpa using hat4))
      have HV4 := hide ((HV3.out.stay hst).snoc (e := D.1.enc) (vs := vs3) hdl (HV3V.out.stay ((Off1.news (v := u3) (by omega) HBd.out).trans hst)))
      have HO4 := hide hown4
      clear hgrow4 hat4 hown4 hst HV3 HT3 H3 r3 hlen3 h1c HBd
      go_wp2_with fail
      refine (HE2.out w4 H4.out).mono ?_
      rintro e w5 ⟨rfl, h5, ht5⟩
      have H5 := hide h5
      have HT5 := hide (HT4.out.trans ht5)
      have HO5 := hide (own_turn HO4.out ht5 cq)
      have HV5 := hide (HV4.out.stay (Off1.turn ht5 cq))
      have hm5 := hide (meas_eq H5.out)
      clear h5 ht5 HO4 HV4 H4 HT4 HE2
      go_wp2_with fail
      go_roundw
      case rel =>
        refine ⟨n, els ++ [D.1], _, cs ++ vs3, ?_, ?_, HStep, by omega, by simp; omega, H5, HG3, HT5⟩
        · rw [List.length_append]; exact HO5.out
        · rw [List.map_append, List.map_singleton]; exact HV5
      case measure =>
        rw [hm5.out, hmeas.out]; exact hlt
set_option maxHeartbeats 8000000 in
set_option maxRecDepth 100000 in
theorem wholeR {T : PSt} {els : List Df} (s : ByteArray) (w : World) (hL : Lw w) (hs : s.size ≤ 140737488355328) (X : Res) (hX : X = lexA s.data.toList)
    (HM : ∀ q w1, ParAt q X.1 X.2.1 w1 (beg X) → Calls Tryz.prog 42 #[pP q] w1 (RowTo q X.1 X.2.1 w1 els T)) :
    Calls Tryz.prog 41 #[.string s, .func (.func 42) #[] #[]] w (WholeO X T (.slice none 0 0) (OwnDefs els w) w) := by
  have HLx := hide (lex_anyC s w hL hs)
  have HMh := hide HM
  rw [← hX] at HLx
  have hEnd : endS T = if T.L = [] then T else failS 51 T := rfl
  have HEnd := hide hEnd
  clear hX HM hs hL hEnd
  have hqq : w.heap.size ≤ w.heap.size := Nat.le_refl _
  unfold RowTo at HMh
  unfold WholeO
  generalize endS T = TE at *
  go_enter Tryz.func41, Tryz.ntmps41
  go_wp2_with fail
  refine HLx.out.mono ?_
  rintro e w1 ⟨⟨A, c, rfl, hA, h1, h2⟩, hb⟩
  have HB1 := hide hb
  have hsz1 := hb.size
  have HP := hide (par_beg hA h1 h2)
  by_cases he : X.2.2 = 0
  · have hne : (X.2.2 != 0) = false := by rw [he]; rfl
    obtain ⟨W, hW⟩ : ∃ W, W = w1.alloc (.cells #[.slice A X.1.length c, .int .i64 (X.2.1 : Nat), .int .i64 1, .int .i64 0, .int .i64 0] 125) := ⟨_, rfl⟩
    have HW := hide hW
    have HBW := hide (show Below w.heap.size w W by rw [hW]; exact hb.trans ((Joins.below_alloc1 w1 _).mono hsz1))
    have hszW : w.heap.size ≤ W.heap.size := HBW.out.size
    have HP := hide (show ParAt w1.heap.size X.1 X.2.1 W (beg X) by rw [hW]; exact HP.out)
    have HM := hide (HMh.out _ _ HP.out)
    have hqW : w1.heap.size < W.heap.size := HP.out.lt
    clear hb hA hW HMh HLx HB1 h1 h2
    go_wp2_with (first | rw [← HW.out])
    refine HM.out.mono ?_
    rintro e w2 ⟨v, cs, rfl, ho, hv, h3, ht3⟩
    have HV := hide (show OwnDefs els w w2 v from ⟨cs, ho.mono hszW, hv.stay (Stay.at (fun _ k => ⟨Nat.le_trans hszW k.1, k.2⟩) _)⟩)
    clear ho
    have HT := hide ht3
    have HP2 := hide h3
    have hB2 := HBW.out.trans (ht3.below hsz1 hszW)
    have HB2 := hide hB2
    obtain ⟨A2, cap, K, hK, -, -, -, -, hbx⟩ := h3.ex
    obtain ⟨c0, c1, c2, c3, c4, cf, cq2⟩ := blk_cell hbx
    have hKl : K.length = T.L.length := by rw [← hK]; simp
    have hwf := h3.wf
    have her := h3.er
    have HF := hide (fail_any (q := w1.heap.size) (TL := X.1) (E := X.2.1) (s := T) 51 (by decide) w2 h3)
    unfold StepTo at HF
    by_cases hb : T.L = []
    · rw [if_pos hb] at HEnd
      rw [hKl, hb] at c0
      simp only [List.length_nil] at c0
      have HE := HEnd.out
      subst HE
      cases hTb : TE.b with
      | none =>
        rw [hTb] at c4
        simp only [errOf] at c4
        clear hK hbx c1 c2 c3 h3 ht3 hv HF hB2 HM
        have HTb := hide hTb
        clear hTb her hwf
        go_wp2_with fail
        go_ret3
        exact ⟨HB2.out, Or.inr (Or.inl ⟨he, HTb.out, v, rfl, HV.out⟩)⟩
      | some x =>
        obtain ⟨z, k⟩ := x
        have hz : (z != 0) = true := by simpa using her z k hTb
        rw [hTb] at c3 c4
        simp only [errOf, atOf] at c3 c4
        clear hK hbx c1 c2 h3 ht3 hv HF hB2 HM
        have HTb := hide hTb
        clear hTb her hwf
        go_wp2_with fail
        go_quiet (fail)
        go_wp2_with fail
        go_ret3
        exact ⟨HB2.out.trans (Joins.below_draws _ _ _), Or.inr (Or.inr ⟨he, z, k, HTb.out, rfl⟩)⟩
    · have hTb : T.b = none := Classical.byContradiction fun k => hb (hwf k)
      rw [if_neg hb] at HEnd
      have hpos : (0 : Int) < (K.length : Nat) := by have := List.length_pos_iff.2 hb; omega
      have hfb : (failS 51 T).b = some (51, T.L.length) := by unfold failS; rw [hTb]
      have HFb := hide (HEnd.out ▸ hfb : TE.b = some (51, T.L.length))
      have hfb := hide hfb
      generalize failS 51 T = T2 at *
      clear hK hbx c1 c2 c3 c4 h3 ht3 hv hB2 HM HEnd
      generalize K.length = kn at *
      go_wp2_with fail
      refine HF.out.mono ?_
      rintro e w3 ⟨rfl, h5, ht5⟩
      have HB3 := hide (HB2.out.trans (ht5.below hsz1 (Nat.le_trans hszW HT.out.size)))
      obtain ⟨A3, cap3, K3, -, -, -, -, -, hbx⟩ := h5.ex
      obtain ⟨d0, d1, d2, d3, d4, df, dq2⟩ := blk_cell hbx
      rw [hfb.out] at d3 d4
      simp only [errOf, atOf] at d3 d4
      have hz : ((51 : Int) != 0) = true := by decide
      clear hbx ht5 h5 HF c0 d0 d1 d2 hb hTb
      go_wp2_with fail
      go_quiet (fail)
      go_wp2_with fail
      go_ret3
      exact ⟨HB3.out.trans (Joins.below_draws _ _ _), Or.inr (Or.inr ⟨he, 51, _, HFb.out, rfl⟩)⟩
  · have hne : (X.2.2 != 0) = true := by simpa using he
    clear hb hA HMh HLx HP h1 h2 HEnd
    go_wp2_with fail
    go_ret3
    exact ⟨HB1.out, Or.inl ⟨he, rfl⟩⟩
set_option maxHeartbeats 2000000 in
theorem parseR_any {F : Nat} (hF : F ≤ 19000) (h16 : 16384 ≤ F) (s : ByteArray) (w : World) (hL : Lw w) (hs : s.size ≤ 140737488355328) :
    Calls Tryz.prog 24 #[.string s] w (WholeO (lexA s.data.toList) (parR F (lexA s.data.toList)).2 (.slice none 0 0) (OwnDefs (parR F (lexA s.data.toList)).1 w) w) := by
  have hlen := Nat.le_trans (lex_few s) h16
  have HW := hide (wholeR (T := (parR F (lexA s.data.toList)).2) (els := (parR F (lexA s.data.toList)).1) s w hL hs _ rfl (fun q w1 h => textR_any hF (tok_ok _) _ w1 (ok_beg hlen hF) h))
  generalize (parR F (lexA s.data.toList)) = PR at *
  generalize lexA s.data.toList = X at *
  unfold WholeO at HW ⊢
  clear hL hs hlen
  go_enter Tryz.func24, Tryz.ntmps24
  go_wp2_with fail
  refine HW.out.mono ?_
  rintro e w1 ⟨hb, ⟨h, rfl⟩ | ⟨h, h2, v, rfl, hv⟩ | ⟨h, c, k, h2, rfl⟩⟩
  · have HB := hide hb
    have HH := hide h
    clear hb h HW
    go_wp2_with fail
    go_ret3
    exact ⟨HB.out, Or.inl ⟨HH.out, rfl⟩⟩
  · have HB := hide hb
    have HH := hide h
    have H2 := hide h2
    have HV := hide hv
    clear hb h h2 hv HW
    go_wp2_with fail
    go_ret3
    exact ⟨HB.out, Or.inr (Or.inl ⟨HH.out, H2.out, v, rfl, HV.out⟩)⟩
  · have HB := hide hb
    have HH := hide h
    have H2 := hide h2
    clear hb h h2 HW
    go_wp2_with fail
    go_ret3
    exact ⟨HB.out, Or.inr (Or.inr ⟨HH.out, c, k, H2.out, rfl⟩)⟩
end Go.Proofs.YtljoajjlkjjgeaaGreatDoor
