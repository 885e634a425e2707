/-
  Two texts put together: their tokens, and their definitions (pure).
-/
import Derived.Test.YtljoajjlkjjgeaaGreatDoorNTxt2
namespace Go.Proofs.YtljoajjlkjjgeaaGreatDoor
open Go.RowKit Go.Sort LM Go

theorem gap_pre : ∀ (y : List UInt8) (b : Bool), (preS skF b y = y.length ∧ ∀ r, preS skF b (y ++ 10 :: r) = y.length + 1 + gap r) ∨ (preS skF b y < y.length ∧ ∀ r, preS skF b (y ++ 10 :: r) = preS skF b y)
 | [], b => Or.inl ⟨rfl, fun r => gap_line [] b r rfl⟩
 | c :: y, b => by
  cases h : (skF b c).1 with
  | false => exact Or.inr ⟨by rw [preS, h]; simp, fun r => by show preS skF b (c :: (y ++ 10 :: r)) = _; rw [preS, preS, h]; rfl⟩
  | true =>
   rcases gap_pre y (skF b c).2 with ⟨i1, i2⟩ | ⟨i1, i2⟩
   ·exact Or.inl ⟨by rw [preS, if_pos h, i1]; rfl, fun r => by show preS skF b (c :: (y ++ 10 :: r)) = _; rw [preS, if_pos h, i2 r, List.length_cons]; omega⟩
   ·exact Or.inr ⟨by rw [preS, if_pos h, List.length_cons]; omega, fun r => by show preS skF b (c :: (y ++ 10 :: r)) = _; rw [preS, if_pos h, i2 r, preS, if_pos h]⟩
theorem tok_no {l : List UInt8} {e : Int} (h : tokL l = .no e) : e ≠ 0 := by
 rintro rfl
 cases l with
 | nil => cases h
 | cons c r =>
  unfold tokL at h
  simp only at h
  split at h
  ·unfold wordR at h
   split at h <;> cases h
  ·split at h
   ·unfold numR at h
    split at h
    ·cases h
    ·split at h <;> cases h
   ·split at h
    ·unfold litR at h
     split at h <;> cases h
    ·unfold sgnR at h
     split at h <;> cases h
theorem lt_of_lex : ∀ (f : Nat) (l : List UInt8) (a : Nat) (L : List Tk) (p : Nat), l.length < f → lexG f l a = (L, p, 0) → p = a + l.length ∧ LT l (L.map keyT) ∧ ∀ b Kb, LT b Kb → LT (l ++ 10 :: b) (L.map keyT ++ Kb)
 | 0, _, _, _, _, h, _ => absurd h (Nat.not_lt_zero _)
 | f + 1, l, a, L, p, hf, h => by
  have hg : gap l ≤ l.length := preS_le _ _ _
  by_cases hl : l.drop (gap l) = []
  ·have hge : gap l = l.length := by
    have := congrArg List.length hl
    rw [List.length_drop, List.length_nil] at this; omega
   unfold lexG at h
   rw [hl, lexF_nil] at h
   injection h with h1 h2
   injection h2 with h2 h3
   subst h1
   refine ⟨by omega, fun f' a' _ => ⟨[], by unfold lexG; rw [hl, lexF_nil, hge], rfl⟩, fun b Kb hb f' a' hf' => ?_⟩
   have hgb : gap (l ++ 10 :: b) = l.length + 1 + gap b := by
    rcases gap_pre l false with ⟨-, i2⟩ | ⟨i1, -⟩
    ·exact i2 b
    ·have i1' : gap l < l.length := i1
     omega
   rw [List.length_append, List.length_cons] at hf'
   obtain ⟨L', e1, e2⟩ := hb f' (a' + l.length + 1) (by omega)
   refine ⟨L', ?_, by simpa using e2⟩
   unfold lexG at e1 ⊢
   rw [hgb, show (l ++ 10 :: b).drop (l.length + 1 + gap b) = b.drop (gap b) by
    rw [show l.length + 1 + gap b = l.length + (gap b + 1) by omega, List.drop_append, List.drop_eq_nil_of_le (by omega), show l.length + (gap b + 1) - l.length = gap b + 1 by omega]; rfl, show a' + (l.length + 1 + gap b) = a' + l.length + 1 + gap b by omega, e1, List.length_append, List.length_cons]
   congr 2; omega
  ·have hgl : gap l < l.length := by
    rcases Nat.lt_or_ge (gap l) l.length with h' | h'
    ·exact h'
    ·exact absurd (List.drop_eq_nil_of_le h') hl
   unfold lexG at h
   rw [lexF, if_neg hl] at h
   cases ht : tokL (l.drop (gap l)) with
   | no e =>
    rw [ht] at h
    simp only at h
    injection h with h1 h2
    injection h2 with h2 h3
    exact absurd h3 (tok_no ht)
   | ok k t n m =>
    obtain ⟨m0, m1, -⟩ := tok_some ht
    rw [ht] at h
    simp only at h
    obtain ⟨X, hX⟩ : ∃ X, X = lexG f ((l.drop (gap l)).drop m) (a + gap l + m) := ⟨_, rfl⟩
    have hj : joinT [⟨k, t, n, a + gap l⟩] X = (L, p, 0) := by rw [hX]; exact h
    have hX0 : X.2.2 = 0 := by
     cases hq : decide (X.2.2 = 0) with
     | true => exact of_decide_eq_true hq
     | false =>
      have hq := of_decide_eq_false hq
      unfold joinT at hj
      rw [if_neg hq] at hj
      exact absurd (congrArg (fun r : Res => r.2.2) hj) hq
    unfold joinT at hj
    rw [if_pos hX0] at hj
    injection hj with h1 h2
    injection h2 with h2 _
    have hlen : ((l.drop (gap l)).drop m).length = l.length - gap l - m := by rw [List.length_drop, List.length_drop]
    rw [List.length_drop] at m1
    obtain ⟨i1, i2, i3⟩ := lt_of_lex f ((l.drop (gap l)).drop m) (a + gap l + m) X.1 X.2.1 (by rw [hlen]; omega) (by rw [← hX]; exact Prod.ext rfl (Prod.ext rfl hX0))
    have hK : L.map keyT = (k, t, n) :: X.1.map keyT := by rw [← h1]; rfl
    rw [hK]
    refine ⟨by rw [← h2, i1, hlen]; omega, fun f' a' hf' => ?_, fun b Kb hb f' a' hf' => ?_⟩
    ·obtain ⟨f', rfl⟩ : ∃ g, f' = g + 1 := ⟨f' - 1, by omega⟩
     obtain ⟨L', e1, e2⟩ := i2 f' (a' + gap l + m) (by rw [hlen]; omega)
     refine ⟨⟨k, t, n, a' + gap l⟩ :: L', ?_, by rw [List.map_cons, e2]⟩
     unfold lexG at e1 ⊢
     rw [lexF, if_neg hl, ht]
     simp only
     rw [e1, joinT_ok rfl, hlen]
     simp only [List.cons_append, List.nil_append]
     congr 2; omega
    ·have hgb : gap (l ++ 10 :: b) = gap l := by
      rcases gap_pre l false with ⟨i1', -⟩ | ⟨-, i2'⟩
      ·have : gap l = l.length := i1'
       omega
      ·exact i2' b
     have hd1 : (l ++ 10 :: b).drop (gap l) = l.drop (gap l) ++ 10 :: b := by rw [List.drop_append_of_le_length (by omega)]
     have hd2 : (l.drop (gap l) ++ 10 :: b).drop m = (l.drop (gap l)).drop m ++ 10 :: b := by rw [List.drop_append_of_le_length (by rw [List.length_drop]; omega)]
     rw [List.length_append, List.length_cons] at hf'
     obtain ⟨f', rfl⟩ : ∃ g, f' = g + 1 := ⟨f' - 1, by omega⟩
     obtain ⟨L', e1, e2⟩ := i3 b Kb hb f' (a' + gap l + m) (by rw [List.length_append, List.length_cons, hlen]; omega)
     refine ⟨⟨k, t, n, a' + gap l⟩ :: L', ?_, by rw [List.map_cons, e2]; rfl⟩
     unfold lexG at e1 ⊢
     rw [hgb, hd1, lexF, if_neg (by simp), tok_cut hl, ht]
     simp only
     rw [hd2, e1, joinT_ok rfl, List.length_append, List.length_cons, List.length_append, List.length_cons, hlen]
     simp only [List.cons_append, List.nil_append]
     congr 2; omega
theorem lexA_G {l : List UInt8} (h : l.length ≤ 16384) : lexA l = lexG (l.length + 1) l 0 := by
 unfold lexA lexG
 rw [if_neg (by omega), Nat.zero_add]
theorem lexA_end {l : List UInt8} (hl : l.length ≤ 16384) (h : (lexA l).2.2 = 0) : (lexA l).2.1 = l.length := by
 have e := lexA_G hl
 obtain ⟨h1, -, -⟩ := lt_of_lex (l.length + 1) l 0 (lexA l).1 (lexA l).2.1 (Nat.lt_succ_self _) (by rw [← e]; exact Prod.ext rfl (Prod.ext rfl h))
 omega
/-- Both texts' tokens; an error of the second is one of both. -/
theorem lexA_two {a b : List UInt8} (ha : a.length ≤ 2000) (hb : b.length ≤ 2000) (h : (lexA a).2.2 = 0) :
  (lexA (a ++ 10 :: b)).2.2 = (lexA b).2.2 ∧ ((lexA b).2.2 = 0 → (lexA (a ++ 10 :: b)).1.map keyT = (lexA a).1.map keyT ++ (lexA b).1.map keyT) := by
 have e := lexA_G (l := a) (by omega)
 obtain ⟨-, h1, h2⟩ := lt_of_lex (a.length + 1) a 0 (lexA a).1 (lexA a).2.1 (Nat.lt_succ_self _) (by rw [← e]; exact Prod.ext rfl (Prod.ext rfl h))
 have h3 := h2 [] [] LT.nil
 obtain ⟨h4, -⟩ := h3.all (by simp; omega)
 have h5 : (lexA (a ++ [10])).2.2 = 0 := by rw [h4]
 have h6 := (lexA_cat a b ha hb).2 h5
 refine ⟨?_, fun hz => ?_⟩
 ·rw [h6]
  unfold joinT
  split
  ·rename_i hq; rw [show (shiftR (a.length + 1) (lexA b)).2.2 = (lexA b).2.2 from rfl] at hq; rw [hq]
  ·rfl
 ·have eb := lexA_G (l := b) (by omega)
  obtain ⟨-, k1, -⟩ := lt_of_lex (b.length + 1) b 0 (lexA b).1 (lexA b).2.1 (Nat.lt_succ_self _) (by rw [← eb]; exact Prod.ext rfl (Prod.ext rfl hz))
  exact ((h2 b _ k1).all (by simp; omega)).2
/-- The definitions of a text: more tokens behind. -/
theorem textG_0 {F n : Nat} {l : List Df} {s : PSt} (h : s.L = []) : textG F n l s = (l, s) := by
 cases n with
 | zero => rfl
 | succ n => rw [textG, if_pos h]
theorem text_tr (F : Nat) : ∀ (n : Nat) (l : List Df) (s : PSt), Wf s → Tr s (textG F n l s).2
 | 0, _, _, h => Tr.refl h
 | n + 1, l, s, h => by
  unfold textG
  split
  ·exact Tr.refl h
  ·have t1 := (nice_def F).tr s h
   have t2 := (nice_expect [59]).tr _ t1.wf
   exact t1.trans (t2.trans (text_tr F n _ _ t2.wf))
theorem text_fuel (F : Nat) : ∀ (n m : Nat) (l : List Df) (s : PSt), Wf s → s.L.length < n → s.L.length < m → textG F n l s = textG F m l s
 | n + 1, m + 1, l, s, h, hn, hm => by
  by_cases he : s.L = []
  ·rw [textG_0 he, textG_0 he]
  ·have t1 := (nice_def F).tr s h
   have t2 := (nice_expect [59]).tr _ t1.wf
   rw [textG, if_neg he, textG, if_neg he]
   have hlt : (expectS [59] (defS F s).2).L.length < s.L.length := by
    by_cases hd : (defS F s).2.L = []
    ·have h1 := t2.len
     rw [hd] at h1
     have := List.length_pos_iff.2 he
     simp at h1
     have h2 : (expectS [59] (defS F s).2).L = [] := h1
     rw [h2]
     simpa using this
    ·exact Nat.lt_of_lt_of_le (expect_short [59] t1.wf hd) t1.len
   exact text_fuel F n m _ _ t2.wf (by omega) (by omega)
theorem text_acc (F : Nat) : ∀ (n : Nat) (l : List Df) (s : PSt), textG F n l s = (l ++ (textG F n [] s).1, (textG F n [] s).2)
 | 0, l, s => by simp [textG]
 | n + 1, l, s => by
  by_cases he : s.L = []
  ·rw [textG_0 he, textG_0 he]; simp
  ·rw [textG, if_neg he, textG, if_neg he, text_acc F n (l ++ _), text_acc F n ([] ++ _)]
   simp
theorem expect_yes {x : List UInt8} {s : PSt} (h : (expectS x s).b = none) : isT (aheadS 0 s) x = true ∧ s.L ≠ [] ∧ ¬ 32 < s.d ∧ s.b = none ∧ expectS x s = ⟨s.L.tail, s.d, s.b⟩ := by
 cases hc : isT (aheadS 0 s) x
 ·unfold expectS at h
  rw [if_neg (by rw [hc]; simp)] at h
  exact absurd h (fail_ne 51 s)
 ·have hne : s.L ≠ [] := fun e => by
   unfold aheadS at hc
   rw [e] at hc
   simp [isT] at hc
  have hd : ¬ 32 < s.d := fun hd => by
   unfold expectS at h
   rw [if_pos hc, take_eq] at h
   have : (deepS s).b ≠ none := by unfold deepS; rw [if_pos hd]; exact fail_ne _ _
   split at h <;> exact this h
  have e1 : deepS s = s := if_neg hd
  have hk := isT_ne hc
  have e2 : expectS x s = ⟨s.L.tail, s.d, s.b⟩ := by
   unfold expectS
   rw [if_pos hc, take_eq, e1, if_neg hk]
  refine ⟨rfl, hne, hd, ?_, e2⟩
  rw [e2] at h
  exact h
theorem expect_app {x : List UInt8} {s : PSt} (R : List T3) (h : (expectS x s).b = none) : expectS x (appS s R) = appS (expectS x s) R := by
 obtain ⟨h1, h2, h3, h4, h5⟩ := expect_yes h
 rw [h5]
 unfold expectS
 have e1 : deepS (appS s R) = appS s R := if_neg h3
 rw [ahead0_app R h2, if_pos h1, take_eq, e1, ahead0_app R h2, if_neg (isT_ne h1)]
 cases hs : s.L with
 | nil => exact absurd hs h2
 | cons t r => simp [appS, hs]
theorem text_cat (F : Nat) : ∀ (n : Nat) (l : List Df) (s : PSt) (R : List T3) (m : Nat), Wf s → s.L.length < n → s.L.length + R.length < m → (textG F n l s).2.b = none → (textG F n l s).2.L = [] →
  ∃ m', R.length < m' ∧ textG F m l (appS s R) = textG F m' (textG F n l s).1 ⟨R, s.d, none⟩
 | n + 1, l, s, R, m, hw, hn, hm, hb, hL => by
  by_cases he : s.L = []
  ·rw [textG_0 he] at hb ⊢
   refine ⟨m, by omega, ?_⟩
   have hb' : s.b = none := hb
   show textG F m l ⟨s.L ++ R, s.d, s.b⟩ = _
   rw [he, hb']; rfl
  ·obtain ⟨m, rfl⟩ : ∃ k, m = k + 1 := ⟨m - 1, by omega⟩
   have t1 := (nice_def F).tr s hw
   have t2 : Tr _ (expectS [59] (defS F s).2) := (nice_expect [59]).tr _ t1.wf
   have hst : textG F (n + 1) l s = textG F n (l ++ [(defS F s).1]) (expectS [59] (defS F s).2) := by rw [textG, if_neg he]
   rw [hst] at hb hL ⊢
   have t3 := text_tr F n (l ++ [(defS F s).1]) _ t2.wf
   have hb1 : (expectS [59] (defS F s).2).b = none := t3.none hb
   obtain ⟨y1, y2, y3, y4, y5⟩ := expect_yes hb1
   have hloc := (nice_def F).loc s R hw y4 y2
   have hne : (appS s R).L ≠ [] := by show s.L ++ R ≠ []; simp [he]
   rw [textG, if_neg hne, hloc]
   simp only
   rw [expect_app R hb1]
   have hlt : (expectS [59] (defS F s).2).L.length < s.L.length := Nat.lt_of_lt_of_le (expect_short [59] t1.wf y2) t1.len
   obtain ⟨m', h1, h2⟩ := text_cat F n (l ++ [(defS F s).1]) _ R m t2.wf (by omega) (by omega) hb hL
   refine ⟨m', h1, ?_⟩
   rw [h2, t2.d.trans t1.d]
theorem text_two {F : Nat} {K R : List T3} (hK : K.length + R.length < F) (hb : (textS F (P1 K)).2.b = none) (hL : (textS F (P1 K)).2.L = []) :
  textS F (P1 (K ++ R)) = ((textS F (P1 K)).1 ++ (textS F (P1 R)).1, (textS F (P1 R)).2) := by
 have hw : Wf (P1 K) := fun h => absurd rfl h
 have hwR : Wf (P1 R) := fun h => absurd rfl h
 obtain ⟨m', h1, h2⟩ := text_cat F (F + 1) [] (P1 K) R (F + 1) hw (by show K.length < _; omega) (by show K.length + _ < _; omega) hb hL
 have h3 : textS F (P1 (K ++ R)) = textG F m' (textS F (P1 K)).1 (P1 R) := h2
 rw [h3, text_fuel F m' (F + 1) _ (P1 R) hwR h1 (by show R.length < _; omega), text_acc]
 rfl
theorem end_none {s : PSt} (h : (endS s).b = none) : s.L = [] ∧ s.b = none := by
 unfold endS at h
 split at h
 ·rename_i e; exact ⟨e, h⟩
 ·exact absurd h (fail_ne 51 s)
/-- What Parse tells of both texts. -/
theorem par_two {F : Nat} (hF : 16384 ≤ F) {a b : List UInt8} (ha : a.length ≤ 2000) (hb : b.length ≤ 2000) (h : (lexA a).2.2 = 0) (hk : (lexA b).2.2 = 0) (ok : (endS (parR F (lexA a)).2).b = none) :
  parR F (lexA (a ++ 10 :: b)) = ((parR F (lexA a)).1 ++ (parR F (lexA b)).1, (parR F (lexA b)).2) := by
 obtain ⟨-, h2⟩ := lexA_two ha hb h
 obtain ⟨o1, o2⟩ := end_none ok
 have la := (lexA_val a).2.2
 have lb := (lexA_val b).2.2
 have := text_two (F := F) (K := (lexA a).1.map keyT) (R := (lexA b).1.map keyT) (by rw [List.length_map, List.length_map]; omega) o2 o1
 unfold parR beg
 rw [h2 hk]
 exact this
end Go.Proofs.YtljoajjlkjjgeaaGreatDoor
