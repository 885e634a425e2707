/-
  Tokens written down with gaps between are read again; two texts put together: no program in it.
-/
import Derived.Test.YteaaloejjafhlaaDoorLTok
namespace Go.Proofs.YteaaloejjafhlaaDoor
namespace LM

theorem sk_sep {b : Bool} {c : UInt8} (h : sepB c = true) : (skF b c).1 = true := by
  rcases sep_cases h with rfl | rfl | rfl | rfl <;> cases b <;> rfl
theorem sk_no {c : UInt8} (h : sepB c = false) : skF false c = (false, false) := by
  unfold sepB at h
  simp at h
  obtain ⟨⟨⟨h1, h2⟩, h3⟩, h4⟩ := h
  unfold skF skB
  rw [if_neg h4, if_neg h3]
  simp [h1, h2, h3]
theorem sk_blank {c : UInt8} (h : c = 32 ∨ c = 9 ∨ c = 10) : skF false c = (true, false) := by
  rcases h with rfl | rfl | rfl <;> rfl
/-- A gap: whatever stands behind it, all of it is passed. -/
def GapOk (g : List UInt8) : Prop := ∀ r, gap (g ++ r) = g.length + gap r
def blankB (c : UInt8) : Bool := c == 32 || c == 9 || c == 10
theorem gap_blank : ∀ (g : List UInt8), g.all blankB = true → GapOk g
  | [], _, r => by simp
  | c :: g, h, r => by
    rw [List.all_cons, Bool.and_eq_true] at h
    have hc : c = 32 ∨ c = 9 ∨ c = 10 := by
      have := h.1; unfold blankB at this; simp at this
      rcases this with (h | h) | h <;> simp [h]
    have ih : preS skF false (g ++ r) = g.length + gap r := gap_blank g h.2 r
    show preS skF false (c :: (g ++ r)) = _
    rw [preS, sk_blank hc, if_pos rfl]
    simp only
    rw [ih, List.length_cons]; omega
theorem gap_line : ∀ (g : List UInt8) (b : Bool) (r : List UInt8), g.all sepB = true → preS skF b (g ++ 10 :: r) = g.length + 1 + gap r
  | [], b, r, _ => by
    show preS skF b (10 :: r) = _
    have e : skF b 10 = (true, false) := by cases b <;> rfl
    rw [preS, e, if_pos rfl]
    show preS skF false r + 1 = 0 + 1 + preS skF false r
    omega
  | c :: g, b, r, h => by
    rw [List.all_cons, Bool.and_eq_true] at h
    have ih := gap_line g (skF b c).2 r h.2
    show preS skF b (c :: (g ++ 10 :: r)) = _
    rw [preS, if_pos (sk_sep h.1), ih, List.length_cons]; omega
theorem gap_lineOk {g : List UInt8} (h : g.all sepB = true) : GapOk (g ++ [10]) := fun r => by
  rw [List.append_assoc]
  show preS skF false (g ++ 10 :: r) = _
  rw [gap_line g false r h]; simp
theorem tok_gap {c : UInt8} {r : List UInt8} {k n : Int} {t : List UInt8} {m : Nat} (h : tokL (c :: r) = .ok k t n m) : gap (c :: r) = 0 := by
  cases hs : sepB c with
  | false =>
    show preS skF false (c :: r) = 0
    rw [preS, sk_no hs]; simp
  | true =>
    exfalso
    have hsg : sgnL (c :: r) = none := by
      unfold sgnL
      rw [List.find?_eq_none]
      intro g hg hp
      obtain ⟨hne, hf⟩ := sgn_facts g hg
      cases g with
      | nil => exact hne rfl
      | cons a b =>
        have h1 := (hf a List.mem_cons_self).1
        have h2 : (a == c) = true := by
          have : (a == c && b.isPrefixOf r) = true := hp
          rw [Bool.and_eq_true] at this; exact this.1
        have : a = c := by simpa using h2
        rw [this, hs] at h1; cases h1
    unfold tokL at h
    simp only at h
    have e1 : lowP c = false := by rcases sep_cases hs with rfl | rfl | rfl | rfl <;> rfl
    have e2 : digP c = false := by rcases sep_cases hs with rfl | rfl | rfl | rfl <;> rfl
    have e3 : ¬ c = 34 := by rcases sep_cases hs with rfl | rfl | rfl | rfl <;> decide
    rw [e1, e2, if_neg (by simp), if_neg (by simp), if_neg e3] at h
    unfold sgnR at h
    rw [hsg] at h
    cases h
/-- A token that stands somewhere. -/
def ValT (x : Tk) : Prop := ∃ l m, tokL l = .ok x.k x.t x.n m
abbrev shT (x : Tk) : List UInt8 := showT x.k x.t x.n
/-- A token but for its place. -/
abbrev keyT (x : Tk) : Int × List UInt8 × Int := (x.k, x.t, x.n)
/-- Tokens written down, behind each a gap. -/
def glue (G : Nat → List UInt8) : Nat → List Tk → List UInt8
  | _, [] => []
  | i, x :: r => shT x ++ (G i ++ glue G (i + 1) r)
theorem valT_read {x : Tk} (h : ValT x) {c : UInt8} (r : List UInt8) (hc : sepB c = true) : tokL (shT x ++ c :: r) = .ok x.k x.t x.n (shT x).length ∧ 0 < (shT x).length ∧ gap (shT x ++ c :: r) = 0 := by
  obtain ⟨l, m, e⟩ := h
  obtain ⟨h1, h2, h3, -, -, -, -, h4, -⟩ := tok_some e
  have hm : (shT x).length = m := by
    show (showT x.k x.t x.n).length = m
    rw [← h3, List.length_take]; omega
  have h5 := h4 c r hc
  refine ⟨by rw [hm]; exact h5, by omega, ?_⟩
  cases hs : shT x with
  | nil => rw [hs] at hm; simp at hm; omega
  | cons a b =>
    have h6 : tokL (shT x ++ c :: r) = .ok x.k x.t x.n m := h5
    rw [hs] at h6
    exact tok_gap h6
theorem glue_gap {G : Nat → List UInt8} (hG : ∀ i, ∃ c r, G i = c :: r ∧ sepB c = true) (i : Nat) (L : List Tk) (hL : ∀ x ∈ L, ValT x) : gap (glue G i L) = 0 := by
  cases L with
  | nil => rfl
  | cons x r =>
    obtain ⟨c, q, e, hc⟩ := hG i
    show gap (shT x ++ (G i ++ glue G (i + 1) r)) = 0
    rw [e, List.cons_append]
    exact (valT_read (hL x List.mem_cons_self) _ hc).2.2
theorem lexF_nil (f a : Nat) : lexF f [] a = ([], a, 0) := by cases f <;> simp [lexF]
theorem glue_lex {G : Nat → List UInt8} (hG : ∀ i, ∃ c r, G i = c :: r ∧ sepB c = true) (hO : ∀ i, GapOk (G i)) : ∀ (L : List Tk) (i f a : Nat), (∀ x ∈ L, ValT x) → (glue G i L).length < f →
    ∃ M, lexF f (glue G i L) a = (M, a + (glue G i L).length, 0) ∧ M.map keyT = L.map keyT
  | [], i, f, a, _, _ => ⟨[], by rw [show glue G i [] = [] from rfl, lexF_nil]; rfl, rfl⟩
  | x :: L, i, f, a, hL, hf => by
    obtain ⟨c, q, e, hc⟩ := hG i
    have hO' := hO i
    have hx := hL x List.mem_cons_self
    have hL' : ∀ y ∈ L, ValT y := fun y hy => hL y (List.mem_cons_of_mem _ hy)
    have hg0 := glue_gap hG (i + 1) L hL'
    have eg : glue G i (x :: L) = shT x ++ (G i ++ glue G (i + 1) L) := rfl
    obtain ⟨t1, t2, t3⟩ := valT_read hx (q ++ glue G (i + 1) L) hc
    have eg2 : shT x ++ (G i ++ glue G (i + 1) L) = shT x ++ c :: (q ++ glue G (i + 1) L) := by rw [e]; rfl
    rw [eg] at hf ⊢
    simp only [List.length_append] at hf ⊢
    obtain ⟨f, rfl⟩ : ∃ g, f = g + 1 := ⟨f - 1, by omega⟩
    obtain ⟨M, ih, hk⟩ := glue_lex hG hO L (i + 1) f (a + (shT x).length + (G i).length) hL' (by omega)
    have hne : shT x ++ (G i ++ glue G (i + 1) L) ≠ [] := by intro h; have := congrArg List.length h; simp only [List.length_append, List.length_nil] at this; omega
    rw [lexF, if_neg hne, eg2, t1]
    simp only
    rw [← eg2, List.drop_left, hO', hg0, Nat.add_zero, List.drop_left, ih]
    refine ⟨⟨x.k, x.t, x.n, a⟩ :: M, ?_, ?_⟩
    · unfold joinT
      rw [if_pos rfl]
      show (_, _, _) = _
      rw [show a + (shT x).length + (G i).length + (glue G (i + 1) L).length = a + ((shT x).length + ((G i).length + (glue G (i + 1) L).length)) by omega]
      rfl
    · rw [List.map_cons, List.map_cons, hk]
/-- A gap, and tokens with gaps behind: these tokens. -/
theorem glue_all {G : Nat → List UInt8} (hG : ∀ i, ∃ c r, G i = c :: r ∧ sepB c = true) (hO : ∀ i, GapOk (G i)) {g : List UInt8} (hg : GapOk g) (L : List Tk) (hL : ∀ x ∈ L, ValT x) (hs : (g ++ glue G 0 L).length ≤ 16384) :
    ∃ M p, lexA (g ++ glue G 0 L) = (M, p, 0) ∧ M.map keyT = L.map keyT := by
  have h0 := glue_gap hG 0 L hL
  unfold lexA
  rw [if_neg (by omega), hg, h0]
  simp only [Nat.add_zero]
  rw [List.drop_left]
  obtain ⟨M, h1, h2⟩ := glue_lex hG hO L 0 ((g ++ glue G 0 L).length + 1) g.length hL (by simp only [List.length_append]; omega)
  exact ⟨M, _, h1, h2⟩
/-- What all tokens' texts have together. -/
def lenT (L : List Tk) : Nat := (L.map fun x => (shT x).length).sum
theorem lexF_val : ∀ (f : Nat) (l : List UInt8) (a : Nat), (∀ x ∈ (lexF f l a).1, ValT x) ∧ lenT (lexF f l a).1 ≤ l.length ∧ (lexF f l a).1.length ≤ l.length
  | 0, l, a => ⟨fun x h => by simp [lexF] at h, by simp [lexF, lenT], by simp [lexF]⟩
  | f + 1, l, a => by
    by_cases hl : l = []
    · rw [lexF, if_pos hl]
      exact ⟨fun x h => by simp at h, by simp [lenT], by simp⟩
    rw [lexF, if_neg hl]
    cases ht : tokL l with
    | no z => exact ⟨fun x h => by simp at h, by simp [lenT], by simp⟩
    | ok k t n m =>
      simp only
      obtain ⟨i1, i2, i3⟩ := lexF_val f ((l.drop m).drop (gap (l.drop m))) (a + m + gap (l.drop m))
      obtain ⟨h1, h2, h3, -⟩ := tok_some ht
      rw [List.length_drop, List.length_drop] at i2 i3
      have hsh : (showT k t n).length = m := by rw [← h3, List.length_take]; omega
      unfold joinT
      split
      · refine ⟨fun x hx => ?_, ?_, ?_⟩
        · rw [List.mem_append, List.mem_singleton] at hx
          rcases hx with rfl | hx
          · exact ⟨l, m, ht⟩
          · exact i1 x hx
        · unfold lenT at i2 ⊢
          rw [List.map_append, List.sum_append]
          simp only [List.map_cons, List.map_nil, List.sum_cons, List.sum_nil]
          have : (shT ⟨k, t, n, a⟩).length = m := hsh
          omega
        · simp only [List.length_append, List.length_singleton]; omega
      · exact ⟨fun x h => by simp at h, by simp [lenT], by simp⟩
theorem lexA_val (l : List UInt8) : (∀ x ∈ (lexA l).1, ValT x) ∧ lenT (lexA l).1 ≤ l.length ∧ (lexA l).1.length ≤ l.length := by
  unfold lexA
  split
  · exact ⟨fun x h => by simp at h, by simp [lenT], by simp⟩
  · obtain ⟨h1, h2, h3⟩ := lexF_val (l.length + 1) (l.drop (gap l)) (gap l)
    rw [List.length_drop] at h2 h3
    exact ⟨h1, by omega, by omega⟩
theorem glue_len {G : Nat → List UInt8} {B : Nat} (hB : ∀ i, (G i).length ≤ B) : ∀ (L : List Tk) (i : Nat), (glue G i L).length ≤ lenT L + L.length * B
  | [], i => by simp [glue]
  | x :: L, i => by
    have := glue_len hB L (i + 1)
    have := hB i
    have e : lenT (x :: L) = (shT x).length + lenT L := by unfold lenT; rw [List.map_cons, List.sum_cons]
    show (shT x ++ (G i ++ glue G (i + 1) L)).length ≤ _
    rw [e]
    simp only [List.length_append, List.length_cons, Nat.add_mul]; omega
theorem glue_snoc (G : Nat → List UInt8) : ∀ (L : List Tk) (i : Nat) (x : Tk), glue G i (L ++ [x]) = glue G i L ++ (shT x ++ G (i + L.length))
  | [], i, x => by simp [glue]
  | y :: L, i, x => by
    have := glue_snoc G L (i + 1) x
    show shT y ++ (G i ++ glue G (i + 1) (L ++ [x])) = _
    rw [this, show i + 1 + L.length = i + (y :: L).length by simp; omega]
    show _ = (shT y ++ (G i ++ glue G (i + 1) L)) ++ _
    simp only [List.append_assoc]

/-! Two texts. -/
def shiftT (c : Nat) (x : Tk) : Tk := ⟨x.k, x.t, x.n, x.at' + c⟩
def shiftR (c : Nat) (x : Res) : Res := (x.1.map (shiftT c), x.2.1 + c, x.2.2)
theorem shift_join (c : Nat) (L : List Tk) (x : Res) : shiftR c (joinT L x) = joinT (L.map (shiftT c)) (shiftR c x) := by
  obtain ⟨a, b, z⟩ := x
  unfold joinT shiftR
  simp only
  by_cases h : z = 0
  · simp [h]
  · simp [h]
theorem lexF_shift (c : Nat) : ∀ (f : Nat) (l : List UInt8) (a : Nat), lexF f l (a + c) = shiftR c (lexF f l a)
  | 0, l, a => rfl
  | f + 1, l, a => by
    unfold lexF
    by_cases hl : l = []
    · rw [if_pos hl, if_pos hl]; rfl
    rw [if_neg hl, if_neg hl]
    cases tokL l with
    | no z => rfl
    | ok k t n m =>
      simp only
      rw [shift_join, ← lexF_shift c f, show a + c + m + gap (l.drop m) = a + m + gap (l.drop m) + c by omega]
      rfl
theorem lexF_fuel : ∀ (f g : Nat) (l : List UInt8) (a : Nat), l.length < f → l.length < g → lexF f l a = lexF g l a
  | 0, g, l, a, h, _ => absurd h (Nat.not_lt_zero _)
  | f + 1, 0, l, a, _, h => absurd h (Nat.not_lt_zero _)
  | f + 1, g + 1, l, a, hf, hg => by
    unfold lexF
    by_cases hl : l = []
    · rw [if_pos hl, if_pos hl]
    rw [if_neg hl, if_neg hl]
    cases ht : tokL l with
    | no z => rfl
    | ok k t n m =>
      simp only
      have hm := (tok_some ht).1
      have hl0 : 0 < l.length := List.length_pos_iff.2 hl
      rw [lexF_fuel f g _ _ (by rw [List.length_drop, List.length_drop]; omega) (by rw [List.length_drop, List.length_drop]; omega)]
theorem lexF_form2 : ∀ (f : Nat) (l : List UInt8) (a : Nat), (lexF f l a).2.2 = 0 ∨ (lexF f l a).1 = []
  | 0, l, a => Or.inl rfl
  | f + 1, l, a => by
    unfold lexF
    by_cases h : l = []
    · rw [if_pos h]; exact Or.inl rfl
    rw [if_neg h]
    cases tokL l with
    | no e => exact Or.inr rfl
    | ok k t n m =>
      simp only
      unfold joinT
      split
      · exact Or.inl rfl
      · exact Or.inr rfl
/-- From a gap on. -/
def lexG (f : Nat) (l : List UInt8) (a : Nat) : Res := lexF f (l.drop (gap l)) (a + gap l)
theorem gap_cat : ∀ (y : List UInt8) (b : Bool), (∀ r, preS skF b (y ++ 10 :: r) = y.length + 1 + gap r) ∨ ∃ d, d < y.length ∧ ∀ r, preS skF b (y ++ 10 :: r) = d
  | [], b => Or.inl fun r => gap_line [] b r rfl
  | c :: y, b => by
    cases h : (skF b c).1 with
    | false => exact Or.inr ⟨0, by simp, fun r => by show preS skF b (c :: (y ++ 10 :: r)) = 0; rw [preS, h]; rfl⟩
    | true =>
      rcases gap_cat y (skF b c).2 with ih | ⟨d, hd, ih⟩
      · refine Or.inl fun r => ?_
        show preS skF b (c :: (y ++ 10 :: r)) = _
        rw [preS, if_pos h, ih r, List.length_cons]; omega
      · refine Or.inr ⟨d + 1, by rw [List.length_cons]; omega, fun r => ?_⟩
        show preS skF b (c :: (y ++ 10 :: r)) = _
        rw [preS, if_pos h, ih r]
theorem lexG_cat (b : List UInt8) (g : Nat) (hg : b.length < g) : ∀ (n : Nat) (y : List UInt8) (a f h : Nat), y.length ≤ n → y.length + 1 < h → y.length + 1 + b.length < f →
    ((lexG h (y ++ [10]) a).2.2 ≠ 0 → (lexG f (y ++ 10 :: b) a).2.2 = (lexG h (y ++ [10]) a).2.2) ∧ ((lexG h (y ++ [10]) a).2.2 = 0 → lexG f (y ++ 10 :: b) a = joinT (lexG h (y ++ [10]) a).1 (lexG g b (a + y.length + 1)))
  | n, y, a, f, h, hn, hh, hf => by
    rcases gap_cat y false with hc | ⟨d, hd, hc⟩
    · have e1 : lexG h (y ++ [10]) a = ([], a + (y.length + 1), 0) := by
        unfold lexG
        have := hc []
        rw [show gap (y ++ [10]) = y.length + 1 from this]
        rw [List.drop_of_length_le (by simp), lexF_nil]
      have e2 : lexG f (y ++ 10 :: b) a = lexG g b (a + y.length + 1) := by
        unfold lexG
        have h1 : gap (y ++ 10 :: b) = y.length + 1 + gap b := hc b
        rw [h1]
        have h2 : (y ++ 10 :: b).drop (y.length + 1 + gap b) = b.drop (gap b) := by
          rw [show y ++ 10 :: b = (y ++ [10]) ++ b by simp, show y.length + 1 = (y ++ [10]).length by simp, List.drop_append]
          simp
        rw [h2, show a + (y.length + 1 + gap b) = a + y.length + 1 + gap b by omega]
        exact lexF_fuel _ _ _ _ (by rw [List.length_drop]; omega) (by rw [List.length_drop]; omega)
      rw [e1, e2]
      refine ⟨fun h => absurd rfl h, fun _ => ?_⟩
      have := lexF_form2 g (b.drop (gap b)) (a + y.length + 1 + gap b)
      show lexG g b _ = joinT [] (lexG g b _)
      unfold joinT
      split
      · rename_i h0
        generalize lexG g b (a + y.length + 1) = X at *
        obtain ⟨x1, x2, x3⟩ := X
        simp only at h0
        rw [h0]; rfl
      · rename_i h0
        rcases this with h1 | h1
        · exact absurd h1 h0
        · have h2 : (lexG g b (a + y.length + 1)).1 = [] := h1
          generalize lexG g b (a + y.length + 1) = X at *
          obtain ⟨x1, x2, x3⟩ := X
          simp only at h2
          rw [h2]
    · obtain ⟨y1, y2, rfl, rfl⟩ : ∃ y1 y2, y = y1 ++ y2 ∧ d = y1.length := ⟨y.take d, y.drop d, (List.take_append_drop d y).symm, by rw [List.length_take]; omega⟩
      have hy2 : y2 ≠ [] := by rintro rfl; simp at hd
      have hl2 : 0 < y2.length := List.length_pos_iff.2 hy2
      simp only [List.length_append] at hn hh hf
      have hd1 : ∀ r, lexG f ((y1 ++ y2) ++ 10 :: r) a = lexF f (y2 ++ 10 :: r) (a + y1.length) ∧ lexG h ((y1 ++ y2) ++ 10 :: r) a = lexF h (y2 ++ 10 :: r) (a + y1.length) := fun r => by
        unfold lexG
        rw [show gap ((y1 ++ y2) ++ 10 :: r) = y1.length from hc r, List.append_assoc, List.drop_left]
        exact ⟨rfl, rfl⟩
      rw [show y1 ++ y2 ++ [10] = (y1 ++ y2) ++ 10 :: [] from rfl, (hd1 []).2, (hd1 b).1]
      obtain ⟨f, rfl⟩ : ∃ q, f = q + 1 := ⟨f - 1, by omega⟩
      obtain ⟨h, rfl⟩ : ∃ q, h = q + 1 := ⟨h - 1, by omega⟩
      have hne : ∀ r : List UInt8, y2 ++ 10 :: r ≠ [] := fun r e => by simp at e
      have ht := fun r => tok_cut hy2 r
      cases hk : tokL y2 with
      | no z =>
        have e1 : ∀ q r A, lexF (q + 1) (y2 ++ 10 :: r) A = ([], A, z) := fun q r A => by rw [lexF, if_neg (hne r), ht r, hk]
        rw [e1, e1]
        refine ⟨fun _ => rfl, fun h => ?_⟩
        have : z = 0 := h
        subst this
        exfalso
        cases y2 with
        | nil => exact hy2 rfl
        | cons c r =>
          unfold tokL wordR numR litR sgnR at hk
          simp only at hk
          repeat' split at hk
          all_goals first | cases hk | (injection hk with hk; exact absurd hk (by decide))
      | ok k t n' m =>
        obtain ⟨h1, h2, -⟩ := tok_some hk
        have e1 : ∀ q r A, lexF (q + 1) (y2 ++ 10 :: r) A = joinT [⟨k, t, n', A⟩] (lexG q (y2.drop m ++ 10 :: r) (A + m)) := fun q r A => by
          rw [lexF, if_neg (hne r), ht r, hk]
          simp only
          have : (y2 ++ 10 :: r).drop m = y2.drop m ++ 10 :: r := List.drop_append_of_le_length h2
          rw [this]
          rfl
        rw [e1, e1]
        match n, hn with
        | 0, hn => omega
        | n + 1, hn =>
          obtain ⟨j1, j2⟩ := lexG_cat b g hg n (y2.drop m) (a + y1.length + m) f h (by rw [List.length_drop]; omega) (by rw [List.length_drop]; omega) (by rw [List.length_drop]; omega)
          rw [show (y2.drop m ++ 10 :: ([] : List UInt8)) = y2.drop m ++ [10] from rfl]
          generalize hX : lexG h (y2.drop m ++ [10]) (a + y1.length + m) = X at *
          constructor
          · intro hz
            have hz' : X.2.2 ≠ 0 := fun e => hz (by unfold joinT; rw [if_pos e])
            have h3 := j1 hz'
            generalize lexG f (y2.drop m ++ 10 :: b) (a + y1.length + m) = Y at *
            unfold joinT
            rw [if_neg (by rw [h3]; exact hz'), if_neg hz']
            exact h3
          · intro hz
            have hz' : X.2.2 = 0 := by
              unfold joinT at hz
              split at hz
              · assumption
              · exact hz
            rw [j2 hz', show a + y1.length + m + (y2.drop m).length + 1 = a + (y1 ++ y2).length + 1 by rw [List.length_drop, List.length_append]; omega]
            generalize lexG g b (a + (y1 ++ y2).length + 1) = Z
            obtain ⟨z1, z2, z3⟩ := Z
            unfold joinT
            simp only [hz', if_true]
            by_cases hz3 : z3 = 0
            · simp [hz3]
            · simp [hz3]
/-- A text that ends its line, and another one behind it. -/
theorem lexA_cat (a b : List UInt8) (ha : a.length ≤ 2000) (hb : b.length ≤ 2000) :
    ((lexA (a ++ [10])).2.2 ≠ 0 → (lexA (a ++ 10 :: b)).2.2 = (lexA (a ++ [10])).2.2) ∧ ((lexA (a ++ [10])).2.2 = 0 → lexA (a ++ 10 :: b) = joinT (lexA (a ++ [10])).1 (shiftR (a.length + 1) (lexA b))) := by
  have e : ∀ l : List UInt8, l.length ≤ 16384 → lexA l = lexG (l.length + 1) l 0 := fun l hl => by
    unfold lexA lexG
    rw [if_neg (by omega), Nat.zero_add]
  have h1 : (a ++ [10]).length = a.length + 1 := by simp
  have h2 : (a ++ 10 :: b).length = a.length + 1 + b.length := by simp; omega
  rw [e (a ++ [10]) (by omega), e (a ++ 10 :: b) (by omega), e b (by omega), h1, h2]
  obtain ⟨i1, i2⟩ := lexG_cat b (b.length + 1) (by omega) a.length a 0 (a.length + 1 + b.length + 1) (a.length + 1 + 1) (Nat.le_refl _) (by omega) (by omega)
  refine ⟨i1, fun hz => ?_⟩
  rw [i2 hz]
  have : lexG (b.length + 1) b (0 + a.length + 1) = shiftR (a.length + 1) (lexG (b.length + 1) b 0) := by
    unfold lexG
    rw [show 0 + a.length + 1 + gap b = (0 + gap b) + (a.length + 1) by omega, lexF_shift]
  rw [this]
end LM
end Go.Proofs.YteaaloejjafhlaaDoor
