/-
  A token at the beginning of a list of bytes, and all tokens: no program in it.
-/
import Derived.Test.YteaaloejjafhlaaDoorLMath
namespace Go.Proofs.YteaaloejjafhlaaDoor
namespace LM

/-- What stands at the beginning: a token (kind, text, number, length), or an error. -/
inductive Rd where
  | ok (k : Int) (t : List UInt8) (n : Int) (m : Nat)
  | no (e : Int)
def wordR (l : List UInt8) : Rd := if 16 < pre worP l then .no 50 else .ok 1 (l.take (pre worP l)) 0 (pre worP l)
def numR (l : List UInt8) : Rd := if l.head? = some 48 ∧ 1 < pre digP l then .no 50 else if valN (l.take (pre digP l)) < 9223372036854775808 then .ok 2 [] (valN (l.take (pre digP l)) : Nat) (pre digP l) else .no 10
def litR (l : List UInt8) : Rd := match litL l.tail with
  | some (t, m) => .ok 3 t 0 (m + 1)
  | none => .no 50
/-- The signs, those of two bytes ahead. -/
def signsL : List (List UInt8) := [[33, 61], [60, 61], [62, 61], [46, 46], [40], [41], [44], [59], [58], [124], [43], [45], [42], [47], [37], [61], [60], [62]]
def sgnL (l : List UInt8) : Option (List UInt8) := signsL.find? fun g => g.isPrefixOf l
def sgnR (l : List UInt8) : Rd := match sgnL l with
  | some g => .ok 4 g 0 g.length
  | none => .no 50
def tokL : List UInt8 → Rd
  | [] => .no 50
  | c :: r => if lowP c then wordR (c :: r) else if digP c then numR (c :: r) else if c = 34 then litR (c :: r) else sgnR (c :: r)

structure Tk where
  k : Int
  t : List UInt8
  n : Int
  at' : Nat

/-- Tokens, the place and the error. -/
abbrev Res := List Tk × Nat × Int
/-- Tokens ahead of what comes. -/
def joinT (L : List Tk) (x : Res) : Res := if x.2.2 = 0 then (L ++ x.1, x.2.1, 0) else ([], x.2.1, x.2.2)
/-- The tokens of what stands behind a gap. -/
def lexF : Nat → List UInt8 → Nat → Res
  | 0, _, a => ([], a, 0)
  | f + 1, l, a => if l = [] then ([], a, 0) else match tokL l with
    | .no e => ([], a, e)
    | .ok k t n m => joinT [⟨k, t, n, a⟩] (lexF f ((l.drop m).drop (gap (l.drop m))) (a + m + gap (l.drop m)))
def lexA (l : List UInt8) : Res := if 16384 < l.length then ([], 0, 31) else lexF (l.length + 1) (l.drop (gap l)) (gap l)

theorem joinT_nil (x : Res) (h : x.2.2 = 0 ∨ x.1 = []) : joinT [] x = x := by
  obtain ⟨a, b, c⟩ := x
  unfold joinT
  simp only at h ⊢
  split
  · rename_i h0; rw [h0]; rfl
  · rename_i h0; rcases h with h | h
    · exact absurd h h0
    · rw [h]
theorem joinT_join (L M : List Tk) (x : Res) : joinT L (joinT M x) = joinT (L ++ M) x := by
  obtain ⟨a, b, c⟩ := x
  unfold joinT
  simp only
  by_cases h : c = 0
  · simp [h]
  · simp [h]
theorem joinT_ok {L : List Tk} {x : Res} (h : x.2.2 = 0) : joinT L x = (L ++ x.1, x.2.1, 0) := if_pos h
theorem joinT_no {L : List Tk} {x : Res} (h : ¬ x.2.2 = 0) : joinT L x = ([], x.2.1, x.2.2) := if_neg h
theorem joinT_e (L : List Tk) (x : Res) : (joinT L x).2.2 = x.2.2 := by
  unfold joinT; split
  · rename_i h; rw [h]
  · rfl

/-- The text of a token. -/
def showT (k : Int) (t : List UInt8) (n : Int) : List UInt8 := if k = 2 then Lib.itoa n else if k = 3 then quoteL t else t
/-- A byte that may stand right behind any token: a blank, a tab, an end of line, a remark. -/
def sepB (c : UInt8) : Bool := c == 32 || c == 9 || c == 10 || c == 35

theorem low_not {c : UInt8} (h : lowP c = true) : digP c = false := by unfold lowP at h; unfold digP; simp at h ⊢; omega
theorem wor_low {c : UInt8} (h : lowP c = true) : worP c = true := by unfold worP; rw [h]; rfl
theorem pre_pos {p : UInt8 → Bool} {c : UInt8} {r : List UInt8} (h : p c = true) : 0 < pre p (c :: r) := by unfold pre; rw [if_pos h]; omega
theorem take_pre_ne {p : UInt8 → Bool} {c : UInt8} {r : List UInt8} (h : p c = true) : (c :: r).take (pre p (c :: r)) ≠ [] := by
  have := pre_pos (r := r) h
  obtain ⟨n, hn⟩ : ∃ n, pre p (c :: r) = n + 1 := ⟨pre p (c :: r) - 1, by omega⟩
  rw [hn]; simp
theorem sep_cases {x : UInt8} (h : sepB x = true) : x = 32 ∨ x = 9 ∨ x = 10 ∨ x = 35 := by
  unfold sepB at h; simp at h
  rcases h with ((h | h) | h) | h <;> simp [h]
theorem sgn_some {l g : List UInt8} (h : sgnL l = some g) : g ∈ signsL ∧ g.isPrefixOf l = true := ⟨List.mem_of_find?_eq_some h, by simpa using List.find?_some h⟩
theorem sgn_facts : ∀ g ∈ signsL, g ≠ [] ∧ (∀ c ∈ g, sepB c = false ∧ c ≠ 34 ∧ lowP c = false ∧ digP c = false) := by decide
/-- The sign at the beginning, wherever a separator follows. -/
theorem sgn_back : ∀ g ∈ signsL, ∀ (x : UInt8) (r : List UInt8), sepB x = true → sgnL (g ++ x :: r) = some g := by
  intro g hg x r hx
  unfold signsL at hg
  simp only [List.mem_cons, List.not_mem_nil, or_false] at hg
  rcases sep_cases hx with rfl | rfl | rfl | rfl <;> rcases hg with rfl | rfl | rfl | rfl | rfl | rfl | rfl | rfl | rfl | rfl | rfl | rfl | rfl | rfl | rfl | rfl | rfl | rfl <;> simp [sgnL, signsL, List.find?, List.isPrefixOf]
theorem prefix_cut {z : UInt8} : ∀ (g l r : List UInt8), z ∉ g → g.isPrefixOf (l ++ z :: r) = g.isPrefixOf l
  | [], l, r, _ => by simp [List.isPrefixOf]
  | c :: g, [], r, h => by
    have : ¬ c = z := fun e => h (by rw [e]; exact List.mem_cons_self)
    simp [List.isPrefixOf, this]
  | c :: g, d :: l, r, h => by
    have := prefix_cut g l r (fun e => h (List.mem_cons_of_mem _ e))
    show (c == d && g.isPrefixOf (l ++ z :: r)) = (c == d && g.isPrefixOf l)
    rw [this]
theorem find_congr {p q : List UInt8 → Bool} : ∀ L : List (List UInt8), (∀ g ∈ L, p g = q g) → L.find? p = L.find? q
  | [], _ => rfl
  | a :: L, h => by
    rw [List.find?_cons, List.find?_cons, h a List.mem_cons_self, find_congr L (fun g hg => h g (List.mem_cons_of_mem _ hg))]
theorem sgn_cut {z : UInt8} (hz : sepB z = true) (l r : List UInt8) : sgnL (l ++ z :: r) = sgnL l := by
  unfold sgnL
  refine find_congr _ fun g hg => ?_
  exact prefix_cut g l r (fun h => by have := ((sgn_facts g hg).2 z h).1; rw [hz] at this; cases this)

/-- What a token is, and what of the text it takes. -/
theorem tok_some {l : List UInt8} {k n : Int} {t : List UInt8} {m : Nat} (h : tokL l = .ok k t n m) :
    0 < m ∧ m ≤ l.length ∧ l.take m = showT k t n ∧ (k = 1 ∨ k = 2 ∨ k = 3 ∨ k = 4) ∧ 0 ≤ n ∧ n ≤ 9223372036854775807 ∧ t.length ≤ 64 ∧ (∀ x r, sepB x = true → tokL (showT k t n ++ x :: r) = .ok k t n m) ∧ (k = 3 → t.all okByte = true) := by
  cases l with
  | nil => cases h
  | cons c r =>
    unfold tokL at h
    simp only at h
    by_cases h1 : lowP c = true
    · rw [if_pos h1] at h
      unfold wordR at h
      by_cases h2 : 16 < pre worP (c :: r)
      · rw [if_pos h2] at h; cases h
      rw [if_neg h2] at h
      injection h with e1 e2 e3 e4
      subst e1; subst e3; subst e4
      have hp := pre_pos (r := r) (wor_low h1)
      have hl := pre_le worP (c :: r)
      have ha := pre_all worP (c :: r)
      have ht : t.length = pre worP (c :: r) := by rw [← e2, List.length_take]; omega
      have hs : showT 1 t 0 = t := by unfold showT; simp
      refine ⟨hp, hl, by rw [hs, e2], Or.inl rfl, by omega, by omega, by omega, fun x q hx => ?_, fun h => by omega⟩
      rw [hs]
      have hw : worP x = false := by rcases sep_cases hx with rfl | rfl | rfl | rfl <;> rfl
      rw [e2] at ha
      have hr : pre worP (t ++ x :: q) = t.length := pre_run ha hw
      obtain ⟨t', e⟩ : ∃ t', t = c :: t' := by
        obtain ⟨j, hj⟩ : ∃ j, pre worP (c :: r) = j + 1 := ⟨pre worP (c :: r) - 1, by omega⟩
        rw [hj, List.take_succ_cons] at e2
        exact ⟨_, e2.symm⟩
      have : tokL (t ++ x :: q) = wordR (t ++ x :: q) := by rw [e]; show tokL (c :: (t' ++ x :: q)) = _; unfold tokL; simp only; rw [if_pos h1]; rfl
      rw [this]
      unfold wordR
      rw [hr, if_neg (by omega), List.take_left, ht]
    rw [if_neg h1] at h
    by_cases h2 : digP c = true
    · rw [if_pos h2] at h
      unfold numR at h
      by_cases h3 : (c :: r).head? = some 48 ∧ 1 < pre digP (c :: r)
      · rw [if_pos h3] at h; cases h
      rw [if_neg h3] at h
      by_cases h4 : valN ((c :: r).take (pre digP (c :: r))) < 9223372036854775808
      · rw [if_pos h4] at h
        injection h with e1 e2 e3 e4
        subst e1; subst e2
        have hp := pre_pos (r := r) h2
        have hl := pre_le digP (c :: r)
        have ha := pre_all digP (c :: r)
        have hne := take_pre_ne (r := r) h2
        have hlen : ((c :: r).take (pre digP (c :: r))).length = pre digP (c :: r) := by rw [List.length_take]; omega
        have hhd : ((c :: r).take (pre digP (c :: r))).head? = some c := by
          obtain ⟨j, hj⟩ : ∃ j, pre digP (c :: r) = j + 1 := ⟨pre digP (c :: r) - 1, by omega⟩
          rw [hj, List.take_succ_cons]; rfl
        obtain ⟨d1, -⟩ := dec_val _ _ rfl hne ha (by
          by_cases e : pre digP (c :: r) = 1
          · right; rw [hlen]; exact e
          · left; rw [hhd]; intro e'; exact h3 ⟨e', by omega⟩)
        have hi : Lib.itoa n = (c :: r).take (pre digP (c :: r)) := by
          rw [← e3]
          unfold Lib.itoa
          rw [if_neg (by omega), Int.toNat_natCast, d1]
        have hs : showT 2 [] n = Lib.itoa n := by unfold showT; simp
        refine ⟨by omega, by omega, by rw [hs, hi, e4], Or.inr (Or.inl rfl), by omega, by omega, by simp, fun x q hx => ?_, fun h => by omega⟩
        rw [hs, hi]
        generalize hL : (c :: r).take (pre digP (c :: r)) = L at *
        have hw : digP x = false := by rcases sep_cases hx with rfl | rfl | rfl | rfl <;> rfl
        have hr : pre digP (L ++ x :: q) = L.length := pre_run ha hw
        obtain ⟨L', e⟩ : ∃ L', L = c :: L' := by
          cases L with
          | nil => exact absurd rfl hne
          | cons a b => injection hhd with hhd; exact ⟨b, by rw [hhd]⟩
        have : tokL (L ++ x :: q) = numR (L ++ x :: q) := by rw [e]; show tokL (c :: (L' ++ x :: q)) = _; unfold tokL; simp only; rw [if_neg h1, if_pos h2]; rfl
        rw [this]
        unfold numR
        rw [hr, List.take_left]
        have hh : (L ++ x :: q).head? = some c := by rw [e]; rfl
        rw [hh, hlen, if_neg (by intro e'; exact h3 ⟨e'.1, e'.2⟩), if_pos h4, e3, e4]
      · rw [if_neg h4] at h; cases h
    rw [if_neg h2] at h
    by_cases h3 : c = 34
    · subst h3
      rw [if_pos rfl] at h
      unfold litR at h
      simp only [List.tail_cons] at h
      cases hq : litL r with
      | none => rw [hq] at h; cases h
      | some x =>
        obtain ⟨t', m'⟩ := x
        rw [hq] at h
        simp only at h
        injection h with e1 e2 e3 e4
        subst e1; subst e2; subst e3; subst e4
        obtain ⟨i1, i2, ⟨r', i3⟩, i4⟩ := lit_some hq
        have hs : showT 3 t' 0 = quoteL t' := by unfold showT; simp
        have hz : (34 :: r : List UInt8) = quoteL t' ++ r' := by rw [i3]; unfold quoteL; simp
        have hlen : (quoteL t').length = m' + 1 := by unfold quoteL; simp [i4]
        refine ⟨by omega, ?_, by rw [hs, hz, ← hlen, List.take_left], Or.inr (Or.inr (Or.inl rfl)), by omega, by omega, i2, fun x q hx => ?_, fun _ => i1⟩
        · rw [hz, List.length_append, hlen]; omega
        · rw [hs]
          have e : quoteL t' ++ x :: q = 34 :: (esc t' ++ 34 :: (x :: q)) := by unfold quoteL; simp
          rw [e]
          unfold tokL
          simp only
          rw [if_neg h1, if_neg h2, if_pos trivial]
          unfold litR
          simp only [List.tail_cons]
          rw [lit_esc _ i1 i2, i4]
    · rw [if_neg h3] at h
      unfold sgnR at h
      cases hq : sgnL (c :: r) with
      | none => rw [hq] at h; cases h
      | some g =>
        rw [hq] at h
        simp only at h
        injection h with e1 e2 e3 e4
        subst e1; subst e2; subst e3; subst e4
        obtain ⟨hm, hp⟩ := sgn_some hq
        obtain ⟨hne, hf⟩ := sgn_facts g hm
        have hpf : g <+: (c :: r) := List.isPrefixOf_iff_prefix.1 hp
        have hs : showT 4 g 0 = g := by unfold showT; simp
        have hpos : 0 < g.length := List.length_pos_iff.2 hne
        have hl : g.length ≤ 2 := by
          have : ∀ g ∈ signsL, g.length ≤ 2 := by decide
          exact this g hm
        refine ⟨hpos, hpf.length_le, by rw [hs]; exact (List.prefix_iff_eq_take.1 hpf).symm, Or.inr (Or.inr (Or.inr rfl)), by omega, by omega, by omega, fun x q hx => ?_, fun h => by omega⟩
        rw [hs]
        cases g with
        | nil => exact absurd rfl hne
        | cons a b =>
          obtain ⟨-, f2, f3, f4⟩ := hf a List.mem_cons_self
          have : tokL ((a :: b) ++ x :: q) = sgnR ((a :: b) ++ x :: q) := by
            show tokL (a :: (b ++ x :: q)) = _
            unfold tokL
            simp only
            rw [if_neg (by rw [f3]; simp), if_neg (by rw [f4]; simp), if_neg f2]
            rfl
          rw [this]
          unfold sgnR
          rw [sgn_back _ hm x q hx]
/-- An end of line behind a text changes no token in it. -/
theorem tok_cut {l : List UInt8} (hl : l ≠ []) (r : List UInt8) : tokL (l ++ 10 :: r) = tokL l := by
  cases l with
  | nil => exact absurd rfl hl
  | cons c l =>
    show tokL (c :: (l ++ 10 :: r)) = _
    have hw : pre worP (c :: l ++ 10 :: r) = pre worP (c :: l) := pre_cut (by rfl) _ _
    have hd : pre digP (c :: l ++ 10 :: r) = pre digP (c :: l) := pre_cut (by rfl) _ _
    have ht : ∀ m, m ≤ (c :: l).length → (c :: l ++ 10 :: r).take m = (c :: l).take m := fun m hm => List.take_append_of_le_length hm
    have h1 := ht _ (pre_le worP (c :: l))
    have h2 := ht _ (pre_le digP (c :: l))
    have a1 : wordR (c :: (l ++ 10 :: r)) = wordR (c :: l) := by
      unfold wordR
      rw [show c :: (l ++ 10 :: r) = c :: l ++ 10 :: r from rfl, hw, h1]
    have a2 : numR (c :: (l ++ 10 :: r)) = numR (c :: l) := by
      unfold numR
      rw [show c :: (l ++ 10 :: r) = c :: l ++ 10 :: r from rfl, hd, h2]; rfl
    have a3 : litR (c :: (l ++ 10 :: r)) = litR (c :: l) := by
      unfold litR
      simp only [List.tail_cons]
      rw [lit_cut 10 (by rfl) (by decide) (by decide)]
    have a4 : sgnR (c :: (l ++ 10 :: r)) = sgnR (c :: l) := by
      unfold sgnR
      rw [show c :: (l ++ 10 :: r) = c :: l ++ 10 :: r from rfl, sgn_cut (by rfl)]
    unfold tokL
    simp only
    rw [a1, a2, a3, a4]
end LM
end Go.Proofs.YteaaloejjafhlaaDoor
