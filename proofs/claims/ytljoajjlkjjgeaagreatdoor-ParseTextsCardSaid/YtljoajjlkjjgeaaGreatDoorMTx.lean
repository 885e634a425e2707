/-
  Texts and their tokens, one behind the other (pure).
  What the model reads of tokens that are right (pure).
  The texts that the laws write, and their tokens (pure): schedules and sources.
-/
import Derived.Test.YtljoajjlkjjgeaaGreatDoorNAwake
namespace Go.Proofs.YtljoajjlkjjgeaaGreatDoor
open Go.RowKit Go.Sort LM Go

/-- The text reads as these tokens, places aside. -/
def LT (l : List UInt8) (K : List T3) : Prop := ∀ f a, l.length < f → ∃ L, lexG f l a = (L, a + l.length, 0) ∧ L.map keyT = K
theorem LT.nil : LT [] [] := fun f a _ => ⟨[], by unfold lexG; rw [List.drop_nil, lexF_nil]; rfl, rfl⟩
theorem LT.blank {c : UInt8} {l : List UInt8} {K : List T3} (h : LT l K) (hc : blankB c = true) : LT (c :: l) K := fun f a hf => by
 obtain ⟨L, h1, h2⟩ := h f (a + 1) (by simp at hf; omega)
 refine ⟨L, ?_, h2⟩
 have hg : gap (c :: l) = 1 + gap l := gap_blank [c] (by simp [hc]) l
 unfold lexG at h1 ⊢
 rw [hg, show (c :: l).drop (1 + gap l) = l.drop (gap l) by rw [Nat.add_comm]; rfl, show a + (1 + gap l) = a + 1 + gap l by omega, h1, List.length_cons]
 congr 2; omega
theorem LT.tok {x l : List UInt8} {K : List T3} {k n : Int} {t : List UInt8} (h : LT l K) (hx : x ≠ []) (ht : tokL (x ++ l) = .ok k t n x.length) : LT (x ++ l) ((k, t, n) :: K) := fun f a hf => by
 obtain ⟨f, rfl⟩ : ∃ g, f = g + 1 := ⟨f - 1, by omega⟩
 have hxl : 0 < x.length := List.length_pos_iff.2 hx
 rw [List.length_append] at hf
 obtain ⟨L, h1, h2⟩ := h f (a + x.length) (by omega)
 have hg : gap (x ++ l) = 0 := by
  cases x with
  | nil => exact absurd rfl hx
  | cons c r => exact tok_gap ht
 refine ⟨⟨k, t, n, a⟩ :: L, ?_, by rw [List.map_cons, h2]⟩
 unfold lexG at h1 ⊢
 rw [hg, List.drop_zero, Nat.add_zero, lexF, if_neg (by simp [hx]), ht]
 simp only [List.drop_left, Nat.add_zero]
 rw [h1, joinT_ok rfl, List.length_append]
 simp only [List.cons_append, List.nil_append]
 congr 2; omega
theorem LT.all {l : List UInt8} {K : List T3} (h : LT l K) (hl : l.length ≤ 16384) : (lexA l).2 = (l.length, 0) ∧ (lexA l).1.map keyT = K := by
 obtain ⟨L, h1, h2⟩ := h (l.length + 1) 0 (Nat.lt_succ_self _)
 unfold lexG at h1
 rw [Nat.zero_add] at h1
 unfold lexA
 rw [if_neg (by omega), h1]
 exact ⟨by simp, h2⟩
/-- What stands behind a word, behind a number. -/
def NoW (l : List UInt8) : Prop := ∀ c r, l = c :: r → worP c = false
def NoD (l : List UInt8) : Prop := ∀ c r, l = c :: r → digP c = false
structure Nm (u : List UInt8) : Prop where
 len : u.length ≤ 16
 head : ∃ c r, u = c :: r ∧ lowP c = true
 all : u.all worP = true
theorem pre_end {p : UInt8 → Bool} {u l : List UInt8} (h : u.all p = true) (hl : ∀ c r, l = c :: r → p c = false) : pre p (u ++ l) = u.length := by
 cases l with
 | nil =>
  rw [List.append_nil]
  induction u with
  | nil => rfl
  | cons c r ih =>
   rw [List.all_cons, Bool.and_eq_true] at h
   unfold pre
   rw [if_pos h.1, ih h.2, List.length_cons]
 | cons c r => exact pre_run h (hl c r rfl)
theorem LT.name {u l : List UInt8} {K : List T3} (h : LT l K) (hu : Nm u) (hl : NoW l) : LT (u ++ l) ((1, u, 0) :: K) := by
 obtain ⟨h16, ⟨c, r, rfl, hc⟩, ha⟩ := hu
 refine h.tok (by simp) ?_
 have hp := pre_end ha hl
 rw [List.cons_append] at hp ⊢
 rw [tokL, if_pos hc]
 unfold wordR
 rw [hp, if_neg (by omega)]
 rw [← List.cons_append, List.take_left]
theorem LT.num {v : Nat} {l : List UInt8} {K : List T3} (h : LT l K) (hv : v < 9223372036854775808) (hl : NoD l) : LT (Lib.decDigits v ++ l) ((2, [], (v : Int)) :: K) := by
 obtain ⟨hd, h48⟩ := dec_all v v (Nat.le_refl _)
 have hne : Lib.decDigits v ≠ [] := by
  intro e
  rw [Lib.decDigits] at e
  split at e <;> simp at e
 refine h.tok hne ?_
 have hp := pre_end hd hl
 have hval := val_dec v v (Nat.le_refl _)
 have h1 := @dec_head1 v
 generalize Lib.decDigits v = u at *
 cases u with
 | nil => exact absurd rfl hne
 | cons c r =>
  have hc : digP c = true := by rw [List.all_cons, Bool.and_eq_true] at hd; exact hd.1
  have hlow : lowP c = false := by
   cases hq : lowP c
   ·rfl
   ·rw [low_not hq] at hc; cases hc
  rw [List.cons_append] at hp ⊢
  rw [tokL, if_neg (by simp [hlow]), if_pos hc]
  unfold numR
  rw [hp, if_neg (by
   rintro ⟨k1, k2⟩
   have := h1 (by simpa using k1)
   omega), ← List.cons_append, List.take_left, hval, if_pos hv]
theorem LT.sign {c : UInt8} {l : List UInt8} {K : List T3} (h : LT l K) (hc : c = 40 ∨ c = 41 ∨ c = 44 ∨ c = 59 ∨ c = 58 ∨ c = 124 ∨ c = 61) : LT (c :: l) ((4, [c], 0) :: K) := by
 refine h.tok (x := [c]) (by simp) ?_
 rcases hc with rfl | rfl | rfl | rfl | rfl | rfl | rfl <;> rfl
theorem LT.dots {l : List UInt8} {K : List T3} (h : LT l K) : LT (46 :: 46 :: l) ((4, [46, 46], 0) :: K) := h.tok (x := [46, 46]) (by simp) rfl
theorem LT.less {l : List UInt8} {K : List T3} (h : LT l K) (hl : ∀ r, l ≠ 61 :: r) : LT (60 :: l) ((4, [60], 0) :: K) := by
 refine h.tok (x := [60]) (by simp) ?_
 cases l with
 | nil => rfl
 | cons c r =>
  have hc : c ≠ 61 := fun e => hl r (by rw [e])
  have h1 : (61 == c) = false := by simpa using fun e : 61 = c => hc e.symm
  show sgnR (60 :: c :: r) = _
  unfold sgnR sgnL signsL
  simp [List.find?, List.isPrefixOf, h1]
theorem LT.lit {t l : List UInt8} {K : List T3} (h : LT l K) (ht : t.all okByte = true) (h64 : t.length ≤ 64) : LT (34 :: (esc t ++ 34 :: l)) ((3, t, 0) :: K) := by
 have := h.tok (x := 34 :: (esc t ++ [34])) (k := 3) (t := t) (n := 0) (by simp) (by
  rw [show (34 :: (esc t ++ [34])) ++ l = 34 :: (esc t ++ 34 :: l) by simp]
  show litR (34 :: (esc t ++ 34 :: l)) = _
  unfold litR
  rw [List.tail_cons, lit_esc l ht h64]
  simp)
 simpa using this
end Go.Proofs.YtljoajjlkjjgeaaGreatDoor
namespace Go.Proofs.YtljoajjlkjjgeaaGreatDoor
open Go.RowKit Go.Sort LM Go

/-- The parser at the outermost depth, nothing failed. -/
abbrev P1 (L : List T3) : PSt := ⟨L, 1, none⟩
/-- A word, a sign, a number, a text. -/
abbrev kW (u : List UInt8) : T3 := (1, u, 0)
abbrev kS (u : List UInt8) : T3 := (4, u, 0)
abbrev kN (n : Int) : T3 := (2, [], n)
abbrev kL (u : List UInt8) : T3 := (3, u, 0)
theorem take_P {t : T3} {L : List T3} (h : t.1 ≠ 0) : takeS (P1 (t :: L)) = (t, P1 L) := by
 have hd : deepS (P1 (t :: L)) = P1 (t :: L) := by unfold deepS; rw [if_neg (show ¬ (32 : Int) < 1 by decide)]
 unfold takeS
 rw [hd, show aheadS 0 (P1 (t :: L)) = t from rfl, if_neg h]
 rfl
theorem expect_P {t : T3} {L : List T3} {x : List UInt8} (h : isT t x = true) : expectS x (P1 (t :: L)) = P1 L := by
 have h0 : t.1 ≠ 0 := by
  intro e
  unfold isT at h
  rw [e] at h
  simp at h
 unfold expectS
 rw [show aheadS 0 (P1 (t :: L)) = t from rfl, if_pos h, take_P h0]
theorem expect_none (x : List UInt8) : expectS x (P1 []) = ⟨[], 1, some (51, 0)⟩ := by
 unfold expectS
 rw [show aheadS 0 (P1 []) = (0, [], 0) from rfl, if_neg (by simp [isT])]
 rfl
theorem token_P {k : Int} {t : T3} {L : List T3} (h : t.1 = k) (h0 : t.1 ≠ 0) : tokenS k (P1 (t :: L)) = (t, P1 L) := by
 unfold tokenS
 rw [show aheadS 0 (P1 (t :: L)) = t from rfl, if_pos h, take_P h0]
theorem name_P (u : List UInt8) (n : Int) (L : List T3) : nameS (P1 ((1, u, n) :: L)) = (ba u, P1 L) := by
 unfold nameS
 rw [token_P (k := 1) (t := (1, u, n)) rfl (show (1 : Int) ≠ 0 by decide)]
theorem number_P (u : List UInt8) (n : Int) (L : List T3) : numberS (P1 ((2, u, n) :: L)) = (n, P1 L) := by
 unfold numberS
 rw [token_P (k := 2) (t := (2, u, n)) rfl (show (2 : Int) ≠ 0 by decide)]
theorem literal_P (u : List UInt8) (n : Int) (L : List T3) : literalS (P1 ((3, u, n) :: L)) = (ba u, P1 L) := by
 unfold literalS
 rw [token_P (k := 3) (t := (3, u, n)) rfl (show (3 : Int) ≠ 0 by decide)]
theorem oneOf_P {xs : List (List UInt8)} {t : T3} {L : List T3} {i : Nat} (h : findW xs t = some i) (h0 : t.1 ≠ 0) : oneOfS xs (P1 (t :: L)) = ((i : Int) + 1, P1 L) := by
 unfold oneOfS whichS
 rw [show aheadS 0 (P1 (t :: L)) = t from rfl, h]
 simp only
 rw [take_P h0]
/-- Tokens behind a list: no comma. -/
def NoC (R : List T3) : Prop := isT (R.getD 0 (0, [], 0)) [44] = false
/-- A list's elements behind its first, each with a comma ahead. -/
def comK {α : Type} (f : α → List T3) : List α → List T3
 | [] => []
 | x :: r => kS [44] :: (f x ++ comK f r)
theorem listG_P {α β : Type} {r : Rule α} (f : β → List T3) (g : β → α) {R : List T3} (hR : NoC R) : ∀ (l : List β) (n : Nat) (acc : List α), (∀ x ∈ l, ∀ R', NoC R' ∨ True → r (P1 (f x ++ R')) = (g x, P1 R')) → l.length < n → listG r n acc (P1 (comK f l ++ R)) = (acc ++ l.map g, P1 R)
 | [], n + 1, acc, _, _ => by
  rw [listG, show aheadS 0 (P1 (comK f [] ++ R)) = R.getD 0 (0, [], 0) from rfl, if_neg (by rw [hR]; simp)]
  simp [comK]
 | x :: l, n + 1, acc, h, hn => by
  have e : comK f (x :: l) ++ R = kS [44] :: (f x ++ (comK f l ++ R)) := by simp [comK]
  rw [listG, e, show aheadS 0 (P1 (kS [44] :: (f x ++ (comK f l ++ R)))) = kS [44] from rfl, if_pos (by decide), take_P (by decide)]
  simp only
  rw [h x (by simp) _ (Or.inr trivial)]
  simp only
  rw [listG_P f g hR l n (acc ++ [g x]) (fun y hy => h y (by simp [hy])) (by simpa using hn)]
  simp
theorem listS_P {α β : Type} {r : Rule α} (f : β → List T3) (g : β → α) {R : List T3} (hR : NoC R) (F : Nat) (x : β) (l : List β) (h : ∀ y R', r (P1 (f y ++ R')) = (g y, P1 R')) (hn : l.length < F) :
  listS F r (P1 (f x ++ (comK f l ++ R))) = (g x :: l.map g, P1 R) := by
 unfold listS
 rw [h]
 simp only
 rw [listG_P f g hR l F [g x] (fun y _ R' _ => h y R') hn]
 simp
theorem text_one {F : Nat} {K : List T3} {d : Df} (hF : 2 ≤ F) (h : defS F (P1 (K ++ [kS [59]])) = (d, P1 [kS [59]])) : textS F (P1 (K ++ [kS [59]])) = ([d], P1 []) := by
 obtain ⟨n, rfl⟩ : ∃ n, F = n + 1 := ⟨F - 1, by omega⟩
 unfold textS
 rw [textG, if_neg (by simp), h]
 simp only
 rw [expect_P (by decide), textG, if_pos rfl]
 rfl
theorem text_cut {F : Nat} {K : List T3} {d : Df} (hF : 2 ≤ F) (hne : K ≠ []) (h : defS F (P1 K) = (d, P1 [])) : textS F (P1 K) = ([d], ⟨[], 1, some (51, 0)⟩) := by
 obtain ⟨n, rfl⟩ : ∃ n, F = n + 1 := ⟨F - 1, by omega⟩
 unfold textS
 rw [textG, if_neg hne, h]
 simp only
 rw [expect_none, textG, if_pos rfl]
 rfl
/-- A schedule's tokens. -/
def schK (nm cron u : List UInt8) (l : List (List UInt8)) : List T3 := kW [115, 99, 104, 101, 100, 117, 108, 101] :: kW nm :: kL cron :: kW [109, 97, 107, 101, 115] :: ([kW u] ++ comK (fun x => [kW x]) l)
def schD (nm cron u : List UInt8) (l : List (List UInt8)) : Df := {k := 3, nm := ba nm, cron := ba cron, makes := ba u :: l.map ba}
theorem sch_def (nm cron u : List UInt8) (l : List (List UInt8)) (R : List T3) (hR : NoC R) {F : Nat} (hF : l.length < F) : defS F (P1 (schK nm cron u l ++ R)) = (schD nm cron u l, P1 R) := by
 have e : schK nm cron u l ++ R = kW [115, 99, 104, 101, 100, 117, 108, 101] :: kW nm :: kL cron :: kW [109, 97, 107, 101, 115] :: ([kW u] ++ (comK (fun x => [kW x]) l ++ R)) := by simp [schK]
 unfold defS
 rw [e, oneOf_P (i := 2) (by decide) (by decide)]
 simp only
 rw [name_P]
 simp only
 rw [show ((2 : Nat) : Int) + 1 = 3 from rfl, defK3, literal_P]
 simp only
 rw [expect_P (by decide), listS_P (fun x : List UInt8 => [kW x]) ba hR F u l (fun y R' => name_P y 0 R') hF]
 rfl
/-- A source's tokens. -/
def colK (x : List UInt8 × Bool) : List T3 := [kW x.1, kW (if x.2 then [116, 101, 120, 116] else [105, 110, 116])]
def colM (x : List UInt8 × Bool) : ByteArray × Int := (ba x.1, if x.2 then 2 else 1)
theorem col_P (x : List UInt8 × Bool) (R : List T3) : colS (P1 (colK x ++ R)) = (colM x, P1 R) := by
 obtain ⟨u, b⟩ := x
 have e : colK (u, b) ++ R = kW u :: kW (if b then [116, 101, 120, 116] else [105, 110, 116]) :: R := rfl
 unfold colS
 rw [e, name_P]
 simp only
 cases b
 ·rw [oneOf_P (i := 0) (by decide) (by decide)]; rfl
 ·rw [oneOf_P (i := 1) (by decide) (by decide)]; rfl
def schmK (i : Nat) (a z : Int) : List T3 := [kW (schWords.getD i []), kN a, kS [46, 46], kN z]
theorem scheme_P {i : Nat} (hi : i < 5) (a z : Int) (R : List T3) : schemeS (P1 (schmK i a z ++ R)) = (((i : Int) + 1, a, z), P1 R) := by
 have e : schmK i a z ++ R = kW (schWords.getD i []) :: kN a :: kS [46, 46] :: kN z :: R := rfl
 have hf : findW schWords (kW (schWords.getD i [])) = some i := by
  have h5 : i = 0 ∨ i = 1 ∨ i = 2 ∨ i = 3 ∨ i = 4 := by omega
  rcases h5 with rfl | rfl | rfl | rfl | rfl <;> decide
 unfold schemeS
 rw [e, oneOf_P hf (by simp)]
 simp only
 rw [number_P]
 simp only
 rw [expect_P (by decide), number_P]
def srcK (nm : List UInt8) (x : List UInt8 × Bool) (l : List (List UInt8 × Bool)) (i : Nat) (a z : Int) : List T3 := kW [115, 111, 117, 114, 99, 101] :: kW nm :: kS [40] :: (colK x ++ (comK colK l ++ (kS [41] :: schmK i a z)))
def srcD (nm : List UInt8) (x : List UInt8 × Bool) (l : List (List UInt8 × Bool)) (i : Nat) (a z : Int) : Df := {k := 1, nm := ba nm, sch := colM x :: l.map colM, sc := ((i : Int) + 1, a, z)}
theorem src_def (nm : List UInt8) (x : List UInt8 × Bool) (l : List (List UInt8 × Bool)) {i : Nat} (hi : i < 5) (a z : Int) (R : List T3) {F : Nat} (hF : l.length < F) : defS F (P1 (srcK nm x l i a z ++ R)) = (srcD nm x l i a z, P1 R) := by
 have e : srcK nm x l i a z ++ R = kW [115, 111, 117, 114, 99, 101] :: kW nm :: kS [40] :: (colK x ++ (comK colK l ++ (kS [41] :: (schmK i a z ++ R)))) := by simp [srcK]
 unfold defS
 rw [e, oneOf_P (i := 0) (by decide) (by decide)]
 simp only
 rw [name_P]
 simp only
 rw [show ((0 : Nat) : Int) + 1 = 1 from rfl, defK1]
 unfold enclosedS
 rw [expect_P (by decide), listS_P colK colM (show NoC (kS [41] :: (schmK i a z ++ R)) from rfl) F x l (fun y R' => col_P y R') hF]
 simp only
 rw [expect_P (by decide), scheme_P hi]
 rfl
end Go.Proofs.YtljoajjlkjjgeaaGreatDoor
namespace Go.Proofs.YtljoajjlkjjgeaaGreatDoor
open Go.RowKit Go.Sort LM Go

theorem joinU_eq (by' : List UInt8) (x : List UInt8) (l : List (List UInt8)) : ∀ k, k ≤ l.length → joinU by' (x :: l) (k + 1) = x ++ ((l.take k).map fun y => by' ++ y).flatten
 | 0, _ => by simp [joinU]
 | k + 1, h => by
  rw [joinU, joinU_eq by' x l k (by omega), List.take_succ_eq_append_getElem (by omega), List.map_append, List.flatten_append]
  simp [List.getElem?_eq_getElem (show k < l.length by omega)]
theorem joinU_all (by' x : List UInt8) (l : List (List UInt8)) : joinU by' (x :: l) (x :: l).length = x ++ (l.map fun y => by' ++ y).flatten := by
 rw [List.length_cons, joinU_eq by' x l l.length (Nat.le_refl _), List.take_length]
theorem NoW.cons {c : UInt8} (h : worP c = false) (r : List UInt8) : NoW (c :: r) := fun d s e => by injection e with e1 e2; rw [← e1]; exact h
theorem NoD.cons {c : UInt8} (h : digP c = false) (r : List UInt8) : NoD (c :: r) := fun d s e => by injection e with e1 e2; rw [← e1]; exact h
theorem NoW.nil : NoW [] := fun _ _ e => by cases e
theorem NoD.nil : NoD [] := fun _ _ e => by cases e
/-- What stands behind a list of elements, a separator ahead of each. -/
theorem lt_list {α : Type} (f : α → List T3) (sh : α → List UInt8) {s0 : UInt8} {s1 : List UInt8} (h0 : worP s0 = false) (hby : ∀ l K, LT l K → LT (s0 :: s1 ++ l) (kS [44] :: K)) {R : List UInt8} {KR : List T3} (hR : LT R KR) (hN : NoW R) :
  ∀ l : List α, (∀ x ∈ l, ∀ r K, LT r K → NoW r → LT (sh x ++ r) (f x ++ K)) → LT ((l.map fun x => s0 :: s1 ++ sh x).flatten ++ R) (comK f l ++ KR) ∧ NoW ((l.map fun x => s0 :: s1 ++ sh x).flatten ++ R)
 | [], _ => ⟨hR, hN⟩
 | x :: l, h => by
  obtain ⟨i1, i2⟩ := lt_list f sh h0 hby hR hN l (fun y hy => h y (by simp [hy]))
  have e : ((x :: l).map fun x => s0 :: s1 ++ sh x).flatten ++ R = s0 :: s1 ++ (sh x ++ ((l.map fun x => s0 :: s1 ++ sh x).flatten ++ R)) := by simp
  have k : comK f (x :: l) ++ KR = kS [44] :: (f x ++ (comK f l ++ KR)) := by simp [comK]
  rw [e, k]
  exact ⟨hby _ _ (h x (by simp) _ _ i1 i2), NoW.cons h0 _⟩
theorem nm_word {u : List UInt8} (h : u = [115, 99, 104, 101, 100, 117, 108, 101] ∨ u = [109, 97, 107, 101, 115] ∨ u = [115, 111, 117, 114, 99, 101] ∨ u = [97, 115, 115, 101, 116] ∨ u = [102, 114, 111, 109] ∨ u = [100, 111] ∨ u = [105, 110, 116] ∨ u = [116, 101, 120, 116] ∨ u = [97, 115] ∨ u = [100, 105, 115, 116, 105, 110, 99, 116]) : Nm u := by
 rcases h with rfl | rfl | rfl | rfl | rfl | rfl | rfl | rfl | rfl | rfl <;> exact ⟨by decide, ⟨_, _, rfl, by decide⟩, by decide⟩
theorem nm_kind {i : Nat} (h : i < 5) : Nm (schWords.getD i []) := by
 have h5 : i = 0 ∨ i = 1 ∨ i = 2 ∨ i = 3 ∨ i = 4 := by omega
 rcases h5 with rfl | rfl | rfl | rfl | rfl <;> exact ⟨by decide, ⟨_, _, rfl, by decide⟩, by decide⟩
theorem LT.blanks {l : List UInt8} {K : List T3} (h : LT l K) : LT (32 :: l) K := h.blank (by decide)
theorem no32 (r : List UInt8) : NoW (32 :: r) := NoW.cons (by decide) r
theorem nod32 (r : List UInt8) : NoD (32 :: r) := NoD.cons (by decide) r
theorem lt_names {s0 : UInt8} {s1 : List UInt8} (h0 : worP s0 = false) (hby : ∀ l K, LT l K → LT (s0 :: s1 ++ l) (kS [44] :: K)) {R : List UInt8} {KR : List T3} (hR : LT R KR) (hN : NoW R) (l : List (List UInt8)) (hl : ∀ x ∈ l, Nm x) :
  LT ((l.map fun x => s0 :: s1 ++ id x).flatten ++ R) (comK (fun x => [kW x]) l ++ KR) ∧ NoW ((l.map fun x => s0 :: s1 ++ id x).flatten ++ R) :=
 lt_list (fun x => [kW x]) id h0 hby hR hN l (fun x hx _ _ h1 h2 => h1.name (hl x hx) h2)
theorem by_comma3 (l : List UInt8) (K : List T3) (h : LT l K) : LT (32 :: [44, 32] ++ l) (kS [44] :: K) := (h.blanks.sign (c := 44) (by decide)).blanks
theorem by_comma2 (l : List UInt8) (K : List T3) (h : LT l K) : LT (44 :: [32] ++ l) (kS [44] :: K) := h.blanks.sign (c := 44) (by decide)
theorem by_comma1 (l : List UInt8) (K : List T3) (h : LT l K) : LT (44 :: [] ++ l) (kS [44] :: K) := h.sign (c := 44) (by decide)
/-- A schedule's text, without its end. -/
def schT (nm cron u : List UInt8) (l : List (List UInt8)) (R : List UInt8) : List UInt8 := [115, 99, 104, 101, 100, 117, 108, 101] ++ 32 :: (nm ++ 32 :: 34 :: (esc cron ++ 34 :: 32 :: ([109, 97, 107, 101, 115] ++ 32 :: (u ++ ((l.map fun x => 32 :: [44, 32] ++ id x).flatten ++ R)))))
theorem sch_toks {nm cron u : List UInt8} {l : List (List UInt8)} (h1 : Nm nm) (h2 : cron.all okByte = true) (h3 : cron.length ≤ 64) (h4 : Nm u) (h5 : ∀ x ∈ l, Nm x) {R : List UInt8} {KR : List T3} (hR : LT R KR) (hN : NoW R) :
  LT (schT nm cron u l R) (schK nm cron u l ++ KR) := by
 obtain ⟨i1, i2⟩ := lt_names (s0 := 32) (s1 := [44, 32]) (by decide) by_comma3 hR hN l h5
 have e : schK nm cron u l ++ KR = kW [115, 99, 104, 101, 100, 117, 108, 101] :: kW nm :: kL cron :: kW [109, 97, 107, 101, 115] :: kW u :: (comK (fun x => [kW x]) l ++ KR) := by simp [schK]
 rw [e]
 exact (((((i1.name h4 i2).blanks.name (nm_word (u := [109, 97, 107, 101, 115]) (by decide)) (no32 _)).blanks.lit h2 h3).blanks.name h1 (no32 _)).blanks).name (nm_word (u := [115, 99, 104, 101, 100, 117, 108, 101]) (by decide)) (no32 _)
theorem reads_of {F : Nat} {t : List UInt8} {K : List T3} {l : List Df} (h : LT t K) (hl : t.length ≤ 16384) (hr : textS F (P1 K) = (l, P1 [])) : ReadsAs F (ba t) l := by
 obtain ⟨h1, h2⟩ := h.all hl
 have hd : (ba t).data.toList = t := by unfold ba; simp
 have hb : beg (lexA t) = P1 K := by unfold beg; rw [h2]
 refine ⟨by rw [hd, h1, ba_size], ?_, ?_⟩
 ·rw [hd]; unfold parR; rw [hb, hr]; rfl
 ·rw [hd]; unfold parR; rw [hb, hr]
theorem short_of {F : Nat} {t : List UInt8} {K : List T3} {l : List Df} (h : LT t K) (hl : t.length ≤ 16384) (hr : textS F (P1 K) = (l, ⟨[], 1, some (51, 0)⟩)) : EndsShort F (ba t) := by
 obtain ⟨h1, h2⟩ := h.all hl
 have hd : (ba t).data.toList = t := by unfold ba; simp
 have hb : beg (lexA t) = P1 K := by unfold beg; rw [h2]
 refine ⟨by rw [hd, h1, ba_size], ?_⟩
 rw [hd]; unfold parR; rw [hb, hr]; rfl
theorem sch_reads {F : Nat} (hF : 1000 ≤ F) {nm cron u : List UInt8} {l : List (List UInt8)} (h1 : Nm nm) (h2 : cron.all okByte = true) (h3 : cron.length ≤ 64) (h4 : Nm u) (h5 : ∀ x ∈ l, Nm x) (hl : l.length ≤ 20)
  (hs : (schT nm cron u l [32, 59]).length ≤ 16384) : ReadsAs F (ba (schT nm cron u l [32, 59])) [schD nm cron u l] ∧ EndsShort F (ba (schT nm cron u l [32])) := by
 have k1 := sch_toks h1 h2 h3 h4 h5 (R := [32, 59]) ((LT.nil.sign (c := 59) (by decide)).blanks) (no32 _)
 have k2 := sch_toks h1 h2 h3 h4 h5 (R := [32]) LT.nil.blanks (no32 _)
 rw [List.append_nil] at k2
 have hs2 : (schT nm cron u l [32]).length ≤ 16384 := by
  have : (schT nm cron u l [32, 59]).length = (schT nm cron u l [32]).length + 1 := by unfold schT; simp; omega
  omega
 refine ⟨reads_of k1 hs (text_one (by omega) ?_), short_of k2 hs2 (text_cut (d := schD nm cron u l) (by omega) (by simp [schK]) ?_)⟩
 ·exact sch_def nm cron u l [kS [59]] rfl (by omega)
 ·have := sch_def nm cron u l [] rfl (F := F) (by omega)
  rwa [List.append_nil] at this
/-- A source's text, without its end. -/
def colT (x : List UInt8 × Bool) : List UInt8 := x.1 ++ 32 :: (if x.2 then [116, 101, 120, 116] else [105, 110, 116])
def srcT (nm : List UInt8) (x : List UInt8 × Bool) (l : List (List UInt8 × Bool)) (i a z : Nat) (R : List UInt8) : List UInt8 :=
 [115, 111, 117, 114, 99, 101] ++ 32 :: (nm ++ 40 :: (colT x ++ ((l.map fun x => 44 :: [] ++ colT x).flatten ++ 41 :: 32 :: (schWords.getD i [] ++ 32 :: (Lib.decDigits a ++ 46 :: 46 :: (Lib.decDigits z ++ R))))))
theorem col_toks {x : List UInt8 × Bool} (h : Nm x.1) (r : List UInt8) (K : List T3) (hr : LT r K) (hn : NoW r) : LT (colT x ++ r) (colK x ++ K) := by
 obtain ⟨u, b⟩ := x
 have e : colT (u, b) ++ r = u ++ 32 :: ((if b then [116, 101, 120, 116] else [105, 110, 116]) ++ r) := by simp [colT]
 rw [e]
 have hw : Nm (if b then [116, 101, 120, 116] else [105, 110, 116]) := by cases b <;> exact nm_word (by decide)
 exact (hr.name hw hn).blanks.name h (no32 _)
theorem src_toks {nm : List UInt8} {x : List UInt8 × Bool} {l : List (List UInt8 × Bool)} {i a z : Nat} (h1 : Nm nm) (h2 : Nm x.1) (h3 : ∀ y ∈ l, Nm y.1) (hi : i < 5) (ha : a < 9223372036854775808) (hz : z < 9223372036854775808) {R : List UInt8} {KR : List T3} (hR : LT R KR) (hN : NoD R) :
  LT (srcT nm x l i a z R) (srcK nm x l i a z ++ KR) := by
 have t1 := ((((hR.num hz hN).dots.num ha (NoD.cons (by decide) _)).blanks.name (nm_kind hi) (no32 _)).blanks.sign (c := 41) (by decide))
 obtain ⟨i1, i2⟩ := lt_list colK colT (s0 := 44) (s1 := []) (by decide) by_comma1 t1 (NoW.cons (by decide) _) l (fun y hy r K k1 k2 => col_toks (h3 y hy) r K k1 k2)
 have t2 := (col_toks h2 _ _ i1 i2).sign (c := 40) (by decide)
 have t3 := (t2.name h1 (NoW.cons (by decide) _)).blanks.name (nm_word (u := [115, 111, 117, 114, 99, 101]) (by decide)) (no32 _)
 have e : srcK nm x l i a z ++ KR = kW [115, 111, 117, 114, 99, 101] :: kW nm :: kS [40] :: (colK x ++ (comK colK l ++ (kS [41] :: kW (schWords.getD i []) :: kN a :: kS [46, 46] :: kN z :: KR))) := by simp [srcK, schmK]
 rw [e]
 exact t3
theorem src_reads {F : Nat} (hF : 1000 ≤ F) {nm : List UInt8} {x : List UInt8 × Bool} {l : List (List UInt8 × Bool)} {i a z : Nat} (h1 : Nm nm) (h2 : Nm x.1) (h3 : ∀ y ∈ l, Nm y.1) (hi : i < 5) (ha : a < 9223372036854775808) (hz : z < 9223372036854775808) (hl : l.length ≤ 20)
  (hs : (srcT nm x l i a z [59]).length ≤ 16384) : ReadsAs F (ba (srcT nm x l i a z [59])) [srcD nm x l i a z] ∧ EndsShort F (ba (srcT nm x l i a z [])) := by
 have k1 := src_toks h1 h2 h3 hi ha hz (R := [59]) (LT.nil.sign (c := 59) (by decide)) (NoD.cons (by decide) _)
 have k2 := src_toks h1 h2 h3 hi ha hz (R := []) LT.nil NoD.nil
 rw [List.append_nil] at k2
 have hs2 : (srcT nm x l i a z []).length ≤ 16384 := by
  have : (srcT nm x l i a z [59]).length = (srcT nm x l i a z []).length + 1 := by unfold srcT; simp; omega
  omega
 refine ⟨reads_of k1 hs (text_one (by omega) ?_), short_of k2 hs2 (text_cut (d := srcD nm x l i a z) (by omega) (by simp [srcK]) ?_)⟩
 ·exact src_def nm x l hi a z [kS [59]] (by omega)
 ·have := src_def nm x l hi a z [] (F := F) (by omega)
  rwa [List.append_nil] at this
end Go.Proofs.YtljoajjlkjjgeaaGreatDoor
