/-
  What the parser makes is within the bounds that Equal asks (pure).
-/
import Derived.Test.YtljoajjlkjjgeaaGreatDoorNTwo
import Derived.Test.YtljoajjlkjjgeaaGreatDoorNSched
import Derived.Test.YtljoajjlkjjgeaaGreatDoorMX2
namespace Go.Proofs.YtljoajjlkjjgeaaGreatDoor
open Go.RowKit Go.Sort LM Go

theorem listG_max {α : Type} {r : Rule α} : ∀ (n : Nat) (l : List α) (s : PSt), (listG r n l s).1.length ≤ l.length + n
 | 0, l, s => by simp [listG]
 | n + 1, l, s => by
  unfold listG
  split
  ·have := listG_max (r := r) n (l ++ [(r (takeS s).2).1]) (r (takeS s).2).2
   simp at this ⊢; omega
  ·simp
theorem list_few {α : Type} (F : Nat) (r : Rule α) (s : PSt) : (listS F r s).1.length ≤ F + 1 := by
 unfold listS
 have := listG_max (r := r) F [(r s).1] (r s).2
 simp at this; omega
theorem opt_few {α : Type} (F : Nat) (r : Rule α) (s : PSt) : (optionalS F r s).1.length ≤ F + 1 := by
 unfold optionalS
 split
 ·exact list_few F r s
 ·simp
theorem listG_each {α : Type} {r : Rule α} (hr : Nice r) {B : Nat} {P : α → Prop} (hP : ∀ s, Wf s → s.L.length ≤ B → P (r s).1) : ∀ (n : Nat) (l : List α) (s : PSt), Wf s → s.L.length ≤ B → (∀ x ∈ l, P x) → ∀ x ∈ (listG r n l s).1, P x
 | 0, l, s, _, _, h => by simpa [listG] using h
 | n + 1, l, s, hw, hB, h => by
  unfold listG
  split
  ·have t1 := take_tr hw
   have t2 := hr.tr _ t1.wf
   refine listG_each hr hP n _ _ t2.wf (Nat.le_trans t2.len (Nat.le_trans t1.len hB)) (fun x hx => ?_)
   rcases List.mem_append.1 hx with hx | hx
   ·exact h x hx
   ·rw [List.mem_singleton.1 hx]; exact hP _ t1.wf (Nat.le_trans t1.len hB)
  ·exact h
theorem list_each {α : Type} {r : Rule α} (hr : Nice r) {B : Nat} {P : α → Prop} (hP : ∀ s, Wf s → s.L.length ≤ B → P (r s).1) (F : Nat) (s : PSt) (hw : Wf s) (hB : s.L.length ≤ B) : ∀ x ∈ (listS F r s).1, P x := by
 have t := hr.tr s hw
 exact listG_each hr hP F _ _ t.wf (Nat.le_trans t.len hB) (fun x hx => by rw [List.mem_singleton.1 hx]; exact hP s hw hB)
theorem PEnc.mono : ∀ {n m : Nat} {ds : List Dt}, PEnc n ds → n ≤ m → PEnc m ds
 | 0, _, _, h, _ => by cases h
 | n + 1, 0, _, _, h => by omega
 | n + 1, m + 1, ds, h, hm => by
  obtain ⟨p, e, ok, ha⟩ := h
  exact ⟨p, e, ok, fun a h => (ha a h).mono (by omega)⟩
/-- A plan of some depth. -/
def Dp (ds : List Dt) : Prop := ∃ n, PEnc n ds
theorem dp_all : ∀ {l : List (List Dt)}, (∀ a ∈ l, Dp a) → ∃ n, ∀ a ∈ l, PEnc n a
 | [], _ => ⟨0, by simp⟩
 | x :: l, h => by
  obtain ⟨n, h1⟩ := h x (by simp)
  obtain ⟨m, h2⟩ := dp_all (fun a ha => h a (by simp [ha]) : ∀ a ∈ l, Dp a)
  refine ⟨n + m, fun a ha => ?_⟩
  rcases List.mem_cons.1 ha with rfl | ha
  ·exact h1.mono (by omega)
  ·exact (h2 a ha).mono (by omega)
theorem Dp.of {p : Pl} (ok : PlOk p) (h : ∀ a ∈ p.args, Dp a) : Dp p.enc := by
 obtain ⟨n, hn⟩ := dp_all h
 exact ⟨n + 1, p, rfl, ok, hn⟩
theorem dp_zero : Dp ({k := 0} : Pl).enc := ⟨1, pe_zero⟩
theorem sz0 : szX ({k := 0} : Pl).cond ≤ 1000000 := by decide
theorem stepK_ok {F B : Nat} {X : Rule XT} {P : Rule Pl} {q : List Dt} (hF : F ≤ 19000) (hBB : B ≤ 20000) (nX : Nice X) (zX : Sz X) (hP : ∀ s, Wf s → s.L.length ≤ B → Dp (P s).1.enc) (hq : Dp q) (k : Int) (s : PSt) (hw : Wf s) (hB : s.L.length ≤ B) : Dp (stepK F X P q k s).1.enc := by
 have one : ∀ a ∈ [q], Dp a := fun a ha => by rw [List.mem_singleton.1 ha]; exact hq
 have two : ∀ {p : List Dt}, Dp p → ∀ a ∈ [q, p], Dp a := fun hp a ha => by
  rcases List.mem_cons.1 ha with rfl | ha
  ·exact hq
  ·rw [List.mem_singleton.1 ha]; exact hp
 unfold stepK
 split
 ·refine Dp.of ⟨by simp, ?_, by simp, by simp, by simp, by simp, by simp, by simp⟩ one
  have := zX s hw
  show szX (X s).1 ≤ 1000000
  omega
 split
 ·have h1 := list_few F (keptS X) s
  have h2 := list_each (P := fun x : XT × ByteArray => szX x.1 ≤ 1000000) (nice_kept nX) (fun s hw hB => by
   have := zX s hw
   show szX (X s).1 ≤ 1000000
   omega) F s hw hB
  refine Dp.of ⟨by simp, sz0, by simp; omega, by simp; omega, ?_, by simp, by simp, by simp⟩ one
  intro x hx
  obtain ⟨y, hy, rfl⟩ := List.mem_map.1 hx
  exact h2 y hy
 split
 ·have h1 := list_few F pairS (expectS [111, 110] (P s).2)
  refine Dp.of ⟨by simp, sz0, by simp, by simp, by simp, ?_, by simp, by simp⟩ (two (hP s hw hB))
  show (listS F pairS (expectS [111, 110] (P s).2)).1.length ≤ _
  omega
 split
 ·have h1 := opt_few F nameS s
  have h2 := opt_few F aggS (expectS [58] (optionalS F nameS s).2)
  refine Dp.of ⟨by simp, sz0, ?_, by simp, by simp, by simp, ?_, by simp⟩ one
  ·show (optionalS F nameS s).1.length ≤ _
   omega
  ·show (optionalS F aggS (expectS [58] (optionalS F nameS s).2)).1.length ≤ _
   omega
 split
 ·exact Dp.of ⟨by simp, sz0, by simp, by simp, by simp, by simp, by simp, by simp⟩ (two (hP s hw hB))
 split
 ·simp only
  split
  ·have h1 := list_few F orderS (takeS (numberS s).2).2
   refine Dp.of ⟨by simp, sz0, by simp, by simp, by simp, by simp, by simp, ?_⟩ one
   show (listS F orderS (takeS (numberS s).2).2).1.length ≤ _
   omega
  ·exact Dp.of ⟨by simp, sz0, by simp, by simp, by simp, by simp, by simp, by simp⟩ one
 ·exact Dp.of ⟨by simp, sz0, by simp, by simp, by simp, by simp, by simp, by simp⟩ one
theorem steps_ok {F B : Nat} {X : Rule XT} {P : Rule Pl} (hF : F ≤ 19000) (hBB : B ≤ 20000) (nX : Nice X) (zX : Sz X) (nP : Nice P) (hP : ∀ s, Wf s → s.L.length ≤ B → Dp (P s).1.enc) : ∀ (n : Nat) (q : Pl) (s : PSt), Dp q.enc → Wf s → s.L.length ≤ B → Dp (stepsG F X P n q s).1.enc
 | 0, _, _, hq, _, _ => hq
 | n + 1, q, s, hq, hw, hB => by
  unfold stepsG
  split
  ·have t1 := take_tr hw
   have t2 := (nice_oneOf stepWords).tr _ t1.wf
   have t3 := (nice_step F nX nP q.enc).tr _ t1.wf
   have hq2 : Dp (stepS F X P q.enc (takeS s).2).1.enc := stepK_ok hF hBB nX zX hP hq _ _ t2.wf (Nat.le_trans t2.len (Nat.le_trans t1.len hB))
   exact steps_ok hF hBB nX zX nP hP n _ _ hq2 t3.wf (Nat.le_trans t3.len (Nat.le_trans t1.len hB))
  ·exact hq
theorem scan_ok (u : ByteArray) : Dp ({k := 1, nm := u} : Pl).enc := Dp.of ⟨by simp, sz0, by simp, by simp, by simp, by simp, by simp, by simp⟩ (by simp)
theorem query_dp {F B : Nat} (hF : F ≤ 19000) (hBB : B ≤ 20000) : ∀ (n : Nat) (s : PSt), Wf s → s.L.length ≤ B → Dp (queryG F n s).1.enc
 | 0, _, _, _ => dp_zero
 | n + 1, s, hw, hB => by
  have hP : ∀ s, Wf s → s.L.length ≤ B → Dp (partS (queryG F n) s).1.enc := fun s hw hB => by
   unfold partS
   split
   ·have w1 : Wf ⟨s.L, s.d + 1, s.b⟩ := hw
    have t := tr_expect [40] w1
    exact query_dp hF hBB n _ t.wf (Nat.le_trans t.len hB)
   ·exact scan_ok _
  have nP := nice_part (nice_queryG F n)
  have t := nP.tr s hw
  exact steps_ok hF hBB (nice_expr F _) (size_expr F _) nP hP F _ _ (hP s hw hB) t.wf (Nat.le_trans t.len hB)
theorem defK_dp2 {F : Nat} {u : ByteArray} {Y : Pl} {X : List (ByteArray × (Int × Int) × ByteArray)} {sc : Int × Int × Int} (h1 : Dp Y.enc) (h2 : X.length ≤ F + 1) (hF : F ≤ 19000) : ∃ n, DfOk n ({k := 2, nm := u, sc := sc, ins := X, pl := Y} : Df) := by
 obtain ⟨n, hn⟩ := h1
 exact ⟨n, hn, by simp, by show X.length ≤ _; omega, by simp⟩
theorem def_dp {F B : Nat} (hF : F ≤ 19000) (hBB : B ≤ 20000) (s : PSt) (hw : Wf s) (hB : s.L.length ≤ B) : ∃ n, DfOk n (defS F s).1 := by
 have t1 := (nice_oneOf defWords).tr s hw
 have t2 := nice_name.tr _ t1.wf
 have hB2 := Nat.le_trans t2.len (Nat.le_trans t1.len hB)
 have w2 := t2.wf
 have e : defS F s = defK F (oneOfS defWords s).1 (nameS (oneOfS defWords s).2).1 (nameS (oneOfS defWords s).2).2 := rfl
 rw [e]
 generalize (oneOfS defWords s).1 = k
 generalize (nameS (oneOfS defWords s).2).1 = u
 generalize (nameS (oneOfS defWords s).2).2 = s2 at *
 by_cases h1 : k = 1
 ·subst h1
  rw [defK1]
  refine ⟨1, pe_zero, ?_, by simp, by simp⟩
  have := list_few F colS (expectS [40] s2)
  show (listS F colS (expectS [40] s2)).1.length ≤ _
  omega
 by_cases h2 : k = 2
 ·subst h2
  have t3 := nice_scheme.tr _ w2
  have t4 := tr_expect [102, 114, 111, 109] t3.wf
  have t5 := (nice_list F nice_input).tr _ t4.wf
  have t6 := tr_expect [100, 111] t5.wf
  have hq := query_dp hF hBB (F + 1) _ t6.wf (Nat.le_trans t6.len (Nat.le_trans t5.len (Nat.le_trans t4.len (Nat.le_trans t3.len hB2))))
  rw [defK2]
  exact defK_dp2 hq (list_few F inputS (expectS [102, 114, 111, 109] (schemeS s2).2)) hF
 by_cases h3 : k = 3
 ·subst h3
  rw [defK3]
  refine ⟨1, pe_zero, by simp, by simp, ?_⟩
  have := list_few F nameS (expectS [109, 97, 107, 101, 115] (literalS s2).2)
  show (listS F nameS (expectS [109, 97, 107, 101, 115] (literalS s2).2)).1.length ≤ _
  omega
 ·unfold defK
  rw [if_neg h1, if_neg h2, if_neg h3]
  exact ⟨1, pe_zero, by simp, by simp, by simp⟩
theorem text_dp {F B : Nat} (hF : F ≤ 19000) (hBB : B ≤ 20000) : ∀ (n : Nat) (l : List Df) (s : PSt), Wf s → s.L.length ≤ B → (∀ d ∈ l, ∃ n, DfOk n d) → ∀ d ∈ (textG F n l s).1, ∃ n, DfOk n d
 | 0, _, _, _, _, h => h
 | n + 1, l, s, hw, hB, h => by
  unfold textG
  split
  ·exact h
  ·have t1 := (nice_def F).tr s hw
   have t2 := tr_expect [59] t1.wf
   refine text_dp hF hBB n _ _ t2.wf (Nat.le_trans t2.len (Nat.le_trans t1.len hB)) (fun d hd => ?_)
   rcases List.mem_append.1 hd with hd | hd
   ·exact h d hd
   ·rw [List.mem_singleton.1 hd]; exact def_dp hF hBB s hw hB
theorem par_dp {F : Nat} (hF : F ≤ 19000) (l : List UInt8) (h : l.length ≤ 16384) : (∀ d ∈ (parR F (lexA l)).1, ∃ n, DfOk n d) ∧ (parR F (lexA l)).1.length ≤ 20000 := by
 have hk := (lexA_val l).2.2
 have hw : Wf (beg (lexA l)) := fun h => absurd rfl h
 have hl : (beg (lexA l)).L.length ≤ 16384 := by show ((lexA l).1.map keyT).length ≤ _; rw [List.length_map]; omega
 refine ⟨text_dp (B := 20000) hF (by omega) (F + 1) [] _ hw (by omega) (by simp), ?_⟩
 have hlen : ∀ (n : Nat) (l : List Df) (s : PSt), (textG F n l s).1.length ≤ l.length + n := fun n => by
  induction n with
  | zero => intro l s; simp [textG]
  | succ n ih =>
   intro l s
   unfold textG
   split
   ·simp
   ·have := ih (l ++ [(defS F s).1]) (expectS [59] (defS F s).2)
    simp at this ⊢; omega
 have := hlen (F + 1) [] (beg (lexA l))
 show (textG F (F + 1) [] (beg (lexA l))).1.length ≤ _
 simp at this; omega
end Go.Proofs.YtljoajjlkjjgeaaGreatDoor
