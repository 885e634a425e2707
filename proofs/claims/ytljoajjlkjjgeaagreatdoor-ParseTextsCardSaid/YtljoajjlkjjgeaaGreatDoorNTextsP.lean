/-
  ParseTexts: what is told of a text that is refused (pure); a row of the call's own as a source.
-/
import Derived.Test.YtljoajjlkjjgeaaGreatDoorNSound
import Derived.Test.YtljoajjlkjjgeaaGreatDoorNOwn
namespace Go.Proofs.YtljoajjlkjjgeaaGreatDoor
open Go.RowKit Go.Sort LM Go

theorem end_err {F : Nat} {l : List UInt8} {c : Int} {k : Nat} (h : (endS (parR F (lexA l)).2).b = some (c, k)) : (c = 51 ∨ c = 52) ∧ k ≤ (lexA l).1.length := by
  have hw : Wf (beg (lexA l)) := fun h => absurd rfl h
  have t : Tr (beg (lexA l)) (parR F (lexA l)).2 := text_tr F (F + 1) [] _ hw
  have hlen : (beg (lexA l)).L.length = (lexA l).1.length := by show ((lexA l).1.map keyT).length = _; simp
  unfold endS at h
  split at h
  · have := t.new c k rfl h
    exact ⟨this.1, by omega⟩
  · rename_i hne
    cases hb : (parR F (lexA l)).2.b with
    | some x => exact absurd (t.wf (by rw [hb]; simp)) hne
    | none =>
      have e : (failS 51 (parR F (lexA l)).2).b = some (51, (parR F (lexA l)).2.L.length) := by unfold failS; rw [hb]
      rw [e] at h
      injection h with h
      injection h with h1 h2
      have := t.len
      exact ⟨Or.inl h1.symm, by omega⟩
theorem pos_is {TL : List Tk} {E k : Nat} (h : k ≤ TL.length) : posOf TL E k = E ∨ ∃ j, ∃ hj : j < TL.length, posOf TL E k = TL[j].at' := by
  unfold posOf
  by_cases hk : k = 0
  · exact Or.inl (if_pos hk)
  · refine Or.inr ⟨TL.length - k, by omega, ?_⟩
    rw [if_neg hk, List.getD_eq_getElem?_getD, List.getElem?_eq_getElem (by omega)]; rfl
theorem own_src {w : World} {base n : Nat} {v : Value} {cs : List Value} (h : w.ownsRow base 43 25 v n cs) :
    (v = .slice none 0 0 ∧ n = 0 ∧ cs = []) ∨ ∃ g cap, v = .slice (some ⟨g, 0, none⟩) n cap ∧ cs.length = n * 25 ∧ ∀ i u, cs[i]? = some u → w.cell? ((⟨g, 0, none⟩ : Addr).add i) = some u := by
  have hl := h.1
  rcases h.2 with ⟨rfl, h0⟩ | ⟨g, cap, cur, rfl, hg, hh, hn, hm, hsz, htk⟩
  · exact Or.inl ⟨rfl, h0, by rw [h0] at hl; simpa using hl⟩
  · refine Or.inr ⟨g, cap, rfl, hl, fun i u hi => ?_⟩
    have hlt : i < n * 25 := by
      have := List.getElem?_eq_some_iff.1 hi
      obtain ⟨k, _⟩ := this
      omega
    have e : (⟨g, 0, none⟩ : Addr).add i = ⟨g, i, none⟩ := by unfold Addr.add; simp; exact fun e => e.symm
    rw [e, Lib.cell_of_heap hh]
    rw [← htk, List.getElem?_take_of_lt hlt] at hi
    simpa using hi
/-- The error that Parse tells of a text; 0: none. -/
def errP (l : List UInt8) : Int := if (lexA l).2.2 ≠ 0 then (lexA l).2.2 else errOf (endS (parR 16384 (lexA l)).2).b
theorem errP_zero {l : List UInt8} (h : errP l = 0) : (lexA l).2.2 = 0 ∧ (endS (parR 16384 (lexA l)).2).b = none := by
  unfold errP at h
  by_cases h1 : (lexA l).2.2 = 0
  · rw [if_neg (by simpa using h1)] at h
    refine ⟨h1, ?_⟩
    cases hb : (endS (parR 16384 (lexA l)).2).b with
    | none => rfl
    | some x =>
      obtain ⟨c, k⟩ := x
      have := (end_err hb).1
      rw [hb] at h
      simp only [errOf] at h
      omega
  · rw [if_pos h1] at h; exact absurd h h1
theorem parse_fail (s : ByteArray) (w : World) (hL : Lw w) (hs : s.size ≤ 140737488355328) (h : errP s.data.toList ≠ 0) :
    Calls Tryz.prog 24 #[.string s] w (fun e w1 => (∃ p : Int, e = .returned (.tuple #[.slice none 0 0, .int .i64 p, .int .i64 (errP s.data.toList)])) ∧ Below w.heap.size w w1) := by
  refine (parseR_any (F := 16384) (by decide) (by decide) s w hL hs).mono ?_
  unfold errP at *
  rintro e w1 ⟨hb, ⟨k, rfl⟩ | ⟨k, k2, -⟩ | ⟨k, c, m, k2, rfl⟩⟩
  · rw [if_pos k] at *; exact ⟨⟨_, rfl⟩, hb⟩
  · rw [if_neg (by simpa using k), k2] at h; exact absurd rfl h
  · rw [if_neg (by simpa using k), k2] at *; exact ⟨⟨_, rfl⟩, hb⟩
theorem parse_good (s : ByteArray) (w : World) (hL : Lw w) (hs : s.size ≤ 16384) (h : errP s.data.toList = 0) :
    Calls Tryz.prog 24 #[.string s] w (fun e w1 => (∃ v, e = .returned (.tuple #[v, .int .i64 (s.size : Nat), .int .i64 0]) ∧ OwnDefs (parR 16384 (lexA s.data.toList)).1 w w1 v) ∧ Below w.heap.size w w1) := by
  obtain ⟨h1, h2⟩ := errP_zero h
  have h3 := lexA_end (by rw [show s.data.toList.length = s.size from Array.length_toList]; exact hs) h1
  rw [show s.data.toList.length = s.size from Array.length_toList] at h3
  refine (parseR_any (F := 16384) (by decide) (by decide) s w hL (by omega)).mono ?_
  rintro e w1 ⟨hb, ⟨k, rfl⟩ | ⟨k, k2, v, rfl, hv⟩ | ⟨k, c, m, k2, rfl⟩⟩
  · exact absurd h1 k
  · rw [h3]; exact ⟨⟨v, rfl, hv⟩, hb⟩
  · rw [h2] at k2; cases k2
theorem parse_lex (s : ByteArray) (w : World) (hL : Lw w) (hs : s.size ≤ 140737488355328) (h : (lexA s.data.toList).2.2 ≠ 0) :
    Calls Tryz.prog 24 #[.string s] w (fun e w1 => e = .returned (.tuple #[.slice none 0 0, .int .i64 ((lexA s.data.toList).2.1 : Nat), .int .i64 (lexA s.data.toList).2.2]) ∧ Below w.heap.size w w1) := by
  refine (parseR_any (F := 16384) (by decide) (by decide) s w hL hs).mono ?_
  rintro e w1 ⟨hb, ⟨k, rfl⟩ | ⟨k, k2, -⟩ | ⟨k, c, m, k2, rfl⟩⟩
  · exact ⟨rfl, hb⟩
  · exact absurd k h
  · exact absurd k h
theorem parse_rule (s : ByteArray) (w : World) (hL : Lw w) (hs : s.size ≤ 16384) (h : (lexA s.data.toList).2.2 = 0) (hn : errP s.data.toList ≠ 0) :
    ∃ (c : Int) (p : Nat), (c = 51 ∨ c = 52) ∧ (p = s.size ∨ ∃ j, ∃ hj : j < (lexA s.data.toList).1.length, p = (lexA s.data.toList).1[j].at') ∧
    Calls Tryz.prog 24 #[.string s] w (fun e w1 => e = .returned (.tuple #[.slice none 0 0, .int .i64 (p : Nat), .int .i64 c]) ∧ Below w.heap.size w w1) := by
  have h3 := lexA_end (by rw [show s.data.toList.length = s.size from Array.length_toList]; exact hs) h
  rw [show s.data.toList.length = s.size from Array.length_toList] at h3
  cases hb : (endS (parR 16384 (lexA s.data.toList)).2).b with
  | none => exact absurd (by unfold errP; rw [if_neg (by simpa using h), hb]; rfl) hn
  | some x =>
    obtain ⟨c, k⟩ := x
    obtain ⟨e1, e2⟩ := end_err hb
    refine ⟨c, posOf (lexA s.data.toList).1 (lexA s.data.toList).2.1 k, e1, ?_, (parseR_any (F := 16384) (by decide) (by decide) s w hL (by omega)).mono ?_⟩
    · rw [h3]; exact pos_is e2
    · rintro e w1 ⟨hb1, ⟨k', rfl⟩ | ⟨k', k2, -⟩ | ⟨k', c', m, k2, rfl⟩⟩
      · exact absurd h k'
      · rw [hb] at k2; cases k2
      · rw [hb] at k2
        injection k2 with k2
        injection k2 with q1 q2
        subst q1 q2
        exact ⟨rfl, hb1⟩
/-- Both texts together. -/
theorem errP_two {a b : List UInt8} (ha : a.length ≤ 2000) (hb : b.length ≤ 2000) (h : errP a = 0) : errP (a ++ 10 :: b) = errP b ∧ (errP b = 0 → (parR 16384 (lexA (a ++ 10 :: b))).1 = (parR 16384 (lexA a)).1 ++ (parR 16384 (lexA b)).1) := by
  obtain ⟨h1, h2⟩ := errP_zero h
  obtain ⟨k1, -⟩ := lexA_two ha hb h1
  by_cases hz : (lexA b).2.2 = 0
  · have hp := par_two (F := 16384) (Nat.le_refl _) ha hb h1 hz h2
    refine ⟨?_, fun _ => by rw [hp]⟩
    unfold errP
    rw [if_neg (by rw [k1]; simpa using hz), if_neg (by simpa using hz), hp]
  · refine ⟨?_, fun e => absurd (errP_zero e).1 hz⟩
    unfold errP
    rw [if_pos (by rw [k1]; exact hz), if_pos hz, k1]
/-- Is the place a token's, among the first so many? -/
def anyAt (L : List Tk) (p j : Nat) : Bool := (L.take j).any fun t => t.at' == p
theorem anyAt_0 (L : List Tk) (p : Nat) : anyAt L p 0 = false := by simp [anyAt]
theorem anyAt_succ {L : List Tk} {p j : Nat} (h : j < L.length) : anyAt L p (j + 1) = (anyAt L p j || (L[j].at' == p)) := by
  unfold anyAt
  rw [List.take_succ_eq_append_getElem h, List.any_append]
  simp
theorem anyAt_is {L : List Tk} {p j : Nat} (h : j < L.length) (e : p = L[j].at') : anyAt L p L.length = true := by
  unfold anyAt
  rw [List.take_length, List.any_eq_true]
  exact ⟨L[j], List.getElem_mem h, by simp [e]⟩
end Go.Proofs.YtljoajjlkjjgeaaGreatDoor
