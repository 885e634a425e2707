/-
  A disk with any two files is opened (no program).
-/
import Derived.Test.YtkdihekhdnnheaaDoorMG6
namespace Go.Proofs.YtkdihekhdnnheaaDoor

theorem segF_zero (fs : List (List UInt8)) (h : (segF fs).gen = 0) : segF fs = seg0 := by
  cases fs with
  | nil => rfl
  | cons c t =>
    cases hm : headM c with
    | none => rw [segF_none hm]
    | some p =>
      obtain ⟨g, cp⟩ := p
      rw [segF_cons hm] at h
      obtain ⟨h1, h2, h3⟩ := headM_bd hm
      have : g = 0 := h
      omega
theorem segM_zero {b : List UInt8} {fs : List (List UInt8)} (hs : Scanned b fs) (hl : b.length ≤ 4294960000) (h : (segM b).gen = 0) : segM b = seg0 := by
  rw [segM_of hs hl] at h ⊢
  exact segF_zero _ h
theorem empty_twice (p : PD) (L : LV) (f : Nat) (gen : Int) (cp : List UInt8) (h1 : (emptyR p L f).1 = 0) (hx : (emptyR p L f).2.1.xs f = []) : rewR p L f gen cp = rewR (emptyR p L f).2.1 L f gen cp := by
  have e0 : emptyR (emptyR p L f).2.1 L f = (0, (emptyR p L f).2.1, L) := by
    show (if ((emptyR p L f).2.1.xs f).length = 0 then _ else _) = _
    rw [hx]; rfl
  unfold rewR
  rw [if_pos h1, e0, if_pos rfl]
theorem headB1_len : (headB 1 []).length ≤ 40 := by decide
/-- What an Open leaves. -/
theorem openR_two {p : PD} (hc : Cm p) {fs gs : List (List UInt8)} (h0 : Scanned (p.xs 0) fs) (h1 : Scanned (p.xs 1) gs) (h2 : p.xs 2 = []) (h3 : p.xs 3 = []) (hcap : (openS p).gen = 0 → 40 ≤ p.cap) :
    (openR p).1 = 0 ∧ Cm (openR p).2.1 ∧ (openR p).2.1.xs (1 - openF p) = [] ∧ openF p < 2 ∧ openS p = segM (p.xs (openF p)) ∧ (openS p).size ≤ (p.xs (openF p)).length ∧
    ((openS p).gen = 0 → openF p = 0 ∧ openS p = seg0 ∧ (openR p).2.1.xs 0 = headB 1 [] ∧ (openR p).2.1.s 0 = ((headB 1 []).length : Nat) ∧ (openR p).2.2 = ⟨0, 1, (headB 1 []).length, false, false⟩) ∧
    (¬ (openS p).gen = 0 → (openR p).2.1.xs (openF p) = (p.xs (openF p)).take (openS p).size ∧ (openR p).2.1.s (openF p) = ((openS p).size : Nat) ∧ (openR p).2.2 = ⟨openF p, (openS p).gen, (openS p).size, false, false⟩) := by
  have hl : ∀ i, i < 4 → (p.xs i).length ≤ 4294960000 := fun i hi => by have := hc.ok.len hi; omega
  have b0 := segM_bd h0 (hl 0 (by omega))
  have b1 := segM_bd h1 (hl 1 (by omega))
  have hf : openF p < 2 := by unfold openF; split <;> omega
  have hS : openS p = segM (p.xs (openF p)) := rfl
  have hsz : (openS p).size ≤ (p.xs (openF p)).length := by
    rw [hS]
    rcases (by omega : openF p = 0 ∨ openF p = 1) with e | e
    · rw [e]; exact b0.2.2.1
    · rw [e]; exact b1.2.2.1
  by_cases hg : (openS p).gen = 0
  · have hF : openF p = 0 := by
      rcases (by omega : openF p = 0 ∨ openF p = 1) with e | e
      · exact e
      · exfalso
        rw [hS, e] at hg
        unfold openF at e
        by_cases hx : (segM (p.xs 0)).gen < (segM (p.xs 1)).gen
        · omega
        · rw [if_neg hx] at e; omega
    have hz : openS p = seg0 := by rw [hS, hF] at hg ⊢; exact segM_zero h0 (hl 0 (by omega)) hg
    have eL : openL p = ⟨0, 0, 0, false, false⟩ := by unfold openL; rw [hF, hz]; rfl
    obtain ⟨m1, m2, m3, m4, m5, m6⟩ := hc.empty ⟨0, 0, 0, false, false⟩ (f := 1) (by omega)
    obtain ⟨n1, n2, n3, n4, n5, n6⟩ := m2.empty ⟨0, 0, 0, false, false⟩ (f := 0) (by omega)
    have eR : openR p = rewR (emptyR (emptyR p ⟨0, 0, 0, false, false⟩ 1).2.1 ⟨0, 0, 0, false, false⟩ 0).2.1 ⟨0, 0, 0, false, false⟩ 0 1 [] := by
      unfold openR
      rw [eL]
      unfold prepR
      rw [if_pos rfl]
      unfold beginR
      rw [if_pos m1]
      exact empty_twice _ _ _ _ _ n1 (by rw [n3]; exact upd_same _ _ _)
    generalize hq : (emptyR (emptyR p ⟨0, 0, 0, false, false⟩ 1).2.1 ⟨0, 0, 0, false, false⟩ 0).2.1 = q at *
    have x0 : q.xs 0 = [] := by rw [n3]; exact upd_same _ _ _
    have x1 : q.xs 1 = [] := by rw [n3, upd_other _ _ (by omega), m3]; exact upd_same _ _ _
    have x2 : q.xs 2 = [] := by rw [n3, upd_other _ _ (by omega), m3, upd_other _ _ (by omega)]; exact h2
    have x3 : q.xs 3 = [] := by rw [n3, upd_other _ _ (by omega), m3, upd_other _ _ (by omega)]; exact h3
    have hu : q.used = 0 := by unfold PD.used; rw [x0, x1, x2, x3]; rfl
    obtain ⟨a1, a2, a3, a4, a5, a6⟩ := rew_calm n2 ⟨0, 0, 0, false, false⟩ (f := 0) (by omega) 1 [] x0 (by rw [hu, n5, m5]; have := headB1_len; have := hcap hg; show ((0 : Nat) : Int) + _ ≤ _; omega)
    rw [eR]
    refine ⟨a1, a2, ?_, hf, hS, hsz, fun _ => ⟨hF, hz, ?_, ?_, a6⟩, fun hn => absurd hg hn⟩
    · rw [hF, a3, upd_other _ _ (by omega)]; exact x1
    · rw [a3]; exact upd_same _ _ _
    · rw [a4]; exact upd_same _ _ _
  · have ht : (trimR p (openL p)).1 = 0 ∧ Cm (trimR p (openL p)).2.1 ∧ (trimR p (openL p)).2.1.xs = upd p.xs (openF p) ((p.xs (openF p)).take (openS p).size) ∧ (trimR p (openL p)).2.1.s (openF p) = ((openS p).size : Nat) := by
      unfold trimR
      rw [show (openL p).size = (openS p).size from rfl, show (openL p).f = openF p from rfl]
      generalize openF p = f at *
      generalize (openS p).size = n at *
      by_cases hz : n < (p.xs f).length
      · rw [if_pos hz]
        obtain ⟨a1, a2, a3⟩ := hc.ct (f := f) (n := n) (by omega) hsz
        refine ⟨a1, a3, ?_, ?_⟩
        · show (ctP p f _).xs = _
          rw [a2]
        · show (ctP p f _).s f = _
          rw [a2]; exact upd_same _ _ _
      · rw [if_neg hz]
        have hn : n = (p.xs f).length := by omega
        have hT : (p.xs f).take n = p.xs f := List.take_of_length_le (by omega)
        by_cases hy : p.s f < ((p.xs f).length : Int)
        · rw [if_pos hy]
          obtain ⟨a1, a2, a3⟩ := hc.syn (f := f) (by omega)
          refine ⟨a1, a3, ?_, ?_⟩
          · show (synP p f).xs = _
            rw [a2, hT, upd_self]
          · show (synP p f).s f = _
            rw [a2, hn]; exact upd_same _ _ _
        · rw [if_neg hy]
          refine ⟨rfl, hc, ?_, ?_⟩
          · show p.xs = _
            rw [hT, upd_self]
          · show p.s f = _
            have := hc.ok.s1 f (by omega)
            rw [hn]; omega
    obtain ⟨t1, t2, t3, t4⟩ := ht
    have eR : openR p = emptyR (trimR p (openL p)).2.1 (openL p) (1 - openF p) := by
      unfold openR prepR
      rw [if_neg (show ¬ (openL p).gen = 0 from hg), if_pos t1]
      rfl
    obtain ⟨m1, m2, m3, m4, m5, m6⟩ := t2.empty (openL p) (f := 1 - openF p) (by omega)
    rw [eR]
    refine ⟨m1, m2, ?_, hf, hS, hsz, fun hn => absurd hn hg, fun _ => ⟨?_, ?_, ?_⟩⟩
    · rw [m3]; exact upd_same _ _ _
    · rw [m3, upd_other _ _ (by omega), t3]; exact upd_same _ _ _
    · rw [m4, upd_other _ _ (by omega)]; exact t4
    · rw [m6]; rfl
end Go.Proofs.YtkdihekhdnnheaaDoor
