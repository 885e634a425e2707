/-
  Items, as the reference reads them: no program in it.
-/
import Derived.Test.YtggaflihblhapaaDoorHRNum
import Derived.Test.YtggaflihblhapaaDoorHItem
namespace Go.Proofs.YtggaflihblhapaaDoor
open Go.RowKit CM HM

theorem rn_of {l d rest : List UInt8} {p : Nat} (h : l.drop p = d ++ rest) (hd : numB d = true) (hr : rest = [] ∨ dig? (rest.getD 0 0) = false) : rnE l p = ((p + d.length : Nat) : Int) ∧ rnV l p = numV d := by
  have hd2 := hd
  unfold numB at hd2
  simp only [Bool.and_eq_true, Bool.not_eq_true', beq_eq_false_iff_ne, ne_eq, decide_eq_true_eq] at hd2
  obtain ⟨q1, q2, q3⟩ := hd2
  have e : (l.drop p).takeWhile dig? = d := by
    rw [h]
    have := tw_eq (d ++ rest) d.length (by simp) (by simpa using q3) (by
      rcases hr with hr | hr
      · left; rw [hr]; simp
      · right
        rw [List.getD_eq_getElem?_getD, List.getElem?_append_right (Nat.le_refl _), Nat.sub_self, ← List.getD_eq_getElem?_getD]
        exact hr)
    rw [this]; simp
  unfold rnE rnV
  rw [e, if_neg (by omega), if_neg (by omega), num_yes hd]
  exact ⟨rfl, rfl⟩
theorem tw_all : ∀ l : List UInt8, (l.takeWhile dig?).all dig? = true
  | [] => rfl
  | b :: l => by
    rw [List.takeWhile_cons]
    cases hb : dig? b
    · rfl
    · rw [if_pos rfl, List.all_cons, hb, tw_all l]; rfl
theorem rn_to {l : List UInt8} {p : Nat} (h : ¬ rnE l p < 0) : ∃ d rest, l.drop p = d ++ rest ∧ numB d = true ∧ rnE l p = ((p + d.length : Nat) : Int) ∧ rnV l p = numV d := by
  have hc : ¬ (((l.drop p).takeWhile dig?).length = 0 ∨ 2 < ((l.drop p).takeWhile dig?).length) := fun hc => by
    apply h
    unfold rnE
    rw [if_pos hc]
    omega
  have hall : ((l.drop p).takeWhile dig?).all dig? = true := tw_all _
  have hB : numB ((l.drop p).takeWhile dig?) = true := by
    unfold numB
    rw [hall]
    simp
    refine ⟨fun e => hc (.inl (by simpa using e)), by omega⟩
  refine ⟨(l.drop p).takeWhile dig?, (l.drop p).dropWhile dig?, (List.takeWhile_append_dropWhile).symm, hB, ?_, ?_⟩
  · unfold rnE; rw [if_neg hc]
  · unfold rnV; rw [if_neg hc, num_yes hB]
/-- What item reads: from, to, step. -/
def rI (f : Nat) (l : List UInt8) : Option (Nat × Nat × Nat) :=
  if l.getD 0 0 = 42 then
    if 1 < l.length ∧ l.getD 1 0 = 47 then
      if rnE l 2 < 0 then none else if rnE l 2 = (l.length : Nat) then some (loN f, hiN f, rnV l 2) else none
    else none
  else if rnE l 0 < 0 then none
  else if rnE l 0 < (l.length : Nat) ∧ l.getD (rnE l 0).toNat 0 = 45 then
    if rnE l ((rnE l 0).toNat + 1) < 0 then none
    else if rnE l ((rnE l 0).toNat + 1) < (l.length : Nat) ∧ l.getD (rnE l ((rnE l 0).toNat + 1)).toNat 0 = 47 then
      if rnE l ((rnE l ((rnE l 0).toNat + 1)).toNat + 1) < 0 then none
      else if rnE l ((rnE l ((rnE l 0).toNat + 1)).toNat + 1) = (l.length : Nat) then some (rnV l 0, rnV l ((rnE l 0).toNat + 1), rnV l ((rnE l ((rnE l 0).toNat + 1)).toNat + 1)) else none
    else if rnE l ((rnE l 0).toNat + 1) = (l.length : Nat) then some (rnV l 0, rnV l ((rnE l 0).toNat + 1), 1) else none
  else if rnE l 0 < (l.length : Nat) ∧ l.getD (rnE l 0).toNat 0 = 47 then none
  else if rnE l 0 = (l.length : Nat) then some (rnV l 0, rnV l 0, 1) else none
/-- The four forms. -/
inductive Frm (f : Nat) : List UInt8 → Nat × Nat × Nat → Prop
  | star (r : List UInt8) : numB r = true → Frm f (42 :: 47 :: r) (loN f, hiN f, numV r)
  | one (d : List UInt8) : numB d = true → Frm f d (numV d, numV d, 1)
  | two (d z : List UInt8) : numB d = true → numB z = true → Frm f (d ++ 45 :: z) (numV d, numV z, 1)
  | three (d z r : List UInt8) : numB d = true → numB z = true → numB r = true → Frm f (d ++ 45 :: (z ++ 47 :: r)) (numV d, numV z, numV r)
theorem numB_dig {d : List UInt8} (h : numB d = true) : ∀ b ∈ d, dig? b = true := by
  unfold numB at h
  simp only [Bool.and_eq_true] at h
  exact List.all_eq_true.1 h.2.2
theorem numB_ne {d : List UInt8} (h : numB d = true) : d ≠ [] := fun e => by rw [e] at h; cases h
theorem not_in {d : List UInt8} {c : UInt8} (h : numB d = true) (hc : dig? c = false) : c ∉ d := fun hm => by
  rw [numB_dig h c hm] at hc; cases hc
theorem d42 : dig? 42 = false := by decide
theorem d45 : dig? 45 = false := by decide
theorem d47 : dig? 47 = false := by decide
theorem idx_app {c : UInt8} : ∀ {x : List UInt8} (y : List UInt8), c ∉ x → Lib.indexByte (x ++ c :: y) c = (x.length : Nat)
  | [], y, _ => by simp [Lib.indexByte]
  | a :: x, y, h => by
    rw [List.mem_cons, not_or] at h
    rw [List.cons_append]
    unfold Lib.indexByte
    rw [if_neg (by intro e; exact h.1 (beq_iff_eq.1 e).symm), idx_app y h.2]
    rw [if_neg (by rw [beq_iff_eq]; omega)]
    simp
theorem idx_no {c : UInt8} : ∀ {x : List UInt8}, c ∉ x → Lib.indexByte x c = -1
  | [], _ => rfl
  | a :: x, h => by
    rw [List.mem_cons, not_or] at h
    unfold Lib.indexByte
    rw [if_neg (by intro e; exact h.1 (beq_iff_eq.1 e).symm), idx_no h.2]
    rfl
theorem idx_split {c : UInt8} : ∀ {l : List UInt8}, 0 ≤ Lib.indexByte l c → ∃ x y, l = x ++ c :: y ∧ c ∉ x
  | [], h => by simp [Lib.indexByte] at h
  | a :: l, h => by
    by_cases e : a = c
    · exact ⟨[], l, by rw [e]; rfl, by simp⟩
    · unfold Lib.indexByte at h
      rw [if_neg (by simpa using e)] at h
      by_cases h2 : 0 ≤ Lib.indexByte l c
      · obtain ⟨x, y, h3, h4⟩ := idx_split h2
        exact ⟨a :: x, y, by rw [h3]; rfl, by rw [List.mem_cons, not_or]; exact ⟨fun e2 => e e2.symm, h4⟩⟩
      · rw [if_pos (by rw [beq_iff_eq]; rcases index_range c l with h3 | h3 <;> omega)] at h
        omega
theorem cut_app {c : UInt8} {x : List UInt8} (y : List UInt8) (h : c ∉ x) : cutA c (x ++ c :: y) = x ∧ cutZ c (x ++ c :: y) = y ∧ cutB c (x ++ c :: y) = true := by
  unfold cutA cutZ cutB
  rw [idx_app y h, if_pos (by omega), if_pos (by omega)]
  refine ⟨by simp, ?_, by simp⟩
  rw [Int.toNat_natCast, List.drop_append, List.drop_of_length_le (by omega)]
  simp
theorem cut_no {c : UInt8} {x : List UInt8} (h : c ∉ x) : cutA c x = x ∧ cutZ c x = [] ∧ cutB c x = false := by
  unfold cutA cutZ cutB
  rw [idx_no h, if_neg (by omega), if_neg (by omega)]
  exact ⟨rfl, rfl, rfl⟩
theorem numB_cons {a : UInt8} {l : List UInt8} (h : dig? a = false) : numB (a :: l) = false := by
  unfold numB; rw [List.all_cons, h]; simp
theorem numB_mid {d y : List UInt8} {c : UInt8} (h : dig? c = false) : numB (d ++ c :: y) = false := by
  unfold numB; rw [List.all_append, List.all_cons, h]; simp
theorem head_not {d : List UInt8} (h : numB d = true) (y : List UInt8) : ¬ (d ++ y).getD 0 0 = 42 := by
  cases d with
  | nil => cases h
  | cons a d =>
    intro e
    have := numB_dig h a List.mem_cons_self
    simp at e
    rw [e] at this
    exact absurd this (by decide)
theorem getD_mid (d y : List UInt8) (c : UInt8) : (d ++ c :: y).getD d.length 0 = c := by
  rw [List.getD_eq_getElem?_getD, List.getElem?_append_right (Nat.le_refl _), Nat.sub_self]; rfl
theorem drop_mid (d y : List UInt8) (c : UInt8) : (d ++ c :: y).drop (d.length + 1) = y := by
  rw [List.drop_append, List.drop_of_length_le (by omega)]; simp
/-- The forms, as parseItem reads them. -/
theorem frm_itm {f : Nat} {l : List UInt8} {v : Nat × Nat × Nat} (h : Frm f l v) : itm f l = (v.1, v.2.1, v.2.2, true) := by
  cases h with
  | star r hr =>
    have e : (42 :: 47 :: r : List UInt8) = [42] ++ 47 :: r := rfl
    obtain ⟨c1, c2, c3⟩ := cut_app (c := 47) (x := [42]) r (by decide)
    unfold itm
    rw [if_neg (by rw [numB_cons d42]; simp), e, c1, c2, c3, if_neg (by simp), if_pos rfl, hr]
  | one d hd => unfold itm; rw [if_pos hd]
  | two d z hd hz =>
    have h47 : (47 : UInt8) ∉ d ++ 45 :: z := by
      rw [List.mem_append, List.mem_cons]
      rintro (h | h | h)
      · exact not_in hd d47 h
      · cases h
      · exact not_in hz d47 h
    obtain ⟨c1, c2, c3⟩ := cut_no h47
    obtain ⟨a1, a2, a3⟩ := cut_app z (not_in hd d45)
    unfold itm
    rw [if_neg (by rw [numB_mid d45]; simp), if_pos c3, c1, a1, a2, hd, hz]; rfl
  | three d z r hd hz hr =>
    have h47 : (47 : UInt8) ∉ d ++ 45 :: z := by
      rw [List.mem_append, List.mem_cons]
      rintro (h | h | h)
      · exact not_in hd d47 h
      · cases h
      · exact not_in hz d47 h
    have e : d ++ 45 :: (z ++ 47 :: r) = (d ++ 45 :: z) ++ 47 :: r := by simp
    obtain ⟨c1, c2, c3⟩ := cut_app r h47
    obtain ⟨a1, a2, a3⟩ := cut_app z (not_in hd d45)
    unfold itm
    rw [if_neg (by rw [numB_mid d45]; simp), e, c1, c2, c3, if_neg (by simp), if_neg (by
      intro e2
      have := head_not hd (45 :: z)
      rw [e2] at this
      exact this rfl), a1, a2, hd, hz, hr]; rfl
/-- The forms, as the reference reads them. -/
theorem frm_rI {f : Nat} {l : List UInt8} {v : Nat × Nat × Nat} (h : Frm f l v) : rI f l = some v := by
  cases h with
  | star r hr =>
    obtain ⟨n1, n2⟩ := rn_of (l := 42 :: 47 :: r) (d := r) (rest := []) (p := 2) (by simp) hr (.inl rfl)
    unfold rI
    rw [if_pos (show (42 :: 47 :: r : List UInt8).getD 0 0 = 42 from rfl), if_pos ⟨by simp, rfl⟩, n1, n2, if_neg (by omega), if_pos (by simp; omega)]
  | one _ hd =>
    obtain ⟨n1, n2⟩ := rn_of (l := l) (d := l) (rest := []) (p := 0) (by simp) hd (.inl rfl)
    have hh := head_not hd []
    rw [List.append_nil] at hh
    unfold rI
    rw [n1, n2, if_neg hh, if_neg (by omega), if_neg (by omega), if_neg (by omega), if_pos (by omega)]
  | two d z hd hz =>
    obtain ⟨n1, n2⟩ := rn_of (l := d ++ 45 :: z) (d := d) (rest := 45 :: z) (p := 0) (by simp) hd (.inr d45)
    obtain ⟨m1, m2⟩ := rn_of (l := d ++ 45 :: z) (d := z) (rest := []) (p := d.length + 1) (by rw [drop_mid]; simp) hz (.inl rfl)
    have hlen : (d ++ 45 :: z).length = d.length + 1 + z.length := by simp; omega
    unfold rI
    rw [n1, n2, if_neg (head_not hd _), if_neg (by omega), if_pos ⟨by rw [hlen]; omega, by rw [Int.toNat_natCast, Nat.zero_add, getD_mid]⟩, Int.toNat_natCast, Nat.zero_add, m1, m2, if_neg (by omega), if_neg (by rw [hlen]; omega), if_pos (by rw [hlen])]
  | three d z r hd hz hr =>
    have hlen : (d ++ 45 :: (z ++ 47 :: r)).length = d.length + 1 + z.length + 1 + r.length := by simp; omega
    have e : d ++ 45 :: (z ++ 47 :: r) = (d ++ 45 :: z) ++ 47 :: r := by simp
    have hl2 : (d ++ 45 :: z).length = d.length + 1 + z.length := by simp; omega
    obtain ⟨n1, n2⟩ := rn_of (l := d ++ 45 :: (z ++ 47 :: r)) (d := d) (rest := 45 :: (z ++ 47 :: r)) (p := 0) (by simp) hd (.inr d45)
    obtain ⟨m1, m2⟩ := rn_of (l := d ++ 45 :: (z ++ 47 :: r)) (d := z) (rest := 47 :: r) (p := d.length + 1) (by rw [drop_mid]) hz (.inr d47)
    obtain ⟨k1, k2⟩ := rn_of (l := d ++ 45 :: (z ++ 47 :: r)) (d := r) (rest := []) (p := d.length + 1 + z.length + 1) (by rw [e, ← hl2, drop_mid]; simp) hr (.inl rfl)
    have g1 : (d ++ 45 :: (z ++ 47 :: r)).getD (d.length + 1 + z.length) 0 = 47 := by rw [e, ← hl2, getD_mid]
    unfold rI
    rw [n1, n2, if_neg (head_not hd _), if_neg (by omega), if_pos ⟨by rw [hlen]; omega, by rw [Int.toNat_natCast, Nat.zero_add, getD_mid]⟩, Int.toNat_natCast, Nat.zero_add, m1, m2, if_neg (by omega),
      if_pos ⟨by rw [hlen]; omega, by rw [Int.toNat_natCast, g1]⟩, Int.toNat_natCast, k1, k2, if_neg (by omega), if_pos (by rw [hlen])]
/-- What parseItem takes has a form. -/
theorem itm_frm {f : Nat} {l : List UInt8} (h : (itm f l).2.2.2 = true) : ∃ v, Frm f l v := by
  unfold itm at h
  by_cases h1 : numB l = true
  · exact ⟨_, .one l h1⟩
  · rw [if_neg h1] at h
    cases h2 : cutB 47 l
    · rw [if_pos h2] at h
      have h47 : cutA 47 l = l := by
        unfold cutB at h2
        unfold cutA
        rw [if_neg (by simpa using h2)]
      simp only [Bool.and_eq_true] at h
      rw [h47] at h
      have h45 : 0 ≤ Lib.indexByte l 45 := Classical.byContradiction fun hn => by
        have := h.2
        unfold cutZ at this
        rw [if_neg hn] at this
        cases this
      obtain ⟨x, y, rfl, hx⟩ := idx_split h45
      obtain ⟨a1, a2, a3⟩ := cut_app y hx
      rw [a1, a2] at h
      exact ⟨_, .two x y h.1 h.2⟩
    · rw [if_neg (by rw [h2]; simp)] at h
      have h47 : 0 ≤ Lib.indexByte l 47 := by unfold cutB at h2; simpa using h2
      obtain ⟨x, r, rfl, hx⟩ := idx_split h47
      obtain ⟨a1, a2, a3⟩ := cut_app r hx
      rw [a1, a2] at h
      by_cases h3 : x = [42]
      · rw [if_pos h3] at h
        rw [h3]
        exact ⟨_, .star r h⟩
      · rw [if_neg h3] at h
        simp only [Bool.and_eq_true] at h
        have h45 : 0 ≤ Lib.indexByte x 45 := Classical.byContradiction fun hn => by
          have := h.1.2
          unfold cutZ at this
          rw [if_neg hn] at this
          cases this
        obtain ⟨d, z, rfl, hd⟩ := idx_split h45
        obtain ⟨b1, b2, b3⟩ := cut_app z hd
        rw [b1, b2] at h
        refine ⟨(numV d, numV z, numV r), ?_⟩
        rw [show (d ++ 45 :: z) ++ 47 :: r = d ++ 45 :: (z ++ 47 :: r) by simp]
        exact .three d z r h.1.1 h.1.2 h.2
theorem mid_of {l d rest : List UInt8} {p : Nat} {c : UInt8} (h : l.drop p = d ++ rest) (hlt : ((p + d.length : Nat) : Int) < (l.length : Nat)) (hc : l.getD (p + d.length) 0 = c) : ∃ y, rest = c :: y ∧ l.drop (p + d.length + 1) = y := by
  have h1 : l.drop (p + d.length) = rest := by rw [← List.drop_drop, h]; simp
  cases rest with
  | nil =>
    have := congrArg List.length h1
    rw [List.length_drop] at this
    simp at this
    omega
  | cons a y =>
    have h2 : l.getD (p + d.length) 0 = a := by
      rw [List.getD_eq_getElem?_getD, ← List.head?_drop, h1]; rfl
    refine ⟨y, by rw [← hc, h2], ?_⟩
    rw [← List.drop_drop, h1]; rfl
theorem end_of {l d rest : List UInt8} {p : Nat} (h : l.drop p = d ++ rest) (hp : p ≤ l.length) (hlt : ((p + d.length : Nat) : Int) = (l.length : Nat)) : rest = [] := by
  have := congrArg List.length h
  rw [List.length_drop, List.length_append] at this
  exact List.length_eq_zero_iff.1 (by omega)
/-- What the reference takes has a form. -/
theorem rI_frm {f : Nat} {l : List UInt8} {v : Nat × Nat × Nat} (h : rI f l = some v) : Frm f l v := by
  unfold rI at h
  by_cases h0 : l.getD 0 0 = 42
  · rw [if_pos h0] at h
    by_cases h1 : 1 < l.length ∧ l.getD 1 0 = 47
    · rw [if_pos h1] at h
      by_cases h2 : rnE l 2 < 0
      · rw [if_pos h2] at h; cases h
      · rw [if_neg h2] at h
        obtain ⟨d, rest, e1, e2, e3, e4⟩ := rn_to h2
        by_cases h3 : rnE l 2 = (l.length : Nat)
        · rw [if_pos h3] at h
          injection h with h
          have hr := end_of e1 (by omega) (by rw [← e3]; exact h3)
          match l, h0, h1, e1 with
          | [], _, h1, _ => simp at h1
          | [_], _, h1, _ => simp at h1
          | a :: b :: r, h0, h1, e1 =>
            have ha : a = 42 := h0
            have hb : b = 47 := h1.2
            have hr2 : r = d := by rw [hr] at e1; simpa using e1
            rw [← h, e4, ha, hb, hr2]
            exact .star d e2
        · rw [if_neg h3] at h; cases h
    · rw [if_neg h1] at h; cases h
  · rw [if_neg h0] at h
    by_cases h1 : rnE l 0 < 0
    · rw [if_pos h1] at h; cases h
    · rw [if_neg h1] at h
      obtain ⟨d, rest, e1, e2, e3, e4⟩ := rn_to h1
      rw [Nat.zero_add] at e3
      have e1' : l = d ++ rest := by simpa using e1
      rw [e3, e4, Int.toNat_natCast] at h
      by_cases h2 : (d.length : Int) < (l.length : Nat) ∧ l.getD d.length 0 = 45
      · rw [if_pos h2] at h
        obtain ⟨y, q1, q2⟩ := mid_of (p := 0) (c := 45) e1 (by rw [Nat.zero_add]; exact h2.1) (by rw [Nat.zero_add]; exact h2.2)
        rw [Nat.zero_add] at q2
        by_cases h3 : rnE l (d.length + 1) < 0
        · rw [if_pos h3] at h; cases h
        · rw [if_neg h3] at h
          obtain ⟨z, rest2, f1, f2, f3, f4⟩ := rn_to h3
          rw [f3, f4, Int.toNat_natCast] at h
          have hy : y = z ++ rest2 := by rw [← q2, f1]
          by_cases h4 : ((d.length + 1 + z.length : Nat) : Int) < (l.length : Nat) ∧ l.getD (d.length + 1 + z.length) 0 = 47
          · rw [if_pos h4] at h
            obtain ⟨y2, s1, s2⟩ := mid_of (c := 47) f1 h4.1 h4.2
            by_cases h5 : rnE l (d.length + 1 + z.length + 1) < 0
            · rw [if_pos h5] at h; cases h
            · rw [if_neg h5] at h
              obtain ⟨r, rest3, g1, g2, g3, g4⟩ := rn_to h5
              rw [g3, g4] at h
              by_cases h6 : ((d.length + 1 + z.length + 1 + r.length : Nat) : Int) = (l.length : Nat)
              · rw [if_pos h6] at h
                injection h with h
                have hr3 := end_of g1 (by omega) h6
                rw [hr3, List.append_nil, s2] at g1
                rw [← h, e1', q1, hy, s1, g1]
                exact .three d z r e2 f2 g2
              · rw [if_neg h6] at h; cases h
          · rw [if_neg h4] at h
            by_cases h5 : ((d.length + 1 + z.length : Nat) : Int) = (l.length : Nat)
            · rw [if_pos h5] at h
              injection h with h
              have hr2 := end_of f1 (by omega) h5
              rw [hr2, List.append_nil] at hy
              rw [← h, e1', q1, hy]
              exact .two d z e2 f2
            · rw [if_neg h5] at h; cases h
      · rw [if_neg h2] at h
        by_cases h3 : (d.length : Int) < (l.length : Nat) ∧ l.getD d.length 0 = 47
        · rw [if_pos h3] at h; cases h
        · rw [if_neg h3] at h
          by_cases h4 : (d.length : Int) = (l.length : Nat)
          · rw [if_pos h4] at h
            injection h with h
            have hr := end_of e1 (by omega) (by rw [Nat.zero_add]; exact h4)
            rw [hr, List.append_nil] at e1'
            rw [← h, e1']
            exact .one d e2
          · rw [if_neg h4] at h; cases h
/-- Both read the same. -/
theorem rI_some {f : Nat} {l : List UInt8} {v : Nat × Nat × Nat} (h : rI f l = some v) : itm f l = (v.1, v.2.1, v.2.2, true) := frm_itm (rI_frm h)
theorem rI_none {f : Nat} {l : List UInt8} (h : rI f l = none) : (itm f l).2.2.2 = false := by
  cases hq : (itm f l).2.2.2
  · rfl
  · obtain ⟨v, hv⟩ := itm_frm hq
    rw [frm_rI hv] at h; cases h
end Go.Proofs.YtggaflihblhapaaDoor
