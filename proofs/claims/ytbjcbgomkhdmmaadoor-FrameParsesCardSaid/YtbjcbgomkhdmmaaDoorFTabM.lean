/-
  Values, rows, columns and tables as bytes: what is written, what is read, and that these fit. No program in it.
-/
import Derived.Test.YtbjcbgomkhdmmaaDoorFEnc
import Derived.Test.YtbjcbgomkhdmmaaDoorTDefs
import Derived.Test.YtbjcbgomkhdmmaaDoorTRows
namespace Go.Proofs.YtbjcbgomkhdmmaaDoor
open Go.RowKit

theorem i64_0 : Int64 0 := ⟨by decide, by decide⟩
theorem i64_1 : Int64 1 := ⟨by decide, by decide⟩
theorem i64_2 : Int64 2 := ⟨by decide, by decide⟩
theorem nil_size : (⟨#[]⟩ : ByteArray).size ≤ 64 := by decide
theorem nil_max : (⟨#[]⟩ : ByteArray).size ≤ maxLen := by unfold maxLen; decide
def okV (v : V3) : Prop := rightV v.1 v.2.1 v.2.2 = true ∧ Int64 v.2.1
theorem okV.cases {v : V3} (h : okV v) : (∃ s : ByteArray, v = (2, 0, s) ∧ s.size ≤ 64) ∨ (∃ n, v = (1, n, ⟨#[]⟩)) ∨ v = (0, 0, ⟨#[]⟩) := by
  obtain ⟨k, n, s⟩ := v
  rcases rightV_cases h.1 with ⟨h1, h2, h3⟩ | ⟨h1, h2⟩ | ⟨h1, h2, h3⟩
  · simp only at h1 h2 h3; subst h1; subst h2; subst h3; exact .inr (.inr rfl)
  · simp only at h1 h2; subst h1; subst h2; exact .inr (.inl ⟨n, rfl⟩)
  · simp only at h1 h2 h3; subst h1; subst h2; exact .inl ⟨s, rfl, h3⟩
/-- A value's bytes. -/
def valB (v : V3) : List UInt8 := intB v.1 ++ (if v.1 = 1 then intB v.2.1 else if v.1 = 2 then textB v.2.2.data.toList else [])
theorem valB_int (n : Int) (s : ByteArray) : valB (1, n, s) = intB 1 ++ intB n := rfl
theorem valB_txt (n : Int) (s : ByteArray) : valB (2, n, s) = intB 2 ++ textB s.data.toList := rfl
theorem valB_oth {k n : Int} {s : ByteArray} (h1 : ¬ k = 1) (h2 : ¬ k = 2) : valB (k, n, s) = intB k := by unfold valB; rw [if_neg h1, if_neg h2, List.append_nil]
/-- What is read as a value, right or not: the value, what is left, whether the decoder is bad. -/
def rawV (l : List UInt8) : V3 × List UInt8 × Bool :=
  if intN l = 1 then ((1, intN (intL l), ⟨#[]⟩), intL (intL l), intX (intL l))
  else if intN l = 2 then ((2, 0, ⟨(txtS (intL l)).toArray⟩), txtL (intL l), txtX (intL l))
  else ((intN l, 0, ⟨#[]⟩), intL l, intX l)
def badV (l : List UInt8) : Bool := (rawV l).2.2 || !rightV (rawV l).1.1 (rawV l).1.2.1 (rawV l).1.2.2
def valR (l : List UInt8) : Option (V3 × List UInt8) := if badV l = true then none else some ((rawV l).1, (rawV l).2.1)
theorem badV_nil : badV [] = true := rfl
theorem valR_nil : valR [] = none := rfl
theorem valR_none {l : List UInt8} (h : badV l = true) : valR l = none := by unfold valR; rw [if_pos h]
theorem valR_some {l : List UInt8} (h : badV l = false) : valR l = some ((rawV l).1, (rawV l).2.1) := by unfold valR; rw [h, if_neg (by decide)]
theorem toArray_data (s : ByteArray) : (⟨s.data.toList.toArray⟩ : ByteArray) = s := by simp
theorem valR_enc {v : V3} (h : okV v) (r : List UInt8) : valR (valB v ++ r) = some (v, r) := by
  have hr := h.1
  rcases h.cases with ⟨s, rfl, hs⟩ | ⟨n, rfl⟩ | rfl
  · obtain ⟨a1, a2, a3⟩ := intN_enc (n := 2) ⟨by decide, by decide⟩ (textB s.data.toList ++ r)
    obtain ⟨b1, b2, b3⟩ := txt_enc s r (by omega)
    have e : valB (2, 0, s) ++ r = intB 2 ++ (textB s.data.toList ++ r) := by rw [valB_txt, List.append_assoc]
    have e2 : rawV (valB (2, 0, s) ++ r) = ((2, 0, s), r, false) := by
      unfold rawV
      rw [e, a1, a2, if_neg (by decide), if_pos rfl, b1, b2, b3, toArray_data]
    rw [valR_some (by unfold badV; rw [e2]; simpa using hr), e2]
  · obtain ⟨a1, a2, a3⟩ := intN_enc (n := 1) ⟨by decide, by decide⟩ (intB n ++ r)
    obtain ⟨b1, b2, b3⟩ := intN_enc (n := n) h.2 r
    have e : valB (1, n, ⟨#[]⟩) ++ r = intB 1 ++ (intB n ++ r) := by rw [valB_int, List.append_assoc]
    have e2 : rawV (valB (1, n, ⟨#[]⟩) ++ r) = ((1, n, ⟨#[]⟩), r, false) := by
      unfold rawV
      rw [e, a1, a2, if_pos rfl, b1, b2, b3]
    rw [valR_some (by unfold badV; rw [e2]; simpa using hr), e2]
  · obtain ⟨a1, a2, a3⟩ := intN_enc (n := 0) ⟨by decide, by decide⟩ r
    have e : valB (0, 0, ⟨#[]⟩) ++ r = intB 0 ++ r := by rw [valB_oth (by decide) (by decide)]
    have e2 : rawV (valB (0, 0, ⟨#[]⟩) ++ r) = ((0, 0, ⟨#[]⟩), r, false) := by
      unfold rawV
      rw [e, a1, a2, a3, if_neg (by decide), if_neg (by decide)]
    rw [valR_some (by unfold badV; rw [e2]; simpa using hr), e2]
theorem valR_dec {l r : List UInt8} {v : V3} (h : valR l = some (v, r)) : l = valB v ++ r ∧ okV v ∧ v.2.2.size ≤ 64 ∧ r.length ≤ l.length := by
  unfold valR at h
  split at h
  · cases h
  · rename_i hb
    injection h with h; injection h with h1 h2
    have hb' : badV l = false := by simpa using hb
    unfold badV at hb'
    rw [Bool.or_eq_false_iff] at hb'
    obtain ⟨hx, hr⟩ := hb'
    have hr : rightV (rawV l).1.1 (rawV l).1.2.1 (rawV l).1.2.2 = true := by simpa using hr
    rw [h1] at hr
    by_cases k1 : intN l = 1
    · have e2 : rawV l = ((1, intN (intL l), ⟨#[]⟩), intL (intL l), intX (intL l)) := by unfold rawV; rw [if_pos k1]
      rw [e2] at h1 h2 hx
      simp only at h1 h2 hx
      subst h1; subst h2
      have hx0 : intX l = false := by
        cases hc : intX l with
        | false => rfl
        | true => rw [(int_dead hc).1] at k1; cases k1
      obtain ⟨a1, _, a3⟩ := int_dec hx0
      obtain ⟨b1, b2, b3⟩ := int_dec hx
      refine ⟨?_, ⟨hr, b2⟩, nil_size, by omega⟩
      rw [valB_int, List.append_assoc, ← b1, ← k1]
      exact a1
    · by_cases k2 : intN l = 2
      · have e2 : rawV l = ((2, 0, ⟨(txtS (intL l)).toArray⟩), txtL (intL l), txtX (intL l)) := by unfold rawV; rw [if_neg k1, if_pos k2]
        rw [e2] at h1 h2 hx
        simp only at h1 h2 hx
        subst h1; subst h2
        have hx0 : intX l = false := by
          cases hc : intX l with
          | false => rfl
          | true => rw [(int_dead hc).1] at k2; cases k2
        obtain ⟨a1, _, a3⟩ := int_dec hx0
        obtain ⟨b1, b2, b3⟩ := txt_dec hx
        refine ⟨?_, ⟨hr, i64_0⟩, ?_, by omega⟩
        · rw [valB_txt, List.append_assoc]
          show l = intB 2 ++ (textB (txtS (intL l)).toArray.toList ++ txtL (intL l))
          rw [List.toList_toArray, ← b1, ← k2]
          exact a1
        · rcases rightV_cases hr with ⟨h1, _⟩ | ⟨h1, _⟩ | ⟨_, _, h3⟩
          · cases h1
          · cases h1
          · exact h3
      · have e2 : rawV l = ((intN l, 0, ⟨#[]⟩), intL l, intX l) := by unfold rawV; rw [if_neg k1, if_neg k2]
        rw [e2] at h1 h2 hx
        simp only at h1 h2 hx
        subst h1; subst h2
        obtain ⟨a1, _, a3⟩ := int_dec hx
        refine ⟨?_, ⟨hr, i64_0⟩, nil_size, a3⟩
        rw [valB_oth k1 k2]
        exact a1
theorem okV.wf {v : V3} (h : okV v) : valWf v := by
  rcases h.cases with ⟨s, rfl, hs⟩ | ⟨n, rfl⟩ | rfl
  · exact ⟨i64_2, i64_0, show s.size ≤ maxLen by unfold maxLen; omega⟩
  · exact ⟨i64_1, h.2, nil_max⟩
  · exact ⟨i64_0, i64_0, nil_max⟩
theorem valB_len {v : V3} (h : okV v) : 1 ≤ (valB v).length ∧ (valB v).length ≤ 100 := by
  rcases h.cases with ⟨s, rfl, hs⟩ | ⟨n, rfl⟩ | rfl
  · rw [valB_txt, List.length_append]
    unfold textB
    rw [List.length_append]
    have h1 := intB_len 2
    have h2 := intB_len (s.data.toList.length : Int)
    have h3 : s.data.toList.length = s.size := by simp
    omega
  · rw [valB_int, List.length_append]
    have h1 := intB_len 1
    have h2 := intB_len n
    omega
  · rw [valB_oth (by decide) (by decide)]
    have h1 := intB_len 0
    omega

/-- A row's values. -/
def encV (vs : List V3) : List UInt8 := vs.flatMap valB
theorem encV_snoc (vs : List V3) (v : V3) : encV (vs ++ [v]) = encV vs ++ valB v := by unfold encV; rw [List.flatMap_append]; simp
theorem encV_take {vs : List V3} {k : Nat} (hk : k < vs.length) : encV (vs.take (k + 1)) = encV (vs.take k) ++ valB (vs.getD k (0, 0, ⟨#[]⟩)) := by rw [take_val hk, encV_snoc]
theorem encV_drop {vs : List V3} {k : Nat} (hk : k < vs.length) : encV (vs.drop k) = valB (vs.getD k (0, 0, ⟨#[]⟩)) ++ encV (vs.drop (k + 1)) := by
  unfold encV
  rw [List.drop_eq_getElem_cons hk, List.flatMap_cons, List.getD_eq_getElem?_getD, List.getElem?_eq_getElem hk]
  rfl
theorem encV_len : ∀ {vs : List V3}, (∀ v ∈ vs, okV v) → (encV vs).length ≤ 100 * vs.length
  | [], _ => by simp [encV]
  | v :: vs, h => by
    have := encV_len (vs := vs) fun x hx => h x (List.mem_cons_of_mem _ hx)
    have h1 := valB_len (h v (List.mem_cons_self ..))
    unfold encV at this ⊢
    rw [List.flatMap_cons, List.length_append, List.length_cons]
    omega
def rowP : Nat → List UInt8 → Option (List V3 × List UInt8)
  | 0, l => some ([], l)
  | n + 1, l => (rowP n l).bind fun p => (valR p.2).map fun q => (p.1 ++ [q.1], q.2)
theorem rowP_none {n : Nat} {l : List UInt8} (h : rowP n l = none) : ∀ m, n ≤ m → rowP m l = none := fun m hm => by
  induction m with
  | zero => obtain rfl : n = 0 := by omega
            exact h
  | succ m ih =>
    by_cases e : n = m + 1
    · subst e; exact h
    · rw [rowP, ih (by omega)]; rfl
theorem rowP_step {n : Nat} {l r r' : List UInt8} {vs : List V3} {v : V3} (h : rowP n l = some (vs, r)) (h2 : valR r = some (v, r')) : rowP (n + 1) l = some (vs ++ [v], r') := by
  rw [rowP, h]; show (valR r).map _ = _; rw [h2]; rfl
theorem rowP_stop {n : Nat} {l r : List UInt8} {vs : List V3} (h : rowP n l = some (vs, r)) (h2 : valR r = none) : rowP (n + 1) l = none := by
  rw [rowP, h]; show (valR r).map _ = _; rw [h2]; rfl
theorem rowP_enc : ∀ (n : Nat) (vs : List V3) (r : List UInt8), vs.length = n → (∀ v ∈ vs, okV v) → rowP n (encV vs ++ r) = some (vs, r)
  | 0, vs, r, hn, _ => by
    obtain rfl : vs = [] := List.length_eq_zero_iff.1 hn
    rfl
  | n + 1, vs, r, hn, h => by
    have hne : vs ≠ [] := fun e => by rw [e] at hn; cases hn
    have e : vs = vs.dropLast ++ [vs.getLast hne] := (List.dropLast_concat_getLast hne).symm
    have hm : ∀ v ∈ vs.dropLast, okV v := fun v hv => h v (List.dropLast_subset _ hv)
    have hl := h _ (List.getLast_mem hne)
    have ih := rowP_enc n vs.dropLast (valB (vs.getLast hne) ++ r) (by rw [List.length_dropLast]; omega) hm
    have e2 : encV vs ++ r = encV vs.dropLast ++ (valB (vs.getLast hne) ++ r) := by
      conv => lhs; rw [e, encV_snoc]
      rw [List.append_assoc]
    rw [e2, rowP_step ih (valR_enc hl r), ← e]
theorem rowP_dec : ∀ (n : Nat) (l r : List UInt8) (vs : List V3), rowP n l = some (vs, r) → l = encV vs ++ r ∧ vs.length = n ∧ (∀ v ∈ vs, okV v) ∧ r.length ≤ l.length
  | 0, l, r, vs, h => by
    rw [rowP] at h; injection h with h; injection h with h1 h2
    subst h1; subst h2
    exact ⟨rfl, rfl, fun v hv => by simp at hv, Nat.le_refl _⟩
  | n + 1, l, r, vs, h => by
    rw [rowP] at h
    cases hp : rowP n l with
    | none => rw [hp] at h; cases h
    | some p =>
      obtain ⟨vs', r'⟩ := p
      rw [hp] at h
      change (valR r').map _ = _ at h
      cases hv : valR r' with
      | none => rw [hv] at h; cases h
      | some q =>
        obtain ⟨v, r''⟩ := q
        rw [hv] at h
        change some (vs' ++ [v], r'') = _ at h
        injection h with h; injection h with h1 h2
        subst h1; subst h2
        obtain ⟨a1, a2, a3, a4⟩ := rowP_dec n l r' vs' hp
        obtain ⟨b1, b2, _, b3⟩ := valR_dec hv
        refine ⟨by rw [encV_snoc, List.append_assoc, ← b1]; exact a1, by rw [List.length_append, a2]; rfl, fun x hx => ?_, by omega⟩
        rcases List.mem_append.1 hx with hx | hx
        · exact a3 x hx
        · rw [List.mem_singleton] at hx; subst hx; exact b2
theorem okRow.wf {vs : List V3} (h : ∀ v ∈ vs, okV v) (hl : vs.length ≤ maxLen) : WfR vs := ⟨hl, fun v hv => (h v hv).wf⟩

/-- Columns. -/
def colB (c : ByteArray × Int) : List UInt8 := textB c.1.data.toList ++ intB c.2
def encC (cs : List (ByteArray × Int)) : List UInt8 := cs.flatMap colB
theorem encC_snoc (cs : List (ByteArray × Int)) (c : ByteArray × Int) : encC (cs ++ [c]) = encC cs ++ colB c := by unfold encC; rw [List.flatMap_append]; simp
theorem encC_take {cs : List (ByteArray × Int)} {k : Nat} (hk : k < cs.length) : encC (cs.take (k + 1)) = encC (cs.take k) ++ colB (cs.getD k (⟨#[]⟩, 0)) := by rw [take_col hk, encC_snoc]
def colR (l : List UInt8) : Option ((ByteArray × Int) × List UInt8) := if intX (txtL l) = true then none else some ((⟨(txtS l).toArray⟩, intN (txtL l)), intL (txtL l))
theorem colR_none {l : List UInt8} (h : intX (txtL l) = true) : colR l = none := by unfold colR; rw [if_pos h]
theorem colR_some {l : List UInt8} (h : intX (txtL l) = false) : colR l = some ((⟨(txtS l).toArray⟩, intN (txtL l)), intL (txtL l)) := by unfold colR; rw [h, if_neg (by decide)]
def okC (c : ByteArray × Int) : Prop := c.1.size ≤ 4294960000 ∧ Int64 c.2
theorem colR_enc {c : ByteArray × Int} (h : okC c) (r : List UInt8) : colR (colB c ++ r) = some (c, r) := by
  obtain ⟨b1, b2, b3⟩ := txt_enc c.1 (intB c.2 ++ r) h.1
  obtain ⟨a1, a2, a3⟩ := intN_enc (n := c.2) h.2 r
  have e : colB c ++ r = textB c.1.data.toList ++ (intB c.2 ++ r) := by unfold colB; rw [List.append_assoc]
  rw [e, colR_some (by rw [b2]; exact a3), b1, b2, a1, a2, toArray_data]
theorem colR_dec {l r : List UInt8} {c : ByteArray × Int} (h : colR l = some (c, r)) : l = colB c ++ r ∧ c.1.size ≤ l.length ∧ Int64 c.2 ∧ r.length ≤ l.length := by
  unfold colR at h
  split at h
  · cases h
  · rename_i hx
    injection h with h; injection h with h1 h2
    subst h1; subst h2
    have hx : intX (txtL l) = false := by simpa using hx
    have ht : txtX l = false := by
      cases hc : txtX l with
      | false => rfl
      | true => rw [txt_dead hc] at hx; cases hx
    obtain ⟨a1, a2, a3⟩ := txt_dec ht
    obtain ⟨b1, b2, b3⟩ := int_dec hx
    refine ⟨?_, by simpa [ByteArray.size] using a2, b2, by omega⟩
    unfold colB
    show l = textB (txtS l).toArray.toList ++ intB (intN (txtL l)) ++ intL (txtL l)
    rw [List.toList_toArray, List.append_assoc, ← b1]
    exact a1
def colP : Nat → List UInt8 → Option (List (ByteArray × Int) × List UInt8)
  | 0, l => some ([], l)
  | n + 1, l => (colP n l).bind fun p => (colR p.2).map fun q => (p.1 ++ [q.1], q.2)
theorem colP_none {n : Nat} {l : List UInt8} (h : colP n l = none) : ∀ m, n ≤ m → colP m l = none := fun m hm => by
  induction m with
  | zero => obtain rfl : n = 0 := by omega
            exact h
  | succ m ih =>
    by_cases e : n = m + 1
    · subst e; exact h
    · rw [colP, ih (by omega)]; rfl
theorem colP_step {n : Nat} {l r r' : List UInt8} {cs : List (ByteArray × Int)} {c : ByteArray × Int} (h : colP n l = some (cs, r)) (h2 : colR r = some (c, r')) : colP (n + 1) l = some (cs ++ [c], r') := by
  rw [colP, h]; show (colR r).map _ = _; rw [h2]; rfl
theorem colP_stop {n : Nat} {l r : List UInt8} {cs : List (ByteArray × Int)} (h : colP n l = some (cs, r)) (h2 : colR r = none) : colP (n + 1) l = none := by
  rw [colP, h]; show (colR r).map _ = _; rw [h2]; rfl
theorem colP_enc : ∀ (n : Nat) (cs : List (ByteArray × Int)) (r : List UInt8), cs.length = n → (∀ c ∈ cs, okC c) → colP n (encC cs ++ r) = some (cs, r)
  | 0, cs, r, hn, _ => by
    obtain rfl : cs = [] := List.length_eq_zero_iff.1 hn
    rfl
  | n + 1, cs, r, hn, h => by
    have hne : cs ≠ [] := fun e => by rw [e] at hn; cases hn
    have e : cs = cs.dropLast ++ [cs.getLast hne] := (List.dropLast_concat_getLast hne).symm
    have hm : ∀ c ∈ cs.dropLast, okC c := fun c hc => h c (List.dropLast_subset _ hc)
    have hl := h _ (List.getLast_mem hne)
    have ih := colP_enc n cs.dropLast (colB (cs.getLast hne) ++ r) (by rw [List.length_dropLast]; omega) hm
    have e2 : encC cs ++ r = encC cs.dropLast ++ (colB (cs.getLast hne) ++ r) := by
      conv => lhs; rw [e, encC_snoc]
      rw [List.append_assoc]
    rw [e2, colP_step ih (colR_enc hl r), ← e]
theorem colP_dec : ∀ (n : Nat) (l r : List UInt8) (cs : List (ByteArray × Int)), colP n l = some (cs, r) → l = encC cs ++ r ∧ cs.length = n ∧ (∀ c ∈ cs, c.1.size ≤ l.length ∧ Int64 c.2) ∧ r.length ≤ l.length
  | 0, l, r, cs, h => by
    rw [colP] at h; injection h with h; injection h with h1 h2
    subst h1; subst h2
    exact ⟨rfl, rfl, fun v hv => by simp at hv, Nat.le_refl _⟩
  | n + 1, l, r, cs, h => by
    rw [colP] at h
    cases hp : colP n l with
    | none => rw [hp] at h; cases h
    | some p =>
      obtain ⟨cs', r'⟩ := p
      rw [hp] at h
      change (colR r').map _ = _ at h
      cases hv : colR r' with
      | none => rw [hv] at h; cases h
      | some q =>
        obtain ⟨c, r''⟩ := q
        rw [hv] at h
        change some (cs' ++ [c], r'') = _ at h
        injection h with h; injection h with h1 h2
        subst h1; subst h2
        obtain ⟨a1, a2, a3, a4⟩ := colP_dec n l r' cs' hp
        obtain ⟨b1, b2, b3, b4⟩ := colR_dec hv
        refine ⟨by rw [encC_snoc, List.append_assoc, ← b1]; exact a1, by rw [List.length_append, a2]; rfl, fun x hx => ?_, by omega⟩
        rcases List.mem_append.1 hx with hx | hx
        · exact a3 x hx
        · rw [List.mem_singleton] at hx; subst hx; exact ⟨by omega, b3⟩

/-- Rows. -/
def encR (rs : R3) : List UInt8 := rs.flatMap encV
theorem encR_snoc (rs : R3) (r : List V3) : encR (rs ++ [r]) = encR rs ++ encV r := by unfold encR; rw [List.flatMap_append]; simp
def rowsP (wd : Nat) : Nat → List UInt8 → Option (R3 × List UInt8)
  | 0, l => some ([], l)
  | n + 1, l => (rowsP wd n l).bind fun p => (rowP wd p.2).map fun q => (p.1 ++ [q.1], q.2)
theorem rowsP_none {wd n : Nat} {l : List UInt8} (h : rowsP wd n l = none) : ∀ m, n ≤ m → rowsP wd m l = none := fun m hm => by
  induction m with
  | zero => obtain rfl : n = 0 := by omega
            exact h
  | succ m ih =>
    by_cases e : n = m + 1
    · subst e; exact h
    · rw [rowsP, ih (by omega)]; rfl
theorem rowsP_step {wd n : Nat} {l r r' : List UInt8} {rs : R3} {v : List V3} (h : rowsP wd n l = some (rs, r)) (h2 : rowP wd r = some (v, r')) : rowsP wd (n + 1) l = some (rs ++ [v], r') := by
  rw [rowsP, h]; show (rowP wd r).map _ = _; rw [h2]; rfl
theorem rowsP_stop {wd n : Nat} {l r : List UInt8} {rs : R3} (h : rowsP wd n l = some (rs, r)) (h2 : rowP wd r = none) : rowsP wd (n + 1) l = none := by
  rw [rowsP, h]; show (rowP wd r).map _ = _; rw [h2]; rfl
theorem rowsP_enc (wd : Nat) : ∀ (n : Nat) (rs : R3) (r : List UInt8), rs.length = n → (∀ x ∈ rs, x.length = wd ∧ ∀ v ∈ x, okV v) → rowsP wd n (encR rs ++ r) = some (rs, r)
  | 0, rs, r, hn, _ => by
    obtain rfl : rs = [] := List.length_eq_zero_iff.1 hn
    rfl
  | n + 1, rs, r, hn, h => by
    have hne : rs ≠ [] := fun e => by rw [e] at hn; cases hn
    have e : rs = rs.dropLast ++ [rs.getLast hne] := (List.dropLast_concat_getLast hne).symm
    have hm : ∀ x ∈ rs.dropLast, x.length = wd ∧ ∀ v ∈ x, okV v := fun c hc => h c (List.dropLast_subset _ hc)
    have hl := h _ (List.getLast_mem hne)
    have ih := rowsP_enc wd n rs.dropLast (encV (rs.getLast hne) ++ r) (by rw [List.length_dropLast]; omega) hm
    have e2 : encR rs ++ r = encR rs.dropLast ++ (encV (rs.getLast hne) ++ r) := by
      conv => lhs; rw [e, encR_snoc]
      rw [List.append_assoc]
    rw [e2, rowsP_step ih (rowP_enc wd _ r hl.1 hl.2), ← e]
theorem rowsP_dec (wd : Nat) : ∀ (n : Nat) (l r : List UInt8) (rs : R3), rowsP wd n l = some (rs, r) → l = encR rs ++ r ∧ rs.length = n ∧ (∀ x ∈ rs, x.length = wd ∧ ∀ v ∈ x, okV v) ∧ r.length ≤ l.length
  | 0, l, r, rs, h => by
    rw [rowsP] at h; injection h with h; injection h with h1 h2
    subst h1; subst h2
    exact ⟨rfl, rfl, fun v hv => by simp at hv, Nat.le_refl _⟩
  | n + 1, l, r, rs, h => by
    rw [rowsP] at h
    cases hp : rowsP wd n l with
    | none => rw [hp] at h; cases h
    | some p =>
      obtain ⟨rs', r'⟩ := p
      rw [hp] at h
      change (rowP wd r').map _ = _ at h
      cases hv : rowP wd r' with
      | none => rw [hv] at h; cases h
      | some q =>
        obtain ⟨v, r''⟩ := q
        rw [hv] at h
        change some (rs' ++ [v], r'') = _ at h
        injection h with h; injection h with h1 h2
        subst h1; subst h2
        obtain ⟨a1, a2, a3, a4⟩ := rowsP_dec wd n l r' rs' hp
        obtain ⟨b1, b2, b3, b4⟩ := rowP_dec wd _ _ _ hv
        refine ⟨by rw [encR_snoc, List.append_assoc, ← b1]; exact a1, by rw [List.length_append, a2]; rfl, fun x hx => ?_, by omega⟩
        rcases List.mem_append.1 hx with hx | hx
        · exact a3 x hx
        · rw [List.mem_singleton] at hx; subst hx; exact ⟨b2, b3⟩

/-- Tables. -/
def tabB (cs : List (ByteArray × Int)) (rs : R3) : List UInt8 := intB cs.length ++ encC cs ++ intB rs.length ++ encR rs
def colsP (l : List UInt8) : Option (List (ByteArray × Int) × List UInt8) := if cntX l 16 = true then none else colP (cntN l 16).toNat (cntL l 16)
def rowsQ (wd : Nat) (l : List UInt8) : Option (R3 × List UInt8) := if cntX l 4096 = true then none else rowsP wd (cntN l 4096).toNat (cntL l 4096)
def tabP (l : List UInt8) : Option ((List (ByteArray × Int) × R3) × List UInt8) :=
  (colsP l).bind fun p => (rowsQ p.1.length p.2).bind fun q => if fullT p.1 q.1 = 0 then some ((p.1, q.1), q.2) else none
theorem cnt_enc {n : Nat} {m : Int} (r : List UInt8) (h : (n : Int) ≤ m) (hn : n ≤ 4294960000) : cntN (intB n ++ r) m = n ∧ cntL (intB n ++ r) m = r ∧ cntX (intB n ++ r) m = false := by
  obtain ⟨a1, a2, a3⟩ := intN_enc (n := (n : Int)) ⟨by omega, by omega⟩ r
  have ok : CntOk (intB n ++ r) m := by unfold CntOk; rw [a1]; omega
  unfold cntN cntL cntX
  rw [if_pos ok, if_pos ok, if_pos ok]
  exact ⟨a1, a2, a3⟩
theorem cnt_dec {l : List UInt8} {m : Int} (h : cntX l m = false) : l = intB (cntN l m) ++ cntL l m ∧ 0 ≤ cntN l m ∧ cntN l m ≤ m ∧ (cntL l m).length ≤ l.length := by
  unfold cntX at h
  by_cases ho : CntOk l m
  · rw [if_pos ho] at h
    have e1 : cntN l m = intN l := by unfold cntN; rw [if_pos ho]
    have e2 : cntL l m = intL l := by unfold cntL; rw [if_pos ho]
    obtain ⟨a1, _, a3⟩ := int_dec h
    unfold CntOk at ho
    rw [e1, e2]
    exact ⟨a1, ho.1, ho.2, a3⟩
  · rw [if_neg ho] at h; cases h
theorem cnt_dead {l : List UInt8} {m : Int} (h : cntX l m = true) : cntN l m = 0 ∧ cntL l m = [] := by
  unfold cntX at h
  unfold cntN cntL
  by_cases ho : CntOk l m
  · rw [if_pos ho] at h
    rw [if_pos ho, if_pos ho]
    exact int_dead h
  · rw [if_neg ho, if_neg ho]; exact ⟨rfl, rfl⟩
theorem colsP_enc {cs : List (ByteArray × Int)} (r : List UInt8) (h : ∀ c ∈ cs, okC c) (hl : cs.length ≤ 16) : colsP (intB cs.length ++ (encC cs ++ r)) = some (cs, r) := by
  obtain ⟨a1, a2, a3⟩ := cnt_enc (m := 16) (encC cs ++ r) (show ((cs.length : Nat) : Int) ≤ 16 by omega) (by omega)
  unfold colsP
  rw [a1, a2, a3, if_neg (by decide), Int.toNat_natCast]
  exact colP_enc _ _ _ rfl h
theorem rowsQ_enc {wd : Nat} {rs : R3} (r : List UInt8) (h : ∀ x ∈ rs, x.length = wd ∧ ∀ v ∈ x, okV v) (hl : rs.length ≤ 4096) : rowsQ wd (intB rs.length ++ (encR rs ++ r)) = some (rs, r) := by
  obtain ⟨a1, a2, a3⟩ := cnt_enc (m := 4096) (encR rs ++ r) (show ((rs.length : Nat) : Int) ≤ 4096 by omega) (by omega)
  unfold rowsQ
  rw [a1, a2, a3, if_neg (by decide), Int.toNat_natCast]
  exact rowsP_enc _ _ _ _ rfl h
theorem colsP_dec {l r : List UInt8} {cs : List (ByteArray × Int)} (h : colsP l = some (cs, r)) : l = intB cs.length ++ (encC cs ++ r) ∧ cs.length ≤ 16 ∧ (∀ c ∈ cs, c.1.size ≤ l.length ∧ Int64 c.2) ∧ r.length ≤ l.length := by
  unfold colsP at h
  split at h
  · cases h
  · rename_i hx
    have hx : cntX l 16 = false := by simpa using hx
    obtain ⟨a1, a2, a3, a4⟩ := cnt_dec hx
    obtain ⟨b1, b2, b3, b4⟩ := colP_dec _ _ _ _ h
    have e : ((cs.length : Nat) : Int) = cntN l 16 := by omega
    refine ⟨?_, by omega, fun c hc => ⟨by have := (b3 c hc).1; omega, (b3 c hc).2⟩, by omega⟩
    rw [e, ← b1]; exact a1
theorem rowsQ_dec {wd : Nat} {l r : List UInt8} {rs : R3} (h : rowsQ wd l = some (rs, r)) : l = intB rs.length ++ (encR rs ++ r) ∧ rs.length ≤ 4096 ∧ (∀ x ∈ rs, x.length = wd ∧ ∀ v ∈ x, okV v) ∧ r.length ≤ l.length := by
  unfold rowsQ at h
  split at h
  · cases h
  · rename_i hx
    have hx : cntX l 4096 = false := by simpa using hx
    obtain ⟨a1, a2, a3, a4⟩ := cnt_dec hx
    obtain ⟨b1, b2, b3, b4⟩ := rowsP_dec _ _ _ _ _ h
    have e : ((rs.length : Nat) : Int) = cntN l 4096 := by omega
    refine ⟨?_, by omega, b3, by omega⟩
    rw [e, ← b1]; exact a1
theorem tabP_enc {cs : List (ByteArray × Int)} {rs : R3} (r : List UInt8) (h : ∀ c ∈ cs, okC c) (hl : cs.length ≤ 16) (h2 : ∀ x ∈ rs, x.length = cs.length ∧ ∀ v ∈ x, okV v) (hl2 : rs.length ≤ 4096) (hf : fullT cs rs = 0) :
    tabP (tabB cs rs ++ r) = some ((cs, rs), r) := by
  have e : tabB cs rs ++ r = intB cs.length ++ (encC cs ++ (intB rs.length ++ (encR rs ++ r))) := by unfold tabB; simp [List.append_assoc]
  unfold tabP
  rw [e, colsP_enc _ h hl]
  show (rowsQ cs.length (intB rs.length ++ (encR rs ++ r))).bind _ = _
  rw [rowsQ_enc _ h2 hl2]
  show (if fullT cs rs = 0 then _ else _) = _
  rw [if_pos hf]
theorem tabP_dec {l r : List UInt8} {cs : List (ByteArray × Int)} {rs : R3} (h : tabP l = some ((cs, rs), r)) : l = tabB cs rs ++ r ∧ fullT cs rs = 0 := by
  unfold tabP at h
  cases hc : colsP l with
  | none => rw [hc] at h; cases h
  | some p =>
    obtain ⟨cs', l2⟩ := p
    rw [hc] at h
    change (rowsQ cs'.length l2).bind _ = _ at h
    cases hr : rowsQ cs'.length l2 with
    | none => rw [hr] at h; cases h
    | some q =>
      obtain ⟨rs', l3⟩ := q
      rw [hr] at h
      change (if fullT cs' rs' = 0 then _ else _) = _ at h
      split at h
      · rename_i hf
        injection h with h; injection h with h1 h2; injection h1 with h3 h4
        subst h3; subst h4; subst h2
        refine ⟨?_, hf⟩
        rw [(colsP_dec hc).1, (rowsQ_dec hr).1]
        unfold tabB
        simp [List.append_assoc]
      · cases h
/-- A right table's parts. -/
theorem full_parts {cs : List (ByteArray × Int)} {rs : R3} (h : fullT cs rs = 0) (hv : WfT rs) : cs.length ≤ 16 ∧ rs.length ≤ 4096 ∧ (∀ x ∈ rs, x.length = cs.length ∧ ∀ v ∈ x, okV v) := by
  obtain ⟨h1, h2⟩ := fullT_zero h
  obtain ⟨h3, h4, h5⟩ := checkT_zero h1
  refine ⟨(checkC_ok h3).2.1, h4, fun x hx => ?_⟩
  rw [List.all_eq_true] at h5
  have h6 := h5 x hx
  unfold rowFits at h6
  rw [Bool.and_eq_true, decide_eq_true_iff, decide_eq_true_iff] at h6
  refine ⟨h6.1, fun v hv' => ?_⟩
  obtain ⟨j, hj, e⟩ := List.getElem_of_mem hv'
  have h7 := h6.2 j (by omega)
  unfold heldAt holdsB at h7
  rw [List.getD_eq_getElem?_getD, List.getD_eq_getElem?_getD, List.getElem?_eq_getElem hj] at h7
  have h8 := ((hv.2 x hx).2 v hv').2.1
  rw [← e] at h8 ⊢
  refine ⟨?_, h8⟩
  simp only [Option.getD_some, Bool.and_eq_true] at h7
  exact h7.1
end Go.Proofs.YtbjcbgomkhdmmaaDoor
