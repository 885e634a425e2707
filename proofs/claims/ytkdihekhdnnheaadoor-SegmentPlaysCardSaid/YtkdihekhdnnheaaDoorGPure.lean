/-
  A segment's frames: heads, groups, and what frames say (no program).
-/
import Derived.Test.YtkdihekhdnnheaaDoorFFrm
namespace Go.Proofs.YtkdihekhdnnheaaDoor

/-- A head's contents and bytes; a group's. -/
def headC (g : Int) (cp : List UInt8) : List UInt8 := intB 1 ++ intB g ++ textB cp
def headB (g : Int) (cp : List UInt8) : List UInt8 := frameB (headC g cp)
def encR (rs : List (List UInt8)) : List UInt8 := rs.flatMap textB
def groupC (rs : List (List UInt8)) : List UInt8 := intB 2 ++ intB rs.length ++ encR rs
def groupB (rs : List (List UInt8)) : List UInt8 := frameB (groupC rs)
theorem encR_take {l : List (List UInt8)} {k : Nat} (hk : k < l.length) : encR (l.take (k + 1)) = encR (l.take k) ++ textB (l.getD k []) := by
  unfold encR
  rw [List.take_add_one, List.getElem?_eq_getElem hk, List.flatMap_append, List.getD_eq_getElem?_getD, List.getElem?_eq_getElem hk]
  simp
theorem textB_bd (s : List UInt8) : 1 + s.length ≤ (textB s).length ∧ (textB s).length ≤ 9 + s.length := by
  unfold textB
  rw [List.length_append]
  have := intB_len (s.length : Int)
  omega
theorem encR_bd : ∀ (l : List (List UInt8)) (m : Nat), (∀ r ∈ l, r.length ≤ m) → l.length ≤ (encR l).length ∧ (encR l).length ≤ (9 + m) * l.length
  | [], m, _ => by simp [encR]
  | r :: l, m, h => by
    have ih := encR_bd l m fun x hx => h x (by simp [hx])
    have h1 := textB_bd r
    have h2 := h r (by simp)
    have e : encR (r :: l) = textB r ++ encR l := by simp [encR]
    rw [e, List.length_append, List.length_cons, Nat.mul_succ]
    omega
theorem headB_bd (g : Int) (cp : List UInt8) : 8 + cp.length ≤ (headB g cp).length ∧ (headB g cp).length ≤ 40 + cp.length := by
  have h := frameB_bd (headC g cp)
  have e : (headC g cp).length = (intB 1).length + (intB g).length + (textB cp).length := by simp [headC]; omega
  have := intB_len 1
  have := intB_len g
  have := textB_bd cp
  unfold headB
  omega
theorem groupB_bd (rs : List (List UInt8)) (m : Nat) (h : ∀ r ∈ rs, r.length ≤ m) : 7 ≤ (groupB rs).length ∧ (groupB rs).length ≤ 31 + (9 + m) * rs.length := by
  have h1 := frameB_bd (groupC rs)
  have e : (groupC rs).length = (intB 2).length + (intB rs.length).length + (encR rs).length := by simp [groupC]; omega
  have := intB_len 2
  have := intB_len rs.length
  have := encR_bd rs m h
  unfold groupB
  omega
/-- So many texts, read one behind the other. -/
def txtsP : Nat → List UInt8 → Option (List (List UInt8) × List UInt8)
  | 0, l => some ([], l)
  | n + 1, l => match txtsP n l with
    | none => none
    | some (rs, r) => if txtX r = true then none else some (rs ++ [txtS r], txtL r)
theorem txtsP_none {n : Nat} {l : List UInt8} (h : txtsP n l = none) : ∀ k, n ≤ k → txtsP k l = none
  | 0, hk => by obtain rfl : n = 0 := by omega
                exact h
  | k + 1, hk => by
    rcases Nat.lt_or_ge k n with h1 | h1
    · obtain rfl : n = k + 1 := by omega
      exact h
    · rw [txtsP, txtsP_none h k h1]
theorem txtsP_stop {n : Nat} {l r : List UInt8} {rs : List (List UInt8)} (h : txtsP n l = some (rs, r)) (hx : txtX r = true) : txtsP (n + 1) l = none := by
  rw [txtsP, h]; simp [hx]
theorem txtsP_step {n : Nat} {l r : List UInt8} {rs : List (List UInt8)} (h : txtsP n l = some (rs, r)) (hx : txtX r = false) : txtsP (n + 1) l = some (rs ++ [txtS r], txtL r) := by
  rw [txtsP, h]; simp [hx]
theorem txt_shrinks {r : List UInt8} (h : txtX r = false) : (txtL r).length + 1 ≤ r.length := by
  unfold txtX at h
  by_cases ho : TxtOk r
  · rw [if_pos ho] at h
    unfold txtL
    rw [if_pos ho, List.length_drop]
    unfold intX at h
    unfold intL
    cases hr : readI r with
    | none => rw [hr] at h; cases h
    | some p =>
      have := readI_le (n := p.1) (k := p.2) hr
      show (r.drop p.2).length - _ + 1 ≤ _
      rw [List.length_drop]
      omega
  · rw [if_neg ho] at h; cases h
theorem txtsP_len : ∀ {n : Nat} {l r : List UInt8} {rs : List (List UInt8)}, txtsP n l = some (rs, r) → rs.length = n ∧ n + r.length ≤ l.length
  | 0, l, r, rs, h => by
    rw [txtsP] at h
    injection h with h; injection h with h1 h2
    rw [← h1, ← h2]; simp
  | n + 1, l, r, rs, h => by
    rw [txtsP] at h
    cases hp : txtsP n l with
    | none => rw [hp] at h; cases h
    | some p =>
      obtain ⟨rs0, r0⟩ := p
      rw [hp] at h
      simp only at h
      have ih := txtsP_len hp
      split at h
      · cases h
      · rename_i hx
        injection h with h; injection h with h1 h2
        have := txt_shrinks (r := r0) (by simpa using hx)
        rw [← h1, ← h2, List.length_append, List.length_singleton]
        omega
/-- What a frame's bytes say: a head; a group. -/
def headM (c : List UInt8) : Option (Int × List UInt8) :=
  if intN c = 1 ∧ 1 ≤ intN (intL c) ∧ txtX (intL (intL c)) = false ∧ txtL (intL (intL c)) = [] then some (intN (intL c), txtS (intL (intL c))) else none
def grpE : Option (List (List UInt8) × List UInt8) → Option (List (List UInt8))
  | some (rs, []) => some rs
  | _ => none
def groupM (c : List UInt8) : Option (List (List UInt8)) :=
  if intN c = 2 ∧ 0 ≤ intN (intL c) ∧ intX (intL c) = false then grpE (txtsP (intN (intL c)).toNat (intL (intL c))) else none
theorem int_dead2 {l : List UInt8} (h : intX l = true) : intN l = 0 ∧ intL l = [] := by
  unfold intX at h
  unfold intN intL
  cases hr : readI l with
  | none => exact ⟨rfl, rfl⟩
  | some p => rw [hr] at h; cases h
theorem intN_nil : intN [] = 0 ∧ intL [] = [] ∧ intX [] = true := ⟨rfl, rfl, rfl⟩
theorem int_shrinks (l : List UInt8) : (intL l).length ≤ l.length := by
  unfold intL
  cases hr : readI l with
  | none => simp
  | some p => show (l.drop p.2).length ≤ _; rw [List.length_drop]; omega
theorem int_live {c : List UInt8} (h : intN c ≠ 0) : intX c = false := by
  cases hx : intX c with
  | false => rfl
  | true => exact absurd (int_dead2 hx).1 h
theorem groupM_many {c : List UInt8} (h : (c.length : Int) < intN (intL c)) : groupM c = none := by
  unfold groupM
  split
  · rename_i hh
    cases hp : txtsP (intN (intL c)).toNat (intL (intL c)) with
    | none => rfl
    | some p =>
      obtain ⟨rs, r⟩ := p
      have := (txtsP_len hp).2
      have := int_shrinks c
      have := int_shrinks (intL c)
      omega
  · rfl
/-- What was written is read. -/
theorem txt_encL (s : List UInt8) (r : List UInt8) (hs : s.length ≤ 4294960000) : txtS (textB s ++ r) = s ∧ txtL (textB s ++ r) = r ∧ txtX (textB s ++ r) = false := by
  have h := txt_enc ⟨s.toArray⟩ r (show s.toArray.size ≤ _ by simpa using hs)
  simpa using h
theorem txtsP_enc (rs : List (List UInt8)) (r : List UInt8) (hs : ∀ x ∈ rs, x.length ≤ 4294960000) : ∀ k, k ≤ rs.length → txtsP k (encR rs ++ r) = some (rs.take k, encR (rs.drop k) ++ r)
  | 0, _ => by simp [txtsP]
  | k + 1, hk => by
    have hlt : k < rs.length := by omega
    have ih := txtsP_enc rs r hs k (by omega)
    have e : rs.drop k = rs.getD k [] :: rs.drop (k + 1) := by
      rw [List.drop_eq_getElem_cons hlt, List.getD_eq_getElem?_getD, List.getElem?_eq_getElem hlt]; rfl
    have e2 : encR (rs.drop k) ++ r = textB (rs.getD k []) ++ (encR (rs.drop (k + 1)) ++ r) := by
      rw [e]; simp [encR]
    have hm : rs.getD k [] ∈ rs := by
      rw [List.getD_eq_getElem?_getD, List.getElem?_eq_getElem hlt]; exact List.getElem_mem hlt
    obtain ⟨h1, h2, h3⟩ := txt_encL (rs.getD k []) (encR (rs.drop (k + 1)) ++ r) (hs _ hm)
    rw [txtsP_step ih (by rw [e2]; exact h3), e2, h1, h2]
    rw [List.take_add_one, List.getElem?_eq_getElem hlt, List.getD_eq_getElem?_getD, List.getElem?_eq_getElem hlt]
    rfl
theorem headM_enc {g : Int} (hg : Int64 g) (h1 : 1 ≤ g) (cp : List UInt8) (hs : cp.length ≤ 4294960000) : headM (headC g cp) = some (g, cp) := by
  have e : headC g cp = intB 1 ++ (intB g ++ textB cp) := by unfold headC; rw [List.append_assoc]
  obtain ⟨a1, a2, a3⟩ := intN_enc (n := 1) ⟨by omega, by omega⟩ (intB g ++ textB cp)
  obtain ⟨b1, b2, b3⟩ := intN_enc hg (textB cp)
  have ht := txt_encL cp [] hs
  rw [List.append_nil] at ht
  unfold headM
  rw [e, a1, a2, b1, b2, ht.1, ht.2.1, ht.2.2, if_pos ⟨rfl, h1, rfl, rfl⟩]
theorem groupM_enc (rs : List (List UInt8)) (hn : rs.length ≤ 4294960000) (hs : ∀ x ∈ rs, x.length ≤ 4294960000) : groupM (groupC rs) = some rs := by
  have e : groupC rs = intB 2 ++ (intB rs.length ++ encR rs) := by unfold groupC; rw [List.append_assoc]
  obtain ⟨a1, a2, a3⟩ := intN_enc (n := 2) ⟨by omega, by omega⟩ (intB rs.length ++ encR rs)
  obtain ⟨b1, b2, b3⟩ := intN_enc (n := (rs.length : Int)) ⟨by omega, by omega⟩ (encR rs)
  have ht := txtsP_enc rs [] hs rs.length (Nat.le_refl _)
  unfold groupM
  rw [e, a1, a2, b1, b2, b3, if_pos ⟨rfl, by omega, rfl⟩, Int.toNat_natCast]
  rw [List.append_nil] at ht
  rw [ht]
  simp [encR, grpE]
/-- A segment. -/
structure SegV where
  gen : Int
  size : Nat
  cp : List UInt8
  gs : List (List (List UInt8))
def seg0 : SegV := ⟨0, 0, [], []⟩
def grpsM : List (List UInt8) → List (List (List UInt8))
  | [] => []
  | c :: t => match groupM c with
    | none => []
    | some rs => rs :: grpsM t
def segF : List (List UInt8) → SegV
  | [] => seg0
  | c :: t => match headM c with
    | none => seg0
    | some (g, cp) => ⟨g, endsL (c :: t) (1 + (grpsM t).length), cp, grpsM t⟩
open Classical in
/-- The segment that bytes begin with. -/
noncomputable def segM (b : List UInt8) : SegV := if h : ∃ fs, Scanned b fs then segF h.choose else seg0
theorem segM_of {b : List UInt8} {fs : List (List UInt8)} (h : Scanned b fs) (hl : b.length ≤ 4294960000) : segM b = segF fs := by
  have hx : ∃ fs, Scanned b fs := ⟨fs, h⟩
  unfold segM
  rw [dif_pos hx, Scanned.one hx.choose_spec h hl]
/-- So many frames are groups, and these. -/
def GP (t : List (List UInt8)) (k : Nat) (gs : List (List (List UInt8))) : Prop := gs.length = k ∧ ∀ j, j < k → groupM (t.getD j []) = some (gs.getD j [])
theorem GP.snoc {t : List (List UInt8)} {k : Nat} {gs : List (List (List UInt8))} {rs : List (List UInt8)} (h : GP t k gs) (hr : groupM (t.getD k []) = some rs) : GP t (k + 1) (gs ++ [rs]) := by
  refine ⟨by rw [List.length_append, h.1]; rfl, fun j hj => ?_⟩
  rcases Nat.lt_or_ge j k with h1 | h1
  · rw [h.2 j h1, List.getD_eq_getElem?_getD, List.getD_eq_getElem?_getD, List.getElem?_append_left (by rw [h.1]; exact h1)]
  · obtain rfl : j = k := by omega
    rw [hr, List.getD_eq_getElem?_getD, ← h.1]
    simp
theorem GP.all : ∀ {t : List (List UInt8)} {k : Nat} {gs : List (List (List UInt8))}, GP t k gs → k ≤ t.length → (k = t.length ∨ groupM (t.getD k []) = none) → grpsM t = gs
  | [], k, gs, h, hk, _ => by
    have : gs = [] := List.length_eq_zero_iff.1 (by have := h.1; simp at hk; omega)
    rw [this]; rfl
  | c :: t, 0, gs, h, _, hs => by
    have : gs = [] := List.length_eq_zero_iff.1 h.1
    rw [this, grpsM]
    rcases hs with hs | hs
    · simp at hs
    · simp at hs; rw [hs]
  | c :: t, k + 1, gs, h, hk, hs => by
    rcases gs with _ | ⟨g, gs⟩
    · have := h.1; simp at this
    · have h0 := h.2 0 (by omega)
      simp at h0
      have h2 : GP t k gs := ⟨by have := h.1; simp at this; exact this, fun j hj => by have := h.2 (j + 1) (by omega); simpa using this⟩
      rw [grpsM, h0]
      simp only [List.cons.injEq, true_and]
      exact h2.all (by simpa using hk) (by simpa using hs)
theorem endsL_cons (c : List UInt8) (t : List (List UInt8)) : endsL (c :: t) 1 = (frameB c).length := by
  unfold endsL; simp [allB]
theorem grps_le (t : List (List UInt8)) : (grpsM t).length ≤ t.length := by
  induction t with
  | nil => simp [grpsM]
  | cons c t ih =>
    rw [grpsM]
    split
    · simp
    · simp; omega
end Go.Proofs.YtkdihekhdnnheaaDoor
