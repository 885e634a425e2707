/-
  Columns, the order: the names are rising, each is there once, and they are just those that stand in the expression.
-/
import Derived.Test.YteenhmniikloiaaDoorEColsM
import Derived.Test.YteenhmniikloiaaDoorSCmp
import Derived.Test.YteenhmniikloiaaDoorSCheck
namespace Go.Proofs.YteenhmniikloiaaDoor
open Go.RowKit Go.Maps

theorem lexL_trans : ∀ x y z : List UInt8, lexL x y ≤ 0 → lexL y z ≤ 0 → lexL x z ≤ 0 ∧ (lexL x y < 0 ∨ lexL y z < 0 → lexL x z < 0)
  | [], [], z, h1, h2 => ⟨h2, fun h => by
      rcases h with h | h
      · simp [lexL] at h
      · exact h⟩
  | [], b :: y, [], h1, h2 => by simp [lexL] at h2
  | [], b :: y, c :: z, h1, h2 => by simp [lexL]
  | a :: x, [], z, h1, h2 => by simp [lexL] at h1
  | a :: x, b :: y, [], h1, h2 => by simp [lexL] at h2
  | a :: x, b :: y, c :: z, h1, h2 => by
    have ih := lexL_trans x y z
    simp only [lexL] at h1 h2 ⊢
    by_cases p : a.toNat < b.toNat
    · by_cases q' : c.toNat < b.toNat
      · rw [if_neg (by omega), if_pos q'] at h2; omega
      · rw [if_pos (show a.toNat < c.toNat by omega)]
        exact ⟨by omega, fun _ => by omega⟩
    · by_cases p' : b.toNat < a.toNat
      · rw [if_neg p, if_pos p'] at h1; omega
      · rw [if_neg p, if_neg p'] at h1
        by_cases q : b.toNat < c.toNat
        · rw [if_pos (show a.toNat < c.toNat by omega)]
          exact ⟨by omega, fun _ => by omega⟩
        · by_cases q' : c.toNat < b.toNat
          · rw [if_neg q, if_pos q'] at h2; omega
          · rw [if_neg q, if_neg q'] at h2
            have hi := ih h1 h2
            rw [if_neg p, if_neg p', if_neg q, if_neg q', if_neg (show ¬ a.toNat < c.toNat by omega), if_neg (show ¬ c.toNat < a.toNat by omega)]
            exact hi
theorem lt_lexL : ∀ x y : List UInt8, x < y ↔ lexL x y < 0
  | [], [] => by simp [lexL]
  | [], b :: y => by simp [lexL]
  | a :: x, [] => by simp [lexL]
  | a :: x, b :: y => by
    rw [List.cons_lt_cons_iff, lt_lexL x y, UInt8.lt_iff_toNat_lt, ← UInt8.toNat_inj]
    simp only [lexL]
    by_cases p : a.toNat < b.toNat
    · rw [if_pos p]; simp [p]
    · by_cases p' : b.toNat < a.toNat
      · rw [if_neg p, if_pos p']
        constructor
        · rintro (h | ⟨h, _⟩)
          · exact absurd h p
          · omega
        · intro h; omega
      · rw [if_neg p, if_neg p']
        constructor
        · rintro (h | ⟨_, h⟩)
          · exact absurd h p
          · exact h
        · exact fun h => .inr ⟨by omega, h⟩
theorem le_lexL (x y : List UInt8) : x ≤ y ↔ lexL x y ≤ 0 := by
  have h : x ≤ y ↔ ¬ y < x := Iff.rfl
  rw [h, lt_lexL, lexL_turn x y]
  omega
theorem sortL_rising (zs : List (List UInt8)) : (sortL zs).Pairwise fun a b => lexL a b ≤ 0 := by
  have h := List.pairwise_mergeSort (le := fun x y : List UInt8 => decide (x ≤ y)) (fun a b c h1 h2 => by
    rw [decide_eq_true_eq, le_lexL] at *
    exact (lexL_trans a b c h1 h2).1) (fun a b => by
    simp only [Bool.or_eq_true, decide_eq_true_eq, le_lexL]
    have := lexL_turn a b
    omega) zs
  exact h.imp fun h => (le_lexL _ _).1 (of_decide_eq_true h)
theorem comp_inv (d : Array (List UInt8)) (hs : ∀ i j, i < j → j < d.size → lexL d[i]! d[j]! ≤ 0) : ∀ m, m ≤ d.size → (∀ y ∈ Lib.compactUpTo d m, ∃ j, j < m ∧ d[j]! = y) ∧ (∀ j, j < m → d[j]! ∈ Lib.compactUpTo d m) ∧ (Lib.compactUpTo d m).Pairwise (fun a b => lexL a b < 0)
  | 0, _ => ⟨fun y hy => by simp [Lib.compactUpTo] at hy, fun j hj => by omega, by simp [Lib.compactUpTo]⟩
  | m + 1, hm => by
    obtain ⟨h1, h2, h3⟩ := comp_inv d hs m (by omega)
    rw [Lib.compactUpTo_succ]
    cases hk : Lib.keeps d m
    · rw [if_neg (by decide), List.append_nil]
      have hne : m ≠ 0 ∧ d[m]! = d[m - 1]! := by
        unfold Lib.keeps at hk
        simp only [decide_eq_false_iff_not, not_or, ne_eq, Decidable.not_not] at hk
        exact hk
      refine ⟨fun y hy => by obtain ⟨j, hj, e⟩ := h1 y hy; exact ⟨j, by omega, e⟩, fun j hj => ?_, h3⟩
      by_cases e : j = m
      · rw [e, hne.2]; exact h2 (m - 1) (by omega)
      · exact h2 j (by omega)
    · rw [if_pos rfl]
      refine ⟨fun y hy => ?_, fun j hj => ?_, ?_⟩
      · rcases List.mem_append.1 hy with h | h
        · obtain ⟨j, hj, e⟩ := h1 y h; exact ⟨j, by omega, e⟩
        · exact ⟨m, by omega, (List.mem_singleton.1 h).symm⟩
      · by_cases e : j = m
        · rw [e]; exact List.mem_append_right _ (List.mem_singleton.2 rfl)
        · exact List.mem_append_left _ (h2 j (by omega))
      · refine List.pairwise_append.2 ⟨h3, List.pairwise_singleton _ _, fun y hy z hz => ?_⟩
        rw [List.mem_singleton.1 hz]
        obtain ⟨j, hj, rfl⟩ := h1 y hy
        have hm0 : m ≠ 0 := by omega
        have hne : d[m]! ≠ d[m - 1]! := by
          unfold Lib.keeps at hk
          rw [decide_eq_true_eq] at hk
          rcases hk with h | h
          · exact absurd h hm0
          · exact h
        have hlt : lexL d[m - 1]! d[m]! < 0 := by
          have h4 := hs (m - 1) m (by omega) (by omega)
          have h5 : lexL d[m - 1]! d[m]! ≠ 0 := fun e => hne ((lexL_zero _ _).1 e).symm
          omega
        by_cases e : j = m - 1
        · rw [e]; exact hlt
        · exact (lexL_trans _ _ _ (hs j (m - 1) (by omega) (by omega)) (by omega)).2 (.inr hlt)
theorem sortL_mem {zs : List (List UInt8)} {y : List UInt8} : y ∈ sortL zs ↔ y ∈ zs := (List.mergeSort_perm zs _).mem_iff
theorem compact_inv (zs : List (List UInt8)) : (∀ y, y ∈ Lib.compact (sortL zs) ↔ y ∈ zs) ∧ (Lib.compact (sortL zs)).Pairwise (fun a b => lexL a b < 0) := by
  have hp := List.pairwise_iff_getElem.1 (sortL_rising zs)
  have hget : ∀ i, i < (sortL zs).length → (sortL zs).toArray[i]! = (sortL zs)[i]! := fun i hi => by simp
  obtain ⟨h1, h2, h3⟩ := comp_inv (sortL zs).toArray (fun i j hij hj => by
    have hj' : j < (sortL zs).length := by simpa using hj
    have h := hp i j (by omega) hj' hij
    simpa [hj', show i < (sortL zs).length by omega] using h) (sortL zs).length (by simp)
  refine ⟨fun y => ⟨fun hy => ?_, fun hy => ?_⟩, h3⟩
  · obtain ⟨j, hj, e⟩ := h1 y hy
    rw [← sortL_mem, ← e]
    simp [hj]
  · rw [← sortL_mem] at hy
    obtain ⟨j, hj, e⟩ := List.getElem_of_mem hy
    have := h2 j hj
    simp [hj] at this
    rw [e] at this
    exact this
theorem colsB_len (ms : List ByteArray) : (colsB ms).length = (colsL ms).length := by unfold colsB; simp
/-- The names are rising. -/
theorem cols_rising {ms : List ByteArray} {i : Nat} (h0 : 0 < i) (hi : i < (colsB ms).length) : cmpS ((colsB ms).getD (i - 1) ⟨#[]⟩) ((colsB ms).getD i ⟨#[]⟩) < 0 := by
  rw [colsB_len] at hi
  have h := List.pairwise_iff_getElem.1 (compact_inv (bytesL ms)).2 (i - 1) i (by show i - 1 < (colsL ms).length; omega) hi (by omega)
  unfold cmpS colsB
  rw [List.getD_eq_getElem?_getD, List.getD_eq_getElem?_getD, List.getElem?_map, List.getElem?_map, List.getElem?_eq_getElem (show i - 1 < (colsL ms).length by omega), List.getElem?_eq_getElem hi]
  exact h
theorem mem_bytesL {ms : List ByteArray} {s : ByteArray} : s.data.toList ∈ bytesL ms ↔ s ∈ ms := by
  unfold bytesL
  rw [List.mem_map]
  constructor
  · rintro ⟨t, ht, e⟩
    rw [← bytes_of_list e]; exact ht
  · exact fun h => ⟨s, h, rfl⟩
/-- They are just those that stand there. -/
theorem cols_mem (ms : List ByteArray) (s : ByteArray) : inN (colsB ms) s = true ↔ s ∈ ms := by
  unfold inN colsB
  rw [List.any_map, List.any_eq_true, ← mem_bytesL, ← (compact_inv (bytesL ms)).1]
  constructor
  · rintro ⟨l, hl, e⟩
    simp at e
    rw [← e]; exact hl
  · exact fun h => ⟨s.data.toList, h, by simp⟩
/-- The keys of the law's sets. -/
def keysL (l : List ByteArray) : List Lit := l.map fun s => Lit.string s.data.toList
theorem keysL_ok (l : List ByteArray) : ∀ x ∈ keysL l, WideAt.IsKeyLit x := fun x hx => by
  obtain ⟨_, _, rfl⟩ := List.mem_map.1 hx; trivial
def setB (l : List ByteArray) : DataW Unit := setOf (.lit (.bool true)) (keysL l)
theorem setB_snoc (l : List ByteArray) (s : ByteArray) : setB (l ++ [s]) = (setB l).put (.string s.data.toList) (.lit (.bool true)) := by
  unfold setB keysL; rw [List.map_append, List.map_singleton, setOf_snoc]
theorem same_str (a b : List UInt8) : (Lit.string a).sameKey (.string b) = (a == b) := rfl
theorem has_setB (l : List ByteArray) (s : ByteArray) : Maps.has (setB l) (.string s.data.toList) = inN l s := by
  unfold setB
  rw [has_setOf _ _ _ (keysL_ok l)]
  unfold keysL inN
  rw [List.any_map]
  rfl
theorem snoc_ind {α : Type} {p : List α → Prop} (h0 : p []) (hs : ∀ l x, p l → p (l ++ [x])) : ∀ l, p l := fun l => by
  have h : ∀ r : List α, p r.reverse := fun r => by
    induction r with
    | nil => exact h0
    | cons x r ih => rw [List.reverse_cons]; exact hs _ _ ih
  have := h l.reverse
  rwa [List.reverse_reverse] at this
theorem isMap_setB : ∀ l : List ByteArray, IsMap (setB l) := snoc_ind isMap_empty fun l s h => by rw [setB_snoc]; exact h.put _ _
/-- m[k] of a set: is k there? -/
theorem atKey_setB (s : ByteArray) : ∀ l : List ByteArray, (setB l).atKey (.string s.data.toList) (.lit (.bool false)) = .lit (.bool (inN l s)) := snoc_ind rfl fun l t ih => by
  rw [setB_snoc]
  by_cases h : s.data.toList = t.data.toList
  · rw [h, atKey_put_same (k := .string t.data.toList) (isMap_setB l) (show WideAt.IsKeyLit (.string t.data.toList) from trivial)]
    have : inN (l ++ [t]) s = true := by unfold inN; rw [List.any_append]; simp [h]
    rw [this]
  · rw [atKey_put_other (fun e => h (by injection e)), ih]
    have : inN (l ++ [t]) s = inN l s := by unfold inN; rw [List.any_append]; simp; intro e; exact absurd (congrArg Array.toList e.symm) h
    rw [this]
theorem addKey_inv : ∀ (xs acc : List Lit), (∀ x ∈ xs, ∃ a, x = .string a) → (∀ x ∈ acc, ∃ a, x = .string a) → acc.Nodup → (xs.foldl addKey acc).Nodup ∧ ∀ y, y ∈ xs.foldl addKey acc ↔ y ∈ acc ∨ y ∈ xs
  | [], acc, _, _, hn => ⟨hn, fun y => by simp⟩
  | x :: r, acc, hx, ha, hn => by
    obtain ⟨a, rfl⟩ := hx x (by simp)
    have hany : (acc.any fun y => y.sameKey (.string a)) = true ↔ .string a ∈ acc := by
      rw [List.any_eq_true]
      constructor
      · rintro ⟨y, hy, e⟩
        obtain ⟨b, rfl⟩ := ha y hy
        rw [same_str, beq_iff_eq] at e
        rw [← e]; exact hy
      · exact fun h => ⟨_, h, by rw [same_str]; simp⟩
    show ((r.foldl addKey (addKey acc (.string a))).Nodup ∧ ∀ y, y ∈ r.foldl addKey (addKey acc (.string a)) ↔ y ∈ acc ∨ y ∈ .string a :: r)
    unfold addKey
    by_cases h : (acc.any fun y => y.sameKey (.string a)) = true
    · rw [if_pos h]
      obtain ⟨h1, h2⟩ := addKey_inv r acc (fun y hy => hx y (by simp [hy])) ha hn
      unfold addKey at h1 h2
      refine ⟨h1, fun y => ?_⟩
      rw [h2]
      constructor
      · rintro (h' | h')
        · exact .inl h'
        · exact .inr (List.mem_cons_of_mem _ h')
      · rintro (h' | h')
        · exact .inl h'
        · rcases List.mem_cons.1 h' with rfl | h''
          · exact .inl (hany.1 h)
          · exact .inr h''
    · rw [if_neg h]
      have hni : ¬ Lit.string a ∈ acc := fun e => h (hany.2 e)
      obtain ⟨h1, h2⟩ := addKey_inv r (acc ++ [.string a]) (fun y hy => hx y (by simp [hy])) (fun y hy => by
        rcases List.mem_append.1 hy with h' | h'
        · exact ha y h'
        · exact ⟨a, List.mem_singleton.1 h'⟩) (by
        refine List.nodup_append.2 ⟨hn, by simp, fun y hy z hz e => ?_⟩
        rw [List.mem_singleton.1 hz] at e
        exact hni (e ▸ hy))
      unfold addKey at h1 h2
      refine ⟨h1, fun y => ?_⟩
      rw [h2, List.mem_append, List.mem_singleton, List.mem_cons]
      exact or_assoc
/-- As many names as there are, each once. -/
theorem size_setB (ms : List ByteArray) : Maps.size (setB ms) = (colsB ms).length := by
  unfold setB
  rw [size_setOf _ _ (keysL_ok ms)]
  obtain ⟨h1, h2⟩ := addKey_inv (keysL ms) [] (fun x hx => by obtain ⟨s, _, rfl⟩ := List.mem_map.1 hx; exact ⟨_, rfl⟩) (by simp) (by simp)
  have hnd : (keysL (colsB ms)).Nodup := by
    unfold keysL colsB
    rw [List.map_map]
    refine List.pairwise_map.2 ((compact_inv (bytesL ms)).2.imp fun {a b} h e => ?_)
    simp at e
    rw [e, lexL_refl] at h
    omega
  have hp : ((keysL ms).foldl addKey []).Perm (keysL (colsB ms)) := (List.perm_ext_iff_of_nodup h1 hnd).2 fun y => by
    rw [h2]
    unfold keysL
    simp only [List.not_mem_nil, false_or, List.mem_map]
    constructor
    · rintro ⟨s, hs, rfl⟩
      obtain ⟨t, ht, e⟩ := List.any_eq_true.1 ((cols_mem ms s).2 hs)
      exact ⟨t, ht, by rw [beq_iff_eq.1 e]⟩
    · rintro ⟨s, hs, rfl⟩
      exact ⟨s, (cols_mem ms s).1 (List.any_eq_true.2 ⟨s, hs, by simp⟩), rfl⟩
  rw [hp.length_eq]
  unfold keysL
  rw [List.length_map]
end Go.Proofs.YteenhmniikloiaaDoor
