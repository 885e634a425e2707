/-
  The document's Sort: rows put in their places one by one.
-/
import Derived.Test.YtfjhdfpdgjjcgaaGreatDoorTRef
import Derived.Test.YtfjhdfpdgjjcgaaGreatDoorTRight
namespace Go.Proofs.YtfjhdfpdgjjcgaaGreatDoor
open Go.RowKit

def insH (h : RH) : List RH → List RH
  | [] => [h]
  | x :: l => if cmpR h.2.2 x.2.2 < 0 then h :: x :: l else x :: insH h l
def sortH (l : List RH) : List RH := l.foldl (fun a r => insH r a) []
theorem rowsOf_insH (h : RH) : ∀ l, rowsOf (insH h l) = insR h.2.2 (rowsOf l)
  | [] => rfl
  | x :: l => by
    unfold insH
    show _ = insR h.2.2 (x.2.2 :: rowsOf l)
    unfold insR
    split
    · rfl
    · show x.2.2 :: rowsOf (insH h l) = _
      rw [rowsOf_insH h l]
theorem rowsOf_foldH : ∀ (l a : List RH), rowsOf (l.foldl (fun a r => insH r a) a) = (rowsOf l).foldl (fun a r => insR r a) (rowsOf a)
  | [], _ => rfl
  | x :: l, a => by
    rw [List.foldl_cons, rowsOf_foldH l (insH x a), rowsOf_insH]; rfl
theorem rowsOf_sortH (l : List RH) : rowsOf (sortH l) = sortR (rowsOf l) := rowsOf_foldH l []
theorem insH_mem (h : RH) : ∀ l x, x ∈ insH h l → x = h ∨ x ∈ l
  | [], x, hx => by simp [insH] at hx; exact .inl hx
  | y :: l, x, hx => by
    unfold insH at hx
    split at hx
    · rcases List.mem_cons.1 hx with h1 | h1
      · exact .inl h1
      · exact .inr h1
    · rcases List.mem_cons.1 hx with h1 | h1
      · exact .inr (h1 ▸ List.mem_cons_self ..)
      · rcases insH_mem h l x h1 with h2 | h2
        · exact .inl h2
        · exact .inr (List.mem_cons_of_mem _ h2)
theorem insH_len (h : RH) : ∀ l, (insH h l).length = l.length + 1
  | [] => rfl
  | x :: l => by
    unfold insH; split
    · rfl
    · simp only [List.length_cons, insH_len h l]
theorem sortH_snoc (l : List RH) (h : RH) : sortH (l ++ [h]) = insH h (sortH l) := by unfold sortH; simp
theorem sortH_len (l : List RH) : (sortH l).length = l.length := by
  have : ∀ (l a : List RH), (l.foldl (fun a r => insH r a) a).length = l.length + a.length := fun l => by
    induction l with
    | nil => simp
    | cons x l ih => intro a; rw [List.foldl_cons, ih, insH_len]; simp only [List.length_cons]; omega
  show (l.foldl (fun a r => insH r a) []).length = _
  rw [this l []]; rfl
theorem sortH_mem {l : List RH} {x : RH} (h : x ∈ sortH l) : x ∈ l := by
  have : ∀ (l a : List RH), x ∈ l.foldl (fun a r => insH r a) a → x ∈ l ∨ x ∈ a := fun l => by
    induction l with
    | nil => intro a h; exact .inr h
    | cons y l ih =>
      intro a h
      rw [List.foldl_cons] at h
      rcases ih _ h with h1 | h1
      · exact .inl (List.mem_cons_of_mem _ h1)
      · rcases insH_mem _ _ _ h1 with h2 | h2
        · exact .inl (h2 ▸ List.mem_cons_self ..)
        · exact .inr h2
  rcases this l [] h with h1 | h1
  · exact h1
  · simp at h1
/-- How far the row h has been put in its place: the first m are gone over. -/
def Put (h : RH) (ns L : List RH) (m : Nat) (p : Bool) : Prop :=
  if p = true then L ++ ns.drop m = insH h ns else L = ns.take m ∧ insH h ns = ns.take m ++ insH h (ns.drop m)
theorem Put.len_false {h : RH} {ns L : List RH} {m : Nat} (k : Put h ns L m false) (hm : m ≤ ns.length) : L.length = m := by
  unfold Put at k
  rw [if_neg (by decide)] at k
  rw [k.1, List.length_take]; omega
theorem Put.start (h : RH) (ns : List RH) : Put h ns [] 0 false := by unfold Put; rw [if_neg (by decide)]; exact ⟨rfl, rfl⟩
theorem Put.behind {h : RH} {ns L : List RH} {m : Nat} (k : Put h ns L m true) (hm : m < ns.length) : Put h ns (L ++ [ns.getD m dH]) (m + 1) true := by
  unfold Put at *
  rw [if_pos rfl] at *
  rw [List.drop_eq_getElem_cons hm] at k
  rw [List.append_assoc, List.getD_eq_getElem?_getD, List.getElem?_eq_getElem hm]; exact k
theorem Put.ahead {h : RH} {ns L : List RH} {m : Nat} (k : Put h ns L m false) (hm : m < ns.length) (hc : cmpR h.2.2 (ns.getD m dH).2.2 < 0) : Put h ns (L ++ [h] ++ [ns.getD m dH]) (m + 1) true := by
  unfold Put at *
  rw [if_neg (by decide)] at k
  rw [if_pos rfl]
  obtain ⟨k1, k2⟩ := k
  rw [List.getD_eq_getElem?_getD, List.getElem?_eq_getElem hm] at hc ⊢
  rw [k2, k1, List.drop_eq_getElem_cons hm]
  simp only [Option.getD_some] at hc ⊢
  rw [insH, if_pos hc]; simp
theorem Put.pass {h : RH} {ns L : List RH} {m : Nat} (k : Put h ns L m false) (hm : m < ns.length) (hc : ¬ cmpR h.2.2 (ns.getD m dH).2.2 < 0) : Put h ns (L ++ [ns.getD m dH]) (m + 1) false := by
  unfold Put at *
  rw [if_neg (by decide)] at *
  obtain ⟨k1, k2⟩ := k
  have ht := take_row hm
  rw [List.getD_eq_getElem?_getD, List.getElem?_eq_getElem hm] at hc ht ⊢
  simp only [Option.getD_some] at hc ht ⊢
  refine ⟨by rw [k1, ht], ?_⟩
  rw [k2, ht, List.drop_eq_getElem_cons hm, insH, if_neg hc, List.append_assoc]; rfl
theorem Put.end_true {h : RH} {ns L : List RH} (k : Put h ns L ns.length true) : L = insH h ns := by
  unfold Put at k; rw [if_pos rfl, List.drop_length, List.append_nil] at k; exact k
theorem Put.end_false {h : RH} {ns L : List RH} (k : Put h ns L ns.length false) : L ++ [h] = insH h ns := by
  unfold Put at k; rw [if_neg (by decide)] at k
  obtain ⟨k1, k2⟩ := k
  rw [k2, k1, List.drop_length, List.take_length]; rfl
/-- Another row of the call's own, behind an append to this one. -/
theorem own_apart {w w' : World} {base k : Nat} {e : TypeId} {v3 v5 v' : Value} {xs : List Value} {o : Obj} (own3 : w.ownsRow base e 1 v3 k xs) (ap : ∀ g, v3.ownBlock = some g → ¬ v5.ownBlock = some g) (hg : (w.alloc o).grownBy w' v5.ownBlock)
    (hat : v'.ownBlock = v5.ownBlock ∨ v'.ownBlock = some (w.heap.size + 1)) : w'.ownsRow base e 1 v3 k xs ∧ ∀ g, v3.ownBlock = some g → ¬ v'.ownBlock = some g := by
  refine ⟨(own3.alloc o).kept hg ?_, fun g h1 h2 => ?_⟩
  · rcases hu : v3.ownBlock with _ | g
    · exact .inl rfl
    · exact .inr (fun e => ap g hu e.symm)
  · rcases hat with e | e
    · exact ap g h1 (e.symm.trans h2)
    · have := (own3.lt g h1).2
      rw [h2] at e; injection e with e; omega
theorem own_cell {w : World} {base b o c : Nat} {e : TypeId} {ns : List RH} (h : w.ownsRow base e 1 (.slice (some ⟨b, o, none⟩) ns.length c) ns.length (ns.map hdr)) {j : Nat} (hj : j < ns.length) : w.cell? ⟨b, o + j, none⟩ = some (hdr (ns.getD j dH)) := by
  rcases h.2 with ⟨e, _⟩ | ⟨g, cap, cur, e, _, hg, hn, _, hsz, htk⟩
  · injection e with e1; cases e1
  · injection e with e1
    injection e1 with e1
    injection e1 with e1 e2
    subst e1 e2
    rw [Nat.zero_add, Lib.cell_of_heap hg]
    have hc : (ns.map hdr)[j]? = some (hdr (ns.getD j dH)) := by
      rw [List.getElem?_map, List.getElem?_eq_getElem hj, List.getD_eq_getElem?_getD, List.getElem?_eq_getElem hj]; rfl
    rw [← htk, List.getElem?_take_of_lt (by omega)] at hc
    simpa using hc
end Go.Proofs.YtfjhdfpdgjjcgaaGreatDoor
