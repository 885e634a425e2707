/-
  Columns, the models: the names in a list are those in its tree; what an expression is worth hangs on the columns that stand in it alone; the names are rising, and each is there once.
-/
import Derived.Test.YteenhmniikloiaaDoorEColsF
import Derived.Test.YteenhmniikloiaaDoorMPlain
import Derived.Test.YteenhmniikloiaaDoorEStrip
namespace Go.Proofs.YteenhmniikloiaaDoor
open Go.RowKit

/-- The names of the columns in a list of plain expressions. -/
def kindsP (l : List PL) : List ByteArray := l.flatMap fun p => if p.k = 1 then [p.n] else []
theorem kindsP_append (l m : List PL) : kindsP (l ++ m) = kindsP l ++ kindsP m := by unfold kindsP; rw [List.flatMap_append]
theorem names_kids {node : List PL → XT × Nat} {l : List PL} (hn : ∀ m, m ≠ [] → 1 ≤ (node m).2 ∧ (node m).2 ≤ m.length) (hs : ∀ m, m ≠ [] → namesX (node m).1 = kindsP (m.take (node m).2)) : ∀ (r a : Nat), a ≤ l.length → kindsP (l.take a) ++ namesXs (kidsP node l r a).1 = kindsP (l.take (kidsP node l r a).2)
  | 0, _, _ => List.append_nil _
  | r + 1, a, h => by
    unfold kidsP
    split
    · rename_i hlt
      have hne : l.drop a ≠ [] := by intro e; have := congrArg List.length e; simp at this; omega
      have h1 := hn (l.drop a) hne
      rw [List.length_drop] at h1
      have h4 : l.length - a + a = l.length := Nat.sub_add_cancel h
      have h2 := names_kids (l := l) hn hs r (a + (node (l.drop a)).2) (by omega)
      show kindsP (l.take a) ++ (namesX (node (l.drop a)).1 ++ namesXs (kidsP node l r (a + (node (l.drop a)).2)).1) = kindsP (l.take (kidsP node l r (a + (node (l.drop a)).2)).2)
      rw [← h2, hs _ hne, ← List.append_assoc, ← kindsP_append, ← List.take_add]
    · exact List.append_nil _
theorem names_node : ∀ (f : Nat) (l : List PL), l ≠ [] → namesX (nodeP f l).1 = kindsP (l.take (nodeP f l).2)
  | 0, l, h => by
    cases l with
    | nil => exact absurd rfl h
    | cons p r =>
      show (if p.k = 1 then [p.n] else []) ++ [] = (if p.k = 1 then [p.n] else []) ++ []
      rfl
  | f + 1, l, h => by
    cases l with
    | nil => exact absurd rfl h
    | cons p r =>
      have h2 := names_kids (l := p :: r) (fun m hm => nodeP_bound f m hm) (fun m hm => names_node f m hm) p.a.toNat 1 (by simp)
      show (if p.k = 1 then [p.n] else []) ++ namesXs (kidsP (nodeP f) (p :: r) p.a.toNat 1).1 = kindsP ((p :: r).take (kidsP (nodeP f) (p :: r) p.a.toNat 1).2)
      rw [← h2]
      have e : kindsP ((p :: r).take 1) = (if p.k = 1 then [p.n] else []) := by show (if p.k = 1 then [p.n] else []) ++ [] = _; rw [List.append_nil]
      rw [e]
mutual
theorem namesX_strip : ∀ x : XT, namesX (stripX x) = namesX x
  | .mk k n _ _ _ _ ts => by show (if k = 1 then [n] else []) ++ namesXs (stripXs ts) = (if k = 1 then [n] else []) ++ namesXs ts; rw [namesXs_strip ts]
theorem namesXs_strip : ∀ l : List XT, namesXs (stripXs l) = namesXs l
  | [] => rfl
  | x :: r => by show namesX (stripX x) ++ namesXs (stripXs r) = namesX x ++ namesXs r; rw [namesX_strip x, namesXs_strip r]
end
mutual
theorem evalX_alike (cs : List (ByteArray × Int)) (A B : List (Int × Int × ByteArray)) : ∀ x : XT, (∀ n ∈ namesX x, A.getD (findK cs n) d3 = B.getD (findK cs n) d3) → evalX cs A x = evalX cs B x
  | .mk kd nm v o X c ts, h => by
    have hk : evalsX cs A ts = evalsX cs B ts := evalsX_alike cs A B ts fun n hn => h n (by show n ∈ (if kd = 1 then [nm] else []) ++ namesXs ts; exact List.mem_append_right _ hn)
    rw [evalX, evalX, hk]
    by_cases h1 : kd = 1
    · rw [if_pos h1, if_pos h1, h nm (by show nm ∈ (if kd = 1 then [nm] else []) ++ namesXs ts; rw [if_pos h1]; simp)]
    · rw [if_neg h1, if_neg h1]
theorem evalsX_alike (cs : List (ByteArray × Int)) (A B : List (Int × Int × ByteArray)) : ∀ l : List XT, (∀ n ∈ namesXs l, A.getD (findK cs n) d3 = B.getD (findK cs n) d3) → evalsX cs A l = evalsX cs B l
  | [], _ => rfl
  | x :: r, h => by
    show evalX cs A x :: evalsX cs A r = evalX cs B x :: evalsX cs B r
    rw [evalX_alike cs A B x (fun n hn => h n (List.mem_append_left _ hn)), evalsX_alike cs A B r (fun n hn => h n (List.mem_append_right _ hn))]
end
theorem evalTop_alike {cs : List (ByteArray × Int)} {A B : List (Int × Int × ByteArray)} {x : XT} (hA : fitsB cs A = true) (hB : fitsB cs B = true) (h : ∀ n ∈ namesX x, A.getD (findK cs n) d3 = B.getD (findK cs n) d3) : evalTop cs A x = evalTop cs B x := by
  unfold evalTop
  rw [hA, hB, evalX_alike cs A B x h]
/-- Is a name among these? -/
def inN (N : List ByteArray) (s : ByteArray) : Bool := N.any fun n => n.data.toList == s.data.toList
/-- The second row, with what the first one has in the columns named in N, up to place k. -/
def mixR (N : List ByteArray) (cs : List (ByteArray × Int)) (A B : List (Int × Int × ByteArray)) (k : Nat) : List (Int × Int × ByteArray) :=
  (List.range B.length).map fun j => if j < k ∧ inN N (cs.getD j (⟨#[]⟩, 0)).1 = true then A.getD j d3 else B.getD j d3
theorem mixR_len (N : List ByteArray) (cs : List (ByteArray × Int)) (A B : List (Int × Int × ByteArray)) (k : Nat) : (mixR N cs A B k).length = B.length := by unfold mixR; simp
theorem mixR_at {N : List ByteArray} {cs : List (ByteArray × Int)} {A B : List (Int × Int × ByteArray)} {k j : Nat} (hj : j < B.length) : (mixR N cs A B k).getD j d3 = if j < k ∧ inN N (cs.getD j (⟨#[]⟩, 0)).1 = true then A.getD j d3 else B.getD j d3 := by
  unfold mixR
  rw [List.getD_eq_getElem?_getD, List.getElem?_map, List.getElem?_range hj]; rfl
theorem mixR_fits {N : List ByteArray} {cs : List (ByteArray × Int)} {A B : List (Int × Int × ByteArray)} {k : Nat} (hA : fitsB cs A = true) (hB : fitsB cs B = true) : fitsB cs (mixR N cs A B k) = true := by
  unfold fitsB rowFits at *
  simp only [Bool.and_eq_true, decide_eq_true_eq] at *
  refine ⟨hA.1, by rw [mixR_len]; exact hB.2.1, fun j hj => ?_⟩
  have h1 := hA.2.2 j hj
  have h2 := hB.2.2 j hj
  have hv := mixR_at (N := N) (cs := cs) (A := A) (B := B) (k := k) (j := j) (by rw [hB.2.1]; exact hj)
  unfold heldAt at *
  rw [show (mixR N cs A B k).getD j (0, 0, ⟨#[]⟩) = (mixR N cs A B k).getD j d3 from rfl, hv]
  split
  · exact h1
  · exact h2
theorem mixR_wf {N : List ByteArray} {cs : List (ByteArray × Int)} {A B : List (Int × Int × ByteArray)} {k : Nat} (hA : WfR A) (hB : WfR B) (hl : A.length = B.length) : WfR (mixR N cs A B k) := by
  refine ⟨by rw [mixR_len]; exact hB.1, fun v hv => ?_⟩
  unfold mixR at hv
  obtain ⟨j, hj, rfl⟩ := List.mem_map.1 hv
  have hj' : j < B.length := List.mem_range.1 hj
  split
  · exact hA.at (by omega)
  · exact hB.at hj'
theorem bytes_of_list {s t : ByteArray} (h : s.data.toList = t.data.toList) : s = t := by rw [of_data h, ← of_data (s := t) rfl]
/-- With all columns gone through, what is named in N is the first row's. -/
theorem mixR_names {N : List ByteArray} {cs : List (ByteArray × Int)} {A B : List (Int × Int × ByteArray)} (hA : A.length = cs.length) (hB : B.length = cs.length) {n : ByteArray} (hn : inN N n = true) : A.getD (findK cs n) d3 = (mixR N cs A B cs.length).getD (findK cs n) d3 := by
  by_cases hk : findK cs n < cs.length
  · rw [mixR_at (by omega)]
    have he : (cs.getD (findK cs n) (⟨#[]⟩, 0)).1 = n := by
      have := List.findIdx_getElem (p := fun c : ByteArray × Int => c.1.data.toList == n.data.toList) (xs := cs) (w := hk)
      rw [List.getD_eq_getElem?_getD, List.getElem?_eq_getElem hk]
      exact bytes_of_list (beq_iff_eq.1 this)
    rw [he, if_pos ⟨hk, hn⟩]
  · have e1 : A.getD (findK cs n) d3 = d3 := by rw [List.getD_eq_getElem?_getD, List.getElem?_eq_none (by omega)]; rfl
    have e2 : (mixR N cs A B cs.length).getD (findK cs n) d3 = d3 := by rw [List.getD_eq_getElem?_getD, List.getElem?_eq_none (by rw [mixR_len]; omega)]; rfl
    rw [e1, e2]
end Go.Proofs.YteenhmniikloiaaDoor
