/-
  How many parts an expression has: no more than twice the tokens that were read.
  An expression in memory, by cells and by its tree.
  The operators as the parser makes them: of values that read as expressions.
  A region that draws its order, with a condition on the world that holds up to its last operation, which waits for all others.
-/
import Derived.Test.YtljoajjlkjjgeaaGreatDoorMN3
import Derived.Test.YtljoajjlkjjgeaaGreatDoorME3
import Derived.Deep.RegionHeld3
import Derived.StillTail
import Derived.Deep.RegionLawGrows
namespace Go.Proofs.YtljoajjlkjjgeaaGreatDoor
open Go.RowKit Go.Sort LM

def Sz (r : Rule XT) : Prop := ∀ s, Wf s → szX (r s).1 + 2 * (r s).2.L.length ≤ 2 * s.L.length + 1
theorem take_lt0 {s : PSt} (h : Wf s) (hk : (aheadS 0 s).1 ≠ 0) : (takeS s).2.L.length < s.L.length := by
 have hne : s.L ≠ [] := fun e => hk (by unfold aheadS; rw [e]; rfl)
 have hpos := List.length_pos_iff.2 hne
 rw [take_eq]
 unfold deepS
 split
 ·have hl : (failS 52 s).L = [] := by
   unfold failS
   cases hb : s.b with
   | none => rfl
   | some y => exact absurd (h (by rw [hb]; simp)) hne
  split
  ·rw [hl]; exact hpos
  ·simp only [hl]; simpa using hpos
 ·first
  | (rw [if_neg hk]; simp only [List.length_tail]; omega)
  | (simp only [List.length_tail]; omega)
theorem findW_is {xs : List (List UInt8)} {t : T3} {i : Nat} (h : findW xs t = some i) : ∃ x, isT t x = true := by
 unfold findW at h
 obtain ⟨h1, h2, _⟩ := List.findIdx?_eq_some_iff_getElem.1 h
 exact ⟨_, h2⟩
theorem which_lt {xs : List (List UInt8)} {s s1 : PSt} {i : Nat} (hw : Wf s) (h : whichS xs s = (some i, s1)) : s1.L.length < s.L.length ∧ Tr s s1 := by
 unfold whichS at h
 cases hf : findW xs (aheadS 0 s) with
 | none => rw [hf] at h; cases h
 | some j =>
  rw [hf] at h
  injection h with h1 h2
  obtain ⟨x, hx⟩ := findW_is hf
  subst h2
  exact ⟨take_lt hw hx, take_tr hw⟩
theorem size_bin (o : ByteArray) (a b : XT) : szX (binE o a b) = 1 + szX a + szX b := by
 show 1 + (szX a + (szX b + 0)) = _; omega
theorem size_un (o : ByteArray) (a : XT) : szX (unE o a) = 1 + szX a := by
 show 1 + (szX a + 0) = _; omega
theorem size_chainG {r : Rule XT} (hr : Nice r) (hz : Sz r) (ops : List (List UInt8)) : ∀ n x s, Wf s → szX (chainG r ops n x s).1 + 2 * (chainG r ops n x s).2.L.length ≤ szX x + 2 * s.L.length
 | 0, x, s, _ => Nat.le_refl _
 | n + 1, x, s, h => by
  unfold chainG
  cases hw : whichS ops s with
  | mk o s1 =>
   cases o with
   | none => exact Nat.le_refl _
   | some i =>
    obtain ⟨h1, h2⟩ := which_lt h hw
    have h3 := hz s1 h2.wf
    have h4 := size_chainG hr hz ops n (binE (ba (ops.getD i [])) x (r s1).1) (r s1).2 (hr.tr _ h2.wf).wf
    rw [size_bin] at h4
    simp only
    omega
theorem size_chain (F : Nat) {r : Rule XT} (hr : Nice r) (hz : Sz r) (ops : List (List UInt8)) : Sz (chainS F r ops) := fun s h => by
 have h1 := hz s h
 have h2 := size_chainG hr hz ops F (r s).1 (r s).2 (hr.tr s h).wf
 show szX (chainG r ops F (r s).1 (r s).2).1 + 2 * (chainG r ops F (r s).1 (r s).2).2.L.length ≤ _
 omega
theorem size_compare {r : Rule XT} (hr : Nice r) (hz : Sz r) : Sz (compareS r) := fun s h => by
 have h1 := hz s h
 unfold compareS
 cases hw : whichS cmpOps (r s).2 with
 | mk o s1 =>
  cases o with
  | none => exact h1
  | some i =>
   obtain ⟨h2, h3⟩ := which_lt (hr.tr s h).wf hw
   have h4 := hz s1 h3.wf
   simp only
   rw [size_bin]; omega
theorem size_nested {r : Rule XT} (hz : Sz r) : Sz (nestedS r) := fun s h => hz ⟨s.L, s.d + 1, s.b⟩ h
theorem size_minusG {p : Rule XT} (hp : Nice p) (hz : Sz p) : ∀ n, Sz (minusG p n)
 | 0 => hz
 | n + 1 => fun s h => by
  rw [minusG]
  show szX (if isT (aheadS 0 s) [45] = true then _ else _ : XT × PSt).1 + 2 * (if isT (aheadS 0 s) [45] = true then _ else _ : XT × PSt).2.L.length ≤ _
  by_cases hc : isT (aheadS 0 s) [45] = true
  ·rw [if_pos hc]
   have h1 := take_lt h hc
   have h2 := take_tr h
   split
   ·have h3 := (nice_number.tr _ h2.wf).len
    show 1 + 2 * (numberS (takeS s).2).2.L.length ≤ _
    omega
   ·have h3 := size_nested (size_minusG hp hz n) _ h2.wf
    simp only
    rw [size_un]; omega
  ·rw [if_neg hc]
   exact hz s h
theorem size_notG {p : Rule XT} (hp : Nice p) (hz : Sz p) : ∀ n, Sz (notG p n)
 | 0 => hz
 | n + 1 => fun s h => by
  rw [notG]
  show szX (if isT (aheadS 0 s) [110, 111, 116] = true then _ else _ : XT × PSt).1 + 2 * (if isT (aheadS 0 s) [110, 111, 116] = true then _ else _ : XT × PSt).2.L.length ≤ _
  by_cases hc : isT (aheadS 0 s) [110, 111, 116] = true
  ·rw [if_pos hc]
   have h1 := take_lt h hc
   have h2 := take_tr h
   have h3 := size_nested (size_notG hp hz n) _ h2.wf
   simp only
   rw [size_un]; omega
  ·rw [if_neg hc]
   exact hz s h
theorem szXs_snoc (l : List XT) (x : XT) : szXs (l ++ [x]) = szXs l + szX x := by
 induction l with
 | nil => show szX x + 0 = 0 + szX x; omega
 | cons y r ih => show szX y + szXs (r ++ [x]) = szX y + szXs r + szX x; omega
theorem size_listG {r : Rule XT} (hr : Nice r) (hz : Sz r) : ∀ n l s, Wf s → szXs (listG r n l s).1 + 2 * (listG r n l s).2.L.length ≤ szXs l + 2 * s.L.length
 | 0, l, s, _ => Nat.le_refl _
 | n + 1, l, s, h => by
  rw [listG]
  split
  ·rename_i hc
   have h1 := take_lt h hc
   have h2 := take_tr h
   have h3 := hz _ h2.wf
   have h4 := size_listG hr hz n (l ++ [(r (takeS s).2).1]) (r (takeS s).2).2 (hr.tr _ h2.wf).wf
   rw [szXs_snoc] at h4
   omega
  ·exact Nat.le_refl _
theorem size_args (F : Nat) {E : Rule XT} (hE : Nice E) (hz : Sz E) (s : PSt) (h : Wf s) : szXs (enclosedS (listS F (nestedS E)) s).1 + 2 * (enclosedS (listS F (nestedS E)) s).2.L.length ≤ 2 * s.L.length + 1 := by
 have t1 : Tr s (expectS [40] s) := (nice_expect _).tr s h
 have h1 := size_nested hz _ t1.wf
 have n1 := (nice_nested hE).tr _ t1.wf
 have h2 := size_listG (nice_nested hE) (size_nested hz) F [(nestedS E (expectS [40] s)).1] (nestedS E (expectS [40] s)).2 n1.wf
 have n2 := (nice_list F (nice_nested hE)).tr _ t1.wf
 have t2 : Tr (listS F (nestedS E) (expectS [40] s)).2 (expectS [41] (listS F (nestedS E) (expectS [40] s)).2) := (nice_expect _).tr _ n2.wf
 have e : szXs [(nestedS E (expectS [40] s)).1] = szX (nestedS E (expectS [40] s)).1 + 0 := rfl
 rw [e] at h2
 have l1 := t1.len
 have l2 := t2.len
 show szXs (listG (nestedS E) F [(nestedS E (expectS [40] s)).1] (nestedS E (expectS [40] s)).2).1 + 2 * (expectS [41] (listS F (nestedS E) (expectS [40] s)).2).L.length ≤ _
 have e2 : (listS F (nestedS E) (expectS [40] s)).2 = (listG (nestedS E) F [(nestedS E (expectS [40] s)).1] (nestedS E (expectS [40] s)).2).2 := rfl
 rw [e2] at l2 ⊢
 omega
theorem name_lt {s : PSt} (h : Wf s) (h1 : (aheadS 0 s).1 = 1) : (nameS s).2.L.length < s.L.length := by
 show (tokenS 1 s).2.L.length < _
 unfold tokenS
 rw [if_pos h1]
 exact take_lt0 h (by rw [h1]; decide)
theorem size_prim (F : Nat) {E : Rule XT} (hE : Nice E) (hz : Sz E) : Sz (primS F E) := fun s h => by
 have hone : ∀ (v : XT) (t : PSt), szX v = 1 → t.L.length ≤ s.L.length → szX (v, t).1 + 2 * (v, t).2.L.length ≤ 2 * s.L.length + 1 := fun v t e l => by simp only; omega
 unfold primS
 split
 ·exact hone _ _ rfl (nice_number.tr s h).len
 split
 ·exact hone _ _ rfl (nice_literal.tr s h).len
 split
 ·have t1 : Tr ⟨s.L, s.d + 1, s.b⟩ (expectS [40] ⟨s.L, s.d + 1, s.b⟩) := (nice_expect _).tr _ h
  have h1 := hz _ t1.wf
  have t2 : Tr (E (expectS [40] ⟨s.L, s.d + 1, s.b⟩)).2 (expectS [41] (E (expectS [40] ⟨s.L, s.d + 1, s.b⟩)).2) := (nice_expect _).tr _ (hE.tr _ t1.wf).wf
  have l1 := t1.len
  have l2 := t2.len
  show szX (E (expectS [40] ⟨s.L, s.d + 1, s.b⟩)).1 + 2 * (expectS [41] (E (expectS [40] ⟨s.L, s.d + 1, s.b⟩)).2).L.length ≤ _
  have l1' : (expectS [40] ⟨s.L, s.d + 1, s.b⟩).L.length ≤ s.L.length := l1
  omega
 split
 ·rename_i hc
  have h1 := name_lt h hc.1
  have h2 := size_args F hE hz _ (nice_name.tr s h).wf
  show 1 + szXs (enclosedS (listS F (nestedS E)) (nameS s).2).1 + 2 * (enclosedS (listS F (nestedS E)) (nameS s).2).2.L.length ≤ _
  omega
 split
 ·exact hone _ _ rfl (take_tr h).len
 split
 ·exact hone _ _ rfl ((fail_tr (Or.inl rfl) h).trans (nice_name.tr _ (fail_tr (Or.inl rfl) h).wf)).len
 ·exact hone _ _ rfl (nice_name.tr s h).len
theorem size_minus (F : Nat) {E : Rule XT} (hE : Nice E) (hz : Sz E) : Sz (minusS F E) := size_minusG (nice_prim F hE) (size_prim F hE hz) F
theorem size_not (F : Nat) {E : Rule XT} (hE : Nice E) (hz : Sz E) : Sz (notS F E) :=
 size_notG (nice_compare (nice_sum F hE)) (size_compare (nice_sum F hE) (size_chain F (nice_product F hE) (size_chain F (nice_minus F hE) (size_minus F hE hz) _) _)) F
theorem size_expr (F : Nat) : ∀ n, Sz (exprG F n)
 | 0 => fun s _ => by show 1 + 2 * s.L.length ≤ _; omega
 | n + 1 => size_chain F (nice_and F (nice_expr F n)) (size_chain F (nice_not F (nice_expr F n)) (size_not F (nice_expr F n) (size_expr F n)) _) _
end Go.Proofs.YtljoajjlkjjgeaaGreatDoor
namespace Go.Proofs.YtljoajjlkjjgeaaGreatDoor
open Go.RowKit Go.Sort LM Go

/-- The cells of an expression. -/
def cX (x : XT) : List Value := [.int .i64 x.kind, .string x.name, .int .i64 x.val.1, .int .i64 x.val.2.1, .string x.val.2.2, .string x.op, .slice x.adr x.args.length x.cap]
theorem vX_cX (x : XT) : vX x = .agg (cX x).toArray := rfl
theorem at7_cX {w : World} {b o : Nat} {x : XT} (h : At7 w b o x) : ∀ i, i < 7 → w.cell? ⟨b, o + i, none⟩ = some ((cX x).getD i v0) := by
 obtain ⟨h0, h1, h2, h3, h4, h5, h6⟩ := h
 intro i hi
 match i, hi with
 | 0, _ => exact h0
 | 1, _ => exact h1
 | 2, _ => exact h2
 | 3, _ => exact h3
 | 4, _ => exact h4
 | 5, _ => exact h5
 | 6, _ => exact h6
theorem cX_at7 {w : World} {b o : Nat} {x : XT} (h : ∀ i, i < 7 → w.cell? ⟨b, o + i, none⟩ = some ((cX x).getD i v0)) : At7 w b o x :=
 ⟨h 0 (by decide), h 1 (by decide), h 2 (by decide), h 3 (by decide), h 4 (by decide), h 5 (by decide), h 6 (by decide)⟩
theorem dE_len (x : XT) : (dE x).length = 7 := by cases x; rfl
theorem dE_strip : ∀ x y : XT, stripX x = stripX y → dE x = dE y := by
 have h1 : ∀ x : XT, dE (stripX x) = dE x := by
  intro x
  exact (strip_dE x)
 intro x y h
 rw [← h1 x, ← h1 y, h]
where
 strip_dE : ∀ x : XT, dE (stripX x) = dE x
  | .mk k n v o A c ts => by
   show [dI k, dS n, dI v.1, dI v.2.1, dS v.2.2, dS o, Dt.row 7 (dEs (stripXs ts))] = [dI k, dS n, dI v.1, dI v.2.1, dS v.2.2, dS o, Dt.row 7 (dEs ts)]
   rw [strip_dEs ts]
 strip_dEs : ∀ l : List XT, dEs (stripXs l) = dEs l
  | [] => rfl
  | x :: r => by
   show dE (stripX x) :: dEs (stripXs r) = dE x :: dEs r
   rw [strip_dE x, strip_dEs r]
theorem dEs_len (l : List XT) : (dEs l).length = l.length := by rw [dEs_map]; simp
theorem dEs_at {l : List XT} {j : Nat} (h : j < l.length) : (dEs l).getD j [] = dE (l.getD j dX) := by
 rw [dEs_map, List.getD_eq_getElem?_getD, List.getElem?_map, List.getD_eq_getElem?_getD, List.getElem?_eq_getElem h]; rfl
/-- A tree that lies new reads so by cells. -/
theorem rep_lies {lo : Nat} {w : World} {x : XT} (h : LiesX w.heap.size w x) : newX lo x → RepC (New lo) w (dE x) (cX x) := by
 induction h with
 | mk hA hc hs ih =>
  rename_i k n v o A c ts
  intro hn
  refine RepC.cons (rep_int _ _ _) (RepC.cons (rep_str _ _ _) (RepC.cons (rep_int _ _ _) (RepC.cons (rep_int _ _ _) (RepC.cons (rep_str _ _ _) (RepC.cons (rep_str _ _ _) (RepC.cons ?_ (RepC.nil _ _)))))))
  show Rep (New lo) w (.row 7 (dEs ts)) (.slice A ts.length c)
  rw [← dEs_len ts]
  refine .row (fun j i => (cX (ts.getD j dX)).getD i v0) hA (fun j hj => ?_) (fun j i hj hi => ?_)
  ·rw [dEs_len] at hj
   obtain ⟨b, off, e, hlt, h7⟩ := hc j hj
   refine ⟨b, off, e, hn.1 _ e, hlt, fun i hi => ?_⟩
   rw [dEs_at hj, dE_len] at hi
   exact at7_cX h7 i hi
  ·rw [dEs_len] at hj
   have hmem : ts.getD j dX ∈ ts := by rw [List.getD_eq_getElem?_getD, List.getElem?_eq_getElem hj]; exact List.getElem_mem hj
   have := ih _ hmem (newXs_at hn.2 hj)
   rw [dEs_at hj] at hi ⊢
   exact this.2 i hi
theorem Rep.row_inv {P : Nat → Prop} {w : World} {sz : Nat} {els : List (List Dt)} {v : Value} (h : Rep P w (.row sz els) v) : ∃ A cap, v = .slice A els.length cap ∧ (A = none → cap = 0) ∧ ∃ us : Nat → Nat → Value,
  (∀ j, j < els.length → ∃ b off, A = some ⟨b, off, none⟩ ∧ P b ∧ b < w.heap.size ∧ ∀ i, i < (els.getD j []).length → w.cell? ⟨b, off + j * sz + i, none⟩ = some (us j i)) ∧
  ∀ j i, j < els.length → i < (els.getD j []).length → Rep P w ((els.getD j []).getD i d0) (us j i) := by
 cases h with
 | row us hA hc hs => exact ⟨_, _, rfl, hA, us, hc, hs⟩
mutual
/-- What reads as an expression is one. -/
theorem lies_rep {P : Nat → Prop} {w : World} : ∀ (x0 : XT) (vs : List Value), RepC P w (dE x0) vs → ∃ x, vs = cX x ∧ LiesX w.heap.size w x ∧ stripX x = stripX x0
 | .mk k n v o A0 c0 ts, vs, h => by
  obtain ⟨v1, vs, rfl, h1, h⟩ := RepC.uncons (show RepC P w ([dI k, dS n, dI v.1, dI v.2.1, dS v.2.2, dS o, .row 7 (dEs ts)]) vs from h)
  obtain ⟨v2, vs, rfl, h2, h⟩ := h.uncons
  obtain ⟨v3, vs, rfl, h3, h⟩ := h.uncons
  obtain ⟨v4, vs, rfl, h4, h⟩ := h.uncons
  obtain ⟨v5, vs, rfl, h5, h⟩ := h.uncons
  obtain ⟨v6, vs, rfl, h6, h⟩ := h.uncons
  obtain ⟨v7, vs, rfl, h7, h⟩ := h.uncons
  rw [h.unnil]
  obtain rfl := h1.int; obtain rfl := h2.str; obtain rfl := h3.int; obtain rfl := h4.int; obtain rfl := h5.str; obtain rfl := h6.str
  obtain ⟨A, cap, rfl, hA, us, hc, hs⟩ := h7.row_inv
  rw [dEs_len] at hc hs ⊢
  have hj : ∀ j, j < ts.length → RepC P w (dE (ts.getD j dX)) ((List.range 7).map (us j)) := fun j hj => ⟨by rw [dE_len]; simp, fun i hi => by
   have := hs j i hj (by rw [dEs_at hj]; exact hi)
   rw [dEs_at hj] at this
   rw [dE_len] at hi
   have e : ((List.range 7).map (us j)).getD i v0 = us j i := by
    rw [List.getD_eq_getElem?_getD, List.getElem?_map, List.getElem?_range hi]; rfl
   rw [e]; exact this⟩
  obtain ⟨xs, hl, hx, hst⟩ := lies_reps ts _ hj
  refine ⟨.mk k n v o A cap xs, ?_, .mk hA (fun j hj' => ?_) (fun x hx' => ?_), ?_⟩
  ·unfold cX
   simp only [XT.kind, XT.name, XT.val, XT.op, XT.adr, XT.args, XT.cap, hl]
  ·obtain ⟨b, off, e, _, hlt, hcell⟩ := hc j (by omega)
   refine ⟨b, off, e, hlt, cX_at7 fun i hi => ?_⟩
   rw [← (hx j (by omega)).1]
   have e2 : ((List.range 7).map (us j)).getD i v0 = us j i := by
    rw [List.getD_eq_getElem?_getD, List.getElem?_map, List.getElem?_range hi]; rfl
   rw [e2]
   exact hcell i (by rw [dEs_at (by omega), dE_len]; exact hi)
  ·obtain ⟨j, hj', e⟩ := List.getElem_of_mem hx'
   have := (hx j (by omega)).2
   rw [List.getD_eq_getElem?_getD, List.getElem?_eq_getElem hj', Option.getD_some, e] at this
   exact this
  ·show XT.mk k n v o none 0 (stripXs xs) = XT.mk k n v o none 0 (stripXs ts)
   rw [hst]
theorem lies_reps {P : Nat → Prop} {w : World} : ∀ (ts : List XT) (f : Nat → List Value), (∀ j, j < ts.length → RepC P w (dE (ts.getD j dX)) (f j)) →
  ∃ xs : List XT, xs.length = ts.length ∧ (∀ j, j < ts.length → f j = cX (xs.getD j dX) ∧ LiesX w.heap.size w (xs.getD j dX)) ∧ stripXs xs = stripXs ts
 | [], _, _ => ⟨[], rfl, fun j hj => by simp at hj, rfl⟩
 | x0 :: r, f, h => by
  obtain ⟨x, h1, h2, h4⟩ := lies_rep x0 (f 0) (h 0 (by simp))
  obtain ⟨xs, hl, hx, hst⟩ := lies_reps r (fun j => f (j + 1)) (fun j hj => h (j + 1) (by simpa using hj))
  refine ⟨x :: xs, by simp [hl], fun j hj => ?_, ?_⟩
  ·cases j with
   | zero => exact ⟨h1, h2⟩
   | succ j => exact hx j (by simpa using hj)
  ·show stripX x :: stripXs xs = stripX x0 :: stripXs r
   rw [h4, hst]
end
/-- A row that reads as expressions. -/
theorem args_rep {P : Nat → Prop} {w : World} {ts : List XT} {v : Value} (h : Rep P w (.row 7 (dEs ts)) v) : ∃ A cap xs, v = .slice A xs.length cap ∧ ArgsAt w.heap.size w A xs ∧ stripXs xs = stripXs ts := by
 obtain ⟨x, h1, h2, h3⟩ := lies_rep (.mk 0 z0 (0, 0, z0) z0 none 0 ts) [.int .i64 0, .string z0, .int .i64 0, .int .i64 0, .string z0, .string z0, v]
  (RepC.cons (rep_int _ _ _) (RepC.cons (rep_str _ _ _) (RepC.cons (rep_int _ _ _) (RepC.cons (rep_int _ _ _) (RepC.cons (rep_str _ _ _) (RepC.cons (rep_str _ _ _) (RepC.cons h (RepC.nil _ _))))))))
 obtain ⟨k, n, u, o, A, c, xs⟩ := x
 unfold cX at h1
 simp only [XT.kind, XT.name, XT.val, XT.op, XT.adr, XT.args, XT.cap, List.cons.injEq, and_true] at h1
 refine ⟨A, c, xs, h1.2.2.2.2.2.2, ArgsAt.of h2, ?_⟩
 have h4 : XT.mk k n u o none 0 (stripXs xs) = XT.mk 0 z0 (0, 0, z0) z0 none 0 (stripXs ts) := h3
 injection h4
mutual
theorem size_strip : ∀ x y : XT, stripX x = stripX y → szX x = szX y
 | .mk _ _ _ _ _ _ ts, .mk _ _ _ _ _ _ us, h => by
  have h2 : stripXs ts = stripXs us := by
   simp only [stripX] at h
   injection h
  show 1 + szXs ts = 1 + szXs us
  rw [size_strips ts us h2]
theorem size_strips : ∀ l m : List XT, stripXs l = stripXs m → szXs l = szXs m
 | [], [], _ => rfl
 | [], _ :: _, h => by cases h
 | _ :: _, [], h => by cases h
 | x :: r, y :: s, h => by
  have h1 : stripX x :: stripXs r = stripX y :: stripXs s := h
  injection h1 with h1 h2
  show szX x + szXs r = szX y + szXs s
  rw [size_strip x y h1, size_strips r s h2]
end
end Go.Proofs.YtljoajjlkjjgeaaGreatDoor
namespace Go.Proofs.YtljoajjlkjjgeaaGreatDoor
open Go.RowKit Go.Sort LM Go

set_option maxHeartbeats 2000000 in
theorem unD_any {P : Nat → Prop} (o : ByteArray) (x0 : XT) (vs : List Value) (w : World) (h : RepC P w (dE x0) vs) (hz : szX x0 ≤ 1000000) :
  Calls Tryz.prog 21 #[.string o, .agg vs.toArray] w fun e w' => (∃ us : List Value, e = .returned (.agg us.toArray) ∧ RepC (New w.heap.size) w' (dE (unE o x0)) us) ∧ Below w.heap.size w w' := by
 obtain ⟨x, rfl, hl, hs⟩ := lies_rep x0 vs h
 refine (unary_any o x w (by rw [size_strip x x0 hs]; exact hz) hl).mono ?_
 rintro e w' ⟨⟨A', c', x', rfl, h1, h2, h3⟩, hb⟩
 refine ⟨⟨cX (.mk 3 ⟨#[]⟩ (0, 0, ⟨#[]⟩) o A' c' [x']), rfl, ?_⟩, hb⟩
 rw [dE_strip (unE o x0) (.mk 3 ⟨#[]⟩ (0, 0, ⟨#[]⟩) o A' c' [x']) (by
  show XT.mk 3 z0 (0, 0, z0) o none 0 [stripX x0] = XT.mk 3 z0 (0, 0, z0) o none 0 [stripX x']
  rw [h1, hs])]
 exact rep_lies h2 h3
set_option maxHeartbeats 2000000 in
theorem callD_any {P : Nat → Prop} (o : ByteArray) (ts : List XT) (v : Value) (w : World) (h : Rep P w (.row 7 (dEs ts)) v) (hz : szXs ts ≤ 1000000) :
  Calls Tryz.prog 157 #[.string o, v] w fun e w' => (∃ us : List Value, e = .returned (.agg us.toArray) ∧ RepC (New w.heap.size) w' (dE (callE o ts)) us) ∧ Below w.heap.size w w' := by
 obtain ⟨A, c, xs, rfl, hl, hs⟩ := args_rep h
 refine (call_any o A c xs w (by rw [size_strips xs ts hs]; exact hz) hl).mono ?_
 rintro e w' ⟨⟨A', c', us, rfl, h1, h2, h3⟩, hb⟩
 refine ⟨⟨cX (.mk 5 o (0, 0, ⟨#[]⟩) ⟨#[]⟩ A' c' us), rfl, ?_⟩, hb⟩
 rw [dE_strip (callE o ts) (.mk 5 o (0, 0, ⟨#[]⟩) ⟨#[]⟩ A' c' us) (by
  show XT.mk 5 o (0, 0, z0) z0 none 0 (stripXs ts) = XT.mk 5 o (0, 0, z0) z0 none 0 (stripXs us)
  rw [h1, hs])]
 exact rep_lies h2 h3
theorem colD_any (s : ByteArray) (w : World) : Calls Tryz.prog 18 #[.string s] w fun e w' => (∃ us : List Value, e = .returned (.agg us.toArray) ∧ RepC (New w.heap.size) w' (dE (colE s)) us) ∧ Below w.heap.size w w' := by
 refine (column_any s w).mono ?_
 rintro e w' ⟨rfl, hb⟩
 exact ⟨⟨_, rfl, rep_lies (lies_leaf _ _ _ _ _ _) ⟨fun a h => (by cases h), trivial⟩⟩, hb⟩
theorem conD_any (k n : Int) (s : ByteArray) (w : World) : Calls Tryz.prog 19 #[vVal k n s] w fun e w' => (∃ us : List Value, e = .returned (.agg us.toArray) ∧ RepC (New w.heap.size) w' (dE (conE (k, n, s))) us) ∧ Below w.heap.size w w' := by
 refine (const_any k n s w).mono ?_
 rintro e w' ⟨rfl, hb⟩
 exact ⟨⟨_, rfl, rep_lies (lies_leaf _ _ _ _ _ _) ⟨fun a h => (by cases h), trivial⟩⟩, hb⟩
/-- The new operator over two values as they are. -/
theorem bin_lies {Pa Pb : Nat → Prop} {w wf : World} {a b : XT} {va vb : List Value} {P c lo : Nat} {o : ByteArray} (ha : RepC Pa w (dE a) va) (hb : RepC Pb w (dE b) vb) (hs : w.heap.size ≤ wf.heap.size)
  (hk : ∀ i, i < w.heap.size → wf.heap[i]? = w.heap[i]?) (hP : lo ≤ P) (hl : P < wf.heap.size)
  (h1 : ∀ i, i < 7 → wf.cell? ⟨P, i, none⟩ = some (va.getD i v0)) (h2 : ∀ i, i < 7 → wf.cell? ⟨P, 7 + i, none⟩ = some (vb.getD i v0)) :
  RepC (fun i => Pa i ∨ Pb i ∨ lo ≤ i) wf (dE (binE o a b)) [.int .i64 4, .string z0, .int .i64 0, .int .i64 0, .string z0, .string o, .slice (some ⟨P, 0, none⟩) 2 c] := by
 refine RepC.cons (rep_int _ _ _) (RepC.cons (rep_str _ _ _) (RepC.cons (rep_int _ _ _) (RepC.cons (rep_int _ _ _) (RepC.cons (rep_str _ _ _) (RepC.cons (rep_str _ _ _) (RepC.cons ?_ (RepC.nil _ _)))))))
 have sa : Stay Pa (fun i => Pa i ∨ Pb i ∨ lo ≤ i) w wf := ⟨fun _ _ h => Or.inl h, hs, fun i _ h => hk i h⟩
 have sb : Stay Pb (fun i => Pa i ∨ Pb i ∨ lo ≤ i) w wf := ⟨fun _ _ h => Or.inr (Or.inl h), hs, fun i _ h => hk i h⟩
 have ra := ha.stay sa
 have rb := hb.stay sb
 show Rep _ wf (.row 7 [dE a, dE b]) (.slice (some ⟨P, 0, none⟩) 2 c)
 refine Rep.row (els := [dE a, dE b]) (fun j i => if j = 0 then va.getD i v0 else vb.getD i v0) (fun e => by cases e) (fun j hj => ⟨P, 0, rfl, Or.inr (Or.inr hP), hl, fun i hi => ?_⟩) (fun j i hj hi => ?_)
 ·match j, hj with
  | 0, _ => rw [show ([dE a, dE b].getD 0 []).length = 7 from dE_len a] at hi; rw [if_pos rfl, show 0 + 0 * 7 + i = i by omega]; exact h1 i hi
  | 1, _ => rw [show ([dE a, dE b].getD 1 []).length = 7 from dE_len b] at hi; rw [if_neg (by decide), show 0 + 1 * 7 + i = 7 + i by omega]; exact h2 i hi
 ·match j, hj with
  | 0, _ => rw [if_pos rfl]; exact ra.2 i hi
  | 1, _ => rw [if_neg (by decide)]; exact rb.2 i hi
theorem set7_0 (w : World) (P : Nat) (a : XT) : set7 w P 0 a = (((((((w.setCell ⟨P, 0, none⟩ (.int .i64 a.kind)).setCell ⟨P, 1, none⟩ (.string a.name)).setCell ⟨P, 2, none⟩ (.int .i64 a.val.1)).setCell ⟨P, 3, none⟩ (.int .i64 a.val.2.1)).setCell ⟨P, 4, none⟩ (.string a.val.2.2)).setCell ⟨P, 5, none⟩ (.string a.op)).setCell ⟨P, 6, none⟩ (.slice a.adr a.args.length a.cap)) := rfl
theorem set7_7 (w : World) (P : Nat) (a : XT) : set7 w P 7 a = (((((((w.setCell ⟨P, 7, none⟩ (.int .i64 a.kind)).setCell ⟨P, 8, none⟩ (.string a.name)).setCell ⟨P, 9, none⟩ (.int .i64 a.val.1)).setCell ⟨P, 10, none⟩ (.int .i64 a.val.2.1)).setCell ⟨P, 11, none⟩ (.string a.val.2.2)).setCell ⟨P, 12, none⟩ (.string a.op)).setCell ⟨P, 13, none⟩ (.slice a.adr a.args.length a.cap)) := rfl
theorem vX_mk (k : Int) (n : ByteArray) (v : Int × Int × ByteArray) (o : ByteArray) (A : Option Addr) (c : Nat) (ts : List XT) : vX (.mk k n v o A c ts) = .agg #[.int .i64 k, .string n, .int .i64 v.1, .int .i64 v.2.1, .string v.2.2, .string o, .slice A ts.length c] := rfl
/-- What stands while the two are stored. -/
def SB (ia ib ix P : Nat) (ca cb cx : List Value) (w' : World) : Prop := w'.heap[ia]? = some (.cells ca.toArray 36 (0, 0)) ∧ w'.heap[ib]? = some (.cells cb.toArray 36 (0, 0)) ∧ w'.heap[ix]? = some (.cells cx.toArray 36 (0, 0)) ∧ OwnB w' P 14
theorem SB.drew {ia ib ix P : Nat} {ca cb cx : List Value} {w' : World} (h : SB ia ib ix P ca cb cx w') : SB ia ib ix P ca cb cx w'.drew := h
set_option maxHeartbeats 8000000 in
set_option maxRecDepth 100000 in
theorem binD_any {Pa Pb : Nat → Prop} (o : ByteArray) (a0 b0 : XT) (va vb : List Value) (w : World) (ha : RepC Pa w (dE a0) va) (hb : RepC Pb w (dE b0) vb) :
  Calls Tryz.prog 128 #[.string o, .agg va.toArray, .agg vb.toArray] w fun e w' => (∃ us : List Value, e = .returned (.agg us.toArray) ∧ RepC (fun i => Pa i ∨ Pb i ∨ w.heap.size ≤ i) w' (dE (binE o a0 b0)) us) ∧ Below w.heap.size w w' := by
 obtain ⟨a, rfl, -, -⟩ := lies_rep a0 va ha
 obtain ⟨b, rfl, -, -⟩ := lies_rep b0 vb hb
 have HA := hide ha
 have HB := hide hb
 clear ha hb
 show Calls Tryz.prog 128 #[.string o, .agg #[.int .i64 a.kind, .string a.name, .int .i64 a.val.1, .int .i64 a.val.2.1, .string a.val.2.2, .string a.op, .slice a.adr a.args.length a.cap], .agg #[.int .i64 b.kind, .string b.name, .int .i64 b.val.1, .int .i64 b.val.2.1, .string b.val.2.2, .string b.op, .slice b.adr b.args.length b.cap]] w _
 obtain ⟨W, hW⟩ : ∃ W, W = ((w.alloc (.cells #[.int .i64 a.kind, .string a.name, .int .i64 a.val.1, .int .i64 a.val.2.1, .string a.val.2.2, .string a.op, .slice a.adr a.args.length a.cap] 36)).alloc (.cells #[.int .i64 b.kind, .string b.name, .int .i64 b.val.1, .int .i64 b.val.2.1, .string b.val.2.2, .string b.op, .slice b.adr b.args.length b.cap] 36)).alloc (.cells #[.int .i64 0, .string ⟨#[]⟩, .int .i64 0, .int .i64 0, .string ⟨#[]⟩, .string ⟨#[]⟩, .slice none 0 0] 36) := ⟨_, rfl⟩
 have HW := hide hW
 have hz : W.heap.size = w.heap.size + 3 := by rw [hW]; simp
 have HBW := hide (show Below w.heap.size w W by
  rw [hW]
  have h1 := Joins.below_alloc1 w (.cells #[.int .i64 a.kind, .string a.name, .int .i64 a.val.1, .int .i64 a.val.2.1, .string a.val.2.2, .string a.op, .slice a.adr a.args.length a.cap] 36)
  exact (h1.alloc h1.size _).alloc (h1.alloc h1.size _).size _)
 have k1 := hide (show W.heap[w.heap.size]? = some (.cells (cX a).toArray 36 (0, 0)) by
  rw [hW, Below.heap_alloc _ _ _ (by simp; omega), Below.heap_alloc _ _ _ (by simp)]; exact heap_alloc_new _ _)
 have k2 := hide (show W.heap[w.heap.size + 1]? = some (.cells (cX b).toArray 36 (0, 0)) by
  rw [hW, Below.heap_alloc _ _ _ (by simp), show w.heap.size + 1 = (w.alloc (.cells #[.int .i64 a.kind, .string a.name, .int .i64 a.val.1, .int .i64 a.val.2.1, .string a.val.2.2, .string a.op, .slice a.adr a.args.length a.cap] 36)).heap.size by simp]; exact heap_alloc_new _ _)
 have k3 := hide (show W.heap[w.heap.size + 2]? = some (.cells #[.int .i64 0, .string ⟨#[]⟩, .int .i64 0, .int .i64 0, .string ⟨#[]⟩, .string ⟨#[]⟩, .slice none 0 0] 36 (0, 0)) by
  rw [hW, show w.heap.size + 2 = ((w.alloc (.cells #[.int .i64 a.kind, .string a.name, .int .i64 a.val.1, .int .i64 a.val.2.1, .string a.val.2.2, .string a.op, .slice a.adr a.args.length a.cap] 36)).alloc (.cells #[.int .i64 b.kind, .string b.name, .int .i64 b.val.1, .int .i64 b.val.2.1, .string b.val.2.2, .string b.op, .slice b.adr b.args.length b.cap] 36)).heap.size by simp]; exact heap_alloc_new _ _)
 have HC := hide (binary_any o dX dX W (by decide) (lies_leaf _ _ _ _ _ _) (lies_leaf _ _ _ _ _ _))
 clear hW
 go_enter Tryz.func128, Tryz.ntmps128
 go_wp2_with fail
 rw [← HW.out]
 refine HC.out.mono ?_
 rintro e w1 ⟨⟨A', c', x', y', rfl, -, -, hl, hn, P, rfl, hO⟩, hb1⟩
 have HB1 := hide (show Below w.heap.size w w1 from HBW.out.trans (hb1.mono HBW.out.size))
 have m1 := hide ((hb1.block _ (by omega)).trans k1.out)
 have m2 := hide ((hb1.block _ (by omega)).trans k2.out)
 have m3 := hide ((hb1.block _ (by omega)).trans k3.out)
 have hPlo : w.heap.size + 3 ≤ P := by have := hn.1 _ rfl; simpa [hz] using this
 have hPlt := hO.lt
 have HO := hide hO
 have hz1 : w.heap.size + 3 ≤ w1.heap.size := by rw [← hz]; exact hb1.size
 clear hl hn hb1 hO HBW k1 k2 k3 HC HW hz
 obtain ⟨m, hm⟩ : ∃ m, m = XT.mk 4 ⟨#[]⟩ (0, 0, ⟨#[]⟩) o (some ⟨P, 0, none⟩) c' [x', y'] := ⟨_, rfl⟩
 obtain ⟨W3, hW3⟩ : ∃ W3, W3 = w1.alloc (.cells #[.int .i64 4, .string ⟨#[]⟩, .int .i64 0, .int .i64 0, .string ⟨#[]⟩, .string o, .slice (some ⟨P, 0, none⟩) 2 c'] 36) := ⟨_, rfl⟩
 have HW3 := hide hW3
 have hcm : cX m = [.int .i64 4, .string ⟨#[]⟩, .int .i64 0, .int .i64 0, .string ⟨#[]⟩, .string o, .slice (some ⟨P, 0, none⟩) 2 c'] := by rw [hm]; rfl
 have HCM := hide hcm
 have HB3 := hide (show Below w.heap.size w W3 by rw [hW3]; exact HB1.out.alloc HB1.out.size _)
 have n3 := hide (show W3.heap[w.heap.size + 2]? = some (.cells #[.int .i64 0, .string ⟨#[]⟩, .int .i64 0, .int .i64 0, .string ⟨#[]⟩, .string ⟨#[]⟩, .slice none 0 0] 36 (0, 0)) by rw [hW3, Below.heap_alloc _ _ _ (by omega)]; exact m3.out)
 have hz3 : W3.heap.size = w1.heap.size + 1 := by rw [hW3]; simp
 have HS0 := hide (show SB w.heap.size (w.heap.size + 1) w1.heap.size P (cX a) (cX b) (cX m) W3.drew by
  rw [hcm, hW3]
  refine ⟨(Below.heap_alloc _ _ _ (by omega)).trans m1.out, (Below.heap_alloc _ _ _ (by omega)).trans m2.out, heap_alloc_new _ _, ?_⟩
  exact HO.out.kept (w' := (w1.alloc _).drew) (Below.heap_alloc _ _ _ hPlt))
 have HALL := hide (fun w' (h : SB w.heap.size (w.heap.size + 1) w1.heap.size P (cX a) (cX b) (cX m) w') => (by
  obtain ⟨h1, h2, h3, h4⟩ := h
  rw [HCM.out] at h3
  exact ⟨Lib.cell_of_heap h1 0, Lib.cell_of_heap h1 1, Lib.cell_of_heap h1 2, Lib.cell_of_heap h1 3, Lib.cell_of_heap h1 4, Lib.cell_of_heap h1 5, Lib.cell_of_heap h1 6, Lib.cell_of_heap h2 0, Lib.cell_of_heap h2 1, Lib.cell_of_heap h2 2, Lib.cell_of_heap h2 3, Lib.cell_of_heap h2 4, Lib.cell_of_heap h2 5, Lib.cell_of_heap h2 6, Lib.cell_of_heap h3 6, h4.lt⟩ :
  w'.cell? ⟨w.heap.size, 0, none⟩ = some (.int .i64 a.kind) ∧ w'.cell? ⟨w.heap.size, 1, none⟩ = some (.string a.name) ∧ w'.cell? ⟨w.heap.size, 2, none⟩ = some (.int .i64 a.val.1) ∧ w'.cell? ⟨w.heap.size, 3, none⟩ = some (.int .i64 a.val.2.1) ∧ w'.cell? ⟨w.heap.size, 4, none⟩ = some (.string a.val.2.2) ∧ w'.cell? ⟨w.heap.size, 5, none⟩ = some (.string a.op) ∧ w'.cell? ⟨w.heap.size, 6, none⟩ = some (.slice a.adr a.args.length a.cap) ∧
  w'.cell? ⟨w.heap.size + 1, 0, none⟩ = some (.int .i64 b.kind) ∧ w'.cell? ⟨w.heap.size + 1, 1, none⟩ = some (.string b.name) ∧ w'.cell? ⟨w.heap.size + 1, 2, none⟩ = some (.int .i64 b.val.1) ∧ w'.cell? ⟨w.heap.size + 1, 3, none⟩ = some (.int .i64 b.val.2.1) ∧ w'.cell? ⟨w.heap.size + 1, 4, none⟩ = some (.string b.val.2.2) ∧ w'.cell? ⟨w.heap.size + 1, 5, none⟩ = some (.string b.op) ∧ w'.cell? ⟨w.heap.size + 1, 6, none⟩ = some (.slice b.adr b.args.length b.cap) ∧
  w'.cell? ⟨w1.heap.size, 6, none⟩ = some (.slice (some ⟨P, 0, none⟩) 2 c') ∧ P < w'.heap.size))
 have hO3 : OwnB W3 P 14 := HS0.out.2.2.2
 obtain ⟨⟨u0, q0⟩, f0⟩ := hO3.cell (i := 0) (by decide)
 obtain ⟨⟨u1, q1⟩, f1⟩ := hO3.cell (i := 1) (by decide)
 obtain ⟨⟨u2, q2⟩, f2⟩ := hO3.cell (i := 2) (by decide)
 obtain ⟨⟨u3, q3⟩, f3⟩ := hO3.cell (i := 3) (by decide)
 obtain ⟨⟨u4, q4⟩, f4⟩ := hO3.cell (i := 4) (by decide)
 obtain ⟨⟨u5, q5⟩, f5⟩ := hO3.cell (i := 5) (by decide)
 obtain ⟨⟨u6, q6⟩, f6⟩ := hO3.cell (i := 6) (by decide)
 obtain ⟨⟨u7, q7⟩, f7⟩ := hO3.cell (i := 7) (by decide)
 obtain ⟨⟨u8, q8⟩, f8⟩ := hO3.cell (i := 8) (by decide)
 obtain ⟨⟨u9, q9⟩, f9⟩ := hO3.cell (i := 9) (by decide)
 obtain ⟨⟨u10, q10⟩, f10⟩ := hO3.cell (i := 10) (by decide)
 obtain ⟨⟨u11, q11⟩, f11⟩ := hO3.cell (i := 11) (by decide)
 obtain ⟨⟨u12, q12⟩, f12⟩ := hO3.cell (i := 12) (by decide)
 obtain ⟨⟨u13, q13⟩, f13⟩ := hO3.cell (i := 13) (by decide)
 have hs7 : SB w.heap.size (w.heap.size + 1) w1.heap.size P (cX a) (cX b) (cX m) (set7 W3 P 0 a) := ⟨(set7_heap _ _ _ (by omega)).trans HS0.out.1, (set7_heap _ _ _ (by omega)).trans HS0.out.2.1, (set7_heap _ _ _ (by omega)).trans HS0.out.2.2.1, set7_own _ _ HS0.out.2.2.2⟩
 have hs9 : SB w.heap.size (w.heap.size + 1) w1.heap.size P (cX a) (cX b) (cX m) (set7 (set7 W3 P 0 a) P 7 b) := ⟨(set7_heap _ _ _ (by omega)).trans hs7.1, (set7_heap _ _ _ (by omega)).trans hs7.2.1, (set7_heap _ _ _ (by omega)).trans hs7.2.2.1, set7_own _ _ hs7.2.2.2⟩
 have hown7 := set7_own 0 a hO3
 have hat9 : At7 (set7 (set7 W3 P 0 a) P 7 b) P 7 b := At7.set b hown7 (by decide)
 have hat7 : At7 (set7 (set7 W3 P 0 a) P 7 b) P 0 a := At7.set_other b (At7.set a hO3 (by decide)) (by omega)
 have HAT := hide (show (∀ i, i < 7 → (set7 (set7 W3 P 0 a) P 7 b).cell? ⟨P, i, none⟩ = some ((cX a).getD i v0)) ∧ (∀ i, i < 7 → (set7 (set7 W3 P 0 a) P 7 b).cell? ⟨P, 7 + i, none⟩ = some ((cX b).getD i v0)) from ⟨fun i hi => by have := at7_cX hat7 i hi; rwa [Nat.zero_add] at this, at7_cX hat9⟩)
 have HVB := hide (show Below w.heap.size w (set7 (set7 W3 P 0 a) P 7 b) from set7_below _ _ (set7_below _ _ HB3.out (by omega)) (by omega))
 have HVr := hide (show (set7 (set7 W3 P 0 a) P 7 b).heap[w.heap.size + 2]? = _ from (set7_heap _ _ _ (by omega)).trans ((set7_heap _ _ _ (by omega)).trans n3.out))
 have HVs := hide hs9
 have HVE := hide (show ((((((((((((((W3.setCell ⟨P, 0, none⟩ (.int .i64 a.kind)).setCell ⟨P, 1, none⟩ (.string a.name)).setCell ⟨P, 2, none⟩ (.int .i64 a.val.1)).setCell ⟨P, 3, none⟩ (.int .i64 a.val.2.1)).setCell ⟨P, 4, none⟩ (.string a.val.2.2)).setCell ⟨P, 5, none⟩ (.string a.op)).setCell ⟨P, 6, none⟩ (.slice a.adr a.args.length a.cap)).setCell ⟨P, 7, none⟩ (.int .i64 b.kind)).setCell ⟨P, 8, none⟩ (.string b.name)).setCell ⟨P, 9, none⟩ (.int .i64 b.val.1)).setCell ⟨P, 10, none⟩ (.int .i64 b.val.2.1)).setCell ⟨P, 11, none⟩ (.string b.val.2.2)).setCell ⟨P, 12, none⟩ (.string b.op)).setCell ⟨P, 13, none⟩ (.slice b.adr b.args.length b.cap)) = set7 (set7 W3 P 0 a) P 7 b by rw [set7_0, set7_7])
 rw [set7_0] at hs7 hs9
 rw [set7_7] at hs9
 have HS7 := hide hs7.drew
 have HS9 := hide hs9.drew
 clear hW3 hm hcm m1 m2 m3 HO hO3 hs7 hs9 hown7 hat7 hat9
 rw [vX_mk]
 go_wp2_with (rw [← HW3.out])
 refine wp_region_held_drew (S := SB w.heap.size (w.heap.size + 1) w1.heap.size P (cX a) (cX b) (cX m)) (by kernel_rfl) (HS0.out) (fun hS => ?_)
 refine wpAnyH_take (i := 0) (oi := ⟨some 12, _, _, _, _, _⟩) (v := ?_) rfl (by kernel_rfl) (by kernel_rfl) (by kernel_rfl) (fun _ _ _ h => h) (Or.inl ⟨by rfl, ?_⟩) hS ?_
 rotate_left 1
 ·intro w' hw'
  obtain ⟨x0, x1, x2, x3, x4, x5, x6, y0, y1, y2, y3, y4, y5, y6, z6, sP⟩ := HALL.out w' hw'
  go_simp
  all_goals with_reducible rfl
 try simp only [Act.put, List.setIfInBounds_toArray, List.set_cons_zero, List.set_cons_succ]
 refine wpAnyH_take (i := 1) (oi := ⟨some 13, _, _, _, _, _⟩) (v := ?_) rfl (by kernel_rfl) (by kernel_rfl) (by kernel_rfl) (fun _ _ _ h => h) (Or.inl ⟨by rfl, ?_⟩) hS ?_
 rotate_left 1
 ·intro w' hw'
  obtain ⟨x0, x1, x2, x3, x4, x5, x6, y0, y1, y2, y3, y4, y5, y6, z6, sP⟩ := HALL.out w' hw'
  go_simp
  all_goals with_reducible rfl
 try simp only [Act.put, List.setIfInBounds_toArray, List.set_cons_zero, List.set_cons_succ]
 refine wpAnyH_take (i := 2) (oi := ⟨some 14, _, _, _, _, _⟩) (v := ?_) rfl (by kernel_rfl) (by kernel_rfl) (by kernel_rfl) (fun _ _ _ h => h) (Or.inl ⟨by rfl, ?_⟩) hS ?_
 rotate_left 1
 ·intro w' hw'
  obtain ⟨x0, x1, x2, x3, x4, x5, x6, y0, y1, y2, y3, y4, y5, y6, z6, sP⟩ := HALL.out w' hw'
  go_simp
  all_goals with_reducible rfl
 try simp only [Act.put, List.setIfInBounds_toArray, List.set_cons_zero, List.set_cons_succ]
 refine wpAnyH_take (i := 3) (oi := ⟨some 15, _, _, _, _, _⟩) (v := ?_) rfl (by kernel_rfl) (by kernel_rfl) (by kernel_rfl) (fun _ _ _ h => h) (Or.inl ⟨by rfl, ?_⟩) hS ?_
 rotate_left 1
 ·intro w' hw'
  obtain ⟨x0, x1, x2, x3, x4, x5, x6, y0, y1, y2, y3, y4, y5, y6, z6, sP⟩ := HALL.out w' hw'
  go_simp
  all_goals with_reducible rfl
 try simp only [Act.put, List.setIfInBounds_toArray, List.set_cons_zero, List.set_cons_succ]
 refine wpAnyH_take (i := 4) (oi := ⟨some 16, _, _, _, _, _⟩) (v := ?_) rfl (by kernel_rfl) (by kernel_rfl) (by kernel_rfl) (fun _ _ _ h => h) (Or.inl ⟨by rfl, ?_⟩) hS ?_
 rotate_left 1
 ·intro w' hw'
  obtain ⟨x0, x1, x2, x3, x4, x5, x6, y0, y1, y2, y3, y4, y5, y6, z6, sP⟩ := HALL.out w' hw'
  go_simp
  all_goals with_reducible rfl
 try simp only [Act.put, List.setIfInBounds_toArray, List.set_cons_zero, List.set_cons_succ]
 refine wpAnyH_take (i := 5) (oi := ⟨some 17, _, _, _, _, _⟩) (v := ?_) rfl (by kernel_rfl) (by kernel_rfl) (by kernel_rfl) (fun _ _ _ h => h) (Or.inl ⟨by rfl, ?_⟩) hS ?_
 rotate_left 1
 ·intro w' hw'
  obtain ⟨x0, x1, x2, x3, x4, x5, x6, y0, y1, y2, y3, y4, y5, y6, z6, sP⟩ := HALL.out w' hw'
  go_simp
  all_goals with_reducible rfl
 try simp only [Act.put, List.setIfInBounds_toArray, List.set_cons_zero, List.set_cons_succ]
 refine wpAnyH_take (i := 6) (oi := ⟨some 18, _, _, _, _, _⟩) (v := ?_) rfl (by kernel_rfl) (by kernel_rfl) (by kernel_rfl) (fun _ _ _ h => h) (Or.inl ⟨by rfl, ?_⟩) hS ?_
 rotate_left 1
 ·intro w' hw'
  obtain ⟨x0, x1, x2, x3, x4, x5, x6, y0, y1, y2, y3, y4, y5, y6, z6, sP⟩ := HALL.out w' hw'
  go_simp
  all_goals with_reducible rfl
 try simp only [Act.put, List.setIfInBounds_toArray, List.set_cons_zero, List.set_cons_succ]
 refine wpAnyH_ready (rs := [7]) (by kernel_rfl) (by simp) ?_
 refine AllReadyH.cons (o := ⟨none, _, _, _, _, _⟩) rfl (fun K hK => ?_) AllReadyH.nil
 go_simp
 skip
 refine hK.out _ _ (HS7.out) (fun hS => ?_)
 clear hK K
 try simp only [Act.put, List.setIfInBounds_toArray, List.set_cons_zero, List.set_cons_succ]
 refine wpAnyH_take (i := 8) (oi := ⟨some 19, _, _, _, _, _⟩) (v := ?_) rfl (by kernel_rfl) (by kernel_rfl) (by kernel_rfl) (fun _ _ _ h => h) (Or.inl ⟨by rfl, ?_⟩) hS ?_
 rotate_left 1
 ·intro w' hw'
  obtain ⟨x0, x1, x2, x3, x4, x5, x6, y0, y1, y2, y3, y4, y5, y6, z6, sP⟩ := HALL.out w' hw'
  go_simp
  all_goals with_reducible rfl
 try simp only [Act.put, List.setIfInBounds_toArray, List.set_cons_zero, List.set_cons_succ]
 refine wpAnyH_ready (rs := [9]) (by kernel_rfl) (by simp) ?_
 refine AllReadyH.cons (o := ⟨none, _, _, _, _, _⟩) rfl (fun K hK => ?_) AllReadyH.nil
 go_simp
 skip
 refine hK.out _ _ (HS9.out) (fun hS => ?_)
 clear hK K
 try simp only [Act.put, List.setIfInBounds_toArray, List.set_cons_zero, List.set_cons_succ]
 refine wpAnyH_done (by kernel_rfl) ?_ _
 clear HALL HS7 HS9 hS f0 q0 f1 q1 f2 q2 f3 q3 f4 q4 f5 q5 f6 q6 f7 q7 f8 q8 f9 q9 f10 q10 f11 q11 f12 q12 f13 q13
 rw [HVE.out]
 generalize set7 (set7 W3 P 0 a) P 7 b = V at *
 obtain ⟨V2, hV2⟩ : ∃ V2, V2 = V.drew := ⟨_, rfl⟩
 have HV2 := hide hV2
 have hx := hide (show HoldB w1.heap.size 36 (cX m) V2 by rw [hV2]; exact HVs.out.2.2.1)
 have hr := hide (show BoxAt (w.heap.size + 2) 36 7 V2 by rw [hV2]; exact ⟨_, HVr.out, rfl⟩)
 have hsV : P < V2.heap.size := by rw [hV2]; exact HVs.out.2.2.2.lt
 have HF := hide (show Below w.heap.size w V2 by rw [hV2]; exact HVB.out.drew)
 have HAT2 := hide (show (∀ i, i < 7 → V2.cell? ⟨P, i, none⟩ = some ((cX a).getD i v0)) ∧ (∀ i, i < 7 → V2.cell? ⟨P, 7 + i, none⟩ = some ((cX b).getD i v0)) by rw [hV2]; exact HAT.out)
 clear hV2 HAT HVB HVr HVs HVE HW3
 rw [← HV2.out]
 clear HV2
 have h1c : ∀ u ∈ cX m, u.oneCell' = true := by rw [HCM.out]; simp [Value.oneCell']
 have hlm : (cX m).length = 7 := rfl
 go_wp2_with (first | (refine wpList_loadBig rfl 36 _ rfl w1.heap.size 7 (cX m) big_expr hlm rfl hx.out ?_) | (refine wpList_storeBig rfl 36 _ _ rfl (w.heap.size + 2) 7 (cX m) big_expr hlm h1c rfl rfl hr.out ?_))
 refine bodyPost_ret (v := .agg (cX m).toArray) (results_big rfl rfl big_expr hlm (set_row _ hr.out.choose_spec.1)) rfl ?_
 have hother : ∀ i, i ≠ w.heap.size + 2 → (V2.setRow (w.heap.size + 2) (cX m).toArray).heap[i]? = V2.heap[i]? := fun i hi => set_row_other _ _ hi
 refine ⟨⟨cX m, rfl, ?_⟩, ⟨HF.out.os, HF.out.tape, HF.out.output, by rw [set_row_size]; exact HF.out.size, fun i hi => (hother i (by omega)).trans (HF.out.block i hi)⟩⟩
 rw [HCM.out]
 rw [HCM.out] at hother
 refine bin_lies HA.out HB.out (by rw [set_row_size]; exact HF.out.size) (fun i hi => (hother i (by omega)).trans (HF.out.block i hi)) (Nat.le_trans (Nat.le_add_right _ 3) hPlo) (by rw [set_row_size]; exact hsV) (fun i hi => ?_) (fun i hi => ?_)
 ·exact (World.cell?_of_block (a := ⟨P, i, none⟩) (hother P (by omega))).trans (HAT2.out.1 i hi)
 ·exact (World.cell?_of_block (a := ⟨P, 7 + i, none⟩) (hother P (by omega))).trans (HAT2.out.2 i hi)
end Go.Proofs.YtljoajjlkjjgeaaGreatDoor
namespace Go.Proofs.YtljoajjlkjjgeaaGreatDoor
open Go.RowKit Go.Sort LM Go
section
variable {P : Program} {ops : Array Oper} {Q : Exit → Act → World → Prop} {md : Region.Mode} {S : World → Prop} {L : Nat}

/-- Whatever order is picked, and S holds behind each operation but number L. -/
def heldBut (P : Program) (md : Region.Mode) (ops : Array Oper) (Q : Exit → Act → World → Prop) (S : World → Prop) (L : Nat) : Nat → Array Bool → Act → World → Prop
 | 0, listed, a, w => Region.ready md ops listed = [] ∧ Q .normal a w
 | n + 1, listed, a, w => (Region.ready md ops listed = [] → Q .normal a w) ∧
   ∀ i ∈ Region.ready md ops listed, wpOp P ops Q i (fun a' w' => (i = L ∨ S w') ∧ heldBut P md ops Q S L n (listed.setIfInBounds i true) a' w') a w
theorem any_of_heldBut : ∀ (n : Nat) (listed : Array Bool) (a : Act) (w : World), heldBut P md ops Q S L n listed a w → wpAny P md ops Q n listed a w
 | 0, _, _, _, h => h
 | n + 1, _, _, _, h => ⟨h.1, fun i hi => wpOp_mono (fun a' w' h' => any_of_heldBut n _ a' w' h'.2) (h.2 i hi)⟩
theorem not_last {i : Nat} {listed : Array Bool} (hw : Region.waitsFor md ops L i = true) (hr : i ∈ Region.ready md ops listed) : ∀ j ∈ Region.ready md ops listed, j ≠ L := by
 intro j hj e
 subst e
 obtain ⟨oj, hoj, e, he, hb, hon⟩ := Region.waitsFor_spec hw
 obtain ⟨_, ok, hok, hall⟩ := mem_ready.1 hj
 have : oj = ok := Option.some.inj (hoj.symm.trans hok)
 subst this
 have h1 := hall e he hb
 have h0 := (mem_ready.1 hr).1
 rw [hon] at h1
 rcases Nat.lt_or_ge i listed.size with h' | h'
 ·simp [h'] at h0 h1; rw [h0] at h1; cases h1
 ·simp [Array.getElem?_eq_none h'] at h1
theorem heldBut_first {i : Nat} {oi : Oper} {v : Value} (hi : ops[i]? = some oi) (hsel : ∀ (j : Nat) (o : Oper) cs b, ops[j]? = some o → o.op ≠ .select cs b)
  (hQ : ∀ c a w, Q (.panic c) (a.put oi.dst v) w → Q (.panic c) a w) (hw : Region.waitsFor md ops L i = true) :
  ∀ (n : Nat) (listed : Array Bool) (a : Act) (w : World),
   (∀ j oj, ops[j]? = some oj → j ≠ i → listed.getD j true = false → (∀ e ∈ oj.after, Region.binds md e = true → e.on ≠ i) → oi.apart ops oj = true) →
   i ∈ Region.ready md ops listed → YieldsIf P ops S oi v a → S w →
   heldBut P md ops Q S L n (listed.setIfInBounds i true) (a.put oi.dst v) w → heldBut P md ops Q S L (n + 1) listed a w := by
 intro n
 induction n with
 | zero =>
  intro listed a w _ hr hy hS H
  refine ⟨fun h => (by rw [h] at hr; cases hr), fun j hj => ?_⟩
  by_cases hji : j = i
  ·subst hji; exact hy.wpOp hi hS ⟨.inr hS, H⟩
  ·have := ready_mono hj hji
   rw [H.1] at this
   cases this
 | succ n ih =>
  intro listed a w hfree hr hy hS H
  refine ⟨fun h => (by rw [h] at hr; cases hr), fun j hj => ?_⟩
  by_cases hji : j = i
  ·subst hji; exact hy.wpOp hi hS ⟨.inr hS, H⟩
  ·have hjL := not_last hw hr j hj
   have h1 := H.2 j (ready_mono hj hji)
   obtain ⟨hjun, oj, hoj, hall⟩ := mem_ready.1 hj
   have hnot : ∀ e ∈ oj.after, Region.binds md e = true → e.on ≠ i := fun e he hb heq => by
    have h1 := hall e he hb
    have h0 := (mem_ready.1 hr).1
    rw [heq] at h1
    rcases Nat.lt_or_ge i listed.size with h' | h'
    ·simp [h'] at h0 h1; rw [h0] at h1; cases h1
    ·simp [Array.getElem?_eq_none h'] at h1
   have h2 := wpOp_putIf hoj (hfree j oj hoj hji hjun hnot) (fun cs b => hsel i oi cs b hi) (fun cs b => hsel j oj cs b hoj) hQ hy h1
   have hfree' : ∀ k ok, ops[k]? = some ok → k ≠ i → (listed.setIfInBounds j true).getD k true = false →
     (∀ e ∈ ok.after, Region.binds md e = true → e.on ≠ i) → oi.apart ops ok = true := fun k ok hk hki hun hno => by
    refine hfree k ok hk hki ?_ hno
    by_cases hjk : j = k
    ·subst hjk; exact hjun
    ·rw [getD_set_ne true hjk] at hun; exact hun
   refine wpOp_mono (fun a' w' h3 => ⟨h3.2.1, ih (listed.setIfInBounds j true) a' w' hfree' (ready_mono hr (Ne.symm hji)) h3.1 (h3.2.1.resolve_left hjL) ?_⟩) h2
   rw [Array.setIfInBounds_comm _ _ hji]
   exact h3.2.2
theorem heldBut_take {i : Nat} {oi : Oper} {v : Value} {n : Nat} {listed : Array Bool} {a : Act} {w : World} (hi : ops[i]? = some oi)
  (hs : Region.noSelect ops = true) (hf : Region.free md ops listed i = true) (hr : (Region.ready md ops listed).contains i = true) (hw : Region.waitsFor md ops L i = true)
  (hQ : ∀ c a w, Q (.panic c) (a.put oi.dst v) w → Q (.panic c) a w) (hy : YieldsIf P ops S oi v a) (hS : S w)
  (h : heldBut P md ops Q S L n (listed.setIfInBounds i true) (a.put oi.dst v) w) : heldBut P md ops Q S L (n + 1) listed a w :=
 heldBut_first hi (Region.noSelect_spec hs) hQ hw n listed a w (Region.free_spec hi hf) (by simpa using hr) hy hS h
theorem heldBut_one {i : Nat} {o : Oper} {n : Nat} {listed : Array Bool} {a : Act} {w : World} (hr : Region.ready md ops listed = [i]) (ho : ops[i]? = some o)
  (h : ∀ K' : Act → World → Prop, Shut (∀ a w, (i = L ∨ S w) → (i = L ∨ S w → heldBut P md ops Q S L n (listed.setIfInBounds i true) a w) → K' a w) → if Region.wanted o (yielded ops a.tmps) = true then Oper.wp P o a w K' Q else K' (a.put o.dst undef) w) :
  heldBut P md ops Q S L (n + 1) listed a w :=
 ⟨fun h0 => (by rw [hr] at h0; cases h0), fun j hj => by
  rw [hr] at hj
  obtain rfl : j = i := by simpa using hj
  exact wpOp_step ho (fun K' hK => h K' (fun a w hS hW => hK a w ⟨hS, hW hS⟩))⟩
theorem heldBut_done {listed : Array Bool} {a : Act} {w : World} (hr : Region.ready md ops listed = []) (h : Q .normal a w) : ∀ n, heldBut P md ops Q S L n listed a w
 | 0 => ⟨hr, h⟩
 | _ + 1 => ⟨fun _ => h, by rw [hr]; simp⟩
theorem wp_region_heldBut {id : Nat} {a : Act} {w : World} (hm : P.follows .mixedOrders = true) (hS : S w.drew)
  (h : S w.drew → heldBut P .any ops Q S L ops.size (Array.replicate ops.size false) a w.drew) : (Code.region id ops true).wp P Q a w :=
 wp_region_any hm (any_of_heldBut _ _ _ _ (h hS))
end
section
variable {ops : Array Oper} {o : Oper} {a : Act} {w : World}
/-- A struct stored whole, as a step of a drawn region. -/
theorem step_storeBig {K : Act → World → Prop} {Q : Exit → Act → World → Prop} {E : Prop} (hgd : o.guard = none) (t : TypeId) (x y : Operand) (ho : o.op = .store t x y) (r n : Nat) (vs : List Value) (hB : Big t n) (hn : vs.length = n) (h1 : ∀ u ∈ vs, u.oneCell' = true) (hx : a.eval x = .pointer (some ⟨r, 0, none⟩)) (hy : a.eval y = .agg vs.toArray)
  (hp : BoxAt r t n w) (h : K (a.put o.dst undef) (w.setRow r vs.toArray)) : if Region.wanted o (yielded ops a.tmps) = true then Oper.wp Tryz.prog o a w K Q else E := by
 rw [if_pos (by simp [Region.wanted, hgd])]
 obtain ⟨old, hb, hz⟩ := hp
 have hs := run_storeVar_row (P := Tryz.prog) w r t t old vs.toArray hb (by rw [hB.size]; simp [hn]) (by simp [hn, hz]) (by simpa using h1)
 unfold Oper.wp execOp
 simp only [ho, hx, hy, Instr.storeAt, Instr.sureAddr, Sem.run_bind, Sem.run_pure, Result.andThen_ok, hs]
 exact h
/-- A struct's load in a drawn region. -/
theorem run_load_op (t : TypeId) (x : Operand) (ho : o.op = .load t x) (r n : Nat) (vs : List Value) (hB : Big t n) (hn : vs.length = n) (hx : a.eval x = .pointer (some ⟨r, 0, none⟩)) (hp : HoldB r t vs w) : (execOp a.eval o).run Tryz.prog w = .ok (.value (.agg vs.toArray)) w := by
 unfold execOp
 simp only [ho, hx, Instr.loadAt, Instr.sureAddr, Sem.run_bind, Sem.run_pure, Result.andThen_ok, run_loadBig hB hn hp]
end
end Go.Proofs.YtljoajjlkjjgeaaGreatDoor
