/-
  Sets of names as the law keeps them: a map of bools; a row that is copied.
-/
import Derived.Test.YteenhmniikloiaaDoorEColsO
import Derived.Test.YteenhmniikloiaaDoorSRow
import Derived.Maps.OwnSet
import Derived.Test.YteenhmniikloiaaDoorMPlain
import Derived.Laws.AppendOwnNone
import Derived.Laws.Rows
namespace Go.Proofs.YteenhmniikloiaaDoor
open Go.RowKit Go.Maps

theorem plainElem_bool_inv {H : Type} {P : Program} {e : TypeId} (he : P.underlying e = some .bool) {v : Value} {z : DataW H × List MemPlace} (h : plainElem P e v = some z) : ∃ b, v = .bool b ∧ z = (.lit (.bool b), []) := by
  unfold plainElem at h
  rw [he] at h
  cases v <;> simp at h
  exact ⟨_, rfl, h.symm⟩
theorem zeroB (w : World) : (zeroValue 4).run Tryd.prog w = .ok (.bool false) w := by kernel_rfl
abbrev ownsSet (w : World) (b n : Nat) (l : List ByteArray) : Prop := w.ownsMap Tryd.prog 9 (plainElem (H := Unit) Tryd.prog 4) b n (setB l)
set_option maxRecDepth 100000 in
/-- m[s] of a set: is s there? -/
theorem wpList_lookup_set (w : World) {ops : Array Oper} {rest : List Oper} {o : Oper} {a : Act} {Q : Exit → Act → World → Prop}
    (hg : o.guard = none) (m x : Operand) (hop : o.op = Op.lookup 60 m x false) (b n : Nat) (l : List ByteArray)
    (hm : a.eval m = .map (some b)) (hown : ownsSet w b n l) (s : ByteArray) (hx : a.eval x = .string s) (hs : s.size ≤ maxLen)
    (hK : wpList Tryd.prog ops Q rest (a.put o.dst (.bool (inN l s))) w) : wpList Tryd.prog ops Q (o :: rest) a w := by
  refine wpList_plain hg fun K' hK' => ?_
  obtain ⟨v, ps, hrun, hv⟩ := hown.lookup keyS Tryd.underlying60 (zeroB w) (plainElem_bool Tryd.underlying4 false) (WideMaps.keyOf_string_mk Tryd.underlying9 hs)
  rw [atKey_setB] at hv
  obtain ⟨c, rfl, hc⟩ := plainElem_bool_inv Tryd.underlying4 hv
  have hc' : inN l s = c := by injection hc with h1; injection h1 with h1; injection h1
  rw [hc'] at hK
  unfold Oper.wp
  simp [execOp, hop, hm, hx, hrun, Result.andThen]
  exact hK' _ _ hK
/-- m[s] = true of a set. -/
theorem wpList_put_set (w : World) {ops : Array Oper} {rest : List Oper} {o : Oper} {a : Act} {Q : Exit → Act → World → Prop}
    (hg : o.guard = none) (m x v : Operand) (hop : o.op = Op.mapUpdate 60 m x v) (b n : Nat) (l : List ByteArray)
    (hm : a.eval m = .map (some b)) (hown : ownsSet w b n l) (hn : n < maxLen) (s : ByteArray) (hx : a.eval x = .string s) (hv : a.eval v = .bool true) (hs : s.size ≤ maxLen)
    (hK : ∀ w', ownsSet w' b (n + 1) (l ++ [s]) → w.grownBy w' (some b) → wpList Tryd.prog ops Q rest (a.put o.dst undef) w') : wpList Tryd.prog ops Q (o :: rest) a w :=
  wpList_mapUpdate_own w hg m x v 60 hop 9 4 keyS Tryd.underlying60 _ b n (setB l) hm hown hn _ _ _ hx hv (WideMaps.keyOf_string_mk Tryd.underlying9 hs) _ [] (plainElem_bool Tryd.underlying4 true) fun w' h1 h2 => hK w' (by unfold ownsSet; rw [setB_snoc]; exact h1) h2
theorem made_set (w : World) : ownsSet (w.alloc (.map #[] 0)) w.heap.size 0 [] := World.ownsMap_made _ _ _ _
set_option maxRecDepth 100000 in
theorem append_vals {w : World} {ops : Array Oper} {rest : List Oper} {o : Oper} {a : Act} {Q : Exit → Act → World → Prop} (hgd : o.guard = none) (s x : Operand)
    (ho : o.op = .call { callee := .builtin .append, args := #[s, x], argTypes := #[49, 49] })
    (base : Nat) (v : Value) (n : Nat) (xs ys : List (Int × Int × ByteArray)) (hs : a.eval s = v) (hown : w.ownsRow base 29 3 v n (valCells xs)) (B : Nat)
    (A : Option Addr) (c : Nat) (hx : a.eval x = .slice A ys.length c) (hC : RowAt B w A ys) (hnil : A = none → c = 0) (hlen : n + ys.length ≤ 65536) (hbase : base ≤ w.heap.size)
    (h : ∀ v' w', w'.ownsRow base 29 3 v' (n + ys.length) (valCells (xs ++ ys)) → w.grownBy w' v.ownBlock → wpList Tryd.prog ops Q rest (a.put o.dst v') w') : wpList Tryd.prog ops Q (o :: rest) a w := by
  obtain ⟨i0, hi, hz0, hz1, hz2⟩ := info_parts val_info
  have hcat : valCells (xs ++ ys) = valCells xs ++ valCells ys := by simp [valCells]
  cases A with
  | none =>
    have hy : ys = [] := by
      rcases ys with _ | ⟨y, r⟩
      · rfl
      · obtain ⟨_, _, e, _⟩ := hC 0 (by simp); cases e
    subst hy
    have hc0 := hnil rfl
    subst hc0
    exact wpList_append_own_none hgd s x _ ho base _ i0 3 Tryd.underlying49 hi v n _ hs hown hx (h v w (by simpa using hown) ⟨rfl, rfl, rfl, Nat.le_refl _, fun _ _ _ => rfl⟩)
  | some ad =>
    refine wpList_append_own w hgd s x _ ho base 29 i0 (.agg #[.int .i64 0, .int .i64 0, .string ⟨#[]⟩]) 3 32 Tryd.underlying49 hi hz0 hz1 hz2 rfl (by decide) v n _ hs hown ad ys.length c (valCells ys) hx (valCells_len ys) ?_ ?_ (by unfold maxLen; omega) (by omega) hbase ?_
    · intro j u hu
      have hj : j < ys.length * 3 := by rw [← valCells_len ys]; exact (List.getElem?_eq_some_iff.1 hu).1
      obtain ⟨b, off, e, _, c0, c1, c2⟩ := hC (j / 3) (by omega)
      injection e with e
      subst e
      have hat := valCells_at ys (j / 3) (by omega)
      rw [show (⟨b, off, none⟩ : Addr).add j = ⟨b, off + j, none⟩ by unfold Addr.add; split <;> simp_all]
      have hm : j % 3 = 0 ∨ j % 3 = 1 ∨ j % 3 = 2 := by omega
      rcases hm with hm | hm | hm
      · have ej : j / 3 * 3 = j := by omega
        rw [ej] at c0 hat
        rw [hat.1] at hu; injection hu with hu; subst hu; exact c0
      · have ej : j / 3 * 3 + 1 = j := by omega
        rw [Nat.add_assoc, ej] at c1; rw [ej] at hat
        rw [hat.2.1] at hu; injection hu with hu; subst hu; exact c1
      · have ej : j / 3 * 3 + 2 = j := by omega
        rw [Nat.add_assoc, ej] at c2; rw [ej] at hat
        rw [hat.2.2] at hu; injection hu with hu; subst hu; exact c2
    · intro u hu
      unfold valCells at hu
      obtain ⟨c, _, hc⟩ := List.mem_flatMap.1 hu
      simp at hc; rcases hc with rfl | rfl | rfl <;> rfl
    · intro v' w' h1 h2 _
      rw [← hcat] at h1
      exact h v' w' h1 h2
/-- An empty slice that was just made. -/
theorem own_empty (w : World) : (w.alloc (.cells #[] 29)).ownsRow w.heap.size 29 3 (.slice (some ⟨w.heap.size, 0, none⟩) 0 0) 0 (valCells []) :=
  ⟨rfl, .inr ⟨w.heap.size, 0, #[], rfl, Nat.le_refl _, heap_alloc_new w _, Nat.le_refl _, Nat.zero_le _, rfl, rfl⟩⟩
theorem kinds_take {l : List PL} {k : Nat} (h : k < l.length) : kindsP (l.take (k + 1)) = kindsP (l.take k) ++ (if (l.getD k dP).k = 1 then [(l.getD k dP).n] else []) := by
  rw [List.take_add_one, List.getElem?_eq_getElem h, kindsP_append, List.getD_eq_getElem?_getD, List.getElem?_eq_getElem h]
  show _ ++ ((if l[k].k = 1 then [l[k].n] else []) ++ []) = _
  rw [List.append_nil]; rfl
theorem kinds_mem {l : List PL} {k n : Nat} (h : k < n) (hn : n ≤ l.length) (hk : (l.getD k dP).k = 1) : (l.getD k dP).n ∈ kindsP (l.take n) := by
  unfold kindsP
  refine List.mem_flatMap.2 ⟨l.getD k dP, ?_, by rw [if_pos hk]; simp⟩
  rw [List.getD_eq_getElem?_getD, List.getElem?_eq_getElem (show k < l.length by omega)]
  exact List.mem_take_iff_getElem.2 ⟨k, by omega, rfl⟩
theorem kinds_len : ∀ l : List PL, (kindsP l).length ≤ l.length
  | [] => Nat.le_refl _
  | p :: r => by
    have h := kinds_len r
    show ((if p.k = 1 then [p.n] else []) ++ kindsP r).length ≤ r.length + 1
    rw [List.length_append]
    split <;> simp <;> omega
theorem cols_le (ms : List ByteArray) : (colsB ms).length ≤ ms.length := by
  rw [colsB_len]
  refine Nat.le_trans (compact_le _) ?_
  rw [sortL_len]; unfold bytesL; simp
/-- The row at block g reads as these values, and may be written. -/
def MixAt (w : World) (g : Nat) (xs : List (Int × Int × ByteArray)) : Prop := ∀ j, j < xs.length →
  w.cell? ⟨g, j * 3, none⟩ = some (.int .i64 (xs.getD j d3).1) ∧ w.cell? ⟨g, j * 3 + 1, none⟩ = some (.int .i64 (xs.getD j d3).2.1) ∧ w.cell? ⟨g, j * 3 + 2, none⟩ = some (.string (xs.getD j d3).2.2) ∧
  w.frozen? ⟨g, j * 3, none⟩ = false ∧ w.frozen? ⟨g, j * 3 + 1, none⟩ = false ∧ w.frozen? ⟨g, j * 3 + 2, none⟩ = false
theorem MixAt.on {w w' : World} {g : Nat} {xs : List (Int × Int × ByteArray)} (h : MixAt w g xs) (hb : Below w.heap.size w w') (hg : g < w.heap.size) : MixAt w' g xs := fun j hj => by
  obtain ⟨h0, h1, h2, h3, h4, h5⟩ := h j hj
  exact ⟨(hb.cell (p := ⟨g, j * 3, none⟩) hg).trans h0, (hb.cell (p := ⟨g, j * 3 + 1, none⟩) hg).trans h1, (hb.cell (p := ⟨g, j * 3 + 2, none⟩) hg).trans h2, (hb.frozen (p := ⟨g, j * 3, none⟩) hg).trans h3, (hb.frozen (p := ⟨g, j * 3 + 1, none⟩) hg).trans h4, (hb.frozen (p := ⟨g, j * 3 + 2, none⟩) hg).trans h5⟩
theorem MixAt.row {w : World} {g : Nat} {xs : List (Int × Int × ByteArray)} (h : MixAt w g xs) (hg : g < w.heap.size) : RowAt w.heap.size w (some ⟨g, 0, none⟩) xs := fun j hj => by
  obtain ⟨h0, h1, h2, _⟩ := h j hj
  exact ⟨g, 0, rfl, hg, by rw [Nat.zero_add]; exact h0, by rw [Nat.zero_add]; exact h1, by rw [Nat.zero_add]; exact h2⟩
theorem own_mix {w : World} {base n : Nat} {v : Value} {xs : List (Int × Int × ByteArray)} (h : w.ownsRow base 29 3 v n (valCells xs)) (h0 : 0 < n) (hx : xs.length = n) :
    ∃ g cap, v = .slice (some ⟨g, 0, none⟩) n cap ∧ base ≤ g ∧ g < w.heap.size ∧ MixAt w g xs := by
  subst hx
  obtain ⟨A, cap, hv, hA⟩ := row_of_row h
  rcases h.2 with ⟨_, e⟩ | ⟨g, cap', cur, e, hb, hg, _⟩
  · omega
  · have hlt := (Array.getElem?_eq_some_iff.1 hg).1
    rw [e] at hv
    injection hv with hv1 _ hv3
    refine ⟨g, cap', e, hb, hlt, fun j hj => ?_⟩
    obtain ⟨b, off, ea, _, c0, c1, c2⟩ := hA j hj
    rw [← hv1] at ea
    injection ea with ea
    injection ea with e1 e2
    subst e1 e2
    rw [Nat.zero_add] at c0 c1 c2
    exact ⟨c0, c1, c2, Lib.frozen_of_heap hg _, Lib.frozen_of_heap hg _, Lib.frozen_of_heap hg _⟩
theorem mix_store {w : World} {g q : Nat} {xs : List (Int × Int × ByteArray)} (h : MixAt w g xs) (v : Int × Int × ByteArray) (hq : q < xs.length) :
    MixAt (((w.setCell ⟨g, q * 3, none⟩ (.int .i64 v.1)).setCell ⟨g, q * 3 + 1, none⟩ (.int .i64 v.2.1)).setCell ⟨g, q * 3 + 2, none⟩ (.string v.2.2)) g (xs.set q v) := fun j hj => by
  rw [List.length_set] at hj
  obtain ⟨h0, h1, h2, h3, h4, h5⟩ := h j hj
  have fz : ∀ o, (((w.setCell ⟨g, q * 3, none⟩ (.int .i64 v.1)).setCell ⟨g, q * 3 + 1, none⟩ (.int .i64 v.2.1)).setCell ⟨g, q * 3 + 2, none⟩ (.string v.2.2)).frozen? ⟨g, o, none⟩ = w.frozen? ⟨g, o, none⟩ := fun o => by simp
  have ne : ∀ a b, a ≠ b → (⟨g, a, none⟩ : Addr) ≠ ⟨g, b, none⟩ := fun a b hab e => hab (by injection e)
  by_cases e : j = q
  · subst e
    have hg : (xs.set j v).getD j d3 = v := by rw [List.getD_eq_getElem?_getD, List.getElem?_set_self hj]; rfl
    rw [hg]
    refine ⟨?_, ?_, ?_, by rw [fz]; exact h3, by rw [fz]; exact h4, by rw [fz]; exact h5⟩
    · rw [World.cell?_setCell_other _ _ _ _ (ne_off (by omega)), World.cell?_setCell_other _ _ _ _ (ne_off (by omega))]
      exact World.cell?_setCell_same _ _ _ h0
    · rw [World.cell?_setCell_other _ _ _ _ (ne_off (by omega))]
      exact World.cell?_setCell_same _ _ _ (by rw [World.cell?_setCell_other _ _ _ _ (ne_off (by omega))]; exact h1)
    · exact World.cell?_setCell_same _ _ _ (by rw [World.cell?_setCell_other _ _ _ _ (ne_off (by omega)), World.cell?_setCell_other _ _ _ _ (ne_off (by omega))]; exact h2)
  · have hg : (xs.set q v).getD j d3 = xs.getD j d3 := by rw [List.getD_eq_getElem?_getD, List.getElem?_set_ne (by omega), ← List.getD_eq_getElem?_getD]
    rw [hg]
    have cc : ∀ o u, w.cell? ⟨g, o, none⟩ = some u → o ≠ q * 3 → o ≠ q * 3 + 1 → o ≠ q * 3 + 2 → (((w.setCell ⟨g, q * 3, none⟩ (.int .i64 v.1)).setCell ⟨g, q * 3 + 1, none⟩ (.int .i64 v.2.1)).setCell ⟨g, q * 3 + 2, none⟩ (.string v.2.2)).cell? ⟨g, o, none⟩ = some u := fun o u hu n1 n2 n3 => by
      rw [World.cell?_setCell_other _ _ _ _ (ne_off (Ne.symm n3)), World.cell?_setCell_other _ _ _ _ (ne_off (Ne.symm n2)), World.cell?_setCell_other _ _ _ _ (ne_off (Ne.symm n1))]; exact hu
    exact ⟨cc _ _ h0 (by omega) (by omega) (by omega), cc _ _ h1 (by omega) (by omega) (by omega), cc _ _ h2 (by omega) (by omega) (by omega), by rw [fz]; exact h3, by rw [fz]; exact h4, by rw [fz]; exact h5⟩
theorem getD_ext {xs ys : List (Int × Int × ByteArray)} (hl : xs.length = ys.length) (h : ∀ j, j < xs.length → xs.getD j d3 = ys.getD j d3) : xs = ys := by
  refine List.ext_getElem hl fun j h1 h2 => ?_
  have := h j h1
  rw [List.getD_eq_getElem?_getD, List.getD_eq_getElem?_getD, List.getElem?_eq_getElem h1, List.getElem?_eq_getElem h2] at this
  exact this
theorem mixR_zero (N : List ByteArray) (cs : List (ByteArray × Int)) (A B : List (Int × Int × ByteArray)) : mixR N cs A B 0 = B :=
  getD_ext (mixR_len _ _ _ _ _) fun j hj => by
    rw [mixR_len] at hj
    rw [mixR_at hj, if_neg (by omega)]
theorem mixR_succ {N : List ByteArray} {cs : List (ByteArray × Int)} {A B : List (Int × Int × ByteArray)} {q : Nat} (hq : q < B.length) :
    mixR N cs A B (q + 1) = if inN N (cs.getD q (⟨#[]⟩, 0)).1 = true then (mixR N cs A B q).set q (A.getD q d3) else mixR N cs A B q := by
  by_cases hi : inN N (cs.getD q (⟨#[]⟩, 0)).1 = true
  · rw [if_pos hi]
    refine getD_ext (by rw [List.length_set, mixR_len, mixR_len]) fun j hj => ?_
    rw [mixR_len] at hj
    rw [mixR_at hj]
    by_cases e : j = q
    · subst e
      have hs : ((mixR N cs A B j).set j (A.getD j d3)).getD j d3 = A.getD j d3 := by
        generalize A.getD j d3 = a
        rw [List.getD_eq_getElem?_getD, List.getElem?_set_self (by rw [mixR_len]; exact hj)]; rfl
      rw [if_pos ⟨by omega, hi⟩, hs]
    · have hs : ((mixR N cs A B q).set q (A.getD q d3)).getD j d3 = (mixR N cs A B q).getD j d3 := by
        generalize A.getD q d3 = a
        rw [List.getD_eq_getElem?_getD, List.getElem?_set_ne (by omega), ← List.getD_eq_getElem?_getD]
      rw [hs, mixR_at hj]
      by_cases h' : j < q
      · by_cases h2 : inN N (cs.getD j (⟨#[]⟩, 0)).1 = true
        · rw [if_pos ⟨by omega, h2⟩, if_pos ⟨h', h2⟩]
        · rw [if_neg (fun h => h2 h.2), if_neg (fun h => h2 h.2)]
      · rw [if_neg (by omega), if_neg (by omega)]
  · rw [if_neg hi]
    refine getD_ext (by rw [mixR_len, mixR_len]) fun j hj => ?_
    rw [mixR_len] at hj
    rw [mixR_at hj, mixR_at hj]
    by_cases e : j = q
    · subst e; rw [if_neg (fun h => hi h.2), if_neg (fun h => hi h.2)]
    · by_cases h2 : inN N (cs.getD j (⟨#[]⟩, 0)).1 = true
      · by_cases h' : j < q
        · rw [if_pos ⟨by omega, h2⟩, if_pos ⟨h', h2⟩]
        · rw [if_neg (by omega), if_neg (by omega)]
      · rw [if_neg (fun h => h2 h.2), if_neg (fun h => h2 h.2)]
/-- The world of the law ahead of its calls. -/
theorem zW_at {w : World} {a b c d : Value} {w' : World} (h : Below (w.alloc (.cells #[a, b, c, d] 56)).heap.size (w.alloc (.cells #[a, b, c, d] 56)) w') :
    w'.cell? ⟨w.heap.size, 0, none⟩ = some a ∧ w'.cell? ⟨w.heap.size, 1, none⟩ = some b ∧ w'.cell? ⟨w.heap.size, 2, none⟩ = some c ∧ w'.cell? ⟨w.heap.size, 3, none⟩ = some d ∧ w.heap.size < w'.heap.size := by
  have hs := h.size
  have k0 := (h.block w.heap.size (by simp)).trans (heap_alloc_new w _)
  exact ⟨Lib.cell_of_heap k0 0, Lib.cell_of_heap k0 1, Lib.cell_of_heap k0 2, Lib.cell_of_heap k0 3, by simp at hs; omega⟩
end Go.Proofs.YteenhmniikloiaaDoor
