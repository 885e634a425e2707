/-
  Expressions in memory: where they don't lie, and what they are without their addresses.
  How many expressions there are: the walks of count and Size.
  copies: the same expressions in memory of the call's own.
  What makes expressions: Column and Const.
-/
import Derived.Test.YtljoajjlkjjgeaaGreatDoorME1
import Derived.Lib.SmallJoins
import Derived.OwnWalk
namespace Go.Proofs.YtljoajjlkjjgeaaGreatDoor
open Go.RowKit

mutual
/-- Nothing of it lies below block lo. -/
def newX (lo : Nat) : XT → Prop
 | .mk _ _ _ _ A _ ts => (∀ a, A = some a → lo ≤ a.block) ∧ newXs lo ts
def newXs (lo : Nat) : List XT → Prop
 | [] => True
 | x :: r => newX lo x ∧ newXs lo r
end
theorem newXs_at : ∀ {lo : Nat} {l : List XT} {k : Nat}, newXs lo l → k < l.length → newX lo (l.getD k dX)
 | _, [], k, _, h => by simp at h
 | _, _ :: _, 0, h, _ => h.1
 | _, _ :: r, k + 1, h, hk => newXs_at (l := r) (k := k) h.2 (by simpa using hk)
theorem newXs_of : ∀ {lo : Nat} {l : List XT}, (∀ k, k < l.length → newX lo (l.getD k dX)) → newXs lo l
 | _, [], _ => trivial
 | _, x :: r, h => ⟨h 0 (by simp), newXs_of fun k hk => h (k + 1) (by simpa using hk)⟩
mutual
theorem newX.mono : ∀ {lo lo' : Nat} {x : XT}, newX lo x → lo' ≤ lo → newX lo' x
 | _, _, .mk _ _ _ _ _ _ _, h, hl => ⟨fun a e => Nat.le_trans hl (h.1 a e), newXs.mono h.2 hl⟩
theorem newXs.mono : ∀ {lo lo' : Nat} {l : List XT}, newXs lo l → lo' ≤ lo → newXs lo' l
 | _, _, [], _, _ => trivial
 | _, _, _ :: _, h, hl => ⟨h.1.mono hl, newXs.mono h.2 hl⟩
end
theorem At7.same {w w' : World} {b o : Nat} {x : XT} (h : At7 w b o x) (he : w'.heap[b]? = w.heap[b]?) : At7 w' b o x := by
 obtain ⟨h0, h1, h2, h3, h4, h5, h6⟩ := h
 have c : ∀ i u, w.cell? ⟨b, i, none⟩ = some u → w'.cell? ⟨b, i, none⟩ = some u := fun i u hu => by
  unfold World.cell? at hu ⊢
  simp only [he]
  exact hu
 exact ⟨c _ _ h0, c _ _ h1, c _ _ h2, c _ _ h3, c _ _ h4, c _ _ h5, c _ _ h6⟩
/-- It lies so in every world that has the same blocks from lo on. -/
theorem LiesX.off {lo B : Nat} {w w' : World} {x : XT} (h : LiesX B w x) : newX lo x → (∀ b, lo ≤ b → b < B → w'.heap[b]? = w.heap[b]?) → LiesX B w' x := by
 induction h with
 | mk hA hc hs ih =>
  intro hn hb
  rename_i ts
  refine .mk hA (fun j hj => ?_) (fun x hx => ?_)
  ·obtain ⟨b, off, e, hlt, h7⟩ := hc j hj
   exact ⟨b, off, e, hlt, h7.same (hb b (hn.1 _ e) hlt)⟩
  ·obtain ⟨j, hj, e⟩ := List.getElem_of_mem hx
   have := newXs_at (k := j) hn.2 hj
   rw [List.getD_eq_getElem?_getD, List.getElem?_eq_getElem hj, Option.getD_some, e] at this
   exact ih x hx this hb

mutual
/-- An expression without its addresses. -/
def stripX : XT → XT
 | .mk k n v o _ _ ts => .mk k n v o none 0 (stripXs ts)
def stripXs : List XT → List XT
 | [] => []
 | x :: r => stripX x :: stripXs r
end
theorem stripXs_len : ∀ l : List XT, (stripXs l).length = l.length
 | [] => rfl
 | x :: r => by show (stripXs r).length + 1 = r.length + 1; rw [stripXs_len r]
theorem stripX_mk {x : XT} {k : Int} {n : ByteArray} {v : Int × Int × ByteArray} {o : ByteArray} {A : Option Addr} {c : Nat} {ts : List XT} (h : stripX x = stripX (.mk k n v o A c ts)) :
  ∃ A' c' ts', x = .mk k n v o A' c' ts' ∧ stripXs ts' = stripXs ts := by
 obtain ⟨k', n', v', o', A', c', ts'⟩ := x
 simp only [stripX, XT.mk.injEq, true_and] at h
 obtain ⟨rfl, rfl, rfl, rfl, h⟩ := h
 exact ⟨A', c', ts', rfl, h⟩
theorem stripXs_nil {l : List XT} (h : stripXs l = []) : l = [] := by
 cases l with
 | nil => rfl
 | cons x r => cases h
theorem stripXs_cons {l : List XT} {y : XT} {r : List XT} (h : stripXs l = stripX y :: stripXs r) : ∃ y' r', l = y' :: r' ∧ stripX y' = stripX y ∧ stripXs r' = stripXs r := by
 cases l with
 | nil => cases h
 | cons x s => injection h with h1 h2; exact ⟨x, s, rfl, h1, h2⟩
theorem stripXs_of : ∀ {l m : List XT}, l.length = m.length → (∀ k, k < l.length → stripX (l.getD k dX) = stripX (m.getD k dX)) → stripXs l = stripXs m
 | [], [], _, _ => rfl
 | [], _ :: _, h, _ => by simp at h
 | _ :: _, [], h, _ => by simp at h
 | x :: r, y :: s, hl, h => by
  show stripX x :: stripXs r = stripX y :: stripXs s
  rw [show stripX x = stripX y from h 0 (by simp), stripXs_of (l := r) (m := s) (by simpa using hl) fun k hk => h (k + 1) (by simpa using hk)]

/-- A list of expressions at an address: each one's cells, and what lies behind it, below block B. -/
def ArgsAt (B : Nat) (w : World) (A : Option Addr) (ts : List XT) : Prop :=
 ∀ j, j < ts.length → ∃ b off, A = some ⟨b, off, none⟩ ∧ b < B ∧ At7 w b (off + j * 7) (ts.getD j dX) ∧ LiesX B w (ts.getD j dX)
theorem ArgsAt.on {w w' : World} {A : Option Addr} {ts : List XT} (h : ArgsAt w.heap.size w A ts) (hb : Below w.heap.size w w') : ArgsAt w'.heap.size w' A ts := fun j hj => by
 obtain ⟨b, off, e, hlt, h7, hl⟩ := h j hj
 exact ⟨b, off, e, Nat.lt_of_lt_of_le hlt hb.size, h7.below hb hlt, hl.on hb⟩
theorem ArgsAt.of {B : Nat} {w : World} {x : XT} (h : LiesX B w x) : ArgsAt B w x.adr x.args := fun _ hj => h.at hj
theorem ArgsAt.lies {B : Nat} {w : World} {k : Int} {n : ByteArray} {v : Int × Int × ByteArray} {o : ByteArray} {A : Option Addr} {c : Nat} {ts : List XT} (h : ArgsAt B w A ts) (hA : A = none → c = 0) : LiesX B w (.mk k n v o A c ts) :=
 .mk hA (fun _ hj => by obtain ⟨b, off, e, hlt, h7, _⟩ := h _ hj; exact ⟨b, off, e, hlt, h7⟩) fun x hx => by
  obtain ⟨j, hj, e⟩ := List.getElem_of_mem hx
  obtain ⟨_, _, _, _, _, hl⟩ := h j hj
  rw [List.getD_eq_getElem?_getD, List.getElem?_eq_getElem hj, Option.getD_some, e] at hl
  exact hl
end Go.Proofs.YtljoajjlkjjgeaaGreatDoor
namespace Go.Proofs.YtljoajjlkjjgeaaGreatDoor
open Go.RowKit

/-- The world in which an expression lies in a box. -/
def boxE (w : World) (x : XT) : World := w.alloc (.cells (eCells x.kind x.name x.val x.op x.adr x.args.length x.cap) 36)
theorem boxE_below (w : World) (x : XT) : Below w.heap.size w (boxE w x) := Joins.below_alloc1 w _
theorem boxE_at {w : World} {x : XT} {w' : World} (h : Below (boxE w x).heap.size (boxE w x) w') :
  w'.cell? ⟨w.heap.size, 0, none⟩ = some (.int .i64 x.kind) ∧ w'.cell? ⟨w.heap.size, 1, none⟩ = some (.string x.name) ∧ w'.cell? ⟨w.heap.size, 2, none⟩ = some (.int .i64 x.val.1) ∧ w'.cell? ⟨w.heap.size, 3, none⟩ = some (.int .i64 x.val.2.1) ∧
  w'.cell? ⟨w.heap.size, 4, none⟩ = some (.string x.val.2.2) ∧ w'.cell? ⟨w.heap.size, 5, none⟩ = some (.string x.op) ∧ w'.cell? ⟨w.heap.size, 6, none⟩ = some (.slice x.adr x.args.length x.cap) ∧ w.heap.size < w'.heap.size := by
 have hz : (boxE w x).heap.size = w.heap.size + 1 := by simp [boxE]
 have c : ∀ i u, (boxE w x).cell? ⟨w.heap.size, i, none⟩ = some u → w'.cell? ⟨w.heap.size, i, none⟩ = some u := fun i u hu => (h.cell (p := ⟨w.heap.size, i, none⟩) (by simp only; omega)).trans hu
 refine ⟨c _ _ (by simp [boxE]), c _ _ (by simp [boxE]), c _ _ (by simp [boxE]), c _ _ (by simp [boxE]), c _ _ (by simp [boxE]), c _ _ (by simp [boxE]), c _ _ (by simp [boxE]), ?_⟩
 have := h.size
 omega

theorem after_belowE {a b c : World} (k : Below b.heap.size b c) (h : Below a.heap.size a b) : Below a.heap.size a c := then_below h k

end Go.Proofs.YtljoajjlkjjgeaaGreatDoor
namespace Go.Proofs.YtljoajjlkjjgeaaGreatDoor
open Go.RowKit

/-- A block of the call's own with n cells. -/
def OwnB (w : World) (P n : Nat) : Prop := ∃ cur, w.heap[P]? = some (.cells cur 36 (0, 0)) ∧ cur.size = n
theorem OwnB.kept {w w' : World} {P n : Nat} (h : OwnB w P n) (he : w'.heap[P]? = w.heap[P]?) : OwnB w' P n := by
 obtain ⟨cur, h1, h2⟩ := h
 exact ⟨cur, he.trans h1, h2⟩
theorem OwnB.lt {w : World} {P n : Nat} (h : OwnB w P n) : P < w.heap.size := by
 obtain ⟨cur, h1, _⟩ := h
 exact (Array.getElem?_eq_some_iff.1 h1).1
theorem OwnB.set {w : World} {P n i : Nat} (h : OwnB w P n) (v : Value) : OwnB (w.setCell ⟨P, i, none⟩ v) P n := by
 obtain ⟨cur, h1, h2⟩ := h
 exact ⟨_, Joins.block_setCell (i := i) h1 v, by simpa using h2⟩
theorem OwnB.cell {w : World} {P n : Nat} (h : OwnB w P n) {i : Nat} (hi : i < n) : (∃ u, w.cell? ⟨P, i, none⟩ = some u) ∧ w.frozen? ⟨P, i, none⟩ = false := by
 obtain ⟨cur, h1, h2⟩ := h
 have hc := Lib.cell_of_heap h1 i
 refine ⟨⟨cur[i], hc.trans (Array.getElem?_eq_getElem (by omega))⟩, Lib.frozen_of_heap h1 i⟩

/-- The seven stores of an element. -/
def set7 (w : World) (P o : Nat) (x : XT) : World :=
 ((((((w.setCell ⟨P, o, none⟩ (.int .i64 x.kind)).setCell ⟨P, o + 1, none⟩ (.string x.name)).setCell ⟨P, o + 2, none⟩ (.int .i64 x.val.1)).setCell ⟨P, o + 3, none⟩ (.int .i64 x.val.2.1)).setCell ⟨P, o + 4, none⟩ (.string x.val.2.2)).setCell ⟨P, o + 5, none⟩ (.string x.op)).setCell ⟨P, o + 6, none⟩ (.slice x.adr x.args.length x.cap)
theorem set7_size (w : World) (P o : Nat) (x : XT) : (set7 w P o x).heap.size = w.heap.size := by simp [set7]
theorem set7_heap (w : World) {P b : Nat} (o : Nat) (x : XT) (h : b ≠ P) : (set7 w P o x).heap[b]? = w.heap[b]? := by
 unfold set7
 rw [Below.heap_setCell _ _ _ _ h, Below.heap_setCell _ _ _ _ h, Below.heap_setCell _ _ _ _ h, Below.heap_setCell _ _ _ _ h, Below.heap_setCell _ _ _ _ h, Below.heap_setCell _ _ _ _ h, Below.heap_setCell _ _ _ _ h]
theorem set7_own {w : World} {P n : Nat} (o : Nat) (x : XT) (h : OwnB w P n) : OwnB (set7 w P o x) P n := by
 unfold set7
 exact ((((((h.set _).set _).set _).set _).set _).set _).set _
theorem set7_below {w w0 : World} {P B : Nat} (o : Nat) (x : XT) (h : Below B w0 w) (hP : B ≤ P) : Below B w0 (set7 w P o x) := by
 unfold set7
 exact ((((((h.setCell hP _).setCell hP _).setCell hP _).setCell hP _).setCell hP _).setCell hP _).setCell hP _
theorem ne_off {P i j : Nat} (h : i ≠ j) : (⟨P, i, none⟩ : Addr) ≠ ⟨P, j, none⟩ := fun e => h (by injection e)
theorem set7_other {w : World} {P o i : Nat} (x : XT) (h : i < o ∨ o + 6 < i) : (set7 w P o x).cell? ⟨P, i, none⟩ = w.cell? ⟨P, i, none⟩ := by
 unfold set7
 rw [World.cell?_setCell_other _ _ _ _ (ne_off (by omega)), World.cell?_setCell_other _ _ _ _ (ne_off (by omega)), World.cell?_setCell_other _ _ _ _ (ne_off (by omega)), World.cell?_setCell_other _ _ _ _ (ne_off (by omega)),
  World.cell?_setCell_other _ _ _ _ (ne_off (by omega)), World.cell?_setCell_other _ _ _ _ (ne_off (by omega)), World.cell?_setCell_other _ _ _ _ (ne_off (by omega))]
theorem At7.set_other {w : World} {P o i : Nat} {y : XT} (x : XT) (h : At7 w P i y) (hi : i + 6 < o ∨ o + 6 < i) : At7 (set7 w P o x) P i y := by
 obtain ⟨h0, h1, h2, h3, h4, h5, h6⟩ := h
 exact ⟨(set7_other x (by omega)).trans h0, (set7_other x (by omega)).trans h1, (set7_other x (by omega)).trans h2, (set7_other x (by omega)).trans h3, (set7_other x (by omega)).trans h4, (set7_other x (by omega)).trans h5, (set7_other x (by omega)).trans h6⟩
theorem cell_set {w : World} {P n i : Nat} (h : OwnB w P n) (hi : i < n) (v : Value) : (w.setCell ⟨P, i, none⟩ v).cell? ⟨P, i, none⟩ = some v := by
 obtain ⟨⟨u, hu⟩, _⟩ := h.cell hi
 exact World.cell?_setCell_same _ _ _ hu
theorem At7.set {w : World} {P o n : Nat} (x : XT) (h : OwnB w P n) (ho : o + 6 < n) : At7 (set7 w P o x) P o x := by
 have s0 := h.set (i := o) (.int .i64 x.kind)
 have s1 := s0.set (i := o + 1) (.string x.name)
 have s2 := s1.set (i := o + 2) (.int .i64 x.val.1)
 have s3 := s2.set (i := o + 3) (.int .i64 x.val.2.1)
 have s4 := s3.set (i := o + 4) (.string x.val.2.2)
 have s5 := s4.set (i := o + 5) (.string x.op)
 unfold set7
 refine ⟨?_, ?_, ?_, ?_, ?_, ?_, ?_⟩
 ·rw [World.cell?_setCell_other _ _ _ _ (ne_off (by omega)), World.cell?_setCell_other _ _ _ _ (ne_off (by omega)), World.cell?_setCell_other _ _ _ _ (ne_off (by omega)), World.cell?_setCell_other _ _ _ _ (ne_off (by omega)), World.cell?_setCell_other _ _ _ _ (ne_off (by omega)), World.cell?_setCell_other _ _ _ _ (ne_off (by omega))]
  exact cell_set h (by omega) _
 ·rw [World.cell?_setCell_other _ _ _ _ (ne_off (by omega)), World.cell?_setCell_other _ _ _ _ (ne_off (by omega)), World.cell?_setCell_other _ _ _ _ (ne_off (by omega)), World.cell?_setCell_other _ _ _ _ (ne_off (by omega)), World.cell?_setCell_other _ _ _ _ (ne_off (by omega))]
  exact cell_set s0 (by omega) _
 ·rw [World.cell?_setCell_other _ _ _ _ (ne_off (by omega)), World.cell?_setCell_other _ _ _ _ (ne_off (by omega)), World.cell?_setCell_other _ _ _ _ (ne_off (by omega)), World.cell?_setCell_other _ _ _ _ (ne_off (by omega))]
  exact cell_set s1 (by omega) _
 ·rw [World.cell?_setCell_other _ _ _ _ (ne_off (by omega)), World.cell?_setCell_other _ _ _ _ (ne_off (by omega)), World.cell?_setCell_other _ _ _ _ (ne_off (by omega))]
  exact cell_set s2 (by omega) _
 ·rw [World.cell?_setCell_other _ _ _ _ (ne_off (by omega)), World.cell?_setCell_other _ _ _ _ (ne_off (by omega))]
  exact cell_set s3 (by omega) _
 ·rw [World.cell?_setCell_other _ _ _ _ (ne_off (by omega))]
  exact cell_set s4 (by omega) _
 ·exact cell_set s5 (by omega) _
/-- What holds ahead of round k of copies: the first k are copied. -/
def Copied (w wr : World) (ts us : List XT) (k : Nat) : Prop :=
 us.length = k ∧ (∀ j, j < k → stripX (us.getD j dX) = stripX (ts.getD j dX) ∧ At7 wr w.heap.size (j * 7) (us.getD j dX) ∧ LiesX wr.heap.size wr (us.getD j dX) ∧ newX (w.heap.size + 1) (us.getD j dX)) ∧ OwnB wr w.heap.size (ts.length * 7) ∧ Below w.heap.size w wr
theorem getD_snoc {us : List XT} {y : XT} {j : Nat} : (us ++ [y]).getD j dX = if j < us.length then us.getD j dX else if j = us.length then y else dX := by
 simp only [List.getD_eq_getElem?_getD]
 split
 ·rename_i h; rw [List.getElem?_append_left h]
 ·rename_i h
  rw [List.getElem?_append_right (by omega)]
  split
  ·rename_i h2; subst h2; simp
  ·rename_i h2; rw [List.getElem?_eq_none (by simp; omega)]; rfl
theorem copies_step {w wr w2 : World} {ts us : List XT} {k : Nat} {y y' : XT} {v : Value} {o : Obj} (h : Copied w wr ts us k) (hk : k < ts.length) (hy : ts.getD k dX = y) (hs : stripX y' = stripX y)
  (hb : Below (wr.alloc o).heap.size (wr.alloc o) w2) (hl : LiesX w2.heap.size w2 y') (hn : newX (wr.heap.size + 1) y') : Copied w (set7 (w2.setCell ⟨wr.heap.size, 6, none⟩ v) w.heap.size (k * 7) y') ts (us ++ [y']) (k + 1) := by
 obtain ⟨h1, h2, h3, h4⟩ := h
 have hPw := h3.lt
 have hbb : Below wr.heap.size wr w2 := then_below (Joins.below_alloc1 wr o) hb
 have hsz := hbb.size
 have hbs : Below wr.heap.size wr (w2.setCell ⟨wr.heap.size, 6, none⟩ v) := hbb.setCell (p := ⟨wr.heap.size, 6, none⟩) (Nat.le_refl _) v
 have hO2 : OwnB (w2.setCell ⟨wr.heap.size, 6, none⟩ v) w.heap.size (ts.length * 7) := h3.kept (hbs.block _ hPw)
 have hheap : ∀ b, w.heap.size + 1 ≤ b → b ≠ wr.heap.size → (set7 (w2.setCell ⟨wr.heap.size, 6, none⟩ v) w.heap.size (k * 7) y').heap[b]? = w2.heap[b]? := fun b hb1 hb2 => by
  rw [set7_heap _ _ _ (by omega : b ≠ w.heap.size), Below.heap_setCell _ _ _ _ (by simpa using hb2)]
 have hszf : (set7 (w2.setCell ⟨wr.heap.size, 6, none⟩ v) w.heap.size (k * 7) y').heap.size = w2.heap.size := by rw [set7_size]; simp
 refine ⟨by simp [h1], fun j hj => ?_, set7_own _ _ hO2, set7_below _ _ (h4.trans (hbs.mono h4.size)) (Nat.le_refl _)⟩
 rw [hszf, getD_snoc]
 by_cases hjk : j < us.length
 ·rw [if_pos hjk]
  obtain ⟨a1, a2, a3, a4⟩ := h2 j (by omega)
  refine ⟨a1, At7.set_other _ (a2.below hbs hPw) (by omega), ?_, a4⟩
  exact (LiesX.off (a3.keep hbb) a4 fun b hb1 hb2 => hheap b hb1 (by omega)).mono hsz
 ·obtain rfl : j = us.length := by omega
  rw [if_neg hjk, if_pos rfl]
  have hjk' : us.length = k := h1
  rw [hjk', hy]
  refine ⟨hs, At7.set _ hO2 (by omega), ?_, hn.mono (by omega)⟩
  exact hl.off hn fun b hb1 hb2 => hheap b (by omega) (by omega)

set_option maxHeartbeats 3200000 in
set_option maxRecDepth 100000 in
theorem copies_any : ∀ (N : Nat) (ts : List XT) (A : Option Addr) (c : Nat) (w : World), szXs ts ≤ N → szXs ts ≤ 1000000 → ArgsAt w.heap.size w A ts →
  Calls Tryz.prog 31 #[.slice A ts.length c] w fun e w' => (∃ A' c' ts', e = .returned (.slice A' ts'.length c') ∧ stripXs ts' = stripXs ts ∧ (A' = none → c' = 0) ∧ (∀ a, A' = some a → w.heap.size ≤ a.block) ∧ newXs w.heap.size ts' ∧ ArgsAt w'.heap.size w' A' ts' ∧ (0 < ts.length → ∃ P, A' = some ⟨P, 0, none⟩ ∧ OwnB w' P (ts.length * 7))) ∧ Below w.heap.size w w'
 | N, [], A, c, w, _, _, _ => by
  go_enter Tryz.func31, Tryz.ntmps31
  go_wp2_with fail
  go_ret
  exact ⟨⟨none, 0, [], rfl, rfl, fun _ => rfl, (fun a h => by cases h), trivial, (fun j h => by simp at h), fun h => by simp at h⟩, Below.refl _ _⟩
 | 0, x :: r, A, c, w, hN, _, _ => by
  have h1 : szXs (x :: r) = szX x + szXs r := rfl
  have := szX_pos x; omega
 | N + 1, x :: r, A, c, w, hN, hz, hA => by
  have ih := hide (fun ts A c w (h : szXs ts ≤ N) h1 h2 => copies_any N ts A c w h h1 h2)
  have HX := hide hA
  have hN' : ∀ k, k < (x :: r).length → szXs ((x :: r).getD k dX).args ≤ N := fun k hk => by
   have h1 := szX_eq ((x :: r).getD k dX)
   have h2 := szXs_drop hk
   have h3 : szXs ((x :: r).drop k) ≤ szXs (x :: r) := by
    have h4 : ∀ (l : List XT) (k : Nat), szXs (l.drop k) ≤ szXs l := by
     intro l
     induction l with
     | nil => intro k; simp
     | cons y s ih =>
      intro k
      cases k with
      | zero => exact Nat.le_refl _
      | succ k => have := ih k; show szXs (s.drop k) ≤ szX y + szXs s; omega
    exact h4 _ _
   omega
  have hlen := len_szXs (x :: r)
  have HN := hide hN'
  have hpos : 0 < (x :: r).length := by simp
  generalize x :: r = ts at *
  have hne : ((ts.length : Int) == 0) = false := by rw [beq_eq_false_iff_ne]; omega
  obtain ⟨i0, hi, hz0, hz1, hz2⟩ := info_parts expr_info
  clear hN' hA hN
  go_enter Tryz.func31, Tryz.ntmps31
  go_wp2_with (at_make; go_must (refine wpList_make_full _ rfl _ _ 34 rfl w.heap.size 36 i0 (.agg #[.int .i64 0, .string ⟨#[]⟩, .int .i64 0, .int .i64 0, .string ⟨#[]⟩, .string ⟨#[]⟩, .slice none 0 0]) 7 Tryz.underlying34 hi hz0 hz1 .i64 .i64 ts.length ts.length ts.length rfl rfl rfl rfl (by rw [hz2]; omega) (by unfold maxLen; omega) (Nat.le_refl _) ?_))
  intro w1 hown hgrow
  have hb1 : Below w.heap.size w w1 := (Below.refl _ _).grown hgrow (Nat.le_refl _) (fun j hj => by cases hj)
  have hO : OwnB w1 w.heap.size (ts.length * 7) := by
   obtain ⟨_, h⟩ := hown
   rcases h with ⟨h, _⟩ | ⟨g, cap, cur, h, _, hg, _, _, hcs, _⟩
   ·cases h
   ·injection h with h1 h2 h3
    injection h1 with h1
    injection h1 with h1
    subst h1 h3
    exact ⟨cur, hg, hcs⟩
  have HO := hide hO; have HB1 := hide hb1
  clear hown hgrow hb1 hO
  go_wp2_with fail
  go_loopw [14] (fun i wr => ∃ (k : Nat) (us : List XT), k ≤ ts.length ∧ i = .int .i64 k ∧ Copied w wr ts us k) (fun i _ => ts.length - (intOf i).toNat)
  case atStart => exact ⟨0, [], Nat.zero_le _, rfl, rfl, fun j h => by omega, HO.out, HB1.out⟩
  case round =>
   obtain ⟨k, us, hk, rfl, hcp⟩ := hrel
   have HCp := hide hcp
   by_cases hlt : k < ts.length
   ·obtain ⟨b, off, rfl, hb, h7, hly⟩ := HX.out k hlt
    have HNk := hide (HN.out k hlt)
    have HStep := hide (fun y y' w2 v o h1 h2 h3 h4 h5 => copies_step (y := y) (y' := y') (w2 := w2) (v := v) (o := o) HCp.out hlt h1 h2 h3 h4 h5)
    have hszy : szXs (ts.getD k dX).args ≤ 1000000 := by
     have h1 := szX_eq (ts.getD k dX)
     have h2 := HN.out k hlt
     have h3 : szX (ts.getD k dX) ≤ szXs ts := by
      have : ∀ (l : List XT) (k : Nat), k < l.length → szX (l.getD k dX) ≤ szXs l := by
       intro l
       induction l with
       | nil => intro k h; simp at h
       | cons y r ih =>
        intro k h
        cases k with
        | zero => show szX y ≤ szX y + szXs r; omega
        | succ k => have := ih k (by simpa using h); show szX (r.getD k dX) ≤ szX y + szXs r; omega
      exact this _ _ hlt
     omega
    generalize hy : ts.getD k dX = y at *
    have h7' := h7.below hcp.2.2.2 hb
    have hb' : b < wr.heap.size := Nat.lt_of_lt_of_le hb hcp.2.2.2.size
    have hlyr := (hly.keep hcp.2.2.2).mono hcp.2.2.2.size
    have HLy := hide (hlyr.on (Joins.below_alloc1 wr (.cells (eCells y.kind y.name y.val y.op y.adr y.args.length y.cap) 36)))
    have hOw := hcp.2.2.1
    have HOw := hide hOw
    have hPl := hOw.lt
    obtain ⟨g0, g1, g2, g3, g4, g5, g6⟩ := h7'
    have HY := hide hy
    have HSz := hide hszy
    clear h7 hly hcp hlyr hOw hy hszy
    go_wp2_with fail
    refine (ih.out y.args y.adr y.cap _ HNk.out HSz.out (ArgsAt.of HLy.out)).mono ?_
    rintro e w2 ⟨⟨A', c', vs, rfl, hst, hnn, hnb, hnv, hargs, -⟩, hb2⟩
    have HB2 := hide hb2
    have hbb : Below wr.heap.size wr w2 := then_below (Joins.below_alloc1 wr _) hb2
    have hH : (wr.alloc (.cells (eCells y.kind y.name y.val y.op y.adr y.args.length y.cap) 36)).heap.size = wr.heap.size + 1 := by simp
    have hbx := (hb2.block wr.heap.size (by rw [hH]; omega)).trans (heap_alloc_new wr (.cells (eCells y.kind y.name y.val y.op y.adr y.args.length y.cap) 36))
    have e0 := Lib.cell_of_heap hbx 0; have e1 := Lib.cell_of_heap hbx 1; have e2 := Lib.cell_of_heap hbx 2; have e3 := Lib.cell_of_heap hbx 3; have e4 := Lib.cell_of_heap hbx 4; have e5 := Lib.cell_of_heap hbx 5; have e6 := Lib.cell_of_heap hbx 6
    have ef := Lib.frozen_of_heap hbx 6
    simp only [eCells, List.getElem?_toArray, List.getElem?_cons_zero, List.getElem?_cons_succ] at e0 e1 e2 e3 e4 e5 e6
    have hO2 := HOw.out.kept (hbb.block _ hPl)
    obtain ⟨⟨u0, q0⟩, f0⟩ := hO2.cell (i := k * 7) (by omega)
    obtain ⟨⟨u1, q1⟩, f1⟩ := hO2.cell (i := k * 7 + 1) (by omega)
    obtain ⟨⟨u2, q2⟩, f2⟩ := hO2.cell (i := k * 7 + 2) (by omega)
    obtain ⟨⟨u3, q3⟩, f3⟩ := hO2.cell (i := k * 7 + 3) (by omega)
    obtain ⟨⟨u4', q4⟩, f4⟩ := hO2.cell (i := k * 7 + 4) (by omega)
    obtain ⟨⟨u5', q5⟩, f5⟩ := hO2.cell (i := k * 7 + 5) (by omega)
    obtain ⟨⟨u6, q6⟩, f6⟩ := hO2.cell (i := k * 7 + 6) (by omega)
    have hne1 : w.heap.size ≠ wr.heap.size := by omega
    have hPl2 : w.heap.size < w2.heap.size := Nat.lt_of_lt_of_le hPl hbb.size
    have hHl2 : wr.heap.size < w2.heap.size := by have := hb2.size; omega
    have HF := hide (HStep.out y (.mk y.kind y.name y.val y.op A' c' vs) w2 (.slice A' vs.length c') _ rfl (by cases y; simp only [stripX, XT.kind, XT.name, XT.val, XT.op, XT.args] at hst ⊢; rw [hst]) hb2 (hargs.lies hnn) ⟨fun a ha => by have := hnb a ha; omega, hnv.mono (by omega)⟩)
    clear g0 g1 g2 g3 g4 g5 g6 hst hnn hnb hnv hargs hb2 hbb hbx hO2
    go_wp2_with fail
    go_roundw
    case rel => exact ⟨k + 1, _, by omega, by go_num, HF.out⟩
    case measure => simp [intOf]; omega
   ·obtain rfl : k = ts.length := by omega
    obtain ⟨h1, h2, h3, h4⟩ := hcp
    go_wp2_with fail
    go_ret
    refine ⟨⟨some ⟨w.heap.size, 0, none⟩, ts.length, us, (by rw [h1]; rfl), (stripXs_of h1 fun j hj => (h2 j (by omega)).1), (fun h => by cases h), fun a ha => ?_, ?_, ?_, fun _ => ⟨w.heap.size, rfl, h3⟩⟩, h4⟩
    ·injection ha with ha; rw [← ha]; exact Nat.le_refl _
    ·exact newXs_of fun j hj => (h2 j (by omega)).2.2.2.mono (by omega)
    ·intro j hj
     obtain ⟨_, a2, a3, _⟩ := h2 j (by omega)
     exact ⟨w.heap.size, 0, rfl, h3.lt, by rw [Nat.zero_add]; exact a2, a3⟩
end Go.Proofs.YtljoajjlkjjgeaaGreatDoor
namespace Go.Proofs.YtljoajjlkjjgeaaGreatDoor
open Go.RowKit

theorem column_any (s : ByteArray) (w : World) : Calls Tryz.prog 18 #[.string s] w fun e w' => e = .returned (vX (.mk 1 s (0, 0, ⟨#[]⟩) ⟨#[]⟩ none 0 [])) ∧ Below w.heap.size w w' := by
 go_enter Tryz.func18, Tryz.ntmps18
 go_wp2
 go_returns
 exact ⟨rfl, by go_grown⟩
theorem const_any (k n : Int) (s : ByteArray) (w : World) : Calls Tryz.prog 19 #[vVal k n s] w fun e w' => e = .returned (vX (.mk 2 ⟨#[]⟩ (k, n, s) ⟨#[]⟩ none 0 [])) ∧ Below w.heap.size w w' := by
 go_enter Tryz.func19, Tryz.ntmps19
 go_wp2
 go_returns
 exact ⟨rfl, by go_grown⟩
theorem lies_leaf (B : Nat) (w : World) (k : Int) (n : ByteArray) (v : Int × Int × ByteArray) (o : ByteArray) : LiesX B w (.mk k n v o none 0 []) :=
 .mk (fun _ => rfl) (fun j h => by simp at h) (fun x h => by simp at h)
end Go.Proofs.YtljoajjlkjjgeaaGreatDoor
