/-
  What the parser makes lies so in memory; the parser's own box.
  A struct's box: stored, loaded and told whole.
  The parser's smallest steps: fail, ahead, is, take, accept, expect.
  accept, expect, which, oneOf, token, name, number, literal.
-/
import Derived.Test.YtljoajjlkjjgeaaGreatDoorMN1
import Derived.Test.YtljoajjlkjjgeaaGreatDoorML3
import Derived.Test.YtljoajjlkjjgeaaGreatDoorME2
import Derived.ArgAppend
import Derived.Deep.WholeRow
namespace Go.Proofs.YtljoajjlkjjgeaaGreatDoor
open Go.RowKit Go.Sort LM

/-- Only block q may have turned. -/
abbrev Turn (q : Nat) (w w' : World) : Prop := w.grownBy w' (some q)
theorem Turn.refl (q : Nat) (w : World) : Turn q w w := ⟨rfl, rfl, rfl, Nat.le_refl _, fun _ _ _ => rfl⟩
theorem Turn.trans {q : Nat} {a b c : World} (h : Turn q a b) (k : Turn q b c) : Turn q a c :=
 ⟨k.os.trans h.os, k.tape.trans h.tape, k.output.trans h.output, Nat.le_trans h.size k.size, fun i hi hn => (k.block i (Nat.lt_of_lt_of_le hi h.size) hn).trans (h.block i hi hn)⟩
theorem Turn.of {q : Nat} {w w' : World} (h : Below w.heap.size w w') : Turn q w w' := only_of_below h _
theorem Turn.on {q : Nat} {a w w' : World} (h : Turn q a w) (k : Below w.heap.size w w') : Turn q a w' := h.trans (Turn.of k)
theorem Turn.alloc {q : Nat} {a w : World} (h : Turn q a w) (o : Obj) : Turn q a (w.alloc o) := h.on (Joins.below_alloc1 w o)
theorem Turn.drew {q : Nat} {a w : World} (h : Turn q a w) : Turn q a w.drew := ⟨h.os, h.tape, h.output, h.size, h.block⟩
theorem Turn.set {q : Nat} {a w : World} (h : Turn q a w) (i : Nat) (v : Value) : Turn q a (w.setCell ⟨q, i, none⟩ v) :=
 h.trans ⟨rfl, rfl, rfl, by simp, fun k _ hn => Below.heap_setCell _ _ _ _ (by simpa using hn)⟩
theorem Turn.put {q : Nat} {a w : World} (h : Turn q a w) {p : Addr} (hp : a.heap.size ≤ p.block) (v : Value) : Turn q a (w.setCell p v) :=
 ⟨h.os, h.tape, h.output, by simpa using h.size, fun k hk hn => (Below.heap_setCell _ _ _ _ (by omega)).trans (h.block k hk hn)⟩
theorem Turn.below {q B : Nat} {w w' : World} (h : Turn q w w') (hq : B ≤ q) (hB : B ≤ w.heap.size) : Below B w w' := ⟨h.os, h.tape, h.output, h.size, fun k hk => h.block k (by omega) (by simp; omega)⟩
theorem Turn.belowP {q : Nat} {w w' : World} (h : Turn q w w') (hB : q < w.heap.size) : Below q w w' := h.below (Nat.le_refl _) (Nat.le_of_lt hB)
theorem Turn.blk {q : Nat} {w w' : World} (h : Turn q w w') {b : Nat} (h1 : q < b) (h2 : b < w.heap.size) : w'.heap[b]? = w.heap[b]? := h.block b h2 (by simp; omega)
theorem Turn.cell {q : Nat} {w w' : World} (h : Turn q w w') {b o : Nat} {v : Value} (h1 : q < b) (h2 : w.cell? ⟨b, o, none⟩ = some v) : w'.cell? ⟨b, o, none⟩ = some v :=
 (World.cell?_of_block (a := ⟨b, o, none⟩) (h.blk h1 (lt_of_cell h2))).trans h2
theorem Turn.frozen {q : Nat} {w w' : World} (h : Turn q w w') {b o : Nat} (h1 : q < b) (h2 : b < w.heap.size) : w'.frozen? ⟨b, o, none⟩ = w.frozen? ⟨b, o, none⟩ :=
 World.frozen?_of_block (a := ⟨b, o, none⟩) (h.blk h1 h2)

def d0 : Dt := dI 0
def v0 : Value := .int .i64 0
/-- The value reads so, and what it leads to lies in blocks that P tells. -/
inductive Rep (P : Nat → Prop) (w : World) : Dt → Value → Prop
 | one {v : Value} (h : v.oneCell' = true) : Rep P w (.one v) v
 | row {sz : Nat} {els : List (List Dt)} {A : Option Addr} {cap : Nat} (us : Nat → Nat → Value) (hA : A = none → cap = 0)
   (hc : ∀ j, j < els.length → ∃ b off, A = some ⟨b, off, none⟩ ∧ P b ∧ b < w.heap.size ∧ ∀ i, i < (els.getD j []).length → w.cell? ⟨b, off + j * sz + i, none⟩ = some (us j i))
   (hs : ∀ j i, j < els.length → i < (els.getD j []).length → Rep P w ((els.getD j []).getD i d0) (us j i)) : Rep P w (.row sz els) (.slice A els.length cap)
/-- What P tells is as it was, and Q tells it too. -/
structure Stay (P Q : Nat → Prop) (w w' : World) : Prop where
 to : ∀ b, b < w.heap.size → P b → Q b
 size : w.heap.size ≤ w'.heap.size
 same : ∀ b, P b → b < w.heap.size → w'.heap[b]? = w.heap[b]?
theorem Stay.refl (P : Nat → Prop) (w : World) : Stay P P w w := ⟨fun _ _ h => h, Nat.le_refl _, fun _ _ _ => rfl⟩
theorem Stay.at {P Q : Nat → Prop} (h : ∀ b, P b → Q b) (w : World) : Stay P Q w w := ⟨fun b _ hb => h b hb, Nat.le_refl _, fun _ _ _ => rfl⟩
theorem Rep.stay {P Q : Nat → Prop} {w w' : World} {d : Dt} {v : Value} (h : Rep P w d v) (hs : Stay P Q w w') : Rep Q w' d v := by
 induction h with
 | one h => exact .one h
 | row us hA hc _ ih =>
  refine .row us hA (fun j hj => ?_) ih
  obtain ⟨b, off, e, h1, h2, h3⟩ := hc j hj
  exact ⟨b, off, e, hs.to b h2 h1, Nat.lt_of_lt_of_le h2 hs.size, fun i hi => (World.cell?_of_block (a := ⟨b, _, none⟩) (hs.same b h1 h2)).trans (h3 i hi)⟩
/-- Cells that read so. -/
def RepC (P : Nat → Prop) (w : World) (ds : List Dt) (vs : List Value) : Prop := vs.length = ds.length ∧ ∀ i, i < ds.length → Rep P w (ds.getD i d0) (vs.getD i v0)
theorem RepC.stay {P Q : Nat → Prop} {w w' : World} {ds : List Dt} {vs : List Value} (h : RepC P w ds vs) (hs : Stay P Q w w') : RepC Q w' ds vs := ⟨h.1, fun i hi => (h.2 i hi).stay hs⟩
/-- New since the heap had lo blocks. -/
abbrev New (lo : Nat) : Nat → Prop := fun b => lo ≤ b
theorem Stay.turn {P : Nat → Prop} {q : Nat} {w w' : World} (h : Turn q w w') (hP : ¬ P q) : Stay P P w w' := ⟨fun _ _ h => h, h.size, fun b hb hlt => h.block b hlt (by rintro ⟨⟩; exact hP hb)⟩
theorem Stay.new {q lo lo' : Nat} {w w' : World} (h : Turn q w w') (hq : q < lo) (hl : lo' ≤ lo) : Stay (New lo) (New lo') w w' := ⟨fun _ _ h => Nat.le_trans hl h, h.size, fun _ hb hlt => h.blk (Nat.lt_of_lt_of_le hq hb) hlt⟩
theorem Stay.below {P : Nat → Prop} {w w' : World} (h : Below w.heap.size w w') : Stay P P w w' := ⟨fun _ _ h => h, h.size, fun b _ hlt => h.block b hlt⟩
theorem Stay.trans {P Q R : Nat → Prop} {a b c : World} (h : Stay P Q a b) (k : Stay Q R b c) : Stay P R a c := ⟨fun x hlt hx => k.to x (Nat.lt_of_lt_of_le hlt h.size) (h.to x hlt hx), Nat.le_trans h.size k.size, fun x hx hlt => (k.same x (h.to x hlt hx) (Nat.lt_of_lt_of_le hlt h.size)).trans (h.same x hx hlt)⟩
theorem RepC.nil (P : Nat → Prop) (w : World) : RepC P w [] [] := ⟨rfl, fun i hi => by simp at hi⟩
theorem RepC.cons {P : Nat → Prop} {w : World} {d : Dt} {v : Value} {ds : List Dt} {vs : List Value} (h : Rep P w d v) (k : RepC P w ds vs) : RepC P w (d :: ds) (v :: vs) :=
 ⟨by simp [k.1], fun i hi => by
  cases i with
  | zero => exact h
  | succ i => exact k.2 i (by simpa using hi)⟩
theorem RepC.uncons {P : Nat → Prop} {w : World} {d : Dt} {ds : List Dt} {us : List Value} (h : RepC P w (d :: ds) us) : ∃ v vs, us = v :: vs ∧ Rep P w d v ∧ RepC P w ds vs := by
 obtain ⟨h1, h2⟩ := h
 cases us with
 | nil => simp at h1
 | cons v vs => exact ⟨v, vs, rfl, h2 0 (by simp), by simpa using h1, fun i hi => h2 (i + 1) (by simpa using hi)⟩
theorem RepC.unnil {P : Nat → Prop} {w : World} {us : List Value} (h : RepC P w [] us) : us = [] := List.length_eq_zero_iff.1 h.1
theorem RepC.append {P : Nat → Prop} {w : World} {ds es : List Dt} {us vs : List Value} (h : RepC P w ds us) (k : RepC P w es vs) : RepC P w (ds ++ es) (us ++ vs) := by
 induction ds generalizing us with
 | nil => rw [h.unnil]; exact k
 | cons d r ih =>
  obtain ⟨v, s, rfl, h1, h2⟩ := h.uncons
  exact (ih h2).cons h1
theorem RepC.split {P : Nat → Prop} {w : World} {ds es : List Dt} {us : List Value} (h : RepC P w (ds ++ es) us) : ∃ vs ts, us = vs ++ ts ∧ RepC P w ds vs ∧ RepC P w es ts := by
 induction ds generalizing us with
 | nil => exact ⟨[], us, rfl, RepC.nil _ _, h⟩
 | cons d r ih =>
  obtain ⟨v, s, rfl, h1, h2⟩ := h.uncons
  obtain ⟨vs, ts, rfl, h3, h4⟩ := ih h2
  exact ⟨v :: vs, ts, rfl, h3.cons h1, h4⟩
theorem Rep.int {P : Nat → Prop} {w : World} {n : Int} {v : Value} (h : Rep P w (dI n) v) : v = .int .i64 n := by cases h; rfl
theorem Rep.str {P : Nat → Prop} {w : World} {s : ByteArray} {v : Value} (h : Rep P w (dS s) v) : v = .string s := by cases h; rfl
theorem rep_int (P : Nat → Prop) (w : World) (n : Int) : Rep P w (dI n) (.int .i64 n) := .one rfl
theorem rep_str (P : Nat → Prop) (w : World) (s : ByteArray) : Rep P w (dS s) (.string s) := .one rfl
theorem rep_bool (P : Nat → Prop) (w : World) (b : Bool) : Rep P w (.one (.bool b)) (.bool b) := .one rfl
theorem rep_nil (P : Nat → Prop) (w : World) (sz : Nat) : Rep P w (.row sz []) (.slice none 0 0) := .row (fun _ _ => v0) (fun _ => rfl) (fun j hj => by simp at hj) (fun j i hj => by simp at hj)
theorem Rep.one_cell {P : Nat → Prop} {w : World} {d : Dt} {v : Value} (h : Rep P w d v) : v.oneCell' = true := by
 cases h with
 | one h => exact h
 | row => rfl
theorem RepC.one_cell {P : Nat → Prop} {w : World} {ds : List Dt} {vs : List Value} (h : RepC P w ds vs) : ∀ u ∈ vs, u.oneCell' = true := by
 induction ds generalizing vs with
 | nil => rw [h.unnil]; intro u hu; simp at hu
 | cons d r ih =>
  obtain ⟨v, s, rfl, h1, h2⟩ := h.uncons
  intro u hu
  rcases List.mem_cons.1 hu with rfl | hu
  ·exact h1.one_cell
  ·exact ih h2 u hu
/-- A list's elements, each of so many cells, one behind the other. -/
def RepL (P : Nat → Prop) (w : World) (sz : Nat) (els : List (List Dt)) (cs : List Value) : Prop := (∀ e ∈ els, e.length = sz) ∧ RepC P w els.flatten cs
theorem RepL.nil (P : Nat → Prop) (w : World) (sz : Nat) : RepL P w sz [] [] := ⟨fun e he => by simp at he, RepC.nil _ _⟩
theorem RepL.snoc {P : Nat → Prop} {w : World} {sz : Nat} {els : List (List Dt)} {cs : List Value} {e : List Dt} {vs : List Value} (h : RepL P w sz els cs) (he : e.length = sz) (hv : RepC P w e vs) : RepL P w sz (els ++ [e]) (cs ++ vs) :=
 ⟨fun x hx => by
  rcases List.mem_append.1 hx with hx | hx
  ·exact h.1 x hx
  ·rw [List.mem_singleton.1 hx]; exact he, by rw [List.flatten_append, List.flatten_singleton]; exact h.2.append hv⟩
theorem RepL.stay {P Q : Nat → Prop} {w w' : World} {sz : Nat} {els : List (List Dt)} {cs : List Value} (h : RepL P w sz els cs) (hs : Stay P Q w w') : RepL Q w' sz els cs := ⟨h.1, h.2.stay hs⟩
theorem flat_len {sz : Nat} : ∀ {els : List (List Dt)}, (∀ e ∈ els, e.length = sz) → els.flatten.length = els.length * sz
 | [], _ => by simp
 | e :: r, h => by
  rw [List.flatten_cons, List.length_append, h e (by simp), flat_len (els := r) (fun x hx => h x (by simp [hx])), List.length_cons, Nat.succ_mul]; omega
theorem flat_at {sz : Nat} : ∀ {els : List (List Dt)} (_ : ∀ e ∈ els, e.length = sz) {j i : Nat}, j < els.length → i < sz → els.flatten.getD (j * sz + i) d0 = (els.getD j []).getD i d0
 | [], _, j, _, hj, _ => by simp at hj
 | e :: r, h, 0, i, _, hi => by
  have he := h e (by simp)
  simp only [List.flatten_cons, Nat.zero_mul, Nat.zero_add, List.getD_eq_getElem?_getD]
  rw [List.getElem?_append_left (by omega)]; rfl
 | e :: r, h, j + 1, i, hj, hi => by
  have he := h e (by simp)
  have := flat_at (els := r) (fun x hx => h x (by simp [hx])) (j := j) (i := i) (by simpa using hj) hi
  simp only [List.flatten_cons, List.getD_eq_getElem?_getD] at this ⊢
  rw [List.getElem?_append_right (by rw [he, Nat.succ_mul]; omega), show (j + 1) * sz + i - e.length = j * sz + i by rw [he, Nat.succ_mul]; omega, this]; rfl
/-- An own row reads as its elements. -/
theorem rep_of_row {w : World} {P : Nat → Prop} {base sz : Nat} {t : TypeId} {v : Value} {cs : List Value} {els : List (List Dt)} (h : w.ownsRow base t sz v els.length cs) (hb : ∀ g, v.ownBlock = some g → P g) (hr : RepL P w sz els cs) : Rep P w (.row sz els) v := by
 rcases h.2 with ⟨rfl, h0⟩ | ⟨g, cap, cur, rfl, hg, hh, hn, hm, hsz, htk⟩
 ·rw [List.length_eq_zero_iff.1 h0]; exact rep_nil _ _ _
 ·have hlt : g < w.heap.size := by
   rcases Nat.lt_or_ge g w.heap.size with h' | h'
   ·exact h'
   ·simp [Array.getElem?_eq_none h'] at hh
  refine .row (fun j i => cs.getD (j * sz + i) v0) (fun e => by cases e) (fun j hj => ⟨g, 0, rfl, hb g rfl, hlt, fun i hi => ?_⟩) (fun j i hj hi => ?_)
  ·have hi' : i < sz := by
    rw [List.getD_eq_getElem?_getD, List.getElem?_eq_getElem hj, Option.getD_some, hr.1 _ (List.getElem_mem hj)] at hi; exact hi
   have hk : j * sz + i < els.length * sz := by
    have : (j + 1) * sz ≤ els.length * sz := Nat.mul_le_mul_right _ (by omega)
    rw [Nat.succ_mul] at this; omega
   have hl : j * sz + i < cs.length := by rw [h.1]; exact hk
   rw [Lib.cell_of_heap hh, Nat.zero_add]
   have h3 : cs[j * sz + i]? = some (cs.getD (j * sz + i) v0) := by rw [List.getD_eq_getElem?_getD, List.getElem?_eq_getElem hl]; rfl
   rw [← htk, List.getElem?_take_of_lt hk] at h3
   rw [← htk]
   simpa using h3
  ·have hi' : i < sz := by
    rw [List.getD_eq_getElem?_getD, List.getElem?_eq_getElem hj, Option.getD_some, hr.1 _ (List.getElem_mem hj)] at hi; exact hi
   have hk : j * sz + i < els.length * sz := by
    have : (j + 1) * sz ≤ els.length * sz := Nat.mul_le_mul_right _ (by omega)
    rw [Nat.succ_mul] at this; omega
   have := hr.2.2 (j * sz + i) (by rw [flat_len hr.1]; exact hk)
   rw [flat_at hr.1 hj hi'] at this
   exact this

/-- Where the first error is, and which. -/
def dT : Tk := ⟨0, [], 0, 0⟩
def posOf (TL : List Tk) (E r : Nat) : Nat := if r = 0 then E else (TL.getD (TL.length - r) dT).at'
def atOf (TL : List Tk) (E : Nat) : Option (Int × Nat) → Nat
 | none => 0
 | some (_, r) => posOf TL E r
def errOf : Option (Int × Nat) → Int
 | none => 0
 | some (e, _) => e
/-- The parser's box at block q: what is left of the tokens TL, the text's length E. -/
structure ParAt (q : Nat) (TL : List Tk) (E : Nat) (w : World) (s : PSt) : Prop where
 ex : ∃ A cap K, K.map keyT = s.L ∧ K <:+ TL ∧ K.length ≤ cap ∧ cap ≤ maxLen ∧ ToksAt q w A K ∧
  w.heap[q]? = some (.cells #[.slice A K.length cap, .int .i64 E, .int .i64 s.d, .int .i64 (atOf TL E s.b), .int .i64 (errOf s.b)] 125 (0, 0))
 wf : Wf s
 er : ∀ e k, s.b = some (e, k) → e ≠ 0
theorem ParAt.lt {q : Nat} {TL : List Tk} {E : Nat} {w : World} {s : PSt} (h : ParAt q TL E w s) : q < w.heap.size := by
 obtain ⟨A, cap, K, _, _, _, _, _, hb⟩ := h.ex
 rcases Nat.lt_or_ge q w.heap.size with h' | h'
 ·exact h'
 ·simp [Array.getElem?_eq_none h'] at hb
theorem ParAt.below {q : Nat} {TL : List Tk} {E : Nat} {w w' : World} {s : PSt} (h : ParAt q TL E w s) (hb : Below (q + 1) w w') : ParAt q TL E w' s := by
 obtain ⟨A, cap, K, h1, h2, h3, h4, h5, h6⟩ := h.ex
 exact ⟨⟨A, cap, K, h1, h2, h3, h4, h5.below (hb.mono (Nat.le_succ _)), (hb.block q (Nat.lt_succ_self _)).trans h6⟩, h.wf, h.er⟩
theorem ParAt.on {q : Nat} {TL : List Tk} {E : Nat} {w w' : World} {s : PSt} (h : ParAt q TL E w s) (hb : Below w.heap.size w w') : ParAt q TL E w' s := h.below (hb.mono h.lt)
theorem ParAt.alloc {q : Nat} {TL : List Tk} {E : Nat} {w : World} {s : PSt} (h : ParAt q TL E w s) (o : Obj) : ParAt q TL E (w.alloc o) s := h.on (Joins.below_alloc1 w o)
theorem ParAt.put {q : Nat} {TL : List Tk} {E : Nat} {w : World} {s : PSt} (h : ParAt q TL E w s) {p : Addr} (hp : q < p.block) (v : Value) : ParAt q TL E (w.setCell p v) s := h.below ((Below.refl _ _).setCell hp _)
end Go.Proofs.YtljoajjlkjjgeaaGreatDoor
namespace Go.Proofs.YtljoajjlkjjgeaaGreatDoor
open Go.RowKit Go.Sort LM Go

/-- A type of so many cells, whose values are aggregates. -/
structure Big (t : TypeId) (n : Nat) : Prop where
 und : Tryz.prog.underlying t = some (.struct (Tryz.prog.fieldsOf t))
 size : (Tryz.prog.info? t).map (·.size) = some n
/-- Block r is a box of this type. -/
def BoxAt (r : Nat) (t : TypeId) (n : Nat) (w : World) : Prop := ∃ old : Array Value, w.heap[r]? = some (.cells old t (0, 0)) ∧ old.size = n
/-- Block r is a box that holds this. -/
abbrev HoldB (r : Nat) (t : TypeId) (vs : List Value) (w : World) : Prop := w.heap[r]? = some (.cells vs.toArray t (0, 0))
theorem BoxAt.lt {r n : Nat} {t : TypeId} {w : World} (h : BoxAt r t n w) : r < w.heap.size := by
 obtain ⟨o, h, _⟩ := h
 exact (Array.getElem?_eq_some_iff.1 h).1
theorem BoxAt.turn {q r n : Nat} {t : TypeId} {w w' : World} (h : BoxAt r t n w) (k : Turn q w w') (hq : q < r) : BoxAt r t n w' := by
 have := h.lt
 obtain ⟨o, h, hn⟩ := h
 exact ⟨o, (k.blk hq this).trans h, hn⟩
theorem holds_turn {q r : Nat} {t : TypeId} {vs : List Value} {w w' : World} (h : HoldB r t vs w) (k : Turn q w w') (hq : q < r) : HoldB r t vs w' := (k.blk hq (Array.getElem?_eq_some_iff.1 h).1).trans h
theorem holds_box {r n : Nat} {t : TypeId} {vs : List Value} {w : World} (h : HoldB r t vs w) (hn : vs.length = n) : BoxAt r t n w := ⟨_, h, by simpa using hn⟩
theorem box_new (w : World) (t : TypeId) (o : Array Value) {n : Nat} (hn : o.size = n) : BoxAt w.heap.size t n (w.alloc (.cells o t)) := ⟨o, heap_alloc_last _ _, hn⟩
theorem set_row {w : World} {r : Nat} {t : TypeId} {o : Array Value} (c : Array Value) (h : w.heap[r]? = some (.cells o t (0, 0))) : (w.setRow r c).heap[r]? = some (.cells c t (0, 0)) := by
 simp only [World.setRow, Array.getElem?_modify, if_true, h]; rfl
theorem set_row_other (w : World) {r b : Nat} (c : Array Value) (h : b ≠ r) : (w.setRow r c).heap[b]? = w.heap[b]? := by
 simp only [World.setRow, Array.getElem?_modify]
 rw [if_neg (by omega)]
theorem set_row_size (w : World) (r : Nat) (c : Array Value) : (w.setRow r c).heap.size = w.heap.size := by simp [World.setRow]
theorem Turn.row {q r : Nat} {a w : World} (h : Turn q a w) (hr : a.heap.size ≤ r) (c : Array Value) : Turn q a (w.setRow r c) :=
 ⟨h.os, h.tape, h.output, by rw [set_row_size]; exact h.size, fun k hk hn => (set_row_other _ _ (by omega)).trans (h.block k hk hn)⟩
theorem ParAt.row {q r : Nat} {TL : List Tk} {E : Nat} {w : World} {s : PSt} (h : ParAt q TL E w s) (hr : q < r) (c : Array Value) : ParAt q TL E (w.setRow r c) s :=
 h.below ⟨rfl, rfl, rfl, by rw [set_row_size]; exact Nat.le_refl _, fun k hk => set_row_other _ _ (by omega)⟩
theorem Stay.row {P : Nat → Prop} (w : World) {r : Nat} (c : Array Value) (hP : ¬ P r) : Stay P P w (w.setRow r c) := ⟨fun _ _ h => h, by rw [set_row_size]; exact Nat.le_refl _, fun b hb _ => set_row_other _ _ (by rintro rfl; exact hP hb)⟩
theorem run_loadBig {w : World} {r n : Nat} {t : TypeId} {vs : List Value} (hB : Big t n) (hn : vs.length = n) (h : HoldB r t vs w) : (loadVar t ⟨r, 0, none⟩).run Tryz.prog w = .ok (.agg vs.toArray) w := by
 have hl : (loadCells ⟨r, 0, none⟩ vs.length).run Tryz.prog w = .ok vs.toArray w :=
  run_loadCells_list (P := Tryz.prog) w ⟨r, 0, none⟩ vs (fun j v hv => by
   have hadd : (⟨r, 0, none⟩ : Addr).add j = ⟨r, j, none⟩ := by unfold Addr.add; split <;> simp_all
   rw [hadd, Lib.cell_of_heap h]; simpa using hv)
 have hq := hB.size
 cases hi : Tryz.prog.info? t with
 | none => rw [hi] at hq; cases hq
 | some i =>
  rw [hi] at hq
  have hs : i.size = vs.length := by rw [hn]; simpa using hq
  have hagg : (isAgg t).run Tryz.prog w = .ok true w := by
   unfold isAgg
   rw [Sem.run_bind, run_underlying hB.und w]
   simp
  simp [loadVar, Sem.run_bind, hagg, sizeOf, typeInfo, hi, hs, hl]
/-- What a function with one boxed result tells. -/
theorem results_big {fn : Func} {k r n : Nat} {t : TypeId} {vs : List Value} {w : World} {tmps : Array Value} (hf : fn.results = #[.cell k t]) (ht : tmps.getD k undef = .pointer (some ⟨r, 0, none⟩)) (hB : Big t n) (hn : vs.length = n) (h : HoldB r t vs w) :
  (results fn tmps).run Tryz.prog w = .ok (.agg vs.toArray) w := by
 have h2 := run_loadBig hB hn h
 have h3 : tmps[k]?.getD undef = .pointer (some ⟨r, 0, none⟩) := by simpa using ht
 unfold results
 rw [hf]
 simp [h3, asAddr, h2]
section
variable {ops : Array Oper} {rest : List Oper} {o : Oper} {a : Act} {w : World} {Q : Exit → Act → World → Prop}
theorem wpList_loadBig (hgd : o.guard = none) (t : TypeId) (x : Operand) (ho : o.op = .load t x) (r n : Nat) (vs : List Value) (hB : Big t n) (hn : vs.length = n) (hx : a.eval x = .pointer (some ⟨r, 0, none⟩)) (hp : HoldB r t vs w)
  (h : wpList Tryz.prog ops Q rest (a.put o.dst (.agg vs.toArray)) w) : wpList Tryz.prog ops Q (o :: rest) a w :=
 wpList_plain hgd fun _ hK => by
  unfold Oper.wp execOp
  simp only [ho, hx, Instr.loadAt, Instr.sureAddr, Sem.run_bind, Sem.run_pure, Result.andThen_ok, run_loadBig hB hn hp]
  exact hK _ _ h
theorem wpList_storeBig (hgd : o.guard = none) (t : TypeId) (x y : Operand) (ho : o.op = .store t x y) (r n : Nat) (vs : List Value) (hB : Big t n) (hn : vs.length = n) (h1 : ∀ u ∈ vs, u.oneCell' = true) (hx : a.eval x = .pointer (some ⟨r, 0, none⟩)) (hy : a.eval y = .agg vs.toArray)
  (hp : BoxAt r t n w) (h : wpList Tryz.prog ops Q rest (a.put o.dst undef) (w.setRow r vs.toArray)) : wpList Tryz.prog ops Q (o :: rest) a w :=
 wpList_plain hgd fun _ hK => by
  obtain ⟨old, hb, hz⟩ := hp
  have hs := run_storeVar_row (P := Tryz.prog) w r t t old vs.toArray hb (by rw [hB.size]; simp [hn]) (by simp [hn, hz]) (by simpa using h1)
  unfold Oper.wp execOp
  simp only [ho, hx, hy, Instr.storeAt, Instr.sureAddr, Sem.run_bind, Sem.run_pure, Result.andThen_ok, hs]
  exact hK _ _ h
end
theorem big_expr : Big 36 7 := ⟨by kernel_rfl, by kernel_rfl⟩
theorem big_plan : Big 41 16 := ⟨by kernel_rfl, by kernel_rfl⟩
theorem big_tok : Big 134 4 := ⟨by kernel_rfl, by kernel_rfl⟩
end Go.Proofs.YtljoajjlkjjgeaaGreatDoor
namespace Go.Proofs.YtljoajjlkjjgeaaGreatDoor
open Go.RowKit Go.Sort LM

abbrev pP (q : Nat) : Value := .pointer (some ⟨q, 0, none⟩)
abbrev bx (A : Option Addr) (n cap : Nat) (E d a e : Int) : Array Value := #[.slice A n cap, .int .i64 E, .int .i64 d, .int .i64 a, .int .i64 e]
theorem blk_cell {w : World} {q : Nat} {A : Option Addr} {n cap : Nat} {E d a e : Int} {t : TypeId} (h : w.heap[q]? = some (.cells (bx A n cap E d a e) t (0, 0))) :
  w.cell? ⟨q, 0, none⟩ = some (.slice A n cap) ∧ w.cell? ⟨q, 1, none⟩ = some (.int .i64 E) ∧ w.cell? ⟨q, 2, none⟩ = some (.int .i64 d) ∧ w.cell? ⟨q, 3, none⟩ = some (.int .i64 a) ∧ w.cell? ⟨q, 4, none⟩ = some (.int .i64 e) ∧ (∀ i, w.frozen? ⟨q, i, none⟩ = false) ∧ q < w.heap.size :=
 ⟨Lib.cell_of_heap h 0, Lib.cell_of_heap h 1, Lib.cell_of_heap h 2, Lib.cell_of_heap h 3, Lib.cell_of_heap h 4, Lib.frozen_of_heap h, (Array.getElem?_eq_some_iff.1 h).1⟩
/-- What a step of the parser tells and leaves. -/
def StepTo (q : Nat) (TL : List Tk) (E : Nat) (w : World) (v : Value) (s : PSt) (e : Ending) (w' : World) : Prop := e = .returned v ∧ ParAt q TL E w' s ∧ Turn q w w'
theorem tokK_at {q : Nat} {w : World} {A : Option Addr} {K : List Tk} (h : ToksAt q w A K) {j : Nat} (hj : j < K.length) {x : Tk} (hx : K[j] = x) : ∃ b off, A = some ⟨b, off, none⟩ ∧ b < q ∧ w.cell? ⟨b, off + j * 4, none⟩ = some (.int .i64 x.k) ∧ w.cell? ⟨b, off + j * 4 + 1, none⟩ = some (txt x.t) ∧ w.cell? ⟨b, off + j * 4 + 2, none⟩ = some (.int .i64 x.n) ∧ w.cell? ⟨b, off + j * 4 + 3, none⟩ = some (.int .i64 (x.at' : Nat)) := by
 subst hx; exact h j hj
theorem ToksAt.tail {q : Nat} {w : World} {b off : Nat} {x : Tk} {K : List Tk} (h : ToksAt q w (some ⟨b, off, none⟩) (x :: K)) : ToksAt q w (some ⟨b, off + 4, none⟩) K := fun j hj => by
 obtain ⟨b', off', e, hlt, h0, h1, h2, h3⟩ := h (j + 1) (by simpa using hj)
 injection e with e
 injection e with e1 e2
 subst e1; subst e2
 have q0 : off + (j + 1) * 4 = off + 4 + j * 4 := by omega
 rw [q0] at h0 h1 h2 h3
 exact ⟨b, off + 4, rfl, hlt, h0, h1, h2, h3⟩
theorem pos_suffix {K TL : List Tk} (h : K <:+ TL) (E : Nat) : posOf TL E K.length = (match K with | [] => E | x :: _ => x.at') := by
 obtain ⟨M, rfl⟩ := h
 cases K with
 | nil => rfl
 | cons x r =>
  unfold posOf
  rw [if_neg (by simp), List.length_append, show M.length + (x :: r).length - (x :: r).length = M.length by omega, List.getD_eq_getElem?_getD, List.getElem?_append_right (Nat.le_refl _)]
  simp
set_option maxHeartbeats 2000000 in
theorem fail_any {q : Nat} {TL : List Tk} {E : Nat} {s : PSt} (k : Int) (hk : k ≠ 0) (w : World) (H : ParAt q TL E w s) :
  Calls Tryz.prog 55 #[pP q, .int .i64 k] w (StepTo q TL E w (.tuple #[]) (failS k s)) := by
 unfold StepTo
 have HH := hide H
 obtain ⟨A, cap, K, hK, hsuf, hle, hm, hT, hbx⟩ := H.ex
 have hwf := H.wf
 have her := H.er
 clear H
 cases hb : s.b with
 | some x =>
  obtain ⟨e0, r0⟩ := x
  have hR : failS k s = s := by unfold failS; rw [hb]
  have hne : (e0 != 0) = true := by simpa using her e0 r0 hb
  rw [hb] at hbx
  obtain ⟨c0, c1, c2, c3, c4, cf, cq⟩ := blk_cell hbx
  simp only [errOf] at c4
  have HR := hide hR
  clear hbx hwf her hb hK hsuf hT hle hm hR c0 c1 c2 c3
  go_enter Tryz.func55, Tryz.ntmps55
  go_wp2_with fail
  refine bodyPost_ret (results_none rfl _ _ _) rfl ?_
  rw [HR.out]
  exact ⟨rfl, HH.out, Turn.refl _ _⟩
 | none =>
  have hR : failS k s = ⟨[], s.d, some (k, K.length)⟩ := by unfold failS; rw [hb]; simp only; rw [← hK, List.length_map]
  have HR := hide hR
  have hne : ((0 : Int) != 0) = false := rfl
  rw [hb] at hbx
  simp only [errOf, atOf] at hbx
  have hp := pos_suffix hsuf E
  have HX : Hid (∀ a : Nat, a = posOf TL E K.length → ∀ w', w'.heap[q]? = some (.cells (bx none 0 0 E s.d a k) 125 (0, 0)) → ParAt q TL E w' ⟨[], s.d, some (k, K.length)⟩) := hide (fun a ha w' h => by
   subst ha
   refine ⟨⟨none, 0, [], rfl, List.nil_suffix, Nat.le_refl _, Nat.zero_le _, ToksAt.nil _ _ _, h⟩, fun _ => rfl, fun e r h2 => ?_⟩
   injection h2 with h2
   injection h2 with h2 h3
   exact h2 ▸ hk)
  have HBX := hide hbx
  obtain ⟨c0, c1, c2, c3, c4, cf, cq⟩ := blk_cell hbx
  cases K with
  | nil =>
   simp only at hp
   have HP := hide hp
   clear hbx hwf her hb hK hsuf hT hle hm hR HH hp hk
   simp only [List.length_nil] at c0 HBX
   go_enter Tryz.func55, Tryz.ntmps55
   go_wp2_with fail
   refine bodyPost_end (results_none rfl _ _ _) rfl ?_
   rw [HR.out]
   exact ⟨rfl, HX.out E HP.out.symm _ (Joins.block_setCell (i := 0) (Joins.block_setCell (i := 3) (Joins.block_setCell (i := 4) HBX.out _) _) _), (((Turn.refl _ _).set _ _).set _ _).set _ _⟩
  | cons x r =>
   simp only at hp
   have HP := hide hp
   obtain ⟨b, off, rfl, hlt, -, -, -, t3⟩ := tokK_at hT (j := 0) (by simp) (x := x) rfl
   have hbq : ¬ b = q := by omega
   have hlen : (0 : Int) < ((x :: r).length : Nat) := by simp
   have hcap : ((x :: r).length : Int) ≤ 9223372036854775807 := by unfold maxLen at hm; omega
   generalize hn : (x :: r).length = n at *
   have hn0 : 0 < n := by omega
   clear hbx hwf her hb hK hsuf hT hle hm hR HH hp hk hn
   simp only [Nat.zero_mul, Nat.add_zero] at t3
   go_enter Tryz.func55, Tryz.ntmps55
   go_wp2_with fail
   refine bodyPost_end (results_none rfl _ _ _) rfl ?_
   rw [HR.out]
   exact ⟨rfl, HX.out x.at' HP.out.symm _ (Joins.block_setCell (i := 0) (Joins.block_setCell (i := 3) (Joins.block_setCell (i := 3) (Joins.block_setCell (i := 4) HBX.out _) _) _) _), ((((Turn.refl _ _).set _ _).set _ _).set _ _).set _ _⟩
abbrev tok3 (t : T3) (a : Int) : Value := .agg #[.int .i64 t.1, txt t.2.1, .int .i64 t.2.2, .int .i64 a]
/-- A token is told. -/
def TokTo (q : Nat) (TL : List Tk) (E : Nat) (w : World) (t : T3) (s : PSt) (e : Ending) (w' : World) : Prop := (∃ a : Int, e = .returned (tok3 t a)) ∧ ParAt q TL E w' s ∧ Turn q w w'
theorem ahead_of {s : PSt} {K : List Tk} (h : K.map keyT = s.L) (i : Nat) : aheadS i s = if h : i < K.length then keyT K[i] else (0, [], 0) := by
 unfold aheadS
 rw [← h, List.getD_eq_getElem?_getD, List.getElem?_map]
 split
 ·rename_i h; rw [List.getElem?_eq_getElem h]; rfl
 ·rename_i h; rw [List.getElem?_eq_none (by omega)]; rfl
set_option maxHeartbeats 2000000 in
theorem aheadI_any {q : Nat} {TL : List Tk} {E : Nat} {s : PSt} (i : Nat) (hi : i ≤ 1) (w : World) (H : ParAt q TL E w s) :
  Calls Tryz.prog 67 #[pP q, .int .i64 i] w fun e w' => (∃ a : Int, e = .returned (tok3 (aheadS i s) a)) ∧ Below w.heap.size w w' := by
 obtain ⟨A, cap, K, hK, hsuf, hle, hm, hT, hbx⟩ := H.ex
 obtain ⟨c0, c1, c2, c3, c4, cf, cq⟩ := blk_cell hbx
 have hA := ahead_of hK i
 by_cases hlt : i < K.length
 ·rw [dif_pos hlt] at hA
  obtain ⟨b, off, rfl, hb, t0, t1, t2, t3⟩ := tokK_at hT hlt rfl
  have hbq : b < w.heap.size := by omega
  have hcap : (K.length : Int) ≤ 9223372036854775807 := by unfold maxLen at hm; omega
  rw [hA]
  have hl : (i : Int) < (K.length : Nat) := by omega
  have hl2 : ¬ ((K.length : Nat) : Int) ≤ (i : Int) := by omega
  have h0 : (0 : Int) ≤ (i : Int) := by omega
  generalize K[i] = x at *
  clear hA hK hsuf hT hbx c1 c2 c3 c4 hm hle H
  generalize K.length = n at *
  go_enter Tryz.func67, Tryz.ntmps67
  go_wp2_with fail
  refine bodyPost_ret (v := tok3 (keyT x) (x.at' : Nat)) (by simp [results, Tryz.results67, go_sem]) rfl ?_
  exact ⟨⟨_, rfl⟩, by go_grown⟩
 ·rw [dif_neg hlt] at hA
  rw [hA]
  have hl : ((K.length : Nat) : Int) ≤ (i : Int) := by omega
  clear hA hK hsuf hT hbx c1 c2 c3 c4 H
  generalize K.length = n at *
  go_enter Tryz.func67, Tryz.ntmps67
  go_wp2_with fail
  refine bodyPost_ret (v := tok3 (0, [], 0) 0) (by simp [results, Tryz.results67, go_sem]) rfl ?_
  exact ⟨⟨0, rfl⟩, by go_grown⟩
theorem ba_eq (x y : List UInt8) : ((ba x).toList == (ba y).toList) = (x == y) := by
 rw [Lib.toList_data, Lib.toList_data]
 show (x.toArray.toList == y.toArray.toList) = _
 rw [List.toList_toArray, List.toList_toArray]
set_option maxHeartbeats 2000000 in
theorem is_any (t : T3) (a : Int) (x : List UInt8) (w : World) :
  Calls Tryz.prog 66 #[tok3 t a, .string (ba x)] w fun e w' => e = .returned (.bool (isT t x)) ∧ Below w.heap.size w w' := by
 obtain ⟨k, u, n⟩ := t
 have HQ := hide (ba_eq u x)
 have hR : isT (k, u, n) x = ((k == 1 || k == 4) && u == x) := rfl
 show Calls Tryz.prog 66 #[.agg #[.int .i64 k, .string (ba u), .int .i64 n, .int .i64 a], .string (ba x)] w _
 have HR := hide hR
 clear hR
 generalize isT (k, u, n) x = R at *
 cases h1 : (k == 1) <;> cases h4 : (k == 4) <;> cases hq : ((ba u).toList == (ba x).toList)
 all_goals
  have HV := hide (HR.out.trans (by rw [h1, h4, ← HQ.out, hq]))
  clear HR HQ
  simp only [Bool.or_false, Bool.or_true, Bool.and_true, Bool.and_false] at HV
  go_enter Tryz.func66, Tryz.ntmps66
  go_wp2_with fail
  go_ret
  exact ⟨ret_bool (by rw [HV.out]), by go_grown⟩
theorem BoxAt.set {r n : Nat} {t : TypeId} {w : World} (h : BoxAt r t n w) {q : Nat} (hq : q ≠ r) (i : Nat) (v : Value) : BoxAt r t n (w.setCell ⟨q, i, none⟩ v) := by
 obtain ⟨o, h, hn⟩ := h
 exact ⟨o, (Below.heap_setCell _ _ _ _ (by simpa using hq.symm)).trans h, hn⟩
theorem holds_set {q r : Nat} {t : TypeId} {vs : List Value} {w : World} (h : HoldB r t vs w) (hq : q ≠ r) (i : Nat) (v : Value) : HoldB r t vs (w.setCell ⟨q, i, none⟩ v) := (Below.heap_setCell _ _ _ _ (by simpa using hq.symm)).trans h
set_option maxHeartbeats 4000000 in
theorem take_any {q : Nat} {TL : List Tk} {E : Nat} {s : PSt} (w : World) (H : ParAt q TL E w s) :
  Calls Tryz.prog 71 #[pP q] w (TokTo q TL E w (takeS s).1 (takeS s).2) := by
 unfold TokTo
 have HTK := hide (show takeS s = (aheadS 0 (deepS s), if (aheadS 0 (deepS s)).1 = 0 then deepS s else ⟨(deepS s).L.tail, (deepS s).d, (deepS s).b⟩) from rfl)
 obtain ⟨A0, cap0, K0, -, -, -, -, -, hb0⟩ := H.ex
 obtain ⟨c0, c1, c2, c3, c4, cf, cq⟩ := blk_cell hb0
 have hd : deepS s = if 32 < s.d then failS 52 s else s := rfl
 generalize deepS s = s1 at *
 have HTail : ∀ w1, ParAt q TL E w1 s1 → Hid (∀ w2 : World, ParAt q TL E w2 s1 → (aheadS 0 s1).1 ≠ 0 → ∃ b off n cap, w2.cell? ⟨q, 0, none⟩ = some (.slice (some ⟨b, off, none⟩) n cap) ∧ 1 ≤ n ∧ n ≤ cap ∧ cap ≤ maxLen ∧ b < q ∧ ∀ A : Option Addr, (2 ≤ n → A = some ⟨b, off + 4, none⟩) → ParAt q TL E (w2.setCell ⟨q, 0, none⟩ (.slice A (n - 1) (cap - 1))) ⟨s1.L.tail, s1.d, s1.b⟩) := fun w1 _ => hide (fun w2 H2 hne => by
  obtain ⟨A, cap, K, hK, hsuf, hle, hm, hT, hbx⟩ := H2.ex
  have hA := ahead_of hK 0
  cases K with
  | nil => rw [dif_neg (by simp)] at hA; rw [hA] at hne; exact absurd rfl hne
  | cons x r =>
   obtain ⟨b, off, rfl, hlt, -⟩ := tokK_at hT (j := 0) (by simp) (x := x) rfl
   refine ⟨b, off, (x :: r).length, cap, (blk_cell hbx).1, by simp, hle, hm, hlt, fun A hA2 => ?_⟩
   have hn : s1.b = none := by
    cases hb : s1.b with
    | none => rfl
    | some z => have := H2.wf (by rw [hb]; simp); rw [← hK] at this; cases this
   refine ⟨⟨A, cap - 1, r, by rw [← hK]; rfl, (List.suffix_cons x r).trans hsuf, by simp at hle; omega, by omega, ?_, ?_⟩, fun hc => absurd hn hc, H2.er⟩
   ·have := hT.tail
    refine ToksAt.below (w := w2) ?_ ((Below.refl q w2).setCell (Nat.le_refl _) _)
    cases r with
    | nil => exact ToksAt.nil _ _ _
    | cons y t => rw [hA2 (by simp)]; exact this
   ·have := Joins.block_setCell (i := 0) hbx (.slice A ((x :: r).length - 1) (cap - 1))
    simpa using this)
 generalize takeS s = R at *
 have cq' : q < w.heap.size := cq
 have HW0 := hide (show ∃ W0, W0 = w.alloc (.cells #[.int .i64 0, .string ⟨#[]⟩, .int .i64 0, .int .i64 0] 134) from ⟨_, rfl⟩)
 obtain ⟨W0, hW0⟩ := HW0.out
 have H0 := hide (show ParAt q TL E W0 s by rw [hW0]; exact H.alloc _)
 have HT0 := hide (show Turn q w W0 by rw [hW0]; exact (Turn.refl _ _).alloc _)
 have HB0 := hide (show BoxAt w.heap.size 134 4 W0 by rw [hW0]; exact box_new _ _ _ rfl)
 clear HW0
 have HW0 := hide hW0
 clear hW0
 have HF := hide (fun (_ : 32 < s.d) => fail_any 52 (by decide) W0 H0.out)
 by_cases hdp : 32 < s.d
 ·rw [if_pos hdp] at hd
  rw [← hd] at HF
  have hgt : (32 : Int) < s.d := hdp
  clear hb0 c0 c1 c3 c4 H
  go_enter Tryz.func71, Tryz.ntmps71
  go_wp2_with fail
  rw [← HW0.out]
  refine (HF.out hdp).mono ?_
  rintro e w1 ⟨rfl, h1, ht1⟩
  have H1 := hide h1
  have HT1 := hide (HT0.out.trans ht1)
  have HB1 := hide (HB0.out.turn ht1 cq)
  clear h1 ht1 HF HB0 H0 HT0 hdp hgt
  have HA := hide (aheadI_any 0 (by decide) w1 H1.out)
  have HS := hide ((HTail w1 H1.out).out)
  clear HTail hd
  go_wp2_with fail
  refine HA.out.mono ?_
  rintro e w2 ⟨⟨a, rfl⟩, hb2⟩
  have H2 := hide (H1.out.on hb2)
  have HT2 := hide (HT1.out.on hb2)
  have HB2 := hide (HB1.out.turn (Turn.of hb2) cq)
  clear hb2 HA H1 HT1 HB1
  generalize aheadS 0 s1 = t at *
  obtain ⟨tk, tt, tn⟩ := t
  obtain ⟨W, hW⟩ : ∃ W, W = (w2.alloc (.cells #[.int .i64 tk, txt tt, .int .i64 tn, .int .i64 a] 134)) := ⟨_, rfl⟩
  have HW := hide hW
  have H3 := hide (show ParAt q TL E W s1 by rw [hW]; exact H2.out.alloc _)
  have HT3 := hide (show Turn q w W by rw [hW]; exact HT2.out.alloc _)
  have HB3 := hide (show BoxAt w.heap.size 134 4 W by rw [hW]; exact HB2.out.turn ((Turn.refl q _).alloc _) cq)
  have x0 : W.cell? ⟨w2.heap.size, 0, none⟩ = some (.int .i64 tk) := by rw [hW]; simp
  have hqs : w.heap.size < w2.heap.size := HB2.out.lt
  have hld := hide (show HoldB w2.heap.size 134 [.int .i64 tk, txt tt, .int .i64 tn, .int .i64 a] W by rw [hW]; exact heap_alloc_last _ _)
  have hqr : q < w2.heap.size := by omega
  clear H2 HT2 HB2 hW
  by_cases hk : tk = 0
  ·have hR : R = ((tk, tt, tn), s1) := by rw [HTK.out, if_pos hk]
   have hne : (tk != 0) = false := by simpa using hk
   have HR := hide hR
   clear HS HTK hR hk
   go_wp2_with (first | rw [← HW.out] | (refine wpList_loadBig rfl 134 _ rfl w2.heap.size 4 [.int .i64 tk, txt tt, .int .i64 tn, .int .i64 a] big_tok rfl rfl hld.out ?_) | (refine wpList_storeBig rfl 134 _ _ rfl w.heap.size 4 [.int .i64 tk, txt tt, .int .i64 tn, .int .i64 a] big_tok rfl (by simp [Value.oneCell']) rfl rfl HB3.out ?_))
   refine bodyPost_ret (v := tok3 (tk, tt, tn) a) (results_big rfl rfl big_tok rfl (set_row _ HB3.out.choose_spec.1)) rfl ?_
   rw [HR.out]
   exact ⟨⟨a, rfl⟩, H3.out.row cq _, HT3.out.row (Nat.le_refl _) _⟩
  ·have hR : R = ((tk, tt, tn), ⟨s1.L.tail, s1.d, s1.b⟩) := by rw [HTK.out, if_neg hk]
   have hne : (tk != 0) = true := by simpa using hk
   obtain ⟨b, off, n, cap, k0, hn1, hnc, hcm, hbq, HP⟩ := HS.out W H3.out hk
   have HR := hide hR
   have HPP := hide HP
   have hqW : q < W.heap.size := H3.out.lt
   have fr : W.frozen? ⟨q, 0, none⟩ = false := (blk_cell H3.out.ex.choose_spec.choose_spec.choose_spec.2.2.2.2.2).2.2.2.2.2.1 0
   clear HS HTK hR hk HP
   have g1 : (1 : Int) ≤ (n : Int) := by omega
   have g2 : (n : Int) ≤ (cap : Int) := by omega
   have g3 : (cap : Int) ≤ 9223372036854775807 := by unfold maxLen at hcm; omega
   go_wp2_with (first | rw [← HW.out] | (refine wpList_loadBig rfl 134 _ rfl w2.heap.size 4 [.int .i64 tk, txt tt, .int .i64 tn, .int .i64 a] big_tok rfl rfl (holds_set hld.out (by omega) _ _) ?_) | (refine wpList_storeBig rfl 134 _ _ rfl w.heap.size 4 [.int .i64 tk, txt tt, .int .i64 tn, .int .i64 a] big_tok rfl (by simp [Value.oneCell']) rfl rfl (HB3.out.set (by omega) _ _) ?_))
   ·subst h
    refine bodyPost_ret (v := tok3 (tk, tt, tn) a) (results_big rfl rfl big_tok rfl (set_row _ (HB3.out.set (by omega) _ _).choose_spec.1)) rfl ?_
    rw [HR.out]
    exact ⟨⟨a, rfl⟩, (HPP.out (some ⟨b, off, none⟩) (fun h => by omega)).row cq _, (HT3.out.set _ _).row (Nat.le_refl _) _⟩
   ·refine bodyPost_ret (v := tok3 (tk, tt, tn) a) (results_big rfl rfl big_tok rfl (set_row _ (HB3.out.set (by omega) _ _).choose_spec.1)) rfl ?_
    rw [HR.out]
    exact ⟨⟨a, rfl⟩, (HPP.out (some ⟨b, off + 4, none⟩) (fun _ => rfl)).row cq _, (HT3.out.set _ _).row (Nat.le_refl _) _⟩
 ·rw [if_neg hdp] at hd
  have hgt : s.d ≤ (32 : Int) := by omega
  rw [← hd] at H0
  clear hb0 c0 c1 c3 c4 H HF hdp
  go_enter Tryz.func71, Tryz.ntmps71
  go_wp2_with fail
  rw [← HW0.out]
  have HA := hide (aheadI_any 0 (by decide) W0 H0.out)
  have HS := hide ((HTail W0 H0.out).out)
  clear HTail hd
  refine HA.out.mono ?_
  rintro e w2 ⟨⟨a, rfl⟩, hb2⟩
  have H2 := hide (H0.out.on hb2)
  have HT2 := hide (HT0.out.on hb2)
  have HB2 := hide (HB0.out.turn (Turn.of hb2) cq)
  clear hb2 HA H0 HT0 HB0
  generalize aheadS 0 s1 = t at *
  obtain ⟨tk, tt, tn⟩ := t
  obtain ⟨W, hW⟩ : ∃ W, W = (w2.alloc (.cells #[.int .i64 tk, txt tt, .int .i64 tn, .int .i64 a] 134)) := ⟨_, rfl⟩
  have HW := hide hW
  have H3 := hide (show ParAt q TL E W s1 by rw [hW]; exact H2.out.alloc _)
  have HT3 := hide (show Turn q w W by rw [hW]; exact HT2.out.alloc _)
  have HB3 := hide (show BoxAt w.heap.size 134 4 W by rw [hW]; exact HB2.out.turn ((Turn.refl q _).alloc _) cq)
  have x0 : W.cell? ⟨w2.heap.size, 0, none⟩ = some (.int .i64 tk) := by rw [hW]; simp
  have hqs : w.heap.size < w2.heap.size := HB2.out.lt
  have hld := hide (show HoldB w2.heap.size 134 [.int .i64 tk, txt tt, .int .i64 tn, .int .i64 a] W by rw [hW]; exact heap_alloc_last _ _)
  have hqr : q < w2.heap.size := by omega
  clear H2 HT2 HB2 hW
  by_cases hk : tk = 0
  ·have hR : R = ((tk, tt, tn), s1) := by rw [HTK.out, if_pos hk]
   have hne : (tk != 0) = false := by simpa using hk
   have HR := hide hR
   clear HS HTK hR hk
   go_wp2_with (first | rw [← HW.out] | (refine wpList_loadBig rfl 134 _ rfl w2.heap.size 4 [.int .i64 tk, txt tt, .int .i64 tn, .int .i64 a] big_tok rfl rfl hld.out ?_) | (refine wpList_storeBig rfl 134 _ _ rfl w.heap.size 4 [.int .i64 tk, txt tt, .int .i64 tn, .int .i64 a] big_tok rfl (by simp [Value.oneCell']) rfl rfl HB3.out ?_))
   refine bodyPost_ret (v := tok3 (tk, tt, tn) a) (results_big rfl rfl big_tok rfl (set_row _ HB3.out.choose_spec.1)) rfl ?_
   rw [HR.out]
   exact ⟨⟨a, rfl⟩, H3.out.row cq _, HT3.out.row (Nat.le_refl _) _⟩
  ·have hR : R = ((tk, tt, tn), ⟨s1.L.tail, s1.d, s1.b⟩) := by rw [HTK.out, if_neg hk]
   have hne : (tk != 0) = true := by simpa using hk
   obtain ⟨b, off, n, cap, k0, hn1, hnc, hcm, hbq, HP⟩ := HS.out W H3.out hk
   have HR := hide hR
   have HPP := hide HP
   have hqW : q < W.heap.size := H3.out.lt
   have fr : W.frozen? ⟨q, 0, none⟩ = false := (blk_cell H3.out.ex.choose_spec.choose_spec.choose_spec.2.2.2.2.2).2.2.2.2.2.1 0
   clear HS HTK hR hk HP
   have g1 : (1 : Int) ≤ (n : Int) := by omega
   have g2 : (n : Int) ≤ (cap : Int) := by omega
   have g3 : (cap : Int) ≤ 9223372036854775807 := by unfold maxLen at hcm; omega
   go_wp2_with (first | rw [← HW.out] | (refine wpList_loadBig rfl 134 _ rfl w2.heap.size 4 [.int .i64 tk, txt tt, .int .i64 tn, .int .i64 a] big_tok rfl rfl (holds_set hld.out (by omega) _ _) ?_) | (refine wpList_storeBig rfl 134 _ _ rfl w.heap.size 4 [.int .i64 tk, txt tt, .int .i64 tn, .int .i64 a] big_tok rfl (by simp [Value.oneCell']) rfl rfl (HB3.out.set (by omega) _ _) ?_))
   ·subst h
    refine bodyPost_ret (v := tok3 (tk, tt, tn) a) (results_big rfl rfl big_tok rfl (set_row _ (HB3.out.set (by omega) _ _).choose_spec.1)) rfl ?_
    rw [HR.out]
    exact ⟨⟨a, rfl⟩, (HPP.out (some ⟨b, off, none⟩) (fun h => by omega)).row cq _, (HT3.out.set _ _).row (Nat.le_refl _) _⟩
   ·refine bodyPost_ret (v := tok3 (tk, tt, tn) a) (results_big rfl rfl big_tok rfl (set_row _ (HB3.out.set (by omega) _ _).choose_spec.1)) rfl ?_
    rw [HR.out]
    exact ⟨⟨a, rfl⟩, (HPP.out (some ⟨b, off + 4, none⟩) (fun _ => rfl)).row cq _, (HT3.out.set _ _).row (Nat.le_refl _) _⟩
end Go.Proofs.YtljoajjlkjjgeaaGreatDoor
namespace Go.Proofs.YtljoajjlkjjgeaaGreatDoor
open Go.RowKit Go.Sort LM Go

theorem fld_tok0 (k n a : Int) (t : ByteArray) (w : World) : (Instr.field 134 (.agg #[.int .i64 k, .string t, .int .i64 n, .int .i64 a]) 0).run Tryz.prog w = .ok (.int .i64 k) w := by kernel_rfl
theorem fld_tok1 (k n a : Int) (t : ByteArray) (w : World) : (Instr.field 134 (.agg #[.int .i64 k, .string t, .int .i64 n, .int .i64 a]) 1).run Tryz.prog w = .ok (.string t) w := by kernel_rfl
theorem fld_tok2 (k n a : Int) (t : ByteArray) (w : World) : (Instr.field 134 (.agg #[.int .i64 k, .string t, .int .i64 n, .int .i64 a]) 2).run Tryz.prog w = .ok (.int .i64 n) w := by kernel_rfl
attribute [local go_sem] fld_tok0 fld_tok1 fld_tok2
theorem bnot_eq (b : Bool) : (!b) = true ↔ b = false := by cases b <;> simp
set_option maxHeartbeats 4000000 in
theorem accept_any {q : Nat} {TL : List Tk} {E : Nat} {s : PSt} (x : List UInt8) (w : World) (H : ParAt q TL E w s) :
  Calls Tryz.prog 57 #[pP q, .string (ba x)] w (StepTo q TL E w (.bool (isT (aheadS 0 s) x)) (if isT (aheadS 0 s) x then (takeS s).2 else s)) := by
 unfold StepTo
 have HA := hide (aheadI_any 0 (by decide) w H)
 have HI := hide (fun a w1 => is_any (aheadS 0 s) a x w1)
 have HT := hide (fun w1 (h : ParAt q TL E w1 s) => take_any w1 h)
 have HH := hide H
 generalize (takeS s).2 = s1 at *
 generalize (takeS s).1 = t1 at *
 generalize aheadS 0 s = t at *
 clear H
 cases hb : isT t x
 all_goals
  rw [hb] at HI
  go_enter Tryz.func57, Tryz.ntmps57
  go_wp2_with fail
  refine HA.out.mono ?_
  rintro e w1 ⟨⟨a, rfl⟩, hb1⟩
  have HB1 := hide hb1
  clear hb1
  go_wp2_with fail
  refine (HI.out a w1).mono ?_
  rintro e w2 ⟨rfl, hb2⟩
  have HB2 := hide (then_below HB1.out hb2)
  clear hb2
  go_wp2_with fail
 ·go_ret
  exact ⟨rfl, HH.out.on HB2.out, Turn.of HB2.out⟩
 ·refine (HT.out _ (HH.out.on HB2.out)).mono ?_
  rintro e w3 ⟨⟨a3, rfl⟩, h3, ht3⟩
  have H3 := hide h3
  have HT3 := hide (Turn.trans (Turn.of HB2.out) ht3)
  clear h3 ht3
  go_wp2_with fail
  go_ret
  exact ⟨rfl, H3.out, HT3.out⟩
set_option maxHeartbeats 4000000 in
theorem expect_any {q : Nat} {TL : List Tk} {E : Nat} {s : PSt} (x : List UInt8) (w : World) (H : ParAt q TL E w s) :
  Calls Tryz.prog 60 #[pP q, .string (ba x)] w (StepTo q TL E w (.tuple #[]) (expectS x s)) := by
 unfold StepTo
 have HA := hide (accept_any x w H)
 have HF := hide (fun w1 (h : ParAt q TL E w1 s) => fail_any 51 (by decide) w1 h)
 have hR : expectS x s = if isT (aheadS 0 s) x then (takeS s).2 else failS 51 s := rfl
 generalize expectS x s = R at *
 generalize (takeS s).2 = s1 at *
 generalize isT (aheadS 0 s) x = b at *
 clear H
 cases b
 ·have HR := hide (hR.trans (if_neg (by simp)))
  clear hR
  go_enter Tryz.func60, Tryz.ntmps60
  go_wp2_with fail
  refine HA.out.mono ?_
  rintro e w1 ⟨rfl, h1, ht1⟩
  have H1 := hide h1
  have HT1 := hide ht1
  clear h1 ht1
  go_wp2_with fail
  refine (HF.out _ H1.out).mono ?_
  rintro e w2 ⟨rfl, h2, ht2⟩
  have H2 := hide h2
  have HT2 := hide (HT1.out.trans ht2)
  clear h2 ht2
  go_wp2_with fail
  refine bodyPost_end (results_none rfl _ _ _) rfl ?_
  rw [HR.out]
  exact ⟨rfl, H2.out, HT2.out⟩
 ·have HR := hide (hR.trans (if_pos rfl))
  clear hR
  go_enter Tryz.func60, Tryz.ntmps60
  go_wp2_with fail
  refine HA.out.mono ?_
  rintro e w1 ⟨rfl, h1, ht1⟩
  have H1 := hide h1
  have HT1 := hide ht1
  clear h1 ht1
  go_wp2_with fail
  refine bodyPost_end (results_none rfl _ _ _) rfl ?_
  rw [HR.out]
  exact ⟨rfl, H1.out, HT1.out⟩
set_option maxHeartbeats 4000000 in
set_option maxRecDepth 100000 in
theorem token_any {q : Nat} {TL : List Tk} {E : Nat} {s : PSt} (k : Int) (w : World) (H : ParAt q TL E w s) :
  Calls Tryz.prog 105 #[pP q, .int .i64 k] w (TokTo q TL E w (tokenS k s).1 (tokenS k s).2) := by
 unfold TokTo
 have cq : q < w.heap.size := H.lt
 have hR : tokenS k s = takeS (if (aheadS 0 s).1 = k then s else failS 51 s) := rfl
 have HR := hide hR
 obtain ⟨W0, hW0⟩ : ∃ W0, W0 = w.alloc (.cells #[.int .i64 0, .string ⟨#[]⟩, .int .i64 0, .int .i64 0] 134) := ⟨_, rfl⟩
 have H0 := hide (show ParAt q TL E W0 s by rw [hW0]; exact H.alloc _)
 have HT0 := hide (show Turn q w W0 by rw [hW0]; exact (Turn.refl _ _).alloc _)
 have HB0 := hide (show BoxAt w.heap.size 134 4 W0 by rw [hW0]; exact box_new _ _ _ rfl)
 have HW0 := hide hW0
 have HA := hide (aheadI_any 0 (by decide) W0 H0.out)
 have HF := hide (fun w1 (h : ParAt q TL E w1 s) => fail_any 51 (by decide) w1 h)
 have HT := hide (fun (s1 : PSt) w1 (h : ParAt q TL E w1 s1) => take_any w1 h)
 generalize tokenS k s = R at *
 generalize aheadS 0 s = t at *
 obtain ⟨tk, tt, tn⟩ := t
 clear hW0 hR H
 by_cases hk : tk = k
 ·have hne : (tk != k) = false := by simpa using hk
  have HR2 := hide (HR.out.trans (by rw [if_pos hk]))
  clear HR hk HF
  go_enter Tryz.func105, Tryz.ntmps105
  go_wp2_with fail
  rw [← HW0.out]
  refine HA.out.mono ?_
  rintro e w1 ⟨⟨a, rfl⟩, hb1⟩
  simp only [tok3]
  have H1 := hide (H0.out.on hb1)
  have HT1 := hide (HT0.out.on hb1)
  have HB1 := hide (HB0.out.turn (Turn.of hb1) cq)
  clear hb1 HB0 HT0 H0 HA
  go_wp2_with fail
  refine (HT.out _ _ H1.out).mono ?_
  rintro e w2 ⟨⟨b, rfl⟩, h2, ht2⟩
  rw [← HR2.out] at h2 ⊢
  have H2 := hide h2
  have HT2 := hide (HT1.out.trans ht2)
  have HB2 := hide (HB1.out.turn ht2 cq)
  clear h2 ht2 H1 HT1 HB1 HT HR2
  obtain ⟨⟨rk, rt, rn⟩, s2⟩ := R
  go_wp2_with (refine wpList_storeBig rfl 134 _ _ rfl w.heap.size 4 [.int .i64 rk, txt rt, .int .i64 rn, .int .i64 b] big_tok rfl (by simp [Value.oneCell']) rfl rfl HB2.out ?_)
  refine bodyPost_ret (v := tok3 (rk, rt, rn) b) (results_big rfl rfl big_tok rfl (set_row _ HB2.out.choose_spec.1)) rfl ?_
  exact ⟨⟨b, rfl⟩, H2.out.row cq _, HT2.out.row (Nat.le_refl _) _⟩
 ·have hne : (tk != k) = true := by simpa using hk
  have HR2 := hide (HR.out.trans (by rw [if_neg hk]))
  clear HR hk
  go_enter Tryz.func105, Tryz.ntmps105
  go_wp2_with fail
  rw [← HW0.out]
  refine HA.out.mono ?_
  rintro e w1 ⟨⟨a, rfl⟩, hb1⟩
  simp only [tok3]
  have H1 := hide (H0.out.on hb1)
  have HT1 := hide (HT0.out.on hb1)
  have HB1 := hide (HB0.out.turn (Turn.of hb1) cq)
  clear hb1 HB0 HT0 H0 HA
  go_wp2_with fail
  refine (HF.out _ H1.out).mono ?_
  rintro e wf ⟨rfl, hf, htf⟩
  have Hf := hide hf
  have HTf := hide (HT1.out.trans htf)
  have HBf := hide (HB1.out.turn htf cq)
  clear hf htf HT1 HB1 H1
  go_wp2_with fail
  refine (HT.out _ _ Hf.out).mono ?_
  rintro e w2 ⟨⟨b, rfl⟩, h2, ht2⟩
  rw [← HR2.out] at h2 ⊢
  have H2 := hide h2
  have HT2 := hide (HTf.out.trans ht2)
  have HB2 := hide (HBf.out.turn ht2 cq)
  clear h2 ht2 Hf HTf HBf HT HR2
  obtain ⟨⟨rk, rt, rn⟩, s2⟩ := R
  go_wp2_with (refine wpList_storeBig rfl 134 _ _ rfl w.heap.size 4 [.int .i64 rk, txt rt, .int .i64 rn, .int .i64 b] big_tok rfl (by simp [Value.oneCell']) rfl rfl HB2.out ?_)
  refine bodyPost_ret (v := tok3 (rk, rt, rn) b) (results_big rfl rfl big_tok rfl (set_row _ HB2.out.choose_spec.1)) rfl ?_
  exact ⟨⟨b, rfl⟩, H2.out.row cq _, HT2.out.row (Nat.le_refl _) _⟩
set_option maxHeartbeats 4000000 in
set_option maxRecDepth 100000 in
theorem name_any {q : Nat} {TL : List Tk} {E : Nat} {s : PSt} (w : World) (H : ParAt q TL E w s) :
  Calls Tryz.prog 70 #[pP q] w (StepTo q TL E w (.string (nameS s).1) (nameS s).2) := by
 unfold StepTo
 have HT := hide (token_any 1 w H)
 have hR : nameS s = (ba (tokenS 1 s).1.2.1, (tokenS 1 s).2) := rfl
 rw [hR]
 clear hR H
 generalize tokenS 1 s = R at *
 obtain ⟨⟨rk, rt, rn⟩, s2⟩ := R
 go_enter Tryz.func70, Tryz.ntmps70
 go_wp2_with fail
 refine HT.out.mono ?_
 rintro e w1 ⟨⟨a, rfl⟩, h1, ht1⟩
 simp only [tok3]
 have H1 := hide h1
 have HT1 := hide ht1
 clear h1 ht1
 go_wp2_with fail
 go_ret
 exact ⟨rfl, H1.out, HT1.out⟩
set_option maxHeartbeats 4000000 in
set_option maxRecDepth 100000 in
theorem literal_any {q : Nat} {TL : List Tk} {E : Nat} {s : PSt} (w : World) (H : ParAt q TL E w s) :
  Calls Tryz.prog 89 #[pP q] w (StepTo q TL E w (.string (literalS s).1) (literalS s).2) := by
 unfold StepTo
 have HT := hide (token_any 3 w H)
 have hR : literalS s = (ba (tokenS 3 s).1.2.1, (tokenS 3 s).2) := rfl
 rw [hR]
 clear hR H
 generalize tokenS 3 s = R at *
 obtain ⟨⟨rk, rt, rn⟩, s2⟩ := R
 go_enter Tryz.func89, Tryz.ntmps89
 go_wp2_with fail
 refine HT.out.mono ?_
 rintro e w1 ⟨⟨a, rfl⟩, h1, ht1⟩
 simp only [tok3]
 have H1 := hide h1
 have HT1 := hide ht1
 clear h1 ht1
 go_wp2_with fail
 go_ret
 exact ⟨rfl, H1.out, HT1.out⟩
set_option maxHeartbeats 4000000 in
set_option maxRecDepth 100000 in
theorem number_any {q : Nat} {TL : List Tk} {E : Nat} {s : PSt} (w : World) (H : ParAt q TL E w s) :
  Calls Tryz.prog 81 #[pP q] w (StepTo q TL E w (.int .i64 (numberS s).1) (numberS s).2) := by
 unfold StepTo
 have HT := hide (token_any 2 w H)
 have hR : numberS s = ((tokenS 2 s).1.2.2, (tokenS 2 s).2) := rfl
 rw [hR]
 clear hR H
 generalize tokenS 2 s = R at *
 obtain ⟨⟨rk, rt, rn⟩, s2⟩ := R
 go_enter Tryz.func81, Tryz.ntmps81
 go_wp2_with fail
 refine HT.out.mono ?_
 rintro e w1 ⟨⟨a, rfl⟩, h1, ht1⟩
 simp only [tok3]
 have H1 := hide h1
 have HT1 := hide ht1
 clear h1 ht1
 go_wp2_with fail
 go_ret
 exact ⟨rfl, H1.out, HT1.out⟩
end Go.Proofs.YtljoajjlkjjgeaaGreatDoor
