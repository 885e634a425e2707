/-
  The lists of which the laws build expressions: how they lie, and the tree that a list makes.
  Two lists that differ in one place, and the trees that they make.
  build: the expression at the beginning of a list.
  Lists of plain expressions in a row of the call's own, and one cell of them set anew.
  small: may a list be gone through?
  Equal of two expressions: the model, and the walks of Equal and of the library's EqualFunc over it.
-/
import Derived.Test.YtpohofcfmllghaaDoorENewX
import Derived.Test.YtpohofcfmllghaaDoorMCons
import Derived.Test.YtpohofcfmllghaaDoorESettle
import Derived.StillTailTactics
import Derived.Deep.RegionHeld3
import Derived.Maps.AppendAt
import Derived.BigQuiet
import Derived.Test.YtpohofcfmllghaaDoorECount
import Derived.Test.YtpohofcfmllghaaDoorSHolds
namespace Go.Proofs.YtpohofcfmllghaaDoor
open Go.RowKit

/-- An expression of a list, with how many of those behind it are its own. -/
structure PL where
  k : Int
  n : ByteArray
  v : Int × Int × ByteArray
  o : ByteArray
  a : Int
def dP : PL := ⟨0, ⟨#[]⟩, (0, 0, ⟨#[]⟩), ⟨#[]⟩, 0⟩
abbrev pCells (p : PL) : Array Value := #[.int .i64 p.k, .string p.n, .int .i64 p.v.1, .int .i64 p.v.2.1, .string p.v.2.2, .string p.o, .int .i64 p.a]
def AtP (w : World) (b o : Nat) (p : PL) : Prop :=
  w.cell? ⟨b, o, none⟩ = some (.int .i64 p.k) ∧ w.cell? ⟨b, o + 1, none⟩ = some (.string p.n) ∧ w.cell? ⟨b, o + 2, none⟩ = some (.int .i64 p.v.1) ∧ w.cell? ⟨b, o + 3, none⟩ = some (.int .i64 p.v.2.1) ∧
  w.cell? ⟨b, o + 4, none⟩ = some (.string p.v.2.2) ∧ w.cell? ⟨b, o + 5, none⟩ = some (.string p.o) ∧ w.cell? ⟨b, o + 6, none⟩ = some (.int .i64 p.a)
theorem AtP.below {w w' : World} {B b o : Nat} {p : PL} (h : AtP w b o p) (hb : Below B w w') (hlt : b < B) : AtP w' b o p := by
  obtain ⟨h0, h1, h2, h3, h4, h5, h6⟩ := h
  have c : ∀ i u, w.cell? ⟨b, i, none⟩ = some u → w'.cell? ⟨b, i, none⟩ = some u := fun i u hu => (hb.cell (p := ⟨b, i, none⟩) hlt).trans hu
  exact ⟨c _ _ h0, c _ _ h1, c _ _ h2, c _ _ h3, c _ _ h4, c _ _ h5, c _ _ h6⟩
def PlainsAt (B : Nat) (w : World) (A : Option Addr) (l : List PL) : Prop := ∀ j, j < l.length → ∃ b off, A = some ⟨b, off, none⟩ ∧ b < B ∧ AtP w b (off + j * 7) (l.getD j dP)
theorem PlainsAt.below {B : Nat} {w w' : World} {A : Option Addr} {l : List PL} (h : PlainsAt B w A l) (hb : Below B w w') : PlainsAt B w' A l := fun j hj => by
  obtain ⟨b, off, e, hlt, h7⟩ := h j hj
  exact ⟨b, off, e, hlt, h7.below hb hlt⟩
theorem PlainsAt.mono {B B' : Nat} {w : World} {A : Option Addr} {l : List PL} (h : PlainsAt B w A l) (hB : B ≤ B') : PlainsAt B' w A l := fun j hj => by
  obtain ⟨b, off, e, hlt, h7⟩ := h j hj
  exact ⟨b, off, e, Nat.lt_of_lt_of_le hlt hB, h7⟩
theorem PlainsAt.on {w w' : World} {A : Option Addr} {l : List PL} (h : PlainsAt w.heap.size w A l) (hb : Below w.heap.size w w') : PlainsAt w'.heap.size w' A l := (h.below hb).mono hb.size
theorem getD_drop {α : Type} {l : List α} {k j : Nat} {d : α} : (l.drop k).getD j d = l.getD (k + j) d := by
  simp [List.getD_eq_getElem?_getD, List.getElem?_drop]
theorem PlainsAt.drop {B : Nat} {w : World} {b off : Nat} {l : List PL} (h : PlainsAt B w (some ⟨b, off, none⟩) l) (k : Nat) : PlainsAt B w (some ⟨b, off + k * 7, none⟩) (l.drop k) := fun j hj => by
  rw [List.length_drop] at hj
  obtain ⟨b', off', e, hlt, h7⟩ := h (k + j) (by omega)
  injection e with e
  injection e with e1 e2
  subst e1 e2
  refine ⟨b, off + k * 7, rfl, hlt, ?_⟩
  rw [getD_drop, show off + k * 7 + j * 7 = off + (k + j) * 7 by rw [Nat.add_mul]; omega]
  exact h7

/-- The children that stand in l from place at on, at most r of them, and the place behind them. -/
def kidsP (node : List PL → XT × Nat) (l : List PL) : Nat → Nat → List XT × Nat
  | 0, at' => ([], at')
  | r + 1, at' => if at' < l.length then ((node (l.drop at')).1 :: (kidsP node l r (at' + (node (l.drop at')).2)).1, (kidsP node l r (at' + (node (l.drop at')).2)).2) else ([], at')
/-- The expression at the beginning of l, with at most f levels below it, and how many of l it takes. -/
def nodeP : Nat → List PL → XT × Nat
  | 0, l => (.mk (l.headD dP).k (l.headD dP).n (l.headD dP).v (l.headD dP).o none 0 [], 1)
  | f + 1, l => (.mk (l.headD dP).k (l.headD dP).n (l.headD dP).v (l.headD dP).o none 0 (kidsP (nodeP f) l (l.headD dP).a.toNat 1).1, (kidsP (nodeP f) l (l.headD dP).a.toNat 1).2)
theorem kidsP_bound {node : List PL → XT × Nat} {l : List PL} (hn : ∀ m, m ≠ [] → 1 ≤ (node m).2 ∧ (node m).2 ≤ m.length) : ∀ (r a : Nat), a ≤ l.length → a ≤ (kidsP node l r a).2 ∧ (kidsP node l r a).2 ≤ l.length
  | 0, a, h => ⟨Nat.le_refl _, h⟩
  | r + 1, a, h => by
    unfold kidsP
    split
    · rename_i hlt
      have h1 := hn (l.drop a) (by intro e; have := congrArg List.length e; simp at this; omega)
      rw [List.length_drop] at h1
      have h4 : l.length - a + a = l.length := Nat.sub_add_cancel h
      have h2 := kidsP_bound (l := l) hn r (a + (node (l.drop a)).2) (by omega)
      exact ⟨by show a ≤ (kidsP node l r (a + (node (l.drop a)).2)).2; omega, h2.2⟩
    · exact ⟨Nat.le_refl _, h⟩
theorem nodeP_bound : ∀ (f : Nat) (l : List PL), l ≠ [] → 1 ≤ (nodeP f l).2 ∧ (nodeP f l).2 ≤ l.length
  | 0, l, h => by
    have : 0 < l.length := by cases l; exact absurd rfl h; simp
    exact ⟨Nat.le_refl _, this⟩
  | f + 1, l, h => by
    have h0 : 0 < l.length := by cases l; exact absurd rfl h; simp
    exact kidsP_bound (fun m hm => nodeP_bound f m hm) _ 1 h0
/-- Of a tree there are no more than the list has. -/
theorem kidsP_sz {node : List PL → XT × Nat} {l : List PL} (hn : ∀ m, m ≠ [] → 1 ≤ (node m).2 ∧ (node m).2 ≤ m.length) (hs : ∀ m, m ≠ [] → szX (node m).1 = (node m).2) : ∀ (r a : Nat), a ≤ l.length → a + szXs (kidsP node l r a).1 = (kidsP node l r a).2
  | 0, _, _ => rfl
  | r + 1, a, h => by
    unfold kidsP
    split
    · rename_i hlt
      have hne : l.drop a ≠ [] := by intro e; have := congrArg List.length e; simp at this; omega
      have h1 := hn (l.drop a) hne
      rw [List.length_drop] at h1
      have h4 : l.length - a + a = l.length := Nat.sub_add_cancel h
      have h2 := kidsP_sz (l := l) hn hs r (a + (node (l.drop a)).2) (by omega)
      have h3 := hs (l.drop a) hne
      show a + (szX (node (l.drop a)).1 + szXs (kidsP node l r (a + (node (l.drop a)).2)).1) = (kidsP node l r (a + (node (l.drop a)).2)).2
      omega
    · rfl
theorem nodeP_sz : ∀ (f : Nat) (l : List PL), l ≠ [] → szX (nodeP f l).1 = (nodeP f l).2
  | 0, _, _ => rfl
  | f + 1, l, h => by
    have h0 : 0 < l.length := by cases l; exact absurd rfl h; simp
    exact kidsP_sz (fun m hm => nodeP_bound f m hm) (fun m hm => nodeP_sz f m hm) _ 1 h0
mutual
/-- No address within lies in block g. -/
def offX (g : Nat) : XT → Prop
  | .mk _ _ _ _ A _ ts => (ts ≠ [] → ∀ a, A = some a → a.block ≠ g) ∧ offXs g ts
def offXs (g : Nat) : List XT → Prop
  | [] => True
  | x :: r => offX g x ∧ offXs g r
end
theorem offXs_at : ∀ {g : Nat} {l : List XT} {k : Nat}, offXs g l → k < l.length → offX g (l.getD k dX)
  | _, [], k, _, h => by simp at h
  | _, _ :: _, 0, h, _ => h.1
  | _, _ :: r, k + 1, h, hk => offXs_at (l := r) (k := k) h.2 (by simpa using hk)
mutual
theorem newX.offX : ∀ {lo g : Nat} {x : XT}, newX lo x → g < lo → offX g x
  | _, _, .mk _ _ _ _ _ _ _, h, hl => ⟨fun _ a e => by have := h.1 a e; omega, newXs.offXs h.2 hl⟩
theorem newXs.offXs : ∀ {lo g : Nat} {l : List XT}, newXs lo l → g < lo → offXs g l
  | _, _, [], _, _ => trivial
  | _, _, _ :: _, h, hl => ⟨h.1.offX hl, newXs.offXs h.2 hl⟩
end
/-- It lies so in every world in which only block g may be another. -/
theorem LiesX.but {B g : Nat} {w w' : World} {x : XT} (h : LiesX B w x) : offX g x → (∀ b, b ≠ g → b < B → w'.heap[b]? = w.heap[b]?) → LiesX B w' x := by
  induction h with
  | mk hA hc hs ih =>
    intro hn hb
    refine .mk hA (fun j hj => ?_) (fun x hx => ?_)
    · obtain ⟨b, off, e, hlt, h7⟩ := hc j hj
      exact ⟨b, off, e, hlt, h7.same (hb b (hn.1 (by intro e'; rw [e'] at hj; simp at hj) _ e) hlt)⟩
    · obtain ⟨j, hj, e⟩ := List.getElem_of_mem hx
      have := offXs_at (k := j) hn.2 hj
      rw [List.getD_eq_getElem?_getD, List.getElem?_eq_getElem hj, Option.getD_some, e] at this
      exact ih x hx this hb
theorem offXs_of : ∀ {g : Nat} {l : List XT}, (∀ x ∈ l, offX g x) → offXs g l
  | _, [], _ => trivial
  | _, x :: r, h => ⟨h x (by simp), offXs_of fun y hy => h y (by simp [hy])⟩
/-- What lies below block B is in no block from B on. -/
theorem LiesX.offX_of {B g : Nat} {w : World} {x : XT} (h : LiesX B w x) (hg : B ≤ g) : offX g x := by
  induction h with
  | mk hA hc hs ih =>
    rename_i A _ ts
    refine ⟨fun hne a ha => ?_, offXs_of ih⟩
    have hpos : 0 < ts.length := by cases ts; exact absurd rfl hne; simp
    obtain ⟨b, off, e, hlt, _⟩ := hc 0 hpos
    rw [ha] at e
    injection e with e
    rw [e]
    show b ≠ g
    omega
end Go.Proofs.YtpohofcfmllghaaDoor
namespace Go.Proofs.YtpohofcfmllghaaDoor
open Go.RowKit

/-- What of an element a change may touch: all but how many are its own. -/
def headP (p : PL) : Int × ByteArray × (Int × Int × ByteArray) × ByteArray := (p.k, p.n, p.v, p.o)
/-- m is l but for the element at place t, which is another, with as many Args. -/
def Chg (l m : List PL) (t : Nat) : Prop := m.length = l.length ∧ (∀ j, j ≠ t → m.getD j dP = l.getD j dP) ∧ (m.getD t dP).a = (l.getD t dP).a ∧ headP (m.getD t dP) ≠ headP (l.getD t dP)
theorem ext_getD {l m : List PL} (h : m.length = l.length) (h2 : ∀ j, m.getD j dP = l.getD j dP) : m = l := by
  apply List.ext_getElem? 
  intro j
  by_cases hj : j < l.length
  · have := h2 j
    rw [List.getD_eq_getElem?_getD, List.getD_eq_getElem?_getD, List.getElem?_eq_getElem hj, List.getElem?_eq_getElem (by omega)] at this
    rw [List.getElem?_eq_getElem hj, List.getElem?_eq_getElem (by omega)]
    exact congrArg some this
  · rw [List.getElem?_eq_none (by omega), List.getElem?_eq_none (by omega)]
theorem Chg.drop_same {l m : List PL} {t a : Nat} (h : Chg l m t) (ha : t < a) : m.drop a = l.drop a :=
  ext_getD (by simp [h.1]) fun j => by rw [getD_drop, getD_drop]; exact h.2.1 _ (by omega)
theorem Chg.drop {l m : List PL} {t a : Nat} (h : Chg l m t) (ha : a ≤ t) : Chg (l.drop a) (m.drop a) (t - a) := by
  refine ⟨by simp [h.1], fun j hj => ?_, ?_, ?_⟩
  · rw [getD_drop, getD_drop]; exact h.2.1 _ (by omega)
  · rw [getD_drop, getD_drop, show a + (t - a) = t by omega]; exact h.2.2.1
  · rw [getD_drop, getD_drop, show a + (t - a) = t by omega]; exact h.2.2.2
/-- What a change does to the tree. -/
def ChgOk (node : List PL → XT × Nat) : Prop := ∀ (l m : List PL) (t : Nat), l ≠ [] → Chg l m t → (node m).2 = (node l).2 ∧ ((node l).2 ≤ t → (node m).1 = (node l).1) ∧ (t < (node l).2 → (node m).1 ≠ (node l).1)
theorem kids_same {node : List PL → XT × Nat} {l m : List PL} {t : Nat} (h : Chg l m t) : ∀ (r a : Nat), t < a → kidsP node m r a = kidsP node l r a
  | 0, _, _ => rfl
  | r + 1, a, ha => by
    unfold kidsP
    rw [h.1, h.drop_same ha]
    split
    · rw [kids_same h r _ (by omega)]
    · rfl
theorem kids_chg {node : List PL → XT × Nat} (hn : ∀ m, m ≠ [] → 1 ≤ (node m).2 ∧ (node m).2 ≤ m.length) (hc : ChgOk node) {l m : List PL} {t : Nat} (h : Chg l m t) : ∀ (r a : Nat), a ≤ t → a ≤ l.length →
    (kidsP node m r a).2 = (kidsP node l r a).2 ∧ ((kidsP node l r a).2 ≤ t → (kidsP node m r a).1 = (kidsP node l r a).1) ∧ (t < (kidsP node l r a).2 → (kidsP node m r a).1 ≠ (kidsP node l r a).1)
  | 0, a, ha, _ => ⟨rfl, fun _ => rfl, fun hlt => by exfalso; exact absurd hlt (by show ¬ t < a; omega)⟩
  | r + 1, a, ha, hal => by
    unfold kidsP
    rw [h.1]
    by_cases hlt : a < l.length
    · rw [if_pos hlt, if_pos hlt]
      have hne : l.drop a ≠ [] := by intro e; have := congrArg List.length e; simp at this; omega
      have h1 := hn (l.drop a) hne
      rw [List.length_drop] at h1
      obtain ⟨c1, c2, c3⟩ := hc (l.drop a) (m.drop a) (t - a) hne (h.drop ha)
      rw [c1]
      by_cases hin : t - a < (node (l.drop a)).2
      · have hk := kids_same (node := node) h r (a + (node (l.drop a)).2) (by omega)
        have hb := (kidsP_bound (l := l) hn r (a + (node (l.drop a)).2) (by omega)).1
        rw [hk]
        refine ⟨rfl, fun hle => ?_, fun _ e => ?_⟩
        · have : (kidsP node l r (a + (node (l.drop a)).2)).2 ≤ t := hle
          omega
        · injection e with e1 _
          exact c3 hin e1
      · have e1 := c2 (by omega)
        rw [e1]
        obtain ⟨d1, d2, d3⟩ := kids_chg hn hc h r (a + (node (l.drop a)).2) (by omega) (by omega)
        refine ⟨d1, fun hle => ?_, fun hlt' e => ?_⟩
        · rw [d2 hle]
        · injection e with _ e2
          exact d3 hlt' e2
    · rw [if_neg hlt, if_neg hlt]
      exact ⟨rfl, fun _ => rfl, fun hlt' => by exfalso; exact absurd hlt' (by show ¬ t < a; omega)⟩
theorem head_getD (l : List PL) : l.headD dP = l.getD 0 dP := by cases l <;> rfl
theorem node_chg : ∀ f : Nat, ChgOk (nodeP f)
  | 0, l, m, t, hne, h => by
    refine ⟨rfl, fun hle => ?_, fun hlt e => ?_⟩
    · have h1 : (1 : Nat) ≤ t := hle
      show XT.mk (m.headD dP).k (m.headD dP).n (m.headD dP).v (m.headD dP).o none 0 [] = XT.mk (l.headD dP).k (l.headD dP).n (l.headD dP).v (l.headD dP).o none 0 []
      rw [head_getD, head_getD, h.2.1 0 (by omega)]
    · have h1 : t < 1 := hlt
      have ht : t = 0 := by omega
      subst ht
      have e' : XT.mk (m.headD dP).k (m.headD dP).n (m.headD dP).v (m.headD dP).o none 0 [] = XT.mk (l.headD dP).k (l.headD dP).n (l.headD dP).v (l.headD dP).o none 0 [] := e
      rw [head_getD, head_getD] at e'
      injection e' with a1 a2 a3 a4
      exact h.2.2.2 (by unfold headP; rw [a1, a2, a3, a4])
  | f + 1, l, m, t, hne, h => by
    have h0 : 0 < l.length := by cases l; exact absurd rfl hne; simp
    have hl : nodeP (f + 1) l = (.mk (l.headD dP).k (l.headD dP).n (l.headD dP).v (l.headD dP).o none 0 (kidsP (nodeP f) l (l.headD dP).a.toNat 1).1, (kidsP (nodeP f) l (l.headD dP).a.toNat 1).2) := rfl
    have hm : nodeP (f + 1) m = (.mk (m.headD dP).k (m.headD dP).n (m.headD dP).v (m.headD dP).o none 0 (kidsP (nodeP f) m (m.headD dP).a.toNat 1).1, (kidsP (nodeP f) m (m.headD dP).a.toNat 1).2) := rfl
    rw [hl, hm, head_getD, head_getD]
    have hb := (kidsP_bound (l := l) (fun m hm => nodeP_bound f m hm) (l.getD 0 dP).a.toNat 1 h0).1
    by_cases ht : t = 0
    · subst ht
      rw [h.2.2.1]
      have hk := kids_same (node := nodeP f) h (l.getD 0 dP).a.toNat 1 (by omega)
      rw [hk]
      refine ⟨rfl, fun hle => ?_, fun _ e => ?_⟩
      · have : (kidsP (nodeP f) l (l.getD 0 dP).a.toNat 1).2 ≤ 0 := hle
        omega
      · injection e with a1 a2 a3 a4
        exact h.2.2.2 (by unfold headP; rw [a1, a2, a3, a4])
    · rw [h.2.1 0 (by omega)]
      obtain ⟨d1, d2, d3⟩ := kids_chg (fun m hm => nodeP_bound f m hm) (node_chg f) h (l.getD 0 dP).a.toNat 1 (by omega) h0
      refine ⟨d1, fun hle => ?_, fun hlt e => ?_⟩
      · show XT.mk _ _ _ _ _ _ _ = XT.mk _ _ _ _ _ _ _
        rw [d2 hle]
      · injection e with a1 a2 a3 a4 a5 a6 a7
        exact d3 hlt a7
end Go.Proofs.YtpohofcfmllghaaDoor
namespace Go.Proofs.YtpohofcfmllghaaDoor
open Go.RowKit

/-- The cells of expressions, one behind the other. -/
def flatX (us : List XT) : List Value := us.flatMap fun u => [.int .i64 u.kind, .string u.name, .int .i64 u.val.1, .int .i64 u.val.2.1, .string u.val.2.2, .string u.op, .slice u.adr u.args.length u.cap]
theorem flatX_len (us : List XT) : (flatX us).length = us.length * 7 := by
  induction us with
  | nil => rfl
  | cons u r ih =>
    show (_ ++ flatX r).length = _
    rw [List.length_append, ih, List.length_cons]
    simp only [List.length_cons, List.length_nil]
    omega
theorem flatX_snoc (us : List XT) (u : XT) : flatX (us ++ [u]) = flatX us ++ [.int .i64 u.kind, .string u.name, .int .i64 u.val.1, .int .i64 u.val.2.1, .string u.val.2.2, .string u.op, .slice u.adr u.args.length u.cap] := by simp [flatX]
theorem flatX_at : ∀ (us : List XT) (j : Nat), j < us.length → ∀ i, i < 7 → (flatX us)[j * 7 + i]? = (eCells (us.getD j dX).kind (us.getD j dX).name (us.getD j dX).val (us.getD j dX).op (us.getD j dX).adr (us.getD j dX).args.length (us.getD j dX).cap)[i]?
  | [], j, h, _, _ => by simp at h
  | u :: r, 0, _, i, hi => by
    show (_ ++ flatX r)[0 * 7 + i]? = _
    rw [Nat.zero_mul, Nat.zero_add, List.getElem?_append_left (by simpa using hi)]
    rcases (by omega : i = 0 ∨ i = 1 ∨ i = 2 ∨ i = 3 ∨ i = 4 ∨ i = 5 ∨ i = 6) with rfl | rfl | rfl | rfl | rfl | rfl | rfl <;> rfl
  | u :: r, j + 1, h, i, hi => by
    show (_ ++ flatX r)[(j + 1) * 7 + i]? = _
    rw [List.getElem?_append_right (by simp only [List.length_cons, List.length_nil]; omega)]
    have := flatX_at r j (by simpa using h) i hi
    rw [show (j + 1) * 7 + i - ([.int .i64 u.kind, .string u.name, .int .i64 u.val.1, .int .i64 u.val.2.1, .string u.val.2.2, .string u.op, .slice u.adr u.args.length u.cap] : List Value).length = j * 7 + i by simp only [List.length_cons, List.length_nil]; omega]
    exact this
/-- The row of arguments at A may be written. -/
def UnfA (w : World) (A : Option Addr) (n : Nat) : Prop := ∀ a, A = some a → a = ⟨a.block, 0, none⟩ ∧ ∃ cur, w.heap[a.block]? = some (.cells cur 29 (0, 0)) ∧ n * 7 ≤ cur.size
def UnfX (w : World) (x : XT) : Prop := UnfA w x.adr x.args.length
/-- A row of the call's own that holds these expressions reads as them. -/
theorem args_of_row {w : World} {base : Nat} {v : Value} {us : List XT} (h : w.ownsRow base 29 7 v us.length (flatX us)) (hl : ∀ u ∈ us, LiesX w.heap.size w u) :
    ∃ A c, v = .slice A us.length c ∧ (A = none → c = 0) ∧ (∀ a, A = some a → base ≤ a.block) ∧ ArgsAt w.heap.size w A us ∧ UnfA w A us.length := by
  rcases h.2 with ⟨rfl, hn⟩ | ⟨g, cap, cur, rfl, hb, hg, _, _, _, hx⟩
  · have : us = [] := List.eq_nil_of_length_eq_zero hn
    subst this
    exact ⟨none, 0, rfl, (fun _ => rfl), (fun a ha => by cases ha), (fun j hj => by simp at hj), fun a ha => by cases ha⟩
  · refine ⟨some ⟨g, 0, none⟩, cap, rfl, (fun h => by cases h), (fun a ha => by injection ha with ha; rw [← ha]; exact hb), fun j hj => ?_, fun a ha => ?_⟩
    rotate_left 1
    · injection ha with ha
      subst ha
      refine ⟨rfl, cur, hg, ?_⟩
      have := congrArg List.length hx
      rw [flatX_len, List.length_take] at this
      have hc : cur.toList.length = cur.size := by simp
      omega
    have hc : ∀ i, i < 7 → w.cell? ⟨g, 0 + j * 7 + i, none⟩ = (eCells (us.getD j dX).kind (us.getD j dX).name (us.getD j dX).val (us.getD j dX).op (us.getD j dX).adr (us.getD j dX).args.length (us.getD j dX).cap)[i]? := fun i hi => by
      rw [Nat.zero_add, Lib.cell_of_heap hg, ← flatX_at us j hj i hi, ← hx, List.getElem?_take_of_lt (by omega)]
      simp
    refine ⟨g, 0, rfl, (Array.getElem?_eq_some_iff.1 hg).1, ⟨hc 0 (by omega), hc 1 (by omega), hc 2 (by omega), hc 3 (by omega), hc 4 (by omega), hc 5 (by omega), hc 6 (by omega)⟩, hl _ ?_⟩
    rw [List.getD_eq_getElem?_getD, List.getElem?_eq_getElem hj]
    exact List.getElem_mem hj
/-- The children, at whatever level. -/
def kidsF : Nat → List PL → Nat → Nat → List XT × Nat
  | 0, _, _, a => ([], a)
  | f + 1, l, r, a => kidsP (nodeP f) l r a
theorem nodeP_kids (f : Nat) (l : List PL) : nodeP f l = (.mk (l.headD dP).k (l.headD dP).n (l.headD dP).v (l.headD dP).o none 0 (kidsF f l (l.headD dP).a.toNat 1).1, (kidsF f l (l.headD dP).a.toNat 1).2) := by cases f <;> rfl
theorem kidsF_stop {f : Nat} {l : List PL} {r a : Nat} (h : r = 0 ∨ l.length ≤ a ∨ f = 0) : kidsF f l r a = ([], a) := by
  cases f with
  | zero => rfl
  | succ f =>
    cases r with
    | zero => rfl
    | succ r =>
      show kidsP (nodeP f) l (r + 1) a = _
      unfold kidsP
      rw [if_neg (by omega)]
theorem kidsF_go {f : Nat} {l : List PL} {r a : Nat} (h : a < l.length) : kidsF (f + 1) l (r + 1) a = ((nodeP f (l.drop a)).1 :: (kidsF (f + 1) l r (a + (nodeP f (l.drop a)).2)).1, (kidsF (f + 1) l r (a + (nodeP f (l.drop a)).2)).2) := by
  show kidsP (nodeP f) l (r + 1) a = _
  rw [kidsP, if_pos h]
  rfl
theorem stripXs_append : ∀ l m : List XT, stripXs (l ++ m) = stripXs l ++ stripXs m
  | [], _ => rfl
  | x :: r, m => by show stripX x :: stripXs (r ++ m) = stripX x :: (stripXs r ++ stripXs m); rw [stripXs_append r m]
abbrev zero7 : Array Value := #[.int .i64 0, .string ⟨#[]⟩, .int .i64 0, .int .i64 0, .string ⟨#[]⟩, .string ⟨#[]⟩, .slice none 0 0]
abbrev box7 (p : PL) (v : Value) : Array Value := #[.int .i64 p.k, .string p.n, .int .i64 p.v.1, .int .i64 p.v.2.1, .string p.v.2.2, .string p.o, v]
/-- What holds ahead of round k of build's loop. -/
def BuiltI (w : World) (f : Nat) (l : List PL) (p : PL) (wr : World) (k a : Nat) (v : Value) (us : List XT) : Prop :=
  wr.heap[w.heap.size]? = some (.cells zero7 29 (0, 0)) ∧ wr.heap[w.heap.size + 1]? = some (.cells (box7 p v) 29 (0, 0)) ∧ wr.ownsRow (w.heap.size + 2) 29 7 v us.length (flatX us) ∧
  (∀ u ∈ us, LiesX wr.heap.size wr u ∧ newX (w.heap.size + 2) u ∧ ∀ g, v.ownBlock = some g → offX g u) ∧ (kidsF f l p.a.toNat 1).1 = stripXs us ++ (kidsF f l (p.a.toNat - k) a).1 ∧ (kidsF f l p.a.toNat 1).2 = (kidsF f l (p.a.toNat - k) a).2 ∧
  1 ≤ a ∧ a ≤ l.length ∧ us.length + 1 ≤ a ∧ k = us.length ∧ Below w.heap.size w wr
theorem built_init (w : World) (f : Nat) (l : List PL) (p : PL) (hl : 0 < l.length) : BuiltI w f l p (((w.alloc (.cells zero7 29)).alloc (.cells (box7 p (.slice none 0 0)) 29)).drew) 0 1 (.slice none 0 0) [] := by
  have s1 : (w.alloc (.cells zero7 29)).heap.size = w.heap.size + 1 := by simp
  have h1 := heap_alloc_new (w.alloc (.cells zero7 29)) (.cells (box7 p (.slice none 0 0)) 29)
  rw [s1] at h1
  refine ⟨?_, h1, World.ownsRow_nil _ _ _ _, fun u hu => by simp at hu, ?_, ?_, Nat.le_refl _, hl, Nat.le_refl _, rfl, (Joins.below_alloc2 w _ _).drew⟩
  · show ((w.alloc (.cells zero7 29)).alloc (.cells (box7 p (.slice none 0 0)) 29)).heap[w.heap.size]? = _
    rw [Below.heap_alloc _ _ _ (by rw [s1]; omega)]
    exact heap_alloc_new w _
  · rfl
  · rfl
theorem cells_new (w : World) (t : TypeId) (cs : List Value) (H : Nat) (hH : w.heap.size = H) : ∀ j u, cs[j]? = some u → (w.alloc (.cells cs.toArray t)).cell? ((⟨H, 0, none⟩ : Addr).add j) = some u := fun j u hj => by
  subst hH
  rw [Addr.add_lit, Nat.zero_add]
  exact (Lib.cell_of_heap (heap_alloc_new w _) j).trans (by simpa using hj)
theorem expr_one (y : XT) : ∀ u ∈ ([.int .i64 y.kind, .string y.name, .int .i64 y.val.1, .int .i64 y.val.2.1, .string y.val.2.2, .string y.op, .slice y.adr y.args.length y.cap] : List Value), u.oneCell' = true := fun u hu => by
  simp only [List.mem_cons, List.not_mem_nil, or_false] at hu
  rcases hu with rfl | rfl | rfl | rfl | rfl | rfl | rfl <;> rfl
theorem built_step {w wr w2 w3 : World} {f : Nat} {l : List PL} {p : PL} {k a : Nat} {v v' : Value} {us : List XT} {y : XT} {o1 o2 : Obj} (hI : BuiltI w (f + 1) l p wr k a v us) (h1 : (k : Int) < p.a) (h2 : a < l.length) (hst : stripX y = (nodeP f (l.drop a)).1)
    (hly : LiesX w2.heap.size w2 y) (hny : newX wr.heap.size y) (hb2 : Below wr.heap.size wr w2)
    (hown : w3.ownsRow (w.heap.size + 2) 29 7 v' (us.length + 1) (flatX us ++ [.int .i64 y.kind, .string y.name, .int .i64 y.val.1, .int .i64 y.val.2.1, .string y.val.2.2, .string y.op, .slice y.adr y.args.length y.cap]))
    (hg : ((w2.alloc o1).alloc o2).grownBy w3 v.ownBlock) (hat : v'.ownBlock = v.ownBlock ∨ v'.ownBlock = some ((w2.alloc o1).alloc o2).heap.size) :
    BuiltI w (f + 1) l p (w3.setCell ⟨w.heap.size + 1, 6, none⟩ v') (k + 1) (a + (nodeP f (l.drop a)).2) v' (us ++ [y]) := by
  obtain ⟨i0, i1, i2, i3, i4, i5, i6, i7, i8, i9, i10⟩ := hI
  have hH : w.heap.size + 1 < wr.heap.size := (Array.getElem?_eq_some_iff.1 i1).1
  have hs2 := hb2.size
  have hW : ((w2.alloc o1).alloc o2).heap.size = w2.heap.size + 2 := by simp
  have hs3 := hg.size
  have hown0 : ∀ g, v.ownBlock = some g → w.heap.size + 2 ≤ g ∧ g < wr.heap.size := i2.lt
  have hsame : ∀ b, b < w2.heap.size → (∀ g, v.ownBlock = some g → b ≠ g) → w3.heap[b]? = w2.heap[b]? := fun b hb hne => by
    rw [hg.block b (by omega) (fun e => hne b e.symm rfl)]
    rw [Below.heap_alloc _ _ _ (by simp; omega), Below.heap_alloc _ _ _ hb]
  have hr3 : w3.heap[w.heap.size]? = some (.cells zero7 29 (0, 0)) := by
    rw [hsame _ (by omega) (fun g hgg e => by have := hown0 g hgg; omega), hb2.block _ (by omega)]
    exact i0
  have hb3 : w3.heap[w.heap.size + 1]? = some (.cells (box7 p v) 29 (0, 0)) := by
    rw [hsame _ (by omega) (fun g hgg e => by have := hown0 g hgg; omega), hb2.block _ (by omega)]
    exact i1
  have hne := nodeP_bound f (l.drop a) (by intro e; have := congrArg List.length e; simp at this; omega)
  rw [List.length_drop] at hne
  have hszf : (w3.setCell ⟨w.heap.size + 1, 6, none⟩ v').heap.size = w3.heap.size := by simp
  have hsetH : ∀ b, w.heap.size + 2 ≤ b → (w3.setCell ⟨w.heap.size + 1, 6, none⟩ v').heap[b]? = w3.heap[b]? := fun b hb => Below.heap_setCell _ _ _ _ (by simp only; omega)
  have hto : ∀ B u, B ≤ w2.heap.size → LiesX B w2 u → newX (w.heap.size + 2) u → (∀ g, v.ownBlock = some g → offX g u) → LiesX B (w3.setCell ⟨w.heap.size + 1, 6, none⟩ v') u := fun B u hB h1 h2 h3 => by
    have h4 : LiesX B w3 u := by
      rcases ho : v.ownBlock with _ | g
      · exact h1.off (lo := 0) (h2.mono (by omega)) (fun b _ hb => hsame b (by omega) (fun g hg => by rw [ho] at hg; cases hg))
      · exact h1.but (h3 g ho) (fun b hb hlt => hsame b (by omega) (fun g' hg' => by rw [ho] at hg'; injection hg' with hg'; omega))
    exact h4.off h2 (fun b hb _ => hsetH b hb)
  have hyN : newX (w.heap.size + 2) y := hny.mono (by omega)
  have hyO : ∀ g, v.ownBlock = some g → offX g y := fun g hg => hny.offX (hown0 g hg).2
  refine ⟨?_, ?_, ?_, ?_, ?_, ?_, by omega, by omega, ?_, ?_, ?_⟩
  · rw [Below.heap_setCell _ _ _ _ (by simp only; omega)]; exact hr3
  · have := Joins.block_setCell (i := 6) hb3 v'
    rw [this]
    simp [box7]
  · rw [flatX_snoc, List.length_append]
    exact ownsRow_setCell_below hown (by simp only; omega) _
  · intro u hu
    rcases List.mem_append.1 hu with hu | hu
    · obtain ⟨a1, a2, a3⟩ := i3 u hu
      refine ⟨by rw [hszf]; exact (hto wr.heap.size u hs2 (a1.keep hb2) a2 a3).mono (by omega), a2, fun g hgg => ?_⟩
      rcases hat with h | h
      · exact a3 g (h.symm.trans hgg)
      · rw [hgg] at h
        injection h with h
        exact a1.offX_of (by omega)
    · have hu : u = y := by simpa using hu
      subst hu
      refine ⟨by rw [hszf]; exact (hto w2.heap.size u (Nat.le_refl _) hly hyN hyO).mono (by omega), hyN, fun g hgg => ?_⟩
      rcases hat with h | h
      · exact hyO g (h.symm.trans hgg)
      · rw [hgg] at h
        injection h with h
        exact hly.offX_of (by omega)
  · rw [i4, show p.a.toNat - k = p.a.toNat - (k + 1) + 1 by omega, kidsF_go h2, stripXs_append]
    show _ = (stripXs us ++ [stripX y]) ++ _
    rw [hst, List.append_assoc]
    rfl
  · rw [i5, show p.a.toNat - k = p.a.toNat - (k + 1) + 1 by omega, kidsF_go h2]
  · rw [List.length_append]; show us.length + 1 + 1 ≤ _; omega
  · rw [List.length_append, i9]; rfl
  · have h6 := (i10.trans (hb2.mono (by omega)))
    have h7 := (h6.alloc (by omega) o1).alloc (by simp; omega) o2
    exact (h7.grown hg (by omega) (fun g hgg => by have := hown0 g hgg; omega)).setCell (by simp only; omega) _
/-- What build does at lists, f levels deep. -/
def BuildOk (f : Nat) : Prop := ∀ (l : List PL) (b off c : Nat) (d : Int) (w : World), f ≤ 60 → d + f = 60 → 0 < l.length → l.length ≤ 300 → l.length ≤ c → PlainsAt w.heap.size w (some ⟨b, off, none⟩) l →
  Calls Tryd.prog 6 #[.slice (some ⟨b, off, none⟩) l.length c, .int .i64 d] w fun e w' => (∃ x, e = .returned (.tuple #[vX x, .int .i64 ((nodeP f l).2 : Nat)]) ∧ stripX x = (nodeP f l).1 ∧ LiesX w'.heap.size w' x ∧ newX w.heap.size x ∧ UnfX w' x) ∧ Below w.heap.size w w'
theorem belA {B : Nat} {W a : World} {o : Obj} (hB : B ≤ W.heap.size) (h : Below B W a) : Below B W (a.alloc o) := h.alloc (Nat.le_trans hB h.size) o
set_option maxHeartbeats 3200000 in
set_option maxRecDepth 100000 in
theorem build_step (f : Nat) (hih : ∀ f', f = f' + 1 → BuildOk f') (l : List PL) (b off : Nat) (c : Nat) (d : Int) (w : World) (hf : f ≤ 60) (hd : d + f = 60) (hlen : 0 < l.length) (hl3 : l.length ≤ 300) (hc : l.length ≤ c) (hP : PlainsAt w.heap.size w (some ⟨b, off, none⟩) l) :
    Calls Tryd.prog 6 #[.slice (some ⟨b, off, none⟩) l.length c, .int .i64 d] w fun e w' => (∃ x, e = .returned (.tuple #[vX x, .int .i64 ((nodeP f l).2 : Nat)]) ∧ stripX x = (nodeP f l).1 ∧ LiesX w'.heap.size w' x ∧ newX w.heap.size x ∧ UnfX w' x) ∧ Below w.heap.size w w' := by
  have HP := hide hP
  obtain ⟨b', off', e, hb, h7⟩ := hP 0 hlen
  injection e with e
  injection e with e1 e2
  subst e1 e2
  rw [show off + 0 * 7 = off by omega] at h7
  obtain ⟨p, hp⟩ : ∃ p, p = l.getD 0 dP := ⟨_, rfl⟩
  rw [← hp] at h7
  have HPd := hide hp
  obtain ⟨g0, g1, g2, g3, g4, g5, g6⟩ := h7
  have hlen' : (0 : Int) < (l.length : Int) := by omega
  clear hP hp
  go_enter Tryd.func6, Tryd.ntmps6
  go_wp2_with fail
  have hal := Joins.below_alloc1 w (.cells #[.int .i64 0, .string ⟨#[]⟩, .int .i64 0, .int .i64 0, .string ⟨#[]⟩, .string ⟨#[]⟩, .slice none 0 0] 29)
  have HW0 := hide hal
  have HAL := hide (fun w' (h : Below w.heap.size w w') => (⟨(h.cell (p := ⟨b, off, none⟩) hb).trans g0, (h.cell (p := ⟨b, off + 1, none⟩) hb).trans g1, (h.cell (p := ⟨b, off + 2, none⟩) hb).trans g2, (h.cell (p := ⟨b, off + 3, none⟩) hb).trans g3, (h.cell (p := ⟨b, off + 4, none⟩) hb).trans g4, (h.cell (p := ⟨b, off + 5, none⟩) hb).trans g5, h⟩ :
    w'.cell? ⟨b, off, none⟩ = some (.int .i64 p.k) ∧ w'.cell? ⟨b, off + 1, none⟩ = some (.string p.n) ∧ w'.cell? ⟨b, off + 2, none⟩ = some (.int .i64 p.v.1) ∧ w'.cell? ⟨b, off + 3, none⟩ = some (.int .i64 p.v.2.1) ∧ w'.cell? ⟨b, off + 4, none⟩ = some (.string p.v.2.2) ∧ w'.cell? ⟨b, off + 5, none⟩ = some (.string p.o) ∧ Below w.heap.size w w'))
  clear hal
  go_region_held3 (fun w' => w'.cell? ⟨b, off, none⟩ = some (.int .i64 p.k) ∧ w'.cell? ⟨b, off + 1, none⟩ = some (.string p.n) ∧ w'.cell? ⟨b, off + 2, none⟩ = some (.int .i64 p.v.1) ∧ w'.cell? ⟨b, off + 3, none⟩ = some (.int .i64 p.v.2.1) ∧ w'.cell? ⟨b, off + 4, none⟩ = some (.string p.v.2.2) ∧ w'.cell? ⟨b, off + 5, none⟩ = some (.string p.o) ∧ Below w.heap.size w w')
    ((refine HAL.out _ ?_; (repeat (first | with_reducible refine belD ?_ | with_reducible refine belA (Nat.le_refl _) ?_)); first | with_reducible assumption | with_reducible exact HW0.out | with_reducible exact Below.refl _ _))
    (first | fail)
  go_split_ands
  go_wp2_with fail
  have HI := hide (built_init w f l p hlen)
  have HHd := hide (show l.headD dP = p by rw [HPd.out]; cases l <;> rfl)
  clear g0 g1 g2 g3 g4 g5 HAL HW0
  generalize ((w.alloc (.cells #[.int .i64 0, .string ⟨#[]⟩, .int .i64 0, .int .i64 0, .string ⟨#[]⟩, .string ⟨#[]⟩, .slice none 0 0] 29)).alloc (.cells #[.int .i64 p.k, .string p.n, .int .i64 p.v.1, .int .i64 p.v.2.1, .string p.v.2.2, .string p.o, .slice none 0 0] 29)).drew = W at *
  go_loopw [7, 8] (fun va vk wr => ∃ (k a : Nat) (v : Value) (us : List XT), vk = .int .i64 k ∧ va = .int .i64 a ∧ BuiltI w f l p wr k a v us) (fun va _ _ => l.length - (intOf va).toNat)
  case atStart => exact ⟨0, 1, _, [], rfl, rfl, HI.out⟩
  case round =>
    obtain ⟨k, a, v, us, rfl, rfl, hI⟩ := hrel
    have g6r := (hI.2.2.2.2.2.2.2.2.2.2.cell (p := ⟨b, off + 6, none⟩) hb).trans g6
    by_cases h1 : (k : Int) < p.a
    · by_cases h2 : (a : Int) < (l.length : Int)
      · by_cases h3 : d < 60
        · have ha0 : (0 : Int) ≤ (a : Int) := by omega
          have ha1 : (a : Int) ≤ (l.length : Int) := by omega
          have ha2 : (a : Int) ≤ (c : Int) := by omega
          have ha3 : a ≤ l.length := by omega
          have ha4 : a ≤ c := by omega
          have hca : ¬ c = a := by omega
          obtain ⟨f', rfl⟩ : ∃ f', f = f' + 1 := ⟨f - 1, by omega⟩
          have hcall := hih f' rfl (l.drop a) b (off + a * 7) (c - a) (d + 1) wr (by omega) (by omega) (by rw [List.length_drop]; omega) (by rw [List.length_drop]; omega) (by rw [List.length_drop]; omega) ((HP.out.on hI.2.2.2.2.2.2.2.2.2.2).drop a)
          rw [List.length_drop] at hcall
          have HCall := hide hcall
          have HIH := hide hI
          have hn2 := nodeP_bound f' (l.drop a) (by intro e; have := congrArg List.length e; simp at this; omega)
          rw [List.length_drop] at hn2
          have HN2 := hide hn2
          have h2n : a < l.length := by omega
          obtain ⟨i0', hi, hz0, hz1, hz2⟩ := info_parts expr_info
          clear hcall hI hn2
          go_wp2_with fail
          refine HCall.out.mono ?_
          rintro e w2 ⟨⟨y, rfl, hst, hly, hny, -⟩, hb2⟩
          have hHx := (Array.getElem?_eq_some_iff.1 HIH.out.2.1).1
          have i1 := (hb2.block _ hHx).trans HIH.out.2.1
          have e6 := Lib.cell_of_heap i1 6
          simp only [box7, List.getElem?_toArray, List.getElem?_cons_zero, List.getElem?_cons_succ] at e6
          have hown2 := ((HIH.out.2.2.1.kept (only_of_below hb2 none) (by cases v.ownBlock <;> simp)).alloc (.cells (eCells y.kind y.name y.val y.op y.adr y.args.length y.cap) 29)).alloc (.cells #[.int .i64 y.kind, .string y.name, .int .i64 y.val.1, .int .i64 y.val.2.1, .string y.val.2.2, .string y.op, .slice y.adr y.args.length y.cap] 29)
          have hz2' := hb2.size
          have hH2 : w.heap.size + 1 < w2.heap.size := by omega
          have HB2 := hide hb2; have HSt := hide hst; have HLy := hide hly; have HNy := hide hny
          generalize hm : (nodeP f' (l.drop a)).2 = n2 at *
          have HM := hide hm
          clear hb2 hst hly hny i1 hm
          rw [show vX y = .agg (eCells y.kind y.name y.val y.op y.adr y.args.length y.cap) from rfl]
          go_wp2_with (at_builtin; go_must (refine wpList_append_own_at _ rfl _ _ 27 rfl (w.heap.size + 2) 29 i0' (.agg #[.int .i64 0, .string ⟨#[]⟩, .int .i64 0, .int .i64 0, .string ⟨#[]⟩, .string ⟨#[]⟩, .slice none 0 0]) 7 96 Tryd.underlying27 hi hz0 hz1 hz2 rfl (by decide) _ _ _ rfl hown2 ⟨w2.heap.size + 1, 0, none⟩ 1 1 [.int .i64 y.kind, .string y.name, .int .i64 y.val.1, .int .i64 y.val.2.1, .string y.val.2.2, .string y.op, .slice y.adr y.args.length y.cap] rfl rfl (cells_new _ _ _ _ (by simp)) (expr_one y) (by unfold maxLen; have := HIH.out.2.2.2.2.2.2.2.2.1; have := HIH.out.2.2.2.2.2.2.2.1; omega) (by have := HIH.out.2.2.2.2.2.2.2.2.1; have := HIH.out.2.2.2.2.2.2.2.1; omega) (by simp; omega) ?_))
          intro v' w3 hown3 hgrow3 _ hat3
          have HStep := hide (built_step HIH.out h1 h2n HSt.out HLy.out HNy.out HB2.out hown3 hgrow3 (by have := hat3; simpa using this))
          have hb3 : w3.heap[w.heap.size + 1]? = some (.cells (box7 p v) 29 (0, 0)) := by
            have hs3 := hgrow3.size
            rw [hgrow3.block _ (by simp; omega) (fun e => by have := HIH.out.2.2.1.lt _ e.symm; omega), Below.heap_alloc _ _ _ (by simp; omega), Below.heap_alloc _ _ _ (by omega), HB2.out.block _ hHx]
            exact HIH.out.2.1
          have q6 := Lib.cell_of_heap hb3 6
          have qf := Lib.frozen_of_heap hb3 6
          simp only [box7, List.getElem?_toArray, List.getElem?_cons_zero, List.getElem?_cons_succ] at q6
          have hH3 := (Array.getElem?_eq_some_iff.1 hb3).1
          rw [HM.out] at HStep
          obtain ⟨A3, m3, c3, rfl⟩ : ∃ A m c, v' = .slice A m c := by
            rcases hown3.2 with ⟨h, _⟩ | ⟨g, cap, cur, h, _⟩
            · exact ⟨_, _, _, h⟩
            · exact ⟨_, _, _, h⟩
          have hk1 : k ≤ 300 := by have := HIH.out.2.2.2.2.2.2.2.2.1; have := HIH.out.2.2.2.2.2.2.2.2.2.1; omega
          have hn1 := HN2.out.1
          have hn3 : a + n2 ≤ l.length := by have := HN2.out.2; omega
          clear hown2 hown3 hgrow3 hat3 hb3 e6
          go_wp2_with fail
          go_roundw
          case rel => exact ⟨k + 1, a + n2, _, us ++ [y], by go_num, by go_num, HStep.out⟩
          case measure => simp [intOf]; omega
        · have hK := kidsF_stop (f := f) (l := l) (r := p.a.toNat - k) (a := a) (by omega)
          have HV := hide hI
          obtain ⟨i0, i1, i2, i3, i4, i5, i6, i7, i8, i9, i10⟩ := hI
          rw [hK] at i4 i5
          obtain ⟨A', c', rfl, hnn, hnb, hargs, hun⟩ := args_of_row i2 (fun u hu => (i3 u hu).1)
          have e0 := Lib.cell_of_heap i1 0; have e1 := Lib.cell_of_heap i1 1; have e2 := Lib.cell_of_heap i1 2; have e3 := Lib.cell_of_heap i1 3; have e4 := Lib.cell_of_heap i1 4; have e5 := Lib.cell_of_heap i1 5; have e6 := Lib.cell_of_heap i1 6
          have r0 := Lib.cell_of_heap i0 0; have r1 := Lib.cell_of_heap i0 1; have r2 := Lib.cell_of_heap i0 2; have r3 := Lib.cell_of_heap i0 3; have r4 := Lib.cell_of_heap i0 4; have r5 := Lib.cell_of_heap i0 5; have r6 := Lib.cell_of_heap i0 6
          have f0 := Lib.frozen_of_heap i0 0; have f1 := Lib.frozen_of_heap i0 1; have f2 := Lib.frozen_of_heap i0 2; have f3 := Lib.frozen_of_heap i0 3; have f4 := Lib.frozen_of_heap i0 4; have f5 := Lib.frozen_of_heap i0 5; have f6 := Lib.frozen_of_heap i0 6
          simp only [box7, zero7, List.getElem?_toArray, List.getElem?_cons_zero, List.getElem?_cons_succ] at e0 e1 e2 e3 e4 e5 e6 r0 r1 r2 r3 r4 r5 r6
          have HNs := hide (show newXs (w.heap.size + 2) us from newXs_of fun j hj => (i3 _ (by rw [List.getD_eq_getElem?_getD, List.getElem?_eq_getElem hj]; exact List.getElem_mem hj)).2.1)
          have HLi := hide (made_lies (wf := set7 wr w.heap.size 0 (.mk p.k p.n p.v p.o A' c' us)) (P := w.heap.size) (k := p.k) (n := p.n) (v := p.v) (o := p.o) hargs hnn hnb HNs.out (by omega) (fun b hb => set7_heap _ _ _ hb) (set7_size _ _ _ _))
          have HSt := hide (show stripX (.mk p.k p.n p.v p.o A' c' us) = (nodeP f l).1 ∧ (nodeP f l).2 = a by
            rw [nodeP_kids, HHd.out, i4, i5]
            simp [stripX])
          have HNw := hide (show newX w.heap.size (.mk p.k p.n p.v p.o A' c' us) from ⟨fun a ha => by have := hnb a ha; omega, newXs.mono HNs.out (by omega)⟩)
          have HUn := hide (show UnfX (set7 wr w.heap.size 0 (.mk p.k p.n p.v p.o A' c' us)) (.mk p.k p.n p.v p.o A' c' us) from fun a ha => by
            obtain ⟨u1, cur, u2, u3⟩ := hun a ha
            have := hnb a ha
            exact ⟨u1, cur, (set7_heap _ _ _ (by omega)).trans u2, u3⟩)
          have HBl := hide i10
          have hz1 : w.heap.size < wr.heap.size := (Array.getElem?_eq_some_iff.1 i0).1
          have hz2 : w.heap.size + 1 < wr.heap.size := (Array.getElem?_eq_some_iff.1 i1).1
          clear i0 i1 i2 i3 i4 i5 i6 i7 i8 i9 i10 hK hnn hnb hargs hun HV
          go_wp2_with fail
          refine bodyPost_ret (v := .tuple #[vX (.mk p.k p.n p.v p.o A' c' us), .int .i64 a]) (by simp [results, Tryd.results6, go_sem, r0, r1, r2, r3, r4, r5, r6, vX, XT.kind, XT.name, XT.val, XT.op, XT.adr, XT.args, XT.cap]) rfl ?_
          refine ⟨⟨.mk p.k p.n p.v p.o A' c' us, by rw [HSt.out.2], HSt.out.1, HLi.out, HNw.out, HUn.out⟩, ?_⟩
          exact set7_below (w := wr) 0 (.mk p.k p.n p.v p.o A' c' us) HBl.out (Nat.le_refl _)
      · have hK := kidsF_stop (f := f) (l := l) (r := p.a.toNat - k) (a := a) (by omega)
        have HV := hide hI
        obtain ⟨i0, i1, i2, i3, i4, i5, i6, i7, i8, i9, i10⟩ := hI
        rw [hK] at i4 i5
        obtain ⟨A', c', rfl, hnn, hnb, hargs, hun⟩ := args_of_row i2 (fun u hu => (i3 u hu).1)
        have e0 := Lib.cell_of_heap i1 0; have e1 := Lib.cell_of_heap i1 1; have e2 := Lib.cell_of_heap i1 2; have e3 := Lib.cell_of_heap i1 3; have e4 := Lib.cell_of_heap i1 4; have e5 := Lib.cell_of_heap i1 5; have e6 := Lib.cell_of_heap i1 6
        have r0 := Lib.cell_of_heap i0 0; have r1 := Lib.cell_of_heap i0 1; have r2 := Lib.cell_of_heap i0 2; have r3 := Lib.cell_of_heap i0 3; have r4 := Lib.cell_of_heap i0 4; have r5 := Lib.cell_of_heap i0 5; have r6 := Lib.cell_of_heap i0 6
        have f0 := Lib.frozen_of_heap i0 0; have f1 := Lib.frozen_of_heap i0 1; have f2 := Lib.frozen_of_heap i0 2; have f3 := Lib.frozen_of_heap i0 3; have f4 := Lib.frozen_of_heap i0 4; have f5 := Lib.frozen_of_heap i0 5; have f6 := Lib.frozen_of_heap i0 6
        simp only [box7, zero7, List.getElem?_toArray, List.getElem?_cons_zero, List.getElem?_cons_succ] at e0 e1 e2 e3 e4 e5 e6 r0 r1 r2 r3 r4 r5 r6
        have HNs := hide (show newXs (w.heap.size + 2) us from newXs_of fun j hj => (i3 _ (by rw [List.getD_eq_getElem?_getD, List.getElem?_eq_getElem hj]; exact List.getElem_mem hj)).2.1)
        have HLi := hide (made_lies (wf := set7 wr w.heap.size 0 (.mk p.k p.n p.v p.o A' c' us)) (P := w.heap.size) (k := p.k) (n := p.n) (v := p.v) (o := p.o) hargs hnn hnb HNs.out (by omega) (fun b hb => set7_heap _ _ _ hb) (set7_size _ _ _ _))
        have HSt := hide (show stripX (.mk p.k p.n p.v p.o A' c' us) = (nodeP f l).1 ∧ (nodeP f l).2 = a by
          rw [nodeP_kids, HHd.out, i4, i5]
          simp [stripX])
        have HNw := hide (show newX w.heap.size (.mk p.k p.n p.v p.o A' c' us) from ⟨fun a ha => by have := hnb a ha; omega, newXs.mono HNs.out (by omega)⟩)
        have HUn := hide (show UnfX (set7 wr w.heap.size 0 (.mk p.k p.n p.v p.o A' c' us)) (.mk p.k p.n p.v p.o A' c' us) from fun a ha => by
          obtain ⟨u1, cur, u2, u3⟩ := hun a ha
          have := hnb a ha
          exact ⟨u1, cur, (set7_heap _ _ _ (by omega)).trans u2, u3⟩)
        have HBl := hide i10
        have hz1 : w.heap.size < wr.heap.size := (Array.getElem?_eq_some_iff.1 i0).1
        have hz2 : w.heap.size + 1 < wr.heap.size := (Array.getElem?_eq_some_iff.1 i1).1
        clear i0 i1 i2 i3 i4 i5 i6 i7 i8 i9 i10 hK hnn hnb hargs hun HV
        go_wp2_with fail
        refine bodyPost_ret (v := .tuple #[vX (.mk p.k p.n p.v p.o A' c' us), .int .i64 a]) (by simp [results, Tryd.results6, go_sem, r0, r1, r2, r3, r4, r5, r6, vX, XT.kind, XT.name, XT.val, XT.op, XT.adr, XT.args, XT.cap]) rfl ?_
        refine ⟨⟨.mk p.k p.n p.v p.o A' c' us, by rw [HSt.out.2], HSt.out.1, HLi.out, HNw.out, HUn.out⟩, ?_⟩
        exact set7_below (w := wr) 0 (.mk p.k p.n p.v p.o A' c' us) HBl.out (Nat.le_refl _)
    · have hK := kidsF_stop (f := f) (l := l) (r := p.a.toNat - k) (a := a) (by omega)
      have HV := hide hI
      obtain ⟨i0, i1, i2, i3, i4, i5, i6, i7, i8, i9, i10⟩ := hI
      rw [hK] at i4 i5
      obtain ⟨A', c', rfl, hnn, hnb, hargs, hun⟩ := args_of_row i2 (fun u hu => (i3 u hu).1)
      have e0 := Lib.cell_of_heap i1 0; have e1 := Lib.cell_of_heap i1 1; have e2 := Lib.cell_of_heap i1 2; have e3 := Lib.cell_of_heap i1 3; have e4 := Lib.cell_of_heap i1 4; have e5 := Lib.cell_of_heap i1 5; have e6 := Lib.cell_of_heap i1 6
      have r0 := Lib.cell_of_heap i0 0; have r1 := Lib.cell_of_heap i0 1; have r2 := Lib.cell_of_heap i0 2; have r3 := Lib.cell_of_heap i0 3; have r4 := Lib.cell_of_heap i0 4; have r5 := Lib.cell_of_heap i0 5; have r6 := Lib.cell_of_heap i0 6
      have f0 := Lib.frozen_of_heap i0 0; have f1 := Lib.frozen_of_heap i0 1; have f2 := Lib.frozen_of_heap i0 2; have f3 := Lib.frozen_of_heap i0 3; have f4 := Lib.frozen_of_heap i0 4; have f5 := Lib.frozen_of_heap i0 5; have f6 := Lib.frozen_of_heap i0 6
      simp only [box7, zero7, List.getElem?_toArray, List.getElem?_cons_zero, List.getElem?_cons_succ] at e0 e1 e2 e3 e4 e5 e6 r0 r1 r2 r3 r4 r5 r6
      have HNs := hide (show newXs (w.heap.size + 2) us from newXs_of fun j hj => (i3 _ (by rw [List.getD_eq_getElem?_getD, List.getElem?_eq_getElem hj]; exact List.getElem_mem hj)).2.1)
      have HLi := hide (made_lies (wf := set7 wr w.heap.size 0 (.mk p.k p.n p.v p.o A' c' us)) (P := w.heap.size) (k := p.k) (n := p.n) (v := p.v) (o := p.o) hargs hnn hnb HNs.out (by omega) (fun b hb => set7_heap _ _ _ hb) (set7_size _ _ _ _))
      have HSt := hide (show stripX (.mk p.k p.n p.v p.o A' c' us) = (nodeP f l).1 ∧ (nodeP f l).2 = a by
        rw [nodeP_kids, HHd.out, i4, i5]
        simp [stripX])
      have HNw := hide (show newX w.heap.size (.mk p.k p.n p.v p.o A' c' us) from ⟨fun a ha => by have := hnb a ha; omega, newXs.mono HNs.out (by omega)⟩)
      have HUn := hide (show UnfX (set7 wr w.heap.size 0 (.mk p.k p.n p.v p.o A' c' us)) (.mk p.k p.n p.v p.o A' c' us) from fun a ha => by
        obtain ⟨u1, cur, u2, u3⟩ := hun a ha
        have := hnb a ha
        exact ⟨u1, cur, (set7_heap _ _ _ (by omega)).trans u2, u3⟩)
      have HBl := hide i10
      have hz1 : w.heap.size < wr.heap.size := (Array.getElem?_eq_some_iff.1 i0).1
      have hz2 : w.heap.size + 1 < wr.heap.size := (Array.getElem?_eq_some_iff.1 i1).1
      clear i0 i1 i2 i3 i4 i5 i6 i7 i8 i9 i10 hK hnn hnb hargs hun HV
      go_wp2_with fail
      refine bodyPost_ret (v := .tuple #[vX (.mk p.k p.n p.v p.o A' c' us), .int .i64 a]) (by simp [results, Tryd.results6, go_sem, r0, r1, r2, r3, r4, r5, r6, vX, XT.kind, XT.name, XT.val, XT.op, XT.adr, XT.args, XT.cap]) rfl ?_
      refine ⟨⟨.mk p.k p.n p.v p.o A' c' us, by rw [HSt.out.2], HSt.out.1, HLi.out, HNw.out, HUn.out⟩, ?_⟩
      exact set7_below (w := wr) 0 (.mk p.k p.n p.v p.o A' c' us) HBl.out (Nat.le_refl _)
theorem build_ok : ∀ f : Nat, BuildOk f
  | 0 => fun l b off c d w h1 h2 h3 h4 h5 h6 => build_step 0 (fun f' h => by omega) l b off c d w h1 h2 h3 h4 h5 h6
  | f + 1 => fun l b off c d w h1 h2 h3 h4 h5 h6 => build_step (f + 1) (fun f' h => by
      have : f' = f := by omega
      subst this
      exact build_ok f') l b off c d w h1 h2 h3 h4 h5 h6
end Go.Proofs.YtpohofcfmllghaaDoor
namespace Go.Proofs.YtpohofcfmllghaaDoor
open Go.RowKit

def flatP (l : List PL) : List Value := l.flatMap fun p => (pCells p).toList
theorem flatP_len (l : List PL) : (flatP l).length = l.length * 7 := by
  induction l with
  | nil => rfl
  | cons u r ih =>
    show (_ ++ flatP r).length = _
    rw [List.length_append, ih, List.length_cons]
    simp only [List.length_cons, List.length_nil]
    omega
theorem flatP_at : ∀ (l : List PL) (j : Nat), j < l.length → ∀ i, i < 7 → (flatP l)[j * 7 + i]? = (pCells (l.getD j dP))[i]?
  | [], j, h, _, _ => by simp at h
  | u :: r, 0, _, i, hi => by
    show (_ ++ flatP r)[0 * 7 + i]? = _
    rw [Nat.zero_mul, Nat.zero_add, List.getElem?_append_left (by simpa using hi)]
    rcases (by omega : i = 0 ∨ i = 1 ∨ i = 2 ∨ i = 3 ∨ i = 4 ∨ i = 5 ∨ i = 6) with rfl | rfl | rfl | rfl | rfl | rfl | rfl <;> rfl
  | u :: r, j + 1, h, i, hi => by
    show (_ ++ flatP r)[(j + 1) * 7 + i]? = _
    rw [List.getElem?_append_right (by simp; omega)]
    have := flatP_at r j (by simpa using h) i hi
    rw [show (j + 1) * 7 + i - (pCells u).toList.length = j * 7 + i by simp; omega]
    exact this
theorem flatP_one (l : List PL) : ∀ u ∈ flatP l, u.oneCell' = true := fun u hu => by
  unfold flatP at hu
  obtain ⟨p, _, hp⟩ := List.mem_flatMap.1 hu
  simp only [List.mem_cons, List.not_mem_nil, or_false] at hp
  rcases hp with rfl | rfl | rfl | rfl | rfl | rfl | rfl <;> rfl
theorem atP_of {w : World} {b o : Nat} {p : PL} (h : ∀ i, i < 7 → w.cell? ⟨b, o + i, none⟩ = (pCells p)[i]?) : AtP w b o p :=
  ⟨h 0 (by omega), h 1 (by omega), h 2 (by omega), h 3 (by omega), h 4 (by omega), h 5 (by omega), h 6 (by omega)⟩
theorem atP_cell {w : World} {b o : Nat} {p : PL} (h : AtP w b o p) {i : Nat} (hi : i < 7) : w.cell? ⟨b, o + i, none⟩ = (pCells p)[i]? := by
  obtain ⟨h0, h1, h2, h3, h4, h5, h6⟩ := h
  rcases (by omega : i = 0 ∨ i = 1 ∨ i = 2 ∨ i = 3 ∨ i = 4 ∨ i = 5 ∨ i = 6) with rfl | rfl | rfl | rfl | rfl | rfl | rfl
  · exact h0
  · exact h1
  · exact h2
  · exact h3
  · exact h4
  · exact h5
  · exact h6
/-- The cells of a list, as one run. -/
theorem plains_run {B : Nat} {w : World} {b off : Nat} {l : List PL} (h : PlainsAt B w (some ⟨b, off, none⟩) l) : ∀ j u, (flatP l)[j]? = some u → w.cell? ((⟨b, off, none⟩ : Addr).add j) = some u := fun j u hj => by
  have hlt : j < l.length * 7 := by
    have := (List.getElem?_eq_some_iff.1 hj).1
    rwa [flatP_len] at this
  obtain ⟨b', off', e, _, h7⟩ := h (j / 7) (by omega)
  injection e with e
  injection e with e1 e2
  subst e1 e2
  have h1 := atP_cell h7 (i := j % 7) (by omega)
  have h2 := flatP_at l (j / 7) (by omega) (j % 7) (by omega)
  rw [Addr.add_lit]
  have hj' : j / 7 * 7 + j % 7 = j := by omega
  rw [hj'] at h2
  rw [show off + j = off + j / 7 * 7 + j % 7 by omega, h1, ← h2]
  exact hj
theorem plains_of_row {w : World} {base : Nat} {v : Value} {l : List PL} (hl : 0 < l.length) (h : w.ownsRow base 42 7 v l.length (flatP l)) :
    ∃ g c, v = .slice (some ⟨g, 0, none⟩) l.length c ∧ base ≤ g ∧ l.length ≤ c ∧ PlainsAt w.heap.size w (some ⟨g, 0, none⟩) l ∧ ∀ i, i < l.length * 7 → w.frozen? ⟨g, i, none⟩ = false := by
  rcases h.2 with ⟨_, hn⟩ | ⟨g, cap, cur, rfl, hb, hg, hc, _, _, hx⟩
  · omega
  · refine ⟨g, cap, rfl, hb, hc, fun j hj => ?_, fun i _ => Lib.frozen_of_heap hg i⟩
    refine ⟨g, 0, rfl, (Array.getElem?_eq_some_iff.1 hg).1, atP_of fun i hi => ?_⟩
    rw [Nat.zero_add, Lib.cell_of_heap hg, ← flatP_at l j hj i hi, ← hx, List.getElem?_take_of_lt (by omega)]
    simp
/-- One cell of one element is another. -/
theorem plains_set {B : Nat} {w : World} {g : Nat} {l : List PL} {t i : Nat} {p' : PL} {u : Value} (h : PlainsAt B w (some ⟨g, 0, none⟩) l) (ht : t < l.length) (hi : i < 7) (hu : (pCells p')[i]? = some u) (hp : ∀ j, j < 7 → j ≠ i → (pCells p')[j]? = (pCells (l.getD t dP))[j]?) :
    PlainsAt B (w.setCell ⟨g, t * 7 + i, none⟩ u) (some ⟨g, 0, none⟩) (l.set t p') := fun j hj => by
  rw [List.length_set] at hj
  obtain ⟨b', off', e, hb, h7⟩ := h j hj
  injection e with e
  injection e with e1 e2
  subst e1 e2
  refine ⟨g, 0, rfl, hb, atP_of fun a ha => ?_⟩
  have hc := atP_cell h7 ha
  by_cases hjt : j = t
  · subst hjt
    have hg : (l.set j p').getD j dP = p' := by rw [List.getD_eq_getElem?_getD, List.getElem?_set_self hj]; rfl
    rw [hg]
    by_cases hai : a = i
    · subst hai
      rw [hu, show 0 + j * 7 + a = j * 7 + a by omega]
      have hsome : ∃ z, w.cell? ⟨g, j * 7 + a, none⟩ = some z := by
        rw [show 0 + j * 7 + a = j * 7 + a by omega] at hc
        rcases (by omega : a = 0 ∨ a = 1 ∨ a = 2 ∨ a = 3 ∨ a = 4 ∨ a = 5 ∨ a = 6) with rfl | rfl | rfl | rfl | rfl | rfl | rfl <;> exact ⟨_, hc⟩
      obtain ⟨z, hz⟩ := hsome
      exact World.cell?_setCell_same _ _ _ hz
    · rw [World.cell?_setCell_other _ _ _ _ (ne_off (by omega)), hc, hp a ha hai]
  · have hg : (l.set t p').getD j dP = l.getD j dP := by rw [List.getD_eq_getElem?_getD, List.getElem?_set_ne (by omega), ← List.getD_eq_getElem?_getD]
    rw [hg, World.cell?_setCell_other _ _ _ _ (ne_off (by omega)), hc]
theorem chg_set {l : List PL} {t : Nat} {p' : PL} (ht : t < l.length) (ha : p'.a = (l.getD t dP).a) (hh : headP p' ≠ headP (l.getD t dP)) : Chg l (l.set t p') t := by
  have hg : (l.set t p').getD t dP = p' := by rw [List.getD_eq_getElem?_getD, List.getElem?_set_self ht]; rfl
  refine ⟨List.length_set, fun j hj => ?_, by rw [hg]; exact ha, by rw [hg]; exact hh⟩
  rw [List.getD_eq_getElem?_getD, List.getElem?_set_ne (by omega), ← List.getD_eq_getElem?_getD]
end Go.Proofs.YtpohofcfmllghaaDoor
namespace Go.Proofs.YtpohofcfmllghaaDoor
open Go.RowKit

def okP (p : PL) : Bool := decide (p.n.size ≤ 50) && (decide (p.o.size ≤ 50) && decide (p.v.2.2.size ≤ 100))
def smallP (l : List PL) : Bool := l.all okP && (decide (0 < l.length) && decide (l.length ≤ 300))
theorem smallP_no {l : List PL} {k : Nat} (hk : k < l.length) (h : okP (l.getD k dP) = false) : smallP l = false := by
  unfold smallP
  have : l.all okP = false := by
    rw [List.all_eq_false]
    rw [List.getD_eq_getElem?_getD, List.getElem?_eq_getElem hk] at h
    exact ⟨_, List.getElem_mem hk, by simpa using h⟩
  rw [this]; rfl
theorem smallP_all {l : List PL} (h : ∀ j, j < l.length → okP (l.getD j dP) = true) : smallP l = (decide (0 < l.length) && decide (l.length ≤ 300)) := by
  unfold smallP
  have : l.all okP = true := by
    rw [List.all_eq_true]
    intro x hx
    obtain ⟨j, hj, e⟩ := List.getElem_of_mem hx
    have := h j hj
    rw [List.getD_eq_getElem?_getD, List.getElem?_eq_getElem hj, Option.getD_some, e] at this
    exact this
  rw [this]; rfl
theorem smallP_len {l : List PL} (h : smallP l = true) : 0 < l.length ∧ l.length ≤ 300 := by
  unfold smallP at h
  simp only [Bool.and_eq_true, decide_eq_true_eq] at h
  exact h.2
theorem smallP_at {l : List PL} (h : smallP l = true) {p : PL} (hp : p ∈ l) : p.n.size ≤ 50 ∧ p.o.size ≤ 50 ∧ p.v.2.2.size ≤ 100 := by
  unfold smallP at h
  simp only [Bool.and_eq_true, List.all_eq_true] at h
  have := h.1 p hp
  unfold okP at this
  simpa using this
/-- No text in the list is longer than a text may be. -/
def wfP (l : List PL) : Prop := l.length ≤ maxLen ∧ ∀ p ∈ l, p.n.size ≤ maxLen ∧ p.o.size ≤ maxLen ∧ p.v.2.2.size ≤ maxLen ∧ (-9223372036854775808 ≤ p.k ∧ p.k ≤ 9223372036854775807) ∧ (-9223372036854775808 ≤ p.v.1 ∧ p.v.1 ≤ 9223372036854775807) ∧ (-9223372036854775808 ≤ p.v.2.1 ∧ p.v.2.1 ≤ 9223372036854775807) ∧ (-9223372036854775808 ≤ p.a ∧ p.a ≤ 9223372036854775807)
theorem wfP.at {l : List PL} (_h : wfP l) {k : Nat} (hk : k < l.length) : (l.getD k dP) ∈ l := by
  rw [List.getD_eq_getElem?_getD, List.getElem?_eq_getElem hk]
  exact List.getElem_mem hk

set_option maxHeartbeats 1600000 in
set_option maxRecDepth 100000 in
theorem small_any (A : Option Addr) (c : Nat) (l : List PL) (w : World) (hP : PlainsAt w.heap.size w A l) (hw : wfP l) :
    Calls Tryd.prog 4 #[.slice A l.length c] w fun e w' => e = .returned (.bool (smallP l)) ∧ Below w.heap.size w w' := by
  have HP := hide hP
  have HW := hide hw
  have hl := hw.1
  have HNo := hide (fun k h1 h2 => smallP_no (l := l) (k := k) h1 h2)
  have HAll := hide (fun h => smallP_all (l := l) h)
  unfold maxLen at hl
  clear hP hw
  generalize smallP l = q at *
  go_enter Tryd.func4, Tryd.ntmps4
  go_wp2_with fail
  go_loopw [7] (fun i wr => ∃ k : Nat, k ≤ l.length ∧ i = .int .i64 k ∧ (∀ j, j < k → okP (l.getD j dP) = true) ∧ Below w.heap.size w wr) (fun i _ => l.length - (intOf i).toNat)
  case atStart => exact ⟨0, Nat.zero_le _, rfl, fun j h => by omega, Below.refl _ _⟩
  case round =>
    obtain ⟨k, hk, rfl, hno, hbw⟩ := hrel
    have HNs := hide hno
    clear hno
    by_cases hlt : k < l.length
    · obtain ⟨b, off, rfl, hb, h7⟩ := HP.out k hlt
      have hbr : b < wr.heap.size := Nat.lt_of_lt_of_le hb hbw.size
      obtain ⟨g0, g1, g2, g3, g4, g5, g6⟩ := h7.below hbw hb
      have HN := hide (HNo.out k hlt)
      have HS := hide (fun (h : okP (l.getD k dP) = true) j (hj : j < k + 1) => (by
        by_cases e : j = k
        · rw [e]; exact h
        · exact HNs.out j (by omega) : okP (l.getD j dP) = true))
      have hsz := HW.out.2 _ (HW.out.at hlt)
      generalize l.getD k dP = p at *
      unfold maxLen at hsz
      obtain ⟨z1, z2, z3, -⟩ := hsz
      have HAl := hide (hbw.alloc hbw.size (.cells (pCells p) 42))
      unfold okP at HN HS
      clear h7 HNs
      by_cases h1 : p.n.size ≤ 50
      · have h1' : ¬ (50 : Int) < (p.n.size : Int) := by omega
        by_cases h2 : p.o.size ≤ 50
        · have h2' : ¬ (50 : Int) < (p.o.size : Int) := by omega
          by_cases h3 : p.v.2.2.size ≤ 100
          · have h3' : ¬ (100 : Int) < (p.v.2.2.size : Int) := by omega
            have HY := hide (HS.out (by simp [h1, h2, h3]))
            clear HN HS h1 h2 h3
            go_wp2_with fail
            go_roundw
            case rel => exact ⟨k + 1, by omega, by go_num, HY.out, HAl.out⟩
            case measure => simp [intOf]; omega
          · have h3' : (100 : Int) < (p.v.2.2.size : Int) := by omega
            have HY := hide (HN.out (by simp [h3]))
            clear HN HS h1 h2 h3
            go_wp2_with fail
            go_ret
            exact ⟨ret_bool HY.out.symm, HAl.out⟩
        · have h2' : (50 : Int) < (p.o.size : Int) := by omega
          have HY := hide (HN.out (by simp [h2]))
          clear HN HS h1 h2
          go_wp2_with fail
          go_ret
          exact ⟨ret_bool HY.out.symm, HAl.out⟩
      · have h1' : (50 : Int) < (p.n.size : Int) := by omega
        have HY := hide (HN.out (by simp [h1]))
        clear HN HS h1
        go_wp2_with fail
        go_ret
        exact ⟨ret_bool HY.out.symm, HAl.out⟩
    · obtain rfl : k = l.length := by omega
      have HY := hide (HAll.out HNs.out)
      clear HAll HNo HNs
      by_cases h1 : 0 < l.length
      · have h1' : (0 : Int) < (l.length : Int) := by omega
        by_cases h2 : l.length ≤ 300
        · have h2' : (l.length : Int) ≤ 300 := by omega
          have HZ := hide (show q = true by rw [HY.out]; simp [h1, h2])
          clear HY h1 h2
          go_wp2_with fail
          go_ret
          exact ⟨ret_bool HZ.out.symm, hbw⟩
        · have h2' : ¬ (l.length : Int) ≤ 300 := by omega
          have HZ := hide (show q = false by rw [HY.out]; simp [h2])
          clear HY h1 h2
          go_wp2_with fail
          go_ret
          exact ⟨ret_bool HZ.out.symm, hbw⟩
      · have h1' : ¬ (0 : Int) < (l.length : Int) := by omega
        have HZ := hide (show q = false by rw [HY.out]; simp [h1])
        clear HY h1
        go_wp2_with fail
        go_ret
        exact ⟨ret_bool HZ.out.symm, hbw⟩
end Go.Proofs.YtpohofcfmllghaaDoor
namespace Go.Proofs.YtpohofcfmllghaaDoor
open Go.RowKit

def eqS (s t : ByteArray) : Bool := s.toList == t.toList
mutual
/-- What Equal tells. -/
def eqX : XT → XT → Bool
  | .mk k n v o _ _ ts, .mk k' n' v' o' _ _ ts' => (k == k') && (eqS n n' && ((v.1 == v'.1 && (v.2.1 == v'.2.1 && eqS v.2.2 v'.2.2)) && (eqS o o' && eqXs ts ts')))
def eqXs : List XT → List XT → Bool
  | [], [] => true
  | x :: r, y :: s => eqX x y && eqXs r s
  | _, _ => false
end
theorem eqXs_len : ∀ {l m : List XT}, eqXs l m = true → l.length = m.length
  | [], [], _ => rfl
  | [], _ :: _, h => by simp [eqXs] at h
  | _ :: _, [], h => by simp [eqXs] at h
  | x :: r, y :: s, h => by
    simp only [eqXs, Bool.and_eq_true] at h
    simp [eqXs_len h.2]
theorem eqXs_no {l m : List XT} (h : ¬ l.length = m.length) : eqXs l m = false := by
  cases he : eqXs l m
  · rfl
  · exact absurd (eqXs_len he) h
theorem eqXs_bad : ∀ {l m : List XT} {k : Nat}, l.length = m.length → k < l.length → eqX (l.getD k dX) (m.getD k dX) = false → eqXs l m = false
  | [], _, _, _, hk, _ => by simp at hk
  | _ :: _, [], _, hl, _, _ => by simp at hl
  | x :: r, y :: s, 0, _, _, h => by
    have h' : eqX x y = false := h
    simp [eqXs, h']
  | x :: r, y :: s, k + 1, hl, hk, h => by
    have := eqXs_bad (l := r) (m := s) (k := k) (by simpa using hl) (by simpa using hk) h
    simp [eqXs, this]
theorem eqXs_good : ∀ {l m : List XT}, l.length = m.length → (∀ k, k < l.length → eqX (l.getD k dX) (m.getD k dX) = true) → eqXs l m = true
  | [], [], _, _ => rfl
  | [], _ :: _, h, _ => by simp at h
  | _ :: _, [], h, _ => by simp at h
  | x :: r, y :: s, hl, h => by
    simp only [eqXs, Bool.and_eq_true]
    exact ⟨h 0 (by simp), eqXs_good (by simpa using hl) fun k hk => h (k + 1) (by simpa using hk)⟩
theorem eqS_iff {s t : ByteArray} : eqS s t = true ↔ s = t := by
  unfold eqS
  rw [beq_iff_eq]
  refine ⟨fun h => ?_, fun h => by rw [h]⟩
  rw [Lib.toList_data, Lib.toList_data] at h
  rw [of_data h]
mutual
/-- Equal tells just whether both are one but for their addresses. -/
theorem eqX_iff : ∀ {x y : XT}, eqX x y = true ↔ stripX x = stripX y
  | .mk k n v o A c ts, .mk k' n' v' o' A' c' ts' => by
    have h := eqXs_iff (l := ts) (m := ts')
    obtain ⟨v1, v2, v3⟩ := v
    obtain ⟨v1', v2', v3'⟩ := v'
    simp only [eqX, stripX, Bool.and_eq_true, beq_iff_eq, XT.mk.injEq, true_and, eqS_iff, Prod.mk.injEq, h]
theorem eqXs_iff : ∀ {l m : List XT}, eqXs l m = true ↔ stripXs l = stripXs m
  | [], [] => by simp [eqXs]
  | [], y :: s => by simp [eqXs, stripXs]
  | x :: r, [] => by simp [eqXs, stripXs]
  | x :: r, y :: s => by
    simp only [eqXs, stripXs, Bool.and_eq_true, List.cons.injEq, eqX_iff (x := x) (y := y), eqXs_iff (l := r) (m := s)]
end

/-- What Equal does at expressions up to this size. -/
def EqOk (N : Nat) : Prop := ∀ (x y : XT) (w : World), szX x ≤ N → LiesX w.heap.size w x → LiesX w.heap.size w y → szX x ≤ 1000000 → szX y ≤ 1000000 →
  Calls Tryd.prog 13 #[vX x, vX y] w fun e w' => e = .returned (.bool (eqX x y)) ∧ Below w.heap.size w w'

set_option maxHeartbeats 3200000 in
set_option maxRecDepth 100000 in
theorem equalFunc_step (N : Nat) (hih : EqOk N) (l m : List XT) (A A' : Option Addr) (c c' : Nat) (w : World) (hN : ∀ k, k < l.length → szX (l.getD k dX) ≤ N) (hl : l.length ≤ maxLen) (hA : ArgsAt w.heap.size w A l) (hA' : ArgsAt w.heap.size w A' m)
    (hL : ∀ k, k < l.length → szX (l.getD k dX) ≤ 1000000) (hM : ∀ k, k < m.length → szX (m.getD k dX) ≤ 1000000) :
    Calls Tryd.prog 18 #[.slice A l.length c, .slice A' m.length c', .func (.func 13) #[] #[]] w fun e w' => e = .returned (.bool (eqXs l m)) ∧ Below w.heap.size w w' := by
  have ih := hide hih
  have HN := hide hN; have HA := hide hA; have HA' := hide hA'; have HL := hide hL; have HM := hide hM
  clear hih hN hA hA' hL hM
  by_cases hlen : l.length = m.length
  · have hne : ((l.length : Int) != (m.length : Int)) = false := by rw [bne_eq_false_iff_eq]; omega
    have HEq := hide hlen
    have HBad := hide (fun k h1 h2 => eqXs_bad (k := k) hlen h1 h2)
    have HGood := hide (fun h => eqXs_good hlen h)
    generalize eqXs l m = q at *
    unfold maxLen at hl
    clear hlen
    go_enter Tryd.func18, Tryd.ntmps18
    go_wp2_with fail
    go_loopw [17] (fun i wr => ∃ k : Nat, k ≤ l.length ∧ i = .int .i64 k ∧ (∀ j, j < k → eqX (l.getD j dX) (m.getD j dX) = true) ∧ Below w.heap.size w wr) (fun i _ => l.length - (intOf i).toNat)
    case atStart => exact ⟨0, Nat.zero_le _, rfl, fun j h => by omega, Below.refl _ _⟩
    case round =>
      obtain ⟨k, hk, rfl, hno, hbw⟩ := hrel
      have HNo := hide hno; have HB := hide hbw
      clear hno
      by_cases hlt : k < l.length
      · have hlt2 : k < m.length := by have := HEq.out; omega
        obtain ⟨b, off, rfl, hb, h7, hly⟩ := (HA.out.on hbw) k hlt
        obtain ⟨b', off', rfl, hb', h7', hly'⟩ := (HA'.out.on hbw) k hlt2
        have HNk := hide (HN.out k hlt); have HLk := hide (HL.out k hlt); have HMk := hide (HM.out k hlt2)
        have HBk := hide (HBad.out k hlt)
        have HS := hide (fun (h : eqX (l.getD k dX) (m.getD k dX) = true) j (hj : j < k + 1) => (by
          by_cases e : j = k
          · rw [e]; exact h
          · exact HNo.out j (by omega) : eqX (l.getD j dX) (m.getD j dX) = true))
        generalize l.getD k dX = x at *
        generalize m.getD k dX = y at *
        have hal := Joins.below_alloc2 wr (.cells (eCells x.kind x.name x.val x.op x.adr x.args.length x.cap) 29) (.cells (eCells y.kind y.name y.val y.op y.adr y.args.length y.cap) 29)
        have HCall := hide (ih.out x y _ HNk.out (hly.on hal) (hly'.on hal) HLk.out HMk.out)
        have HAl := hide (then_below hbw hal)
        obtain ⟨g0, g1, g2, g3, g4, g5, g6⟩ := h7
        obtain ⟨p0, p1, p2, p3, p4, p5, p6⟩ := h7'
        have hkm : (k : Int) < (m.length : Int) := by omega
        clear hly hly' hal hbw hk HB HNo hlt2
        cases he : eqX x y
        all_goals
          rw [he] at HCall HBk HS
          go_wp2_with fail
          refine HCall.out.mono ?_
          rintro e w3 ⟨rfl, hb3⟩
          have HB3 := hide (then_below HAl.out hb3)
          clear hb3 g0 g1 g2 g3 g4 g5 g6 p0 p1 p2 p3 p4 p5 p6
          go_wp2_with fail
        · go_ret
          exact ⟨ret_bool (HBk.out trivial).symm, HB3.out⟩
        · go_roundw
          case rel => exact ⟨k + 1, by omega, by go_num, HS.out trivial, HB3.out⟩
          case measure => simp [intOf]; omega
      · obtain rfl : k = l.length := by omega
        go_wp2_with fail
        go_ret
        exact ⟨ret_bool (HGood.out HNo.out).symm, hbw⟩
  · have hne : ((l.length : Int) != (m.length : Int)) = true := by rw [bne_iff_ne]; omega
    have HQ := hide (eqXs_no hlen)
    clear hlen
    unfold maxLen at hl
    go_enter Tryd.func18, Tryd.ntmps18
    go_wp2_with fail
    go_ret
    exact ⟨ret_bool HQ.out.symm, Below.refl _ _⟩
theorem szXs_at : ∀ {l : List XT} {k : Nat}, k < l.length → szX (l.getD k dX) ≤ szXs l
  | [], _, h => by simp at h
  | y :: r, 0, _ => by show szX y ≤ szX y + szXs r; omega
  | y :: r, k + 1, h => by have := szXs_at (l := r) (k := k) (by simpa using h); show szX (r.getD k dX) ≤ szX y + szXs r; omega
set_option maxHeartbeats 3200000 in
set_option maxRecDepth 100000 in
theorem equal_step (N : Nat) (hih : EqOk N) (k : Int) (n : ByteArray) (v1 v2 : Int) (v3 o : ByteArray) (A : Option Addr) (c : Nat) (ts : List XT) (k' : Int) (n' : ByteArray) (v1' v2' : Int) (v3' o' : ByteArray) (A' : Option Addr) (c' : Nat) (ts' : List XT) (w : World)
    (hN : szX (.mk k n (v1, v2, v3) o A c ts) ≤ N + 1) (hx : LiesX w.heap.size w (.mk k n (v1, v2, v3) o A c ts)) (hy : LiesX w.heap.size w (.mk k' n' (v1', v2', v3') o' A' c' ts')) (hz : szX (.mk k n (v1, v2, v3) o A c ts) ≤ 1000000) (hz' : szX (.mk k' n' (v1', v2', v3') o' A' c' ts') ≤ 1000000) :
    Calls Tryd.prog 13 #[.agg (eCells k n (v1, v2, v3) o A ts.length c), .agg (eCells k' n' (v1', v2', v3') o' A' ts'.length c')] w fun e w' => e = .returned (.bool (eqX (.mk k n (v1, v2, v3) o A c ts) (.mk k' n' (v1', v2', v3') o' A' c' ts'))) ∧ Below w.heap.size w w' := by
  have hal := Joins.below_alloc2 w (.cells (eCells k n (v1, v2, v3) o A ts.length c) 29) (.cells (eCells k' n' (v1', v2', v3') o' A' ts'.length c') 29)
  have e1 : szX (.mk k n (v1, v2, v3) o A c ts) = 1 + szXs ts := rfl
  have e2 : szX (.mk k' n' (v1', v2', v3') o' A' c' ts') = 1 + szXs ts' := rfl
  have l1 := len_szXs ts
  have l2 := len_szXs ts'
  have HF := hide (equalFunc_step N hih ts ts' A A' c c' _ (fun j hj => by have := szXs_at hj; omega) (by unfold maxLen; omega) (ArgsAt.of (hx.on hal)) (ArgsAt.of (hy.on hal)) (fun j hj => by have := szXs_at hj; omega) (fun j hj => by have := szXs_at hj; omega))
  have HAl := hide hal
  have HQ := hide (show eqX (.mk k n (v1, v2, v3) o A c ts) (.mk k' n' (v1', v2', v3') o' A' c' ts') = ((k == k') && (eqS n n' && ((v1 == v1' && (v2 == v2' && eqS v3 v3')) && (eqS o o' && eqXs ts ts')))) from rfl)
  have hq := fun w => run_eql_val v1 v2 v1' v2' v3 v3' w
  have hg := fun u u' w => run_guard_val v1 v2 v1' v2' v3 v3' u u' w
  unfold eqS at HQ
  generalize eqX (.mk k n (v1, v2, v3) o A c ts) (.mk k' n' (v1', v2', v3') o' A' c' ts') = q at *
  generalize (v1 == v1' && (v2 == v2' && v3.toList == v3'.toList)) = bv at *
  generalize eqXs ts ts' = bt at *
  clear hx hy hal hN hz hz' e1 e2 l1 l2 hih
  cases b1 : (k == k')
  · rw [b1] at HQ
    have HQ' := hide (show q = false by rw [HQ.out]; rfl)
    clear HQ
    go_enter Tryd.func13, Tryd.ntmps13
    go_wp2_with fail
    go_ret
    exact ⟨ret_bool HQ'.out.symm, HAl.out⟩
  cases b2 : (n.toList == n'.toList)
  · rw [b1, b2] at HQ
    have HQ' := hide (show q = false by rw [HQ.out]; rfl)
    clear HQ
    go_enter Tryd.func13, Tryd.ntmps13
    go_wp2_with fail
    go_ret
    exact ⟨ret_bool HQ'.out.symm, HAl.out⟩
  cases bv
  · rw [b1, b2] at HQ
    have HQ' := hide (show q = false by rw [HQ.out]; rfl)
    clear HQ
    go_enter Tryd.func13, Tryd.ntmps13
    go_wp2_with fail
    go_ret
    exact ⟨ret_bool HQ'.out.symm, HAl.out⟩
  cases b4 : (o.toList == o'.toList)
  · rw [b1, b2, b4] at HQ
    have HQ' := hide (show q = false by rw [HQ.out]; rfl)
    clear HQ
    go_enter Tryd.func13, Tryd.ntmps13
    go_wp2_with fail
    go_ret
    exact ⟨ret_bool HQ'.out.symm, HAl.out⟩
  rw [b1, b2, b4] at HQ
  have HQ' := hide (show q = bt by rw [HQ.out]; rfl)
  clear HQ
  go_enter Tryd.func13, Tryd.ntmps13
  go_wp2_with fail
  refine HF.out.mono ?_
  rintro e w3 ⟨rfl, hb3⟩
  have HB3 := hide (HAl.out.trans (hb3.mono HAl.out.size))
  clear hb3
  go_wp2_with fail
  go_ret
  exact ⟨ret_bool HQ'.out.symm, HB3.out⟩
theorem equal_ok (N : Nat) : EqOk N := by
  induction N with
  | zero => intro x _ _ hN; have := szX_pos x; omega
  | succ N ih =>
    intro x y w hN hx hy hz hz'
    obtain ⟨k, n, ⟨v1, v2, v3⟩, o, A, c, ts⟩ := x
    obtain ⟨k', n', ⟨v1', v2', v3'⟩, o', A', c', ts'⟩ := y
    exact equal_step N ih k n v1 v2 v3 o A c ts k' n' v1' v2' v3' o' A' c' ts' w hN hx hy hz hz'
theorem equal_any (x y : XT) (w : World) (hx : LiesX w.heap.size w x) (hy : LiesX w.heap.size w y) (hz : szX x ≤ 1000000) (hz' : szX y ≤ 1000000) :
    Calls Tryd.prog 13 #[vX x, vX y] w fun e w' => e = .returned (.bool (eqX x y)) ∧ Below w.heap.size w w' := equal_ok (szX x) x y w (Nat.le_refl _) hx hy hz hz'
end Go.Proofs.YtpohofcfmllghaaDoor
