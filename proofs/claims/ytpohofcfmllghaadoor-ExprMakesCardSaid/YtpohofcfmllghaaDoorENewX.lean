/-
  Expressions in memory: where they don't lie, and what they are without their addresses.
-/
import Derived.Test.YtpohofcfmllghaaDoorEBase
namespace Go.Proofs.YtpohofcfmllghaaDoor
open Go.RowKit

mutual
/-- Nothing of it lies below block lo. -/
def newX (lo : Nat) : XT → Prop
  | .mk _ _ _ _ A _ ts => (∀ a, A = some a → lo ≤ a.block) ∧ newXs lo ts
def newXs (lo : Nat) : List XT → Prop
  | [] => True
  | x :: r => newX lo x ∧ newXs lo r
end
theorem newXs_at : ∀ {lo : Nat} {l : List XT} {k : Nat}, newXs lo l → k < l.length → newX lo (l.getD k dX)
  | _, [], k, _, h => by simp at h
  | _, _ :: _, 0, h, _ => h.1
  | _, _ :: r, k + 1, h, hk => newXs_at (l := r) (k := k) h.2 (by simpa using hk)
theorem newXs_of : ∀ {lo : Nat} {l : List XT}, (∀ k, k < l.length → newX lo (l.getD k dX)) → newXs lo l
  | _, [], _ => trivial
  | _, x :: r, h => ⟨h 0 (by simp), newXs_of fun k hk => h (k + 1) (by simpa using hk)⟩
mutual
theorem newX.mono : ∀ {lo lo' : Nat} {x : XT}, newX lo x → lo' ≤ lo → newX lo' x
  | _, _, .mk _ _ _ _ _ _ _, h, hl => ⟨fun a e => Nat.le_trans hl (h.1 a e), newXs.mono h.2 hl⟩
theorem newXs.mono : ∀ {lo lo' : Nat} {l : List XT}, newXs lo l → lo' ≤ lo → newXs lo' l
  | _, _, [], _, _ => trivial
  | _, _, _ :: _, h, hl => ⟨h.1.mono hl, newXs.mono h.2 hl⟩
end
theorem At7.same {w w' : World} {b o : Nat} {x : XT} (h : At7 w b o x) (he : w'.heap[b]? = w.heap[b]?) : At7 w' b o x := by
  obtain ⟨h0, h1, h2, h3, h4, h5, h6⟩ := h
  have c : ∀ i u, w.cell? ⟨b, i, none⟩ = some u → w'.cell? ⟨b, i, none⟩ = some u := fun i u hu => by
    unfold World.cell? at hu ⊢
    simp only [he]
    exact hu
  exact ⟨c _ _ h0, c _ _ h1, c _ _ h2, c _ _ h3, c _ _ h4, c _ _ h5, c _ _ h6⟩
/-- It lies so in every world that has the same blocks from lo on. -/
theorem LiesX.off {lo B : Nat} {w w' : World} {x : XT} (h : LiesX B w x) : newX lo x → (∀ b, lo ≤ b → b < B → w'.heap[b]? = w.heap[b]?) → LiesX B w' x := by
  induction h with
  | mk hA hc hs ih =>
    intro hn hb
    rename_i ts
    refine .mk hA (fun j hj => ?_) (fun x hx => ?_)
    · obtain ⟨b, off, e, hlt, h7⟩ := hc j hj
      exact ⟨b, off, e, hlt, h7.same (hb b (hn.1 _ e) hlt)⟩
    · obtain ⟨j, hj, e⟩ := List.getElem_of_mem hx
      have := newXs_at (k := j) hn.2 hj
      rw [List.getD_eq_getElem?_getD, List.getElem?_eq_getElem hj, Option.getD_some, e] at this
      exact ih x hx this hb

mutual
/-- An expression without its addresses. -/
def stripX : XT → XT
  | .mk k n v o _ _ ts => .mk k n v o none 0 (stripXs ts)
def stripXs : List XT → List XT
  | [] => []
  | x :: r => stripX x :: stripXs r
end
theorem stripXs_len : ∀ l : List XT, (stripXs l).length = l.length
  | [] => rfl
  | x :: r => by show (stripXs r).length + 1 = r.length + 1; rw [stripXs_len r]
theorem stripX_mk {x : XT} {k : Int} {n : ByteArray} {v : Int × Int × ByteArray} {o : ByteArray} {A : Option Addr} {c : Nat} {ts : List XT} (h : stripX x = stripX (.mk k n v o A c ts)) :
    ∃ A' c' ts', x = .mk k n v o A' c' ts' ∧ stripXs ts' = stripXs ts := by
  obtain ⟨k', n', v', o', A', c', ts'⟩ := x
  simp only [stripX, XT.mk.injEq, true_and] at h
  obtain ⟨rfl, rfl, rfl, rfl, h⟩ := h
  exact ⟨A', c', ts', rfl, h⟩
theorem stripXs_nil {l : List XT} (h : stripXs l = []) : l = [] := by
  cases l with
  | nil => rfl
  | cons x r => cases h
theorem stripXs_cons {l : List XT} {y : XT} {r : List XT} (h : stripXs l = stripX y :: stripXs r) : ∃ y' r', l = y' :: r' ∧ stripX y' = stripX y ∧ stripXs r' = stripXs r := by
  cases l with
  | nil => cases h
  | cons x s => injection h with h1 h2; exact ⟨x, s, rfl, h1, h2⟩
theorem stripXs_of : ∀ {l m : List XT}, l.length = m.length → (∀ k, k < l.length → stripX (l.getD k dX) = stripX (m.getD k dX)) → stripXs l = stripXs m
  | [], [], _, _ => rfl
  | [], _ :: _, h, _ => by simp at h
  | _ :: _, [], h, _ => by simp at h
  | x :: r, y :: s, hl, h => by
    show stripX x :: stripXs r = stripX y :: stripXs s
    rw [show stripX x = stripX y from h 0 (by simp), stripXs_of (l := r) (m := s) (by simpa using hl) fun k hk => h (k + 1) (by simpa using hk)]

/-- A list of expressions at an address: each one's cells, and what lies behind it, below block B. -/
def ArgsAt (B : Nat) (w : World) (A : Option Addr) (ts : List XT) : Prop :=
  ∀ j, j < ts.length → ∃ b off, A = some ⟨b, off, none⟩ ∧ b < B ∧ At7 w b (off + j * 7) (ts.getD j dX) ∧ LiesX B w (ts.getD j dX)
theorem ArgsAt.on {w w' : World} {A : Option Addr} {ts : List XT} (h : ArgsAt w.heap.size w A ts) (hb : Below w.heap.size w w') : ArgsAt w'.heap.size w' A ts := fun j hj => by
  obtain ⟨b, off, e, hlt, h7, hl⟩ := h j hj
  exact ⟨b, off, e, Nat.lt_of_lt_of_le hlt hb.size, h7.below hb hlt, hl.on hb⟩
theorem ArgsAt.of {B : Nat} {w : World} {x : XT} (h : LiesX B w x) : ArgsAt B w x.adr x.args := fun _ hj => h.at hj
theorem ArgsAt.lies {B : Nat} {w : World} {k : Int} {n : ByteArray} {v : Int × Int × ByteArray} {o : ByteArray} {A : Option Addr} {c : Nat} {ts : List XT} (h : ArgsAt B w A ts) (hA : A = none → c = 0) : LiesX B w (.mk k n v o A c ts) :=
  .mk hA (fun _ hj => by obtain ⟨b, off, e, hlt, h7, _⟩ := h _ hj; exact ⟨b, off, e, hlt, h7⟩) fun x hx => by
    obtain ⟨j, hj, e⟩ := List.getElem_of_mem hx
    obtain ⟨_, _, _, _, _, hl⟩ := h j hj
    rw [List.getD_eq_getElem?_getD, List.getElem?_eq_getElem hj, Option.getD_some, e] at hl
    exact hl
end Go.Proofs.YtpohofcfmllghaaDoor
