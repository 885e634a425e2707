/-
  Bytes, lists of byte slices and lists of such lists in memory, in blocks of which a predicate holds.
-/
import Derived.Test.YtkdihekhdnnheaaDoorFTwo
import Derived.Test.YtkdihekhdnnheaaDoorKNew
import Derived.Test.YtkdihekhdnnheaaDoorKCrash
namespace Go.Proofs.YtkdihekhdnnheaaDoor
open Go.RowKit

/-- The slice at A reads as these bytes, in blocks that P tells. -/
def BytesIn (P : Nat → Prop) (w : World) (A : Option Addr) (l : List UInt8) : Prop :=
  ∀ j, j < l.length → ∃ b off, A = some ⟨b, off, none⟩ ∧ P b ∧ b < w.heap.size ∧ w.cell? ⟨b, off + j, none⟩ = some (.int .u8 (l.getD j 0).toNat)
theorem cell_same {w w' : World} {b : Nat} (i : Nat) (h : w'.heap[b]? = w.heap[b]?) : w'.cell? ⟨b, i, none⟩ = w.cell? ⟨b, i, none⟩ := by
  simp only [World.cell?]
  rw [h]
theorem BytesIn.keep {P Q : Nat → Prop} {w w' : World} {A : Option Addr} {l : List UInt8} (h : BytesIn P w A l) (hs : w.heap.size ≤ w'.heap.size) (hb : ∀ b, P b → b < w.heap.size → Q b ∧ w'.heap[b]? = w.heap[b]?) : BytesIn Q w' A l := fun j hj => by
  obtain ⟨b, off, e, e1, e3, e4⟩ := h j hj
  exact ⟨b, off, e, (hb b e1 e3).1, Nat.lt_of_lt_of_le e3 hs, (cell_same _ (hb b e1 e3).2).trans e4⟩
theorem BytesIn.bytes {P : Nat → Prop} {w : World} {A : Option Addr} {l : List UInt8} (h : BytesIn P w A l) : BytesAt w.heap.size w A l := fun j hj => by
  obtain ⟨b, off, e, _, e3, e4⟩ := h j hj
  exact ⟨b, off, e, e3, e4⟩
theorem BytesIn.of_bytes {P : Nat → Prop} {w : World} {A : Option Addr} {l : List UInt8} (h : BytesAt w.heap.size w A l) (hp : ∀ a, A = some a → P a.block) : BytesIn P w A l := fun j hj => by
  obtain ⟨b, off, e, e3, e4⟩ := h j hj
  exact ⟨b, off, e, hp _ e, e3, e4⟩
theorem BytesIn.nil (P : Nat → Prop) (w : World) (A : Option Addr) : BytesIn P w A [] := fun j hj => by simp at hj
theorem own_mono {w : World} {base base' n k : Nat} {e : TypeId} {v : Value} {xs : List Value} (h : w.ownsRow base e k v n xs) (hb : base' ≤ base) : w.ownsRow base' e k v n xs := by
  rcases h with ⟨e0, ⟨e1, e2⟩ | ⟨g', cap, cur, e1, e2, r⟩⟩
  · exact ⟨e0, .inl ⟨e1, e2⟩⟩
  · exact ⟨e0, .inr ⟨g', cap, cur, e1, by omega, r⟩⟩
/-- A list of byte slices, with what they hold. -/
def RecsIn (P : Nat → Prop) (w : World) (A : Option Addr) (rs : List BH) : Prop :=
  ∀ j, j < rs.length → ∃ b off, A = some ⟨b, off, none⟩ ∧ P b ∧ b < w.heap.size ∧ w.cell? ⟨b, off + j, none⟩ = some (hdr (rs.getD j dH)) ∧ BytesIn P w (rs.getD j dH).A (rs.getD j dH).l ∧ WfH (rs.getD j dH)
theorem RecsIn.keep {P Q : Nat → Prop} {w w' : World} {A : Option Addr} {l : List BH} (h : RecsIn P w A l) (hs : w.heap.size ≤ w'.heap.size) (hb : ∀ b, P b → b < w.heap.size → Q b ∧ w'.heap[b]? = w.heap[b]?) : RecsIn Q w' A l := fun j hj => by
  obtain ⟨b, off, e, e1, e3, e4, e5, e6⟩ := h j hj
  exact ⟨b, off, e, (hb b e1 e3).1, Nat.lt_of_lt_of_le e3 hs, (cell_same _ (hb b e1 e3).2).trans e4, e5.keep hs hb, e6⟩
theorem RecsIn.nil (P : Nat → Prop) (w : World) (A : Option Addr) : RecsIn P w A [] := fun j hj => by simp at hj
/-- A group's slice, with its records. -/
structure GH where
  A : Option Addr
  c : Nat
  rs : List BH
def dG : GH := ⟨none, 0, []⟩
def ghd (h : GH) : Value := .slice h.A h.rs.length h.c
structure WfG (h : GH) : Prop where
  l : h.rs.length ≤ maxLen
  n : h.A = none → h.c = 0
def GrpsIn (P : Nat → Prop) (w : World) (A : Option Addr) (gs : List GH) : Prop :=
  ∀ j, j < gs.length → ∃ b off, A = some ⟨b, off, none⟩ ∧ P b ∧ b < w.heap.size ∧ w.cell? ⟨b, off + j, none⟩ = some (ghd (gs.getD j dG)) ∧ RecsIn P w (gs.getD j dG).A (gs.getD j dG).rs ∧ WfG (gs.getD j dG)
theorem GrpsIn.keep {P Q : Nat → Prop} {w w' : World} {A : Option Addr} {l : List GH} (h : GrpsIn P w A l) (hs : w.heap.size ≤ w'.heap.size) (hb : ∀ b, P b → b < w.heap.size → Q b ∧ w'.heap[b]? = w.heap[b]?) : GrpsIn Q w' A l := fun j hj => by
  obtain ⟨b, off, e, e1, e3, e4, e5, e6⟩ := h j hj
  exact ⟨b, off, e, (hb b e1 e3).1, Nat.lt_of_lt_of_le e3 hs, (cell_same _ (hb b e1 e3).2).trans e4, e5.keep hs hb, e6⟩
theorem GrpsIn.nil (P : Nat → Prop) (w : World) (A : Option Addr) : GrpsIn P w A [] := fun j hj => by simp at hj
theorem RecsIn.below {P : Nat → Prop} {w w' : World} {A : Option Addr} {l : List BH} (h : RecsIn P w A l) (hb : Below w.heap.size w w') : RecsIn P w' A l := h.keep hb.size fun b p hlt => ⟨p, hb.block b hlt⟩
theorem BytesIn.below {P : Nat → Prop} {w w' : World} {A : Option Addr} {l : List UInt8} (h : BytesIn P w A l) (hb : Below w.heap.size w w') : BytesIn P w' A l := h.keep hb.size fun b p hlt => ⟨p, hb.block b hlt⟩
theorem GrpsIn.below {P : Nat → Prop} {w w' : World} {A : Option Addr} {l : List GH} (h : GrpsIn P w A l) (hb : Below w.heap.size w w') : GrpsIn P w' A l := h.keep hb.size fun b p hlt => ⟨p, hb.block b hlt⟩
theorem GrpsIn.mono {P Q : Nat → Prop} {w : World} {A : Option Addr} {l : List GH} (h : GrpsIn P w A l) (hq : ∀ b, P b → b < w.heap.size → Q b) : GrpsIn Q w A l := h.keep (Nat.le_refl _) fun b p hlt => ⟨hq b p hlt, rfl⟩
theorem RecsIn.mono {P Q : Nat → Prop} {w : World} {A : Option Addr} {l : List BH} (h : RecsIn P w A l) (hq : ∀ b, P b → b < w.heap.size → Q b) : RecsIn Q w A l := h.keep (Nat.le_refl _) fun b p hlt => ⟨hq b p hlt, rfl⟩
theorem BytesIn.mono {P Q : Nat → Prop} {w : World} {A : Option Addr} {l : List UInt8} (h : BytesIn P w A l) (hq : ∀ b, P b → b < w.heap.size → Q b) : BytesIn Q w A l := h.keep (Nat.le_refl _) fun b p hlt => ⟨hq b p hlt, rfl⟩
/-- The bytes of a group's records, of all groups'. -/
def gsOf (gs : List GH) : List (List (List UInt8)) := gs.map fun h => lsOf h.rs
theorem gsOf_len (gs : List GH) : (gsOf gs).length = gs.length := by simp [gsOf]
theorem gsOf_get {gs : List GH} {j : Nat} (hj : j < gs.length) : (gsOf gs).getD j [] = lsOf (gs.getD j dG).rs := by
  unfold gsOf
  rw [List.getD_eq_getElem?_getD, List.getElem?_map, List.getD_eq_getElem?_getD, List.getElem?_eq_getElem hj]
  rfl
theorem gsOf_snoc (gs : List GH) (h : GH) : gsOf (gs ++ [h]) = gsOf gs ++ [lsOf h.rs] := by simp [gsOf]
/-- One element of such a list, taken apart. -/
theorem RecsIn.got {P : Nat → Prop} {w : World} {A : Option Addr} {rs : List BH} (h : RecsIn P w A rs) {k : Nat} (hk : k < rs.length) :
    ∃ b off A0 c0 l0, A = some ⟨b, off, none⟩ ∧ P b ∧ b < w.heap.size ∧ w.cell? ⟨b, off + k, none⟩ = some (.slice A0 l0.length c0) ∧ BytesIn P w A0 l0 ∧ (lsOf rs).getD k [] = l0 ∧ l0.length ≤ maxLen ∧ (A0 = none → c0 = 0) := by
  obtain ⟨b, off, e, hp, hlt, h0, h1, h2⟩ := h k hk
  exact ⟨b, off, _, _, _, e, hp, hlt, h0, h1, lsOf_get hk, h2.l, h2.n⟩
theorem GrpsIn.got {P : Nat → Prop} {w : World} {A : Option Addr} {gs : List GH} (h : GrpsIn P w A gs) {k : Nat} (hk : k < gs.length) :
    ∃ b off A0 c0 rs0, A = some ⟨b, off, none⟩ ∧ P b ∧ b < w.heap.size ∧ w.cell? ⟨b, off + k, none⟩ = some (.slice A0 rs0.length c0) ∧ RecsIn P w A0 rs0 ∧ (gsOf gs).getD k [] = lsOf rs0 ∧ rs0.length ≤ maxLen ∧ (A0 = none → c0 = 0) := by
  obtain ⟨b, off, e, hp, hlt, h0, h1, h2⟩ := h k hk
  exact ⟨b, off, _, _, _, e, hp, hlt, h0, h1, gsOf_get hk, h2.l, h2.n⟩
theorem HeadsAt.recs {P : Nat → Prop} {w : World} {A : Option Addr} {hs : List BH} (h : HeadsAt w.heap.size w A hs) (hw : WfHs hs) (hp : ∀ b, b < w.heap.size → P b) : RecsIn P w A hs := fun j hj => by
  obtain ⟨b, off, e, hlt, h0, h1⟩ := h j hj
  exact ⟨b, off, e, hp b hlt, hlt, h0, (fun i hi => by obtain ⟨b', o', e', h', c'⟩ := h1 i hi; exact ⟨b', o', e', hp b' h', h', c'⟩), hw.2 j hj⟩
end Go.Proofs.YtkdihekhdnnheaaDoor
