/-
  A slice of rows: where each row lies, and what it reads as.
-/
import Derived.Test.YtbjcbgomkhdmmaaDoorSRow
namespace Go.Proofs.YtbjcbgomkhdmmaaDoor
open Go.RowKit

/-- Where a row lies, its capacity, what it reads as. -/
abbrev RH := Option Addr × Nat × List (Int × Int × ByteArray)
def dH : RH := (none, 0, [])
def hdr (h : RH) : Value := .slice h.1 h.2.2.length h.2.1
def rowsOf (hs : List RH) : List (List (Int × Int × ByteArray)) := hs.map fun h => h.2.2
def HdrOk (B : Nat) (w : World) (h : RH) : Prop := RowAt B w h.1 h.2.2 ∧ (h.1 = none → h.2.1 = 0)
/-- The slice at A holds these rows; it and they lie below block B. -/
def RowsAt (B : Nat) (w : World) (A : Option Addr) (hs : List RH) : Prop :=
  (∀ j, j < hs.length → ∃ b off, A = some ⟨b, off, none⟩ ∧ b < B ∧ w.cell? ⟨b, off + j, none⟩ = some (hdr (hs.getD j dH))) ∧ ∀ h ∈ hs, HdrOk B w h
theorem HdrOk.below {B : Nat} {w w' : World} {h : RH} (k : HdrOk B w h) (hb : Below B w w') : HdrOk B w' h := ⟨k.1.below hb, k.2⟩
theorem HdrOk.mono {B B' : Nat} {w : World} {h : RH} (k : HdrOk B w h) (hB : B ≤ B') : HdrOk B' w h := ⟨k.1.mono hB, k.2⟩
theorem HdrOk.on {w w' : World} {h : RH} (k : HdrOk w.heap.size w h) (hb : Below w.heap.size w w') : HdrOk w'.heap.size w' h := (k.below hb).mono hb.size
theorem RowsAt.below {B : Nat} {w w' : World} {A : Option Addr} {hs : List RH} (h : RowsAt B w A hs) (hb : Below B w w') : RowsAt B w' A hs :=
  ⟨fun j hj => by
    obtain ⟨b, off, e, hlt, h0⟩ := h.1 j hj
    exact ⟨b, off, e, hlt, (hb.cell (p := ⟨b, off + j, none⟩) hlt).trans h0⟩, fun x hx => (h.2 x hx).below hb⟩
theorem RowsAt.mono {B B' : Nat} {w : World} {A : Option Addr} {hs : List RH} (h : RowsAt B w A hs) (hB : B ≤ B') : RowsAt B' w A hs :=
  ⟨fun j hj => by
    obtain ⟨b, off, e, hlt, h0⟩ := h.1 j hj
    exact ⟨b, off, e, Nat.lt_of_lt_of_le hlt hB, h0⟩, fun x hx => (h.2 x hx).mono hB⟩
theorem RowsAt.on {w w' : World} {A : Option Addr} {hs : List RH} (h : RowsAt w.heap.size w A hs) (hb : Below w.heap.size w w') : RowsAt w'.heap.size w' A hs := (h.below hb).mono hb.size
theorem RowsAt.nil (B : Nat) (w : World) (A : Option Addr) : RowsAt B w A [] := ⟨fun j h => by simp at h, fun h hh => by simp at hh⟩
theorem getH_mem {hs : List RH} {k : Nat} (hk : k < hs.length) : hs.getD k dH ∈ hs := by
  rw [List.getD_eq_getElem?_getD, List.getElem?_eq_getElem hk]; exact List.getElem_mem hk
/-- Row k: its cell, and what it reads as. -/
theorem RowsAt.at {B : Nat} {w : World} {A : Option Addr} {hs : List RH} (h : RowsAt B w A hs) {k : Nat} (hk : k < hs.length) :
    ∃ b off A' c r, A = some ⟨b, off, none⟩ ∧ b < B ∧ w.cell? ⟨b, off + k, none⟩ = some (.slice A' r.length c) ∧ RowAt B w A' r ∧ (A' = none → c = 0) ∧ hs.getD k dH = (A', c, r) := by
  obtain ⟨b, off, e, hlt, h0⟩ := h.1 k hk
  have h1 := h.2 _ (getH_mem hk)
  generalize hs.getD k dH = x at h0 h1
  obtain ⟨A', c, r⟩ := x
  exact ⟨b, off, A', c, r, e, hlt, h0, h1.1, h1.2, rfl⟩
theorem take_row {hs : List RH} {k : Nat} (hk : k < hs.length) : hs.take (k + 1) = hs.take k ++ [hs.getD k dH] := by
  rw [List.take_succ_eq_append_getElem hk, List.getD_eq_getElem?_getD, List.getElem?_eq_getElem hk]; rfl
theorem rowsOf_len (hs : List RH) : (rowsOf hs).length = hs.length := List.length_map ..
theorem rowsOf_at {hs : List RH} {k : Nat} (hk : k < hs.length) : (rowsOf hs).getD k [] = (hs.getD k dH).2.2 := by
  unfold rowsOf
  rw [List.getD_eq_getElem?_getD, List.getElem?_map, List.getElem?_eq_getElem hk, List.getD_eq_getElem?_getD, List.getElem?_eq_getElem hk]; rfl
theorem take_rows {hs : List RH} {k : Nat} (hk : k < hs.length) : (rowsOf hs).take (k + 1) = (rowsOf hs).take k ++ [(hs.getD k dH).2.2] := by
  unfold rowsOf
  rw [← List.map_take, take_row hk, List.map_append, List.map_take]; rfl

/-- Rows as a program may hold them. -/
def WfT (rs : List (List (Int × Int × ByteArray))) : Prop := rs.length ≤ maxLen ∧ ∀ r ∈ rs, WfR r
theorem WfT.at {hs : List RH} (h : WfT (rowsOf hs)) {j : Nat} (hj : j < hs.length) : WfR (hs.getD j dH).2.2 := by
  refine h.2 _ ?_
  unfold rowsOf
  exact List.mem_map.2 ⟨_, getH_mem hj, rfl⟩

/-- A row of the call's own that holds these slices is a slice of these rows. -/
theorem rows_of_row {w : World} {base B : Nat} {e : TypeId} {v : Value} {hs : List RH} (h : w.ownsRow base e 1 v hs.length (hs.map hdr)) (hok : ∀ h ∈ hs, HdrOk B w h) (hB : B ≤ w.heap.size) :
    ∃ A cap, v = .slice A hs.length cap ∧ RowsAt w.heap.size w A hs ∧ (A = none → cap = 0) := by
  rcases h.2 with ⟨rfl, h0⟩ | ⟨g, cap, cur, rfl, _, hg, hn, _, hsz, htk⟩
  · rw [h0]; exact ⟨none, 0, rfl, ⟨fun j hj => by omega, fun x hx => (hok x hx).mono hB⟩, fun _ => rfl⟩
  · refine ⟨some ⟨g, 0, none⟩, cap, rfl, ⟨fun j hj => ⟨g, 0, rfl, ?_, ?_⟩, fun x hx => (hok x hx).mono hB⟩, fun e => by cases e⟩
    · rcases Nat.lt_or_ge g w.heap.size with h' | h'
      · exact h'
      · simp [Array.getElem?_eq_none h'] at hg
    · rw [Nat.zero_add, Lib.cell_of_heap hg]
      have hc : (hs.map hdr)[j]? = some (hdr (hs.getD j dH)) := by
        rw [List.getElem?_map, List.getElem?_eq_getElem hj, List.getD_eq_getElem?_getD, List.getElem?_eq_getElem hj]; rfl
      rw [← htk, List.getElem?_take_of_lt (by omega)] at hc
      simpa using hc
theorem hdr_one (h : RH) : ∀ u ∈ ([hdr h] : List Value), u.oneCell' = true := fun u hu => by
  simp at hu; subst hu; rfl
theorem hdr_new (w : World) (t : TypeId) (h : RH) (H : Nat) (hH : w.heap.size = H) : ∀ j u, ([hdr h] : List Value)[j]? = some u → (w.alloc (.cells #[hdr h] t)).cell? ((⟨H, 0, none⟩ : Addr).add j) = some u := fun j u hj => by
  subst hH
  match j, hj with
  | 0, hj => simp at hj; subst hj; simp [Addr.add]
theorem row_info : (Tryd.prog.info? 22).map (fun i => (i.zero, i.size, i.bytes)) = some (some (.slice none 0 0), 1, 24) := by kernel_rfl
end Go.Proofs.YtbjcbgomkhdmmaaDoor
