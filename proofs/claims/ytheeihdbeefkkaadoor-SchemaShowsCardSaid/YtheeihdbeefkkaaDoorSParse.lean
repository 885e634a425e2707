/-
  Parse of a schema's text: what one column's text is read as, the parts between brackets, and what comes of them.
-/
import Derived.Test.YtheeihdbeefkkaaDoorSCheck
import Derived.Test.YtheeihdbeefkkaaDoorShelf
namespace Go.Proofs.YtheeihdbeefkkaaDoor
open Go.RowKit

/-- The library's variable MaxLen holds some number. -/
def Mx (w : World) : Prop := ∃ m : Int, w.cell? ⟨0, 0, none⟩ = some (.int .i64 m)
theorem Mx.stays {w w' : World} (h : Mx w) (hb : Below w.heap.size w w') : Mx w' := by
  obtain ⟨m, hm⟩ := h
  refine ⟨m, (hb.cell (p := ⟨0, 0, none⟩) ?_).trans hm⟩
  rcases Nat.lt_or_ge 0 w.heap.size with h' | h'
  · exact h'
  · exfalso
    have : w.heap[0]? = none := Array.getElem?_eq_none h'
    simp [World.cell?, this] at hm

/-- The slice at A reads as these texts, and lies below block B. -/
def StrsAt (B : Nat) (w : World) (A : Option Addr) (l : List ByteArray) : Prop :=
  ∀ j, j < l.length → ∃ b off, A = some ⟨b, off, none⟩ ∧ b < B ∧ w.cell? ⟨b, off + j, none⟩ = some (.string (l.getD j ⟨#[]⟩))
theorem StrsAt.below {B : Nat} {w w' : World} {A : Option Addr} {l : List ByteArray} (h : StrsAt B w A l) (hb : Below B w w') : StrsAt B w' A l := fun j hj => by
  obtain ⟨b, off, e, hlt, h0⟩ := h j hj
  exact ⟨b, off, e, hlt, (hb.cell (p := ⟨b, off + j, none⟩) hlt).trans h0⟩
theorem StrsAt.mono {B B' : Nat} {w : World} {A : Option Addr} {l : List ByteArray} (h : StrsAt B w A l) (hB : B ≤ B') : StrsAt B' w A l := fun j hj => by
  obtain ⟨b, off, e, hlt, r⟩ := h j hj
  exact ⟨b, off, e, Nat.lt_of_lt_of_le hlt hB, r⟩

def typeN (s : ByteArray) : Int := if s.data.toList = [105, 110, 116] then 1 else if s.data.toList = [116, 101, 120, 116] then 2 else 0
def readC (p : ByteArray) : ByteArray × Int := (⟨(Lib.cut p.data.toList [32]).1.toArray⟩, typeN ⟨(Lib.cut p.data.toList [32]).2.1.toArray⟩)

set_option maxHeartbeats 800000 in
theorem typeOf_any (s : ByteArray) (w : World) : Calls Tryd.prog 52 #[.string s] w fun e w' => e = .returned (.int .i64 (typeN s)) ∧ w = w' := by
  by_cases h1 : s.data.toList = [105, 110, 116]
  · have HR := hide (show typeN s = 1 by unfold typeN; rw [if_pos h1])
    have he : (s.toList == [105, 110, 116]) = true := by rw [Lib.toList_data, h1]; rfl
    clear h1
    go_enter Tryd.func52, Tryd.ntmps52
    go_wp2
    go_ret
    exact ⟨ret_int HR.out.symm, rfl⟩
  have he : (s.toList == [105, 110, 116]) = false := by rw [Lib.toList_data]; simpa using h1
  by_cases h2 : s.data.toList = [116, 101, 120, 116]
  · have HR := hide (show typeN s = 2 by unfold typeN; rw [if_neg h1, if_pos h2])
    have he2 : (s.toList == [116, 101, 120, 116]) = true := by rw [Lib.toList_data, h2]; rfl
    clear h1 h2
    go_enter Tryd.func52, Tryd.ntmps52
    go_wp2
    go_ret
    exact ⟨ret_int HR.out.symm, rfl⟩
  · have HR := hide (show typeN s = 0 by unfold typeN; rw [if_neg h1, if_neg h2])
    have he2 : (s.toList == [116, 101, 120, 116]) = false := by rw [Lib.toList_data]; simpa using h2
    clear h1 h2
    go_enter Tryd.func52, Tryd.ntmps52
    go_wp2
    go_ret
    exact ⟨ret_int HR.out.symm, rfl⟩

set_option maxHeartbeats 800000 in
theorem readColumn_any (p : ByteArray) (w : World) (hs : p.size < 4294967281) (hm : Mx w) :
    Calls Tryd.prog 42 #[.string p] w fun e w' => e = .returned (vCol (readC p).1 (readC p).2) ∧ Below w.heap.size w w' := by
  have HM := hide hm; clear hm
  have HR := hide (show readC p = (⟨(Lib.cut p.data.toList [32]).1.toArray⟩, typeN ⟨(Lib.cut p.data.toList [32]).2.1.toArray⟩) from rfl)
  have HC := hide (fun m w hm => Tryd.strings_Cut p ⟨#[32]⟩ m w hs hm)
  go_enter Tryd.func42, Tryd.ntmps42
  go_wp2_with fail
  obtain ⟨m, hm⟩ := HM.out.stays ((Below.refl _ _).alloc (Nat.le_refl _) (.cells #[.string ⟨#[]⟩, .int .i64 0] 33))
  refine (HC.out m _ hm).mono ?_
  clear hm
  rintro e w' ⟨rfl, n, rfl⟩
  generalize Lib.cut p.data.toList [32] = q at HR ⊢
  obtain ⟨a, b, c⟩ := q
  go_wp2_with (go_at_call 52; refine (typeOf_any _ _).mono ?_; rintro e w' ⟨rfl, rfl⟩)
  go_returns
  exact ⟨by rw [HR.out], ((below_drewN ((Below.refl _ _).alloc (Nat.le_refl _) _) _).setCell (Nat.le_refl _) _).setCell (Nat.le_refl _) _⟩

/-- The parts of what stands between the brackets, and the columns that they are read as. -/
def partsOf (t : ByteArray) : List ByteArray := Lib.splitB ⟨#[44, 32]⟩ 0 (min 17 ((t.extract 1 (t.size - 1)).size + 1) - 1) (t.extract 1 (t.size - 1))
def colsOf (t : ByteArray) : List (ByteArray × Int) := (partsOf t).map readC
def bracketed (t : ByteArray) : Bool := decide (2 ≤ t.size) && (t.data.toList.getD 0 0 == 40 && t.data.toList.getD (t.size - 1) 0 == 41)

theorem parts_len (t : ByteArray) : (partsOf t).length ≤ 17 := by
  have := Lib.splitB_length_le ⟨#[44, 32]⟩ 0 (min 17 ((t.extract 1 (t.size - 1)).size + 1) - 1) (t.extract 1 (t.size - 1))
  unfold partsOf; omega

/-- SplitN, as Parse calls it: the parts, in a block of their own. -/
theorem splitN_any (u : ByteArray) (w : World) (hs : u.size < 4294967281) (hm : Mx w) :
    Calls Tryd.prog 41 #[.string u, .string ⟨#[44, 32]⟩, .int .i64 17] w fun e w' => e = .returned (.slice (some ⟨w.heap.size, 0, none⟩) (Lib.splitB ⟨#[44, 32]⟩ 0 (min 17 (u.size + 1) - 1) u).length (min 17 (u.size + 1))) ∧
      StrsAt w'.heap.size w' (some ⟨w.heap.size, 0, none⟩) (Lib.splitB ⟨#[44, 32]⟩ 0 (min 17 (u.size + 1) - 1) u) ∧ Below w.heap.size w w' := by
  obtain ⟨m, hm⟩ := hm
  refine (Tryd.strings_SplitN u ⟨#[44, 32]⟩ 17 m w hs hm (by decide) (by decide) (by decide)).mono ?_
  rintro e w' ⟨rfl, rfl⟩
  refine ⟨rfl, fun j hj => ⟨w.heap.size, 0, rfl, by simp, ?_⟩, (Below.refl _ _).alloc (Nat.le_refl _) _⟩
  rw [Nat.zero_add]
  have hc : (Lib.cellsOf (Lib.splitB ⟨#[44, 32]⟩ 0 (min 17 (u.size + 1) - 1) u) (min 17 (u.size + 1)))[j]? = some (.string ((Lib.splitB ⟨#[44, 32]⟩ 0 (min 17 (u.size + 1) - 1) u).getD j ⟨#[]⟩)) := by
    unfold Lib.cellsOf
    rw [List.getElem?_toArray, List.getElem?_append_left (by simpa using hj), List.getElem?_map, List.getElem?_eq_getElem hj, List.getD_eq_getElem?_getD, List.getElem?_eq_getElem hj]
    rfl
  simp [hc]
end Go.Proofs.YtheeihdbeefkkaaDoor
