/-
  A slice of values as a list of kinds, integers and texts; what the laws' own function refRow does with one.
-/
import Derived.Test.YtpohofcfmllghaaDoorSCols
namespace Go.Proofs.YtpohofcfmllghaaDoor
open Go.RowKit

abbrev V3 := Int × Int × ByteArray
abbrev d3 : Int × Int × ByteArray := (0, 0, ⟨#[]⟩)
/-- The slice at A reads as these values, and lies below block B. -/
def RowAt (B : Nat) (w : World) (A : Option Addr) (vs : List (Int × Int × ByteArray)) : Prop :=
  ∀ j, j < vs.length → ∃ b off, A = some ⟨b, off, none⟩ ∧ b < B ∧ w.cell? ⟨b, off + j * 3, none⟩ = some (.int .i64 (vs.getD j (0, 0, ⟨#[]⟩)).1) ∧ w.cell? ⟨b, off + j * 3 + 1, none⟩ = some (.int .i64 (vs.getD j (0, 0, ⟨#[]⟩)).2.1) ∧
    w.cell? ⟨b, off + j * 3 + 2, none⟩ = some (.string (vs.getD j (0, 0, ⟨#[]⟩)).2.2)
theorem RowAt.below {B : Nat} {w w' : World} {A : Option Addr} {vs : List (Int × Int × ByteArray)} (h : RowAt B w A vs) (hb : Below B w w') : RowAt B w' A vs := fun j hj => by
  obtain ⟨b, off, e, hlt, h0, h1, h2⟩ := h j hj
  exact ⟨b, off, e, hlt, (hb.cell (p := ⟨b, off + j * 3, none⟩) hlt).trans h0, (hb.cell (p := ⟨b, off + j * 3 + 1, none⟩) hlt).trans h1, (hb.cell (p := ⟨b, off + j * 3 + 2, none⟩) hlt).trans h2⟩
theorem RowAt.mono {B B' : Nat} {w : World} {A : Option Addr} {vs : List (Int × Int × ByteArray)} (h : RowAt B w A vs) (hB : B ≤ B') : RowAt B' w A vs := fun j hj => by
  obtain ⟨b, off, e, hlt, r⟩ := h j hj
  exact ⟨b, off, e, Nat.lt_of_lt_of_le hlt hB, r⟩
theorem RowAt.on {w w' : World} {A : Option Addr} {vs : List (Int × Int × ByteArray)} (h : RowAt w.heap.size w A vs) (hb : Below w.heap.size w w') : RowAt w'.heap.size w' A vs := (h.below hb).mono hb.size
theorem RowAt.nil (B : Nat) (w : World) (A : Option Addr) : RowAt B w A [] := fun j h => by simp at h

def valWf (v : Int × Int × ByteArray) : Prop := (-9223372036854775808 ≤ v.1 ∧ v.1 ≤ 9223372036854775807) ∧ (-9223372036854775808 ≤ v.2.1 ∧ v.2.1 ≤ 9223372036854775807) ∧ v.2.2.size ≤ maxLen
def WfR (vs : List (Int × Int × ByteArray)) : Prop := vs.length ≤ maxLen ∧ ∀ v ∈ vs, valWf v
theorem WfR.at {vs : List (Int × Int × ByteArray)} (h : WfR vs) {j : Nat} (hj : j < vs.length) : valWf (vs.getD j (0, 0, ⟨#[]⟩)) := by
  rw [List.getD_eq_getElem?_getD, List.getElem?_eq_getElem hj]; exact h.2 _ (List.getElem_mem hj)

def smallR (vs : List (Int × Int × ByteArray)) : Bool := vs.all (fun v => decide (v.2.2.size ≤ 100)) && decide (vs.length ≤ 40)
theorem smallR_no {vs : List (Int × Int × ByteArray)} {k : Nat} (hk : k < vs.length) (h : 100 < (vs.getD k (0, 0, ⟨#[]⟩)).2.2.size) : smallR vs = false := by
  unfold smallR
  have : vs.all (fun v => decide (v.2.2.size ≤ 100)) = false := by
    rw [Bool.eq_false_iff]; intro ha
    rw [List.all_eq_true] at ha
    rw [List.getD_eq_getElem?_getD, List.getElem?_eq_getElem hk] at h
    have := ha _ (List.getElem_mem hk)
    simp at this h; omega
  rw [this]; rfl
def preR (vs : List (Int × Int × ByteArray)) (k : Nat) : Prop := ∀ j, j < k → (vs.getD j (0, 0, ⟨#[]⟩)).2.2.size ≤ 100
theorem preR_succ {vs : List (Int × Int × ByteArray)} {k : Nat} (h : preR vs k) (hc : (vs.getD k (0, 0, ⟨#[]⟩)).2.2.size ≤ 100) : preR vs (k + 1) := fun j hj => by
  by_cases e : j = k
  · subst e; exact hc
  · exact h j (by omega)
theorem smallR_end {vs : List (Int × Int × ByteArray)} (h : preR vs vs.length) : smallR vs = decide (vs.length ≤ 40) := by
  unfold smallR
  have : vs.all (fun v => decide (v.2.2.size ≤ 100)) = true := by
    rw [List.all_eq_true]; intro c hc
    obtain ⟨j, hj, e⟩ := List.getElem_of_mem hc
    have := h j hj
    rw [List.getD_eq_getElem?_getD, List.getElem?_eq_getElem hj] at this
    simp at this; rw [← e]; simp; omega
  rw [this]; rfl

/-- The cells of a list of values, in a row. -/
def valCells (vs : List (Int × Int × ByteArray)) : List Value := vs.flatMap fun v => [.int .i64 v.1, .int .i64 v.2.1, .string v.2.2]
theorem valCells_len (vs : List (Int × Int × ByteArray)) : (valCells vs).length = vs.length * 3 := by
  induction vs with
  | nil => rfl
  | cons c r ih => simp only [valCells, List.flatMap_cons, List.length_append, List.length_cons, List.length_nil] at ih ⊢; omega
theorem valCells_snoc (vs : List (Int × Int × ByteArray)) (v : Int × Int × ByteArray) : valCells (vs ++ [v]) = valCells vs ++ [.int .i64 v.1, .int .i64 v.2.1, .string v.2.2] := by simp [valCells]
theorem take_val {vs : List (Int × Int × ByteArray)} {k : Nat} (hk : k < vs.length) : vs.take (k + 1) = vs.take k ++ [vs.getD k (0, 0, ⟨#[]⟩)] := by
  rw [List.take_succ_eq_append_getElem hk, List.getD_eq_getElem?_getD, List.getElem?_eq_getElem hk]; rfl
theorem valCells_at : ∀ (vs : List (Int × Int × ByteArray)) (j : Nat), j < vs.length →
    (valCells vs)[j * 3]? = some (.int .i64 (vs.getD j (0, 0, ⟨#[]⟩)).1) ∧ (valCells vs)[j * 3 + 1]? = some (.int .i64 (vs.getD j (0, 0, ⟨#[]⟩)).2.1) ∧ (valCells vs)[j * 3 + 2]? = some (.string (vs.getD j (0, 0, ⟨#[]⟩)).2.2)
  | [], j, h => by simp at h
  | c :: r, 0, _ => by simp [valCells]
  | c :: r, j + 1, h => by
    have := valCells_at r j (by simpa using h)
    have e : valCells (c :: r) = .int .i64 c.1 :: .int .i64 c.2.1 :: .string c.2.2 :: valCells r := by simp [valCells]
    rw [e, show (j + 1) * 3 = j * 3 + 1 + 1 + 1 by omega]
    simpa using this
theorem val_info : (Tryd.prog.info? 26).map (fun i => (i.zero, i.size, i.bytes)) = some (some (.agg #[.int .i64 0, .int .i64 0, .string ⟨#[]⟩]), 3, 32) := by kernel_rfl
theorem row_of_row {w : World} {base : Nat} {e : TypeId} {v : Value} {vs : List (Int × Int × ByteArray)} (h : w.ownsRow base e 3 v vs.length (valCells vs)) :
    ∃ A cap, v = .slice A vs.length cap ∧ RowAt w.heap.size w A vs := by
  rcases h.2 with ⟨rfl, h0⟩ | ⟨g, cap, cur, rfl, _, hg, hn, _, hsz, htk⟩
  · rw [h0]; exact ⟨none, 0, rfl, fun j hj => by omega⟩
  · refine ⟨some ⟨g, 0, none⟩, cap, rfl, fun j hj => ⟨g, 0, rfl, ?_, ?_⟩⟩
    · rcases Nat.lt_or_ge g w.heap.size with h' | h'
      · exact h'
      · simp [Array.getElem?_eq_none h'] at hg
    · have hc := valCells_at vs j hj
      rw [← htk] at hc
      have hk : ∀ i u, i < vs.length * 3 → (cur.toList.take (vs.length * 3))[i]? = some u → w.cell? ⟨g, i, none⟩ = some u := fun i u hi hu => by
        rw [List.getElem?_take_of_lt hi] at hu
        rw [Lib.cell_of_heap hg]; simpa using hu
      rw [Nat.zero_add]
      exact ⟨hk _ _ (by omega) hc.1, hk _ _ (by omega) hc.2.1, hk _ _ (by omega) hc.2.2⟩
def GivesRow (vs : List (Int × Int × ByteArray)) (w : World) (e : Ending) (w' : World) : Prop :=
  (∃ A cap, e = .returned (.slice A vs.length cap) ∧ RowAt w'.heap.size w' A vs) ∧ Below w.heap.size w w'
theorem val_new (w : World) (t : TypeId) (v : Int × Int × ByteArray) (H : Nat) (hH : w.heap.size = H) : ∀ j u, ([.int .i64 v.1, .int .i64 v.2.1, .string v.2.2] : List Value)[j]? = some u → (w.alloc (.cells #[.int .i64 v.1, .int .i64 v.2.1, .string v.2.2] t)).cell? ((⟨H, 0, none⟩ : Addr).add j) = some u := fun j u hj => by
  subst hH
  match j, hj with
  | 0, hj => simp at hj; subst hj; simp [Addr.add]
  | 1, hj => simp at hj; subst hj; simp [Addr.add]
  | 2, hj => simp at hj; subst hj; simp [Addr.add]
theorem val_one (v : Int × Int × ByteArray) : ∀ u ∈ ([.int .i64 v.1, .int .i64 v.2.1, .string v.2.2] : List Value), u.oneCell' = true := fun u hu => by
  simp at hu; rcases hu with rfl | rfl | rfl <;> rfl

/-- The call gives a slice of its own that reads as these values. -/
def GivesNew (vs : List (Int × Int × ByteArray)) (w : World) (e : Ending) (w' : World) : Prop :=
  (∃ A c, e = .returned (.slice A vs.length c) ∧ RowAt w'.heap.size w' A vs ∧ (A = none → c = 0) ∧ ∀ a, A = some a → w.heap.size ≤ a.block) ∧ Below w.heap.size w w'
theorem row_new {w : World} {base : Nat} {e : TypeId} {v : Value} {vs : List (Int × Int × ByteArray)} (h : w.ownsRow base e 3 v vs.length (valCells vs)) :
    ∃ A cap, v = .slice A vs.length cap ∧ RowAt w.heap.size w A vs ∧ (A = none → cap = 0) ∧ ∀ a, A = some a → base ≤ a.block := by
  obtain ⟨A, cap, rfl, hA⟩ := row_of_row h
  refine ⟨A, cap, rfl, hA, ?_, ?_⟩
  · rintro rfl
    rcases h.2 with ⟨e, _⟩ | ⟨g, c, cur, e, _⟩
    · injection e
    · injection e with e1; cases e1
  · rintro a rfl
    exact (h.lt a.block rfl).1
end Go.Proofs.YtpohofcfmllghaaDoor
