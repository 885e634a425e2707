/-
  A slice of columns as a list of names and types; what the laws' own small functions do with one: small, ref.
-/
import Derived.Test.YtpohofcfmllghaaDoorSName
namespace Go.Proofs.YtpohofcfmllghaaDoor
open Go.RowKit

/-- The slice at A reads as these columns, and lies below block B. -/
def ColsAt (B : Nat) (w : World) (A : Option Addr) (cs : List (ByteArray × Int)) : Prop :=
  ∀ j, j < cs.length → ∃ b off, A = some ⟨b, off, none⟩ ∧ b < B ∧ w.cell? ⟨b, off + j * 2, none⟩ = some (.string (cs.getD j (⟨#[]⟩, 0)).1) ∧ w.cell? ⟨b, off + j * 2 + 1, none⟩ = some (.int .i64 (cs.getD j (⟨#[]⟩, 0)).2)

theorem ColsAt.below {B : Nat} {w w' : World} {A : Option Addr} {cs : List (ByteArray × Int)} (h : ColsAt B w A cs) (hb : Below B w w') : ColsAt B w' A cs := fun j hj => by
  obtain ⟨b, off, e, hlt, h0, h1⟩ := h j hj
  exact ⟨b, off, e, hlt, (hb.cell (p := ⟨b, off + j * 2, none⟩) hlt).trans h0, (hb.cell (p := ⟨b, off + j * 2 + 1, none⟩) hlt).trans h1⟩
theorem ColsAt.mono {B B' : Nat} {w : World} {A : Option Addr} {cs : List (ByteArray × Int)} (h : ColsAt B w A cs) (hB : B ≤ B') : ColsAt B' w A cs := fun j hj => by
  obtain ⟨b, off, e, hlt, r⟩ := h j hj
  exact ⟨b, off, e, Nat.lt_of_lt_of_le hlt hB, r⟩
theorem ColsAt.on {w w' : World} {A : Option Addr} {cs : List (ByteArray × Int)} (h : ColsAt w.heap.size w A cs) (hb : Below w.heap.size w w') : ColsAt w'.heap.size w' A cs := (h.below hb).mono hb.size
theorem ColsAt.nil (B : Nat) (w : World) (A : Option Addr) : ColsAt B w A [] := fun j h => by simp at h

def colWf (c : ByteArray × Int) : Prop := c.1.size ≤ maxLen ∧ -9223372036854775808 ≤ c.2 ∧ c.2 ≤ 9223372036854775807
def Wf (cs : List (ByteArray × Int)) : Prop := cs.length ≤ maxLen ∧ ∀ c ∈ cs, colWf c
theorem Wf.at {cs : List (ByteArray × Int)} (h : Wf cs) {j : Nat} (hj : j < cs.length) : colWf (cs.getD j (⟨#[]⟩, 0)) := by
  rw [List.getD_eq_getElem?_getD, List.getElem?_eq_getElem hj]; exact h.2 _ (List.getElem_mem hj)

def smallB (cs : List (ByteArray × Int)) : Bool := cs.all (fun c => decide (c.1.size ≤ 100)) && decide (cs.length ≤ 40)

theorem small_no {cs : List (ByteArray × Int)} {k : Nat} (hk : k < cs.length) (h : 100 < (cs.getD k (⟨#[]⟩, 0)).1.size) : smallB cs = false := by
  unfold smallB
  have : cs.all (fun c => decide (c.1.size ≤ 100)) = false := by
    rw [Bool.eq_false_iff]; intro ha
    rw [List.all_eq_true] at ha
    rw [List.getD_eq_getElem?_getD, List.getElem?_eq_getElem hk] at h
    have := ha _ (List.getElem_mem hk)
    simp at this h; omega
  rw [this]; rfl
def preS (cs : List (ByteArray × Int)) (k : Nat) : Prop := ∀ j, j < k → (cs.getD j (⟨#[]⟩, 0)).1.size ≤ 100
theorem preS_succ {cs : List (ByteArray × Int)} {k : Nat} (h : preS cs k) (hc : (cs.getD k (⟨#[]⟩, 0)).1.size ≤ 100) : preS cs (k + 1) := fun j hj => by
  by_cases e : j = k
  · subst e; exact hc
  · exact h j (by omega)
theorem small_end {cs : List (ByteArray × Int)} (h : preS cs cs.length) : smallB cs = decide (cs.length ≤ 40) := by
  unfold smallB
  have : cs.all (fun c => decide (c.1.size ≤ 100)) = true := by
    rw [List.all_eq_true]; intro c hc
    obtain ⟨j, hj, e⟩ := List.getElem_of_mem hc
    have := h j hj
    rw [List.getD_eq_getElem?_getD, List.getElem?_eq_getElem hj] at this
    simp at this; rw [← e]; simp; omega
  rw [this]; rfl

/-- The cells of a list of columns, in a row. -/
def colCells (cs : List (ByteArray × Int)) : List Value := cs.flatMap fun c => [.string c.1, .int .i64 c.2]
theorem colCells_len (cs : List (ByteArray × Int)) : (colCells cs).length = cs.length * 2 := by
  induction cs with
  | nil => rfl
  | cons c r ih => simp only [colCells, List.flatMap_cons, List.length_append, List.length_cons, List.length_nil] at ih ⊢; omega
theorem colCells_snoc (cs : List (ByteArray × Int)) (c : ByteArray × Int) : colCells (cs ++ [c]) = colCells cs ++ [.string c.1, .int .i64 c.2] := by simp [colCells]
theorem take_col {cs : List (ByteArray × Int)} {k : Nat} (hk : k < cs.length) : cs.take (k + 1) = cs.take k ++ [cs.getD k (⟨#[]⟩, 0)] := by
  rw [List.take_succ_eq_append_getElem hk, List.getD_eq_getElem?_getD, List.getElem?_eq_getElem hk]; rfl
theorem colCells_at : ∀ (cs : List (ByteArray × Int)) (j : Nat), j < cs.length →
    (colCells cs)[j * 2]? = some (.string (cs.getD j (⟨#[]⟩, 0)).1) ∧ (colCells cs)[j * 2 + 1]? = some (.int .i64 (cs.getD j (⟨#[]⟩, 0)).2)
  | [], j, h => by simp at h
  | c :: r, 0, _ => by simp [colCells]
  | c :: r, j + 1, h => by
    have := colCells_at r j (by simpa using h)
    have e : colCells (c :: r) = .string c.1 :: .int .i64 c.2 :: colCells r := by simp [colCells]
    rw [e, show (j + 1) * 2 = j * 2 + 1 + 1 by omega]
    simpa using this

theorem col_info : (Tryd.prog.info? 44).map (fun i => (i.zero, i.size, i.bytes)) = some (some (.agg #[.string ⟨#[]⟩, .int .i64 0]), 2, 24) := by kernel_rfl

/-- A row of the call's own that holds these columns reads as them. -/
theorem cols_of_row {w : World} {base : Nat} {e : TypeId} {v : Value} {cs : List (ByteArray × Int)} (h : w.ownsRow base e 2 v cs.length (colCells cs)) :
    ∃ A cap, v = .slice A cs.length cap ∧ ColsAt w.heap.size w A cs := by
  rcases h.2 with ⟨rfl, h0⟩ | ⟨g, cap, cur, rfl, _, hg, hn, _, hsz, htk⟩
  · rw [h0]; exact ⟨none, 0, rfl, fun j hj => by omega⟩
  · refine ⟨some ⟨g, 0, none⟩, cap, rfl, fun j hj => ⟨g, 0, rfl, ?_, ?_⟩⟩
    · rcases Nat.lt_or_ge g w.heap.size with h' | h'
      · exact h'
      · simp [Array.getElem?_eq_none h'] at hg
    · have hc := colCells_at cs j hj
      rw [← htk] at hc
      have hk : ∀ i u, i < cs.length * 2 → (cur.toList.take (cs.length * 2))[i]? = some u → w.cell? ⟨g, i, none⟩ = some u := fun i u hi hu => by
        rw [List.getElem?_take_of_lt hi] at hu
        rw [Lib.cell_of_heap hg]; simpa using hu
      rw [Nat.zero_add]
      exact ⟨hk _ _ (by omega) hc.1, hk _ _ (by omega) hc.2⟩

/-- The call gives a slice that reads as these columns, and writes nothing that was there. -/
def GivesCols (cs : List (ByteArray × Int)) (w : World) (e : Ending) (w' : World) : Prop :=
  (∃ A cap, e = .returned (.slice A cs.length cap) ∧ ColsAt w'.heap.size w' A cs) ∧ Below w.heap.size w w'

/-- The two cells of a new block that holds one column. -/
theorem col_new (w : World) (t : TypeId) (c : ByteArray × Int) (H : Nat) (hH : w.heap.size = H) : ∀ j u, ([.string c.1, .int .i64 c.2] : List Value)[j]? = some u → (w.alloc (.cells #[.string c.1, .int .i64 c.2] t)).cell? ((⟨H, 0, none⟩ : Addr).add j) = some u := fun j u hj => by
  subst hH
  match j, hj with
  | 0, hj => simp at hj; subst hj; simp [Addr.add]
  | 1, hj => simp at hj; subst hj; simp [Addr.add]
theorem col_one (c : ByteArray × Int) : ∀ u ∈ ([.string c.1, .int .i64 c.2] : List Value), u.oneCell' = true := fun u hu => by
  simp at hu; rcases hu with rfl | rfl <;> rfl

end Go.Proofs.YtpohofcfmllghaaDoor
