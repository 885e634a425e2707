/-
  The reference's split.
-/
import Derived.Test.YtggaflihblhapaaDoorHBetw
import Derived.Test.YtggaflihblhapaaDoorHPie
import Derived.Laws.OwnMore
import Derived.Deep.AppendLies
import Derived.Laws.Concat
namespace Go.Proofs.YtggaflihblhapaaDoor
open Go.RowKit CM HM

theorem pieces_snoc (c b : UInt8) : ∀ l : List UInt8, ∃ (r : List (List UInt8)) (p : List UInt8), pieces c l = r ++ [p] ∧ pieces c (l ++ [b]) = if b = c then r ++ [p] ++ [[]] else r ++ [p ++ [b]]
  | [] => ⟨[], [], rfl, by
    show pieces c [b] = _
    unfold pieces
    split <;> simp [pieces]⟩
  | a :: l => by
    obtain ⟨r, p, h1, h2⟩ := pieces_snoc c b l
    rw [List.cons_append]
    unfold pieces
    rw [h1, h2]
    by_cases ha : a = c
    · rw [if_pos ha, if_pos ha]
      refine ⟨[] :: r, p, rfl, ?_⟩
      split <;> rfl
    · rw [if_neg ha, if_neg ha]
      cases r with
      | nil =>
        refine ⟨[], a :: p, rfl, ?_⟩
        by_cases hb : b = c
        · rw [if_pos hb, if_pos hb]; rfl
        · rw [if_neg hb, if_neg hb]; rfl
      | cons q r =>
        refine ⟨(a :: q) :: r, p, rfl, ?_⟩
        by_cases hb : b = c
        · rw [if_pos hb, if_pos hb]; rfl
        · rw [if_neg hb, if_neg hb]; rfl
theorem piece_le (c : UInt8) : ∀ (l q : List UInt8), q ∈ pieces c l → q.length ≤ l.length
  | [], q, h => by simp [pieces] at h; simp [h]
  | b :: l, q, h => by
    unfold pieces at h
    split at h
    · rcases List.mem_cons.1 h with h | h
      · simp [h]
      · have := piece_le c l q h; simp; omega
    · split at h
      · rename_i hp
        simp at h; simp [h]
      · rename_i p r hp
        rcases List.mem_cons.1 h with h | h
        · have := piece_le c l p (by rw [hp]; exact List.mem_cons_self)
          simp [h]; exact this
        · have := piece_le c l q (by rw [hp]; exact List.mem_cons_of_mem _ h)
          simp; omega
def strCells (ts : List ByteArray) : List Value := ts.map Value.string
def bytesL (ts : List ByteArray) : List (List UInt8) := ts.map fun t => t.data.toList
theorem str_info : (Tryd.prog.info? 9).map (fun i => (i.zero, i.size, i.bytes)) = some (some (.string ⟨#[]⟩), 1, 16) := by kernel_rfl
theorem str_new (w : World) (t : TypeId) (s : ByteArray) (H : Nat) (hH : w.heap.size = H) : ∀ j u, ([.string s] : List Value)[j]? = some u → (w.alloc (.cells #[.string s] t)).cell? ((⟨H, 0, none⟩ : Addr).add j) = some u := fun j u hj => by
  subst hH
  match j, hj with
  | 0, hj => simp at hj; subst hj; simp [Addr.add]
theorem str_one' (s : ByteArray) : ∀ u ∈ ([.string s] : List Value), u.oneCell' = true := fun u hu => by
  simp at hu; subst hu; rfl
/-- What split tells. -/
def RSpl (c : UInt8) (l : List UInt8) (w : World) (e : Ending) (w' : World) : Prop :=
  (∃ v ts, e = .returned v ∧ bytesL ts = pieces c l ∧ w'.ownsRow w.heap.size 9 1 v ts.length (strCells ts)) ∧ Below w.heap.size w w'
theorem row_snoc {w : World} {base : Nat} {v : Value} {ts : List ByteArray} (h : w.ownsRow base 9 1 v ts.length (strCells ts)) (hn : ts ≠ []) :
    ∃ g cap r p, ts = r ++ [p] ∧ v = .slice (some ⟨g, 0, none⟩) (r.length + 1) cap ∧ base ≤ g ∧ w.cell? ⟨g, r.length, none⟩ = some (.string p) ∧ w.frozen? ⟨g, r.length, none⟩ = false := by
  obtain ⟨r, p, rfl⟩ : ∃ r p, ts = r ++ [p] := ⟨ts.dropLast, ts.getLast hn, (List.dropLast_concat_getLast hn).symm⟩
  have hl : (r ++ [p]).length = r.length + 1 := by simp
  rw [hl] at h
  rcases h.2 with ⟨rfl, h0⟩ | ⟨g, cap, cur, rfl, hb, -⟩
  · omega
  · refine ⟨g, cap, r, p, rfl, rfl, hb, ?_, h.frozenAt _⟩
    rw [h.cellAt r.length (by omega)]
    simp [strCells]
end Go.Proofs.YtggaflihblhapaaDoor
