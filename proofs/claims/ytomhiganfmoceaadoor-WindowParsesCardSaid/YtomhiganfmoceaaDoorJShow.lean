/-
  The words, number, kindOf, Show.
-/
import Derived.Test.YtomhiganfmoceaaDoorJWin
import Derived.Test.YtomhiganfmoceaaDoorJText
import Derived.Lib.QuietBelow
namespace Go.Proofs.YtomhiganfmoceaaDoor
open Go.RowKit Go.Sort CM JM

theorem lt_of_cell {w : World} {a o : Nat} {v : Value} (h0 : w.cell? ⟨a, o, none⟩ = some v) : a < w.heap.size := by
  rcases Nat.lt_or_ge a w.heap.size with h' | h'
  · exact h'
  · exfalso
    have : w.heap[a]? = none := Array.getElem?_eq_none h'
    simp [World.cell?, this] at h0
/-- The library's variable MaxLen holds some number. -/
def Mx (w : World) : Prop := ∃ m : Int, w.cell? ⟨3, 0, none⟩ = some (.int .i64 m)
theorem Mx.on {w w' : World} (h : Mx w) (hb : Below w.heap.size w w') : Mx w' := by
  obtain ⟨m, hm⟩ := h
  exact ⟨m, (hb.cell (p := ⟨3, 0, none⟩) (lt_of_cell hm)).trans hm⟩
theorem run_idxW (k : Nat) (hk : k < 5) (w : World) : (Instr.index 61 (.agg #[txt (wordK 1), txt (wordK 2), txt (wordK 3), txt (wordK 4), txt (wordK 5)]) (.int .i64 (k : Nat))).run Tryd.prog w = .ok (txt (wordK ((k : Int) + 1))) w := by
  obtain rfl | rfl | rfl | rfl | rfl : k = 0 ∨ k = 1 ∨ k = 2 ∨ k = 3 ∨ k = 4 := by omega
  all_goals kernel_rfl
theorem itoa_all (n : Int) (w : World) (h0 : -9223372036854775808 ≤ n) (h1 : n ≤ 9223372036854775807) (ht : Tab w) :
    Calls Tryd.prog 36 #[.int .i64 n] w fun e w' => e = .returned (.string ⟨(Lib.itoa n).toArray⟩) ∧ Below w.heap.size w w' := by
  refine (Tryd.strconv_Itoa n h0 h1 w ht).mono ?_
  rintro e w' ⟨rfl, k, os, rfl⟩
  exact ⟨rfl, below_grow w k os⟩
end Go.Proofs.YtomhiganfmoceaaDoor
