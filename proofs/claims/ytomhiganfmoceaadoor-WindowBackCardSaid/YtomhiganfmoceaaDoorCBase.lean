/-
  Words that all walks of the calendar seat share.
-/
import Derived.Test.YtomhiganfmoceaaDoorProg
import Derived.Test.YtomhiganfmoceaaDoorCMath
import Derived.WalkKit
import Derived.WalkSpells
import Derived.WalkLawsBesides
import Derived.Handy
import Derived.Outline
import Derived.Deep.QuietTactic
import Derived.BigQuiet
import Derived.Lib.SmallJoins
import Derived.LoopTactic
import Derived.OwnWalk
import Derived.Laws.IdiomStrings
import Derived.KernelRfl
import Derived.Lib.LaidTab
namespace Go.Proofs.YtomhiganfmoceaaDoor
open Go.RowKit CM

theorem hide {p : Prop} (h : p) : Hid p := h
theorem ret_bool {a b : Bool} (h : a = b) : Ending.returned (.bool a) = .returned (.bool b) := by rw [h]
theorem ret_int {k : IntKind} {a b : Int} (h : a = b) : Ending.returned (.int k a) = .returned (.int k b) := by rw [h]
theorem ret_str {a b : ByteArray} (h : a = b) : Ending.returned (.string a) = .returned (.string b) := by rw [h]
theorem then_below {a b c : World} (h : Below a.heap.size a b) (k : Below b.heap.size b c) : Below a.heap.size a c := h.trans (k.mono h.size)
theorem bcell {W w1 : World} (hb : Below W.heap.size W w1) : (∀ b o, b < W.heap.size → w1.cell? ⟨b, o, none⟩ = W.cell? ⟨b, o, none⟩) ∧ (∀ b o, b < W.heap.size → w1.frozen? ⟨b, o, none⟩ = W.frozen? ⟨b, o, none⟩) :=
  ⟨fun b o h => hb.cell (p := ⟨b, o, none⟩) h, fun b o h => hb.frozen (p := ⟨b, o, none⟩) h⟩

/-- The variable monthDays holds the lengths of the months. -/
def monT : List Int := [31, 28, 31, 30, 31, 30, 31, 31, 30, 31, 30, 31]
def Mon (w : World) : Prop := ∀ i, i < 12 → w.cell? ⟨1, i, none⟩ = some (.int .i64 (monT.getD i 0))
theorem Mon.lt {w : World} (h : Mon w) : 1 < w.heap.size := by
  rcases Nat.lt_or_ge 1 w.heap.size with h' | h'
  · exact h'
  · exfalso
    have h0 := h 0 (by decide)
    have : w.heap[1]? = none := Array.getElem?_eq_none h'
    simp [World.cell?, this] at h0
theorem Mon.stays {B : Nat} {w w' : World} (h : Mon w) (hB : w.heap.size ≤ B) (hb : Below B w w') : Mon w' := fun i hi => (hb.cell (p := ⟨1, i, none⟩) (Nat.lt_of_lt_of_le h.lt hB)).trans (h i hi)
theorem Mon.on {w w' : World} (h : Mon w) (hb : Below w.heap.size w w') : Mon w' := h.stays (Nat.le_refl _) hb

theorem leap_any (y : Int) (w : World) : Calls Tryd.prog 79 #[.int .i64 y] w fun e w' => e = .returned (.bool (leapB y)) ∧ w = w' := by
  have HL : Hid (leapB y = ((y.tmod 4 == 0 && y.tmod 100 != 0) || y.tmod 400 == 0)) := hide rfl
  cases h1 : (y.tmod 4 == 0) <;> cases h2 : (y.tmod 100 != 0) <;> cases h3 : (y.tmod 400 == 0)
  all_goals
    go_enter Tryd.func79, Tryd.ntmps79
    go_wp2
    go_ret
    exact ⟨ret_bool (by rw [HL.out, h1, h2, h3]; rfl), rfl⟩
theorem rleap_any (y : Int) (w : World) : Calls Tryd.prog 62 #[.int .i64 y] w fun e w' => e = .returned (.bool (leapB y)) ∧ w = w' := by
  have HL : Hid (leapB y = ((y.tmod 4 == 0 && y.tmod 100 != 0) || y.tmod 400 == 0)) := hide rfl
  cases h1 : (y.tmod 4 == 0) <;> cases h2 : (y.tmod 100 != 0) <;> cases h3 : (y.tmod 400 == 0)
  all_goals
    go_enter Tryd.func62, Tryd.ntmps62
    go_wp2
    go_ret
    exact ⟨ret_bool (by rw [HL.out, h1, h2, h3]; rfl), rfl⟩
end Go.Proofs.YtomhiganfmoceaaDoor
