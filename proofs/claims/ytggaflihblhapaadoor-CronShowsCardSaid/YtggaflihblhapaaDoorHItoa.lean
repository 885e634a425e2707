/-
  strconv.Itoa of small numbers.
-/
import Derived.Test.YtggaflihblhapaaDoorHMath
import Derived.Test.YtggaflihblhapaaDoorCBase
import Derived.Test.YtggaflihblhapaaDoorShelf
import Derived.Lib.LaidTab
import Derived.Lib.ItoaLen
import Derived.Sort.Grow
namespace Go.Proofs.YtggaflihblhapaaDoor
open Go.RowKit Go.Sort CM

/-- What strconv.Itoa reads: its table of powers of ten. -/
def Tab (w : World) : Prop := Lib.TabIs Tryd.prog w "internal/strconv.uint64pow10" .u64 Lib.pow10Tab
theorem g_tab : Tryd.prog.globalNamed "internal/strconv.uint64pow10" = some 5 := by kernel_rfl
theorem Tab.stays {w w' : World} {B : Nat} (h : Tab w) (hb : Below B w w') (hB : w.heap.size ≤ B) : Tab w' := Joins.tab_stays g_tab h hb hB
theorem Tab.on {w w' : World} (h : Tab w) (hb : Below w.heap.size w w') : Tab w' := h.stays hb (Nat.le_refl _)

theorem below_grow (w : World) (k : Nat) (os : Array Obj) : Below w.heap.size w (grow (w.drewN k) os) :=
  ⟨rfl, rfl, rfl, by simp [grow], fun j hj => by
    show ((w.heap ++ os)[j]? : Option Obj) = w.heap[j]?
    exact Array.getElem?_append_left hj⟩
theorem itoa_any (n : Int) (w : World) (h0 : 0 ≤ n) (h1 : n ≤ 100000) (ht : Tab w) :
    Calls Tryd.prog 48 #[.int .i64 n] w fun e w' => e = .returned (.string ⟨(Lib.itoa n).toArray⟩) ∧ Below w.heap.size w w' := by
  refine (Tryd.strconv_Itoa n (by omega) (by omega) w ht).mono ?_
  rintro e w' ⟨rfl, k, os, rfl⟩
  exact ⟨rfl, below_grow w k os⟩
/-- A text of bytes. -/
abbrev txt (l : List UInt8) : Value := .string ⟨l.toArray⟩
end Go.Proofs.YtggaflihblhapaaDoor
