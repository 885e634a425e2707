/-
  Numbers told and read: Itoa and Atoi, twoDigits, number.
-/
import Derived.Test.YtomhiganfmoceaaDoorCMonth
import Derived.Test.YtomhiganfmoceaaDoorCText
import Derived.Test.YtomhiganfmoceaaDoorShelf
import Derived.Lib.LaidTab
import Derived.Lib.ItoaLen
import Derived.Sort.Grow
namespace Go.Proofs.YtomhiganfmoceaaDoor
open Go.RowKit Go.Sort CM

/-- What strconv.Itoa reads: its table of powers of ten. -/
def Tab (w : World) : Prop := Lib.TabIs Tryd.prog w "internal/strconv.uint64pow10" .u64 Lib.pow10Tab
theorem g_tab : Tryd.prog.globalNamed "internal/strconv.uint64pow10" = some 2 := by kernel_rfl
theorem Tab.stays {w w' : World} {B : Nat} (h : Tab w) (hb : Below B w w') (hB : w.heap.size ≤ B) : Tab w' := Joins.tab_stays g_tab h hb hB
theorem Tab.on {w w' : World} (h : Tab w) (hb : Below w.heap.size w w') : Tab w' := h.stays hb (Nat.le_refl _)

theorem below_grow (w : World) (k : Nat) (os : Array Obj) : Below w.heap.size w (grow (w.drewN k) os) :=
  ⟨rfl, rfl, rfl, by simp [grow], fun j hj => by
    show ((w.heap ++ os)[j]? : Option Obj) = w.heap[j]?
    exact Array.getElem?_append_left hj⟩
theorem itoa_any (n : Int) (w : World) (h0 : 0 ≤ n) (h1 : n ≤ 100000) (ht : Tab w) :
    Calls Tryd.prog 36 #[.int .i64 n] w fun e w' => e = .returned (.string ⟨(Lib.itoa n).toArray⟩) ∧ Below w.heap.size w w' := by
  refine (Tryd.strconv_Itoa n (by omega) (by omega) w ht).mono ?_
  rintro e w' ⟨rfl, k, os, rfl⟩
  exact ⟨rfl, below_grow w k os⟩
/-- A text of bytes. -/
abbrev txt (l : List UInt8) : Value := .string ⟨l.toArray⟩
theorem cat_txt (a b : List UInt8) : (⟨a.toArray⟩ : ByteArray) ++ ⟨b.toArray⟩ = ⟨(a ++ b).toArray⟩ := by
  apply ByteArray.ext; simp [ByteArray.data_append]
/-- The two errors that strconv.Atoi tells lie in their variables. -/
def Errs (w : World) : Prop := (∃ (t : TypeId) (p : Value), w.var? Tryd.prog "strconv.ErrSyntax" = some #[.iface t p]) ∧ ∃ (t : TypeId) (p : Value), w.var? Tryd.prog "strconv.ErrRange" = some #[.iface t p]
theorem g_syn : Tryd.prog.globalNamed "strconv.ErrSyntax" = some 4 := by kernel_rfl
theorem g_ran : Tryd.prog.globalNamed "strconv.ErrRange" = some 5 := by kernel_rfl
theorem Errs.stays {w w' : World} {B : Nat} (h : Errs w) (hb : Below B w w') (hB : w.heap.size ≤ B) : Errs w' := by
  obtain ⟨⟨t, p, h1⟩, u, q, h2⟩ := h
  exact ⟨⟨t, p, Joins.var_stays g_syn h1 hb hB⟩, u, q, Joins.var_stays g_ran h2 hb hB⟩
theorem Errs.on {w w' : World} (h : Errs w) (hb : Below w.heap.size w w') : Errs w' := h.stays hb (Nat.le_refl _)
theorem below_bytes (w : World) (e : TypeId) (t : ByteArray) : Below w.heap.size w (Lib.bytesWorld w e t) :=
  ⟨by simp [Lib.bytesWorld, World.freeze, World.alloc, World.drew, -World.alloc_eq, -World.drew_eq], by simp [Lib.bytesWorld, World.freeze, World.alloc, World.drew, -World.alloc_eq, -World.drew_eq],
    by simp [Lib.bytesWorld, World.freeze, World.alloc, World.drew, -World.alloc_eq, -World.drew_eq], by simp [Lib.bytesWorld, World.freeze, World.alloc, World.drew, -World.alloc_eq, -World.drew_eq], fun k hk => Lib.bytesWorld_at_old w e t k hk⟩
/-- The number that Atoi tells. -/
def numV (l : List UInt8) : Int := match Lib.atoiAll l with | .ok v => v | .syntax => 0 | .range => Lib.atoiSat l
theorem numV_ok {l : List UInt8} {v : Int} (h : Lib.atoiAll l = .ok v) : numV l = v := by unfold numV; rw [h]
/-- The number and whatever error beside it. -/
def NumErr (l : List UInt8) (w : World) (e : Ending) (w' : World) : Prop := ∃ x : Value, e = .returned (.tuple #[.int .i64 (numV l), x]) ∧ Below w.heap.size w w'
theorem atoi_any (s : ByteArray) (w : World) (hs : s.size ≤ 1000) (hE : Errs w) : Calls Tryd.prog 49 #[.string s] w (NumErr s.data.toList w) := by
  obtain ⟨⟨t, p, h1⟩, u, q, h2⟩ := hE
  cases hx : Lib.atoiAll s.data.toList with
  | ok v =>
    refine (Tryd.strconv_Atoi_ok s (by omega) v hx w).mono ?_
    rintro e w' ⟨rfl, hw⟩
    refine ⟨_, by rw [numV_ok hx], ?_⟩
    rcases hw with rfl | ⟨t, rfl⟩
    · exact Below.refl _ _
    · exact below_bytes w _ t
  | «syntax» =>
    refine (Tryd.strconv_Atoi_syntax_var s (by omega) hx t p w h1).mono ?_
    rintro e w' ⟨N, rfl, _, _, hb⟩
    exact ⟨_, by unfold numV; rw [hx], hb⟩
  | range =>
    refine (Tryd.strconv_Atoi_range_var s (by omega) hx u q w h2).mono ?_
    rintro e w' ⟨N, rfl, _, _, hb⟩
    exact ⟨_, by unfold numV; rw [hx], hb⟩
end Go.Proofs.YtomhiganfmoceaaDoor
