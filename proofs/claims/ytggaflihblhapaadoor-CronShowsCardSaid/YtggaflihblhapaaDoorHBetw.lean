/-
  Between: the minutes that match, in a list of its own.
-/
import Derived.Test.YtggaflihblhapaaDoorHBet
namespace Go.Proofs.YtggaflihblhapaaDoor
open Go.RowKit CM HM

/-- The slice at A reads as these integers, and lies below block B. -/
def IntsAt (B : Nat) (w : World) (A : Option Addr) (l : List Int) : Prop :=
  ∀ j, j < l.length → ∃ b off, A = some ⟨b, off, none⟩ ∧ b < B ∧ w.cell? ⟨b, off + j, none⟩ = some (.int .i64 (l.getD j 0))
theorem IntsAt.below {B : Nat} {w w' : World} {A : Option Addr} {l : List Int} (h : IntsAt B w A l) (hb : Below B w w') : IntsAt B w' A l := fun j hj => by
  obtain ⟨b, off, e, hlt, h0⟩ := h j hj
  exact ⟨b, off, e, hlt, (hb.cell (p := ⟨b, off + j, none⟩) hlt).trans h0⟩
theorem IntsAt.mono {B B' : Nat} {w : World} {A : Option Addr} {l : List Int} (h : IntsAt B w A l) (hB : B ≤ B') : IntsAt B' w A l := fun j hj => by
  obtain ⟨b, off, e, hlt, r⟩ := h j hj
  exact ⟨b, off, e, Nat.lt_of_lt_of_le hlt hB, r⟩
def intCells (l : List Int) : List Value := l.map (Value.int .i64)
theorem intCells_len (l : List Int) : (intCells l).length = l.length * 1 := by simp [intCells]
theorem ints_of_row {w : World} {base : Nat} {e : TypeId} {v : Value} {l : List Int} (h : w.ownsRow base e 1 v l.length (intCells l)) :
    ∃ A cap, v = .slice A l.length cap ∧ IntsAt w.heap.size w A l := by
  rcases h.2 with ⟨rfl, h0⟩ | ⟨g, cap, cur, rfl, _, hg, hn, _, hsz, htk⟩
  · rw [h0]; exact ⟨none, 0, rfl, fun j hj => by omega⟩
  · refine ⟨some ⟨g, 0, none⟩, cap, rfl, fun j hj => ⟨g, 0, rfl, ?_, ?_⟩⟩
    · rcases Nat.lt_or_ge g w.heap.size with h' | h'
      · exact h'
      · simp [Array.getElem?_eq_none h'] at hg
    · rw [Nat.zero_add, Lib.cell_of_heap hg]
      have hc : (intCells l)[j]? = some (.int .i64 (l.getD j 0)) := by
        unfold intCells; rw [List.getElem?_map, List.getElem?_eq_getElem hj, List.getD_eq_getElem?_getD, List.getElem?_eq_getElem hj]; rfl
      rw [← htk, List.getElem?_take_of_lt (by omega)] at hc
      simpa using hc
theorem int_row_info : (Tryd.prog.info? 3).map (fun i => (i.zero, i.size, i.bytes)) = some (some (.int .i64 0), 1, 8) := by kernel_rfl
theorem int_new (w : World) (t : TypeId) (n : Int) (H : Nat) (hH : w.heap.size = H) : ∀ j u, ([.int .i64 n] : List Value)[j]? = some u → (w.alloc (.cells #[.int .i64 n] t)).cell? ((⟨H, 0, none⟩ : Addr).add j) = some u := fun j u hj => by
  subst hH
  match j, hj with
  | 0, hj => simp at hj; subst hj; simp [Addr.add]
theorem int_one' (n : Int) : ∀ u ∈ ([.int .i64 n] : List Value), u.oneCell' = true := fun u hu => by
  simp at hu; subst hu; rfl
theorem only_of_below {a w : World} (h : Below a.heap.size a w) (row : Option Nat) : a.grownBy w row := ⟨h.os, h.tape, h.output, h.size, fun i hi _ => h.block i hi⟩

def BetGood (c : Sp) (f t : Int) : Prop := validB c = true ∧ -1 ≤ f ∧ f ≤ t ∧ 0 ≤ t ∧ t ≤ 2147483647
/-- What Between tells. -/
def BetOut (c : Sp) (f t : Int) (w : World) (e : Ending) (w' : World) : Prop :=
  ((BetGood c f t ∧ (mins c (f + 1) t).length ≤ 10000 ∧ ∃ v, e = .returned (.tuple #[v, .int .i64 0]) ∧ w'.ownsRow w.heap.size 3 1 v (mins c (f + 1) t).length (intCells (mins c (f + 1) t))) ∨
   (¬ (BetGood c f t ∧ (mins c (f + 1) t).length ≤ 10000) ∧ e = .returned (.tuple #[.slice none 0 0, .int .i64 30]))) ∧ Below w.heap.size w w'
def boolV : Value → Bool
  | .bool b => b
  | _ => false
def betMeas (t : Int) (u v : Value) : Nat := if boolV v = true then (t + 1 - intOf u).toNat else 0
theorem own_mono {w : World} {b b' : Nat} {e : TypeId} {s n : Nat} {v : Value} {l : List Value} (h : w.ownsRow b e s v n l) (hb : b' ≤ b) : w.ownsRow b' e s v n l := by
  obtain ⟨h1, h2⟩ := h
  refine ⟨h1, ?_⟩
  rcases h2 with h2 | ⟨g, cap, cur, e0, e1, e2⟩
  · exact .inl h2
  · exact .inr ⟨g, cap, cur, e0, by omega, e2⟩
/-- The two results of first. -/
def Ans (r : Option Int) (x y : Value) : Prop := match r with
  | some n => x = .int .i64 n ∧ y = .bool true
  | none => x = .int .i64 0 ∧ y = .bool false
theorem fir_ans {c : Sp} {a z : Int} {w : World} (e : Ending) (w' : World) (h : FirOut c a z w e w') : (∃ r x y, FirIs c a z r ∧ Ans r x y ∧ e = .returned (.tuple #[x, y])) ∧ Below w.heap.size w w' := by
  obtain ⟨⟨r, hr, he⟩, hb⟩ := h
  refine ⟨?_, hb⟩
  cases r with
  | none => exact ⟨none, _, _, hr, ⟨rfl, rfl⟩, he⟩
  | some n => exact ⟨some n, _, _, hr, ⟨rfl, rfl⟩, he⟩
end Go.Proofs.YtggaflihblhapaaDoor
