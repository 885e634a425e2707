/-
  What the laws of layer 11 share: contracts behind a box, schemes compared, windows counted.
-/
import Derived.Test.YtomhiganfmoceaaDoorJRef
import Derived.Test.YtomhiganfmoceaaDoorJAt
import Derived.ChangeKeysEq
namespace Go.Proofs.YtomhiganfmoceaaDoor
open Go.RowKit Go.Sort CM JM

/-- A call that tells this, wherever it is made behind W. -/
abbrev Gv (W : World) (f : FuncId) (args : Array Value) (v : Value) : Prop := ∀ w1, Below W.heap.size W w1 → Calls Tryd.prog f args w1 fun e w2 => e = .returned v ∧ Below w1.heap.size w1 w2
theorem sch_fields : Tryd.prog.underlying 25 = some (.struct (Tryd.prog.fieldsOf 25)) := by kernel_rfl
theorem sch_stood : Tryd.prog.stoodInHeld 25 = false := by kernel_rfl
theorem sch_guard : Tryd.prog.eqGuardType Tryd.prog.depth 25 = false := by kernel_rfl
theorem sch_fieldsL : (Tryd.prog.fieldsOf 25).toList.map (fun f => (f.type, f.offset, decide (f.name ≠ "_"))) = [(3, 0, true), (3, 1, true), (3, 2, true)] := by kernel_rfl
theorem list3 {α : Type} {l : List α} (h : l.length = 3) : ∃ a b c, l = [a, b, c] := by
  match l, h with
  | [a, b, c], _ => exact ⟨a, b, c, rfl⟩
/-- Whether two schemes are one. -/
def sameS (k a z k' a' z' : Int) : Bool := k == k' && (a == a' && z == z')
set_option maxHeartbeats 1000000 in
theorem run_eql_sch (k a z k' a' z' : Int) (w : World) : (binOp .eql 25 (vS k a z) (vS k' a' z')).run Tryd.prog w = .ok (.bool (sameS k a z k' a' z')) w := by
  have h3 := Tryd.underlying3
  have hf := sch_fieldsL
  rw [run_eql_struct, run_equalIn_agg w 9999 25 _ _ sch_fields sch_stood]
  generalize (Tryd.prog.fieldsOf 25).toList = fs at hf
  have hl : fs.length = 3 := by have := congrArg List.length hf; simpa using this
  obtain ⟨f0, f1, f2, rfl⟩ := list3 hl
  simp only [List.map_cons, List.map_nil, List.cons.injEq, Prod.mk.injEq, and_true] at hf
  obtain ⟨⟨a0, b0, c0⟩, ⟨a1, b1, c1⟩, a2, b2, c2⟩ := hf
  simp only [decide_eq_true_eq] at c0 c1 c2
  unfold sameS
  simp [Op.eqFields, a0, b0, c0, a1, b1, c1, a2, b2, c2, h3, go_sem]
  clear hl a0 b0 c0 a1 b1 c1 a2 b2 c2 h3
  repeat' split
  all_goals simp_all
theorem run_guard_sch (k a z k' a' z' : Int) (u v : Operand) (w : World) : (eqGuard .eql 25 u v (vS k a z) (vS k' a' z')).run Tryd.prog w = .ok () w := run_eqGuard_agg w .eql _ u v _ _ sch_guard
theorem same_self (k a z : Int) : sameS k a z k a z = true := by simp [sameS]
/-- A minute between the first begin and the last end lies in a window. -/
theorem tile_in {k a m : Int} (h0 : 0 ≤ a) : ∀ n : Nat, bg k a ≤ m → m < bg k (a + (n : Int) + 1) → ∃ i, a ≤ i ∧ i ≤ a + (n : Int) ∧ bg k i ≤ m ∧ m < bg k (i + 1)
  | 0, h1, h2 => ⟨a, Int.le_refl _, by omega, h1, by rwa [show a + ((0 : Nat) : Int) + 1 = a + 1 by omega] at h2⟩
  | n + 1, h1, h2 => by
    by_cases h : m < bg k (a + (n : Int) + 1)
    · obtain ⟨i, g1, g2, g3, g4⟩ := tile_in h0 n h1 h
      exact ⟨i, g1, by omega, g3, g4⟩
    · exact ⟨a + (n : Int) + 1, by omega, by omega, by omega, by rwa [show a + ((n + 1 : Nat) : Int) + 1 = a + (n : Int) + 1 + 1 by omega] at h2⟩
theorem at_none {k a z m : Int} (h0 : 0 ≤ a) (hz : a ≤ z) (h5 : ¬ k = 5) (h : AtIs k a z m none) : m < bg k a ∨ bg k (z + 1) ≤ m := by
  rcases h with h | h
  · exact absurd h h5
  · by_cases h1 : m < bg k a
    · exact .inl h1
    · by_cases h2 : bg k (z + 1) ≤ m
      · exact .inr h2
      · obtain ⟨i, g1, g2, g3, g4⟩ := tile_in (k := k) h0 (z - a).toNat (m := m) (by omega) (by rw [show a + ((z - a).toNat : Int) + 1 = z + 1 by omega]; omega)
        exact absurd ⟨g3, g4⟩ (h i g1 (by omega))
theorem at_some {k a z m i : Int} (h0 : 0 ≤ a) (h : AtIs k a z m (some i)) : bg k a ≤ m ∧ m < bg k (z + 1) ∧ a ≤ i ∧ i ≤ z ∧ bg k i ≤ m ∧ m < bg k (i + 1) := by
  obtain ⟨h1, h2, _, h3, h4⟩ := h
  have g1 := bg_mono (k := k) (a := a) (b := i) h0 h1
  have g2 := bg_mono (k := k) (a := i + 1) (b := z + 1) (by omega) (by omega)
  exact ⟨by omega, by omega, h1, h2, h3, h4⟩
theorem at_one {k a z m : Int} (h0 : 0 ≤ a) {r s : Option Int} (hr : AtIs k a z m r) (hs : AtIs k a z m s) : r = s := by
  have key : ∀ i j, AtIs k a z m (some i) → AtIs k a z m (some j) → i < j → False := fun i j hi hj hl => by
    obtain ⟨i1, i2, _, i3, i4⟩ := hi
    obtain ⟨j1, j2, _, j3, j4⟩ := hj
    have := bg_mono (k := k) (a := i + 1) (b := j) (by omega) (by omega)
    omega
  have out : ∀ i, AtIs k a z m (some i) → ¬ AtIs k a z m none := fun i hi hn => by
    obtain ⟨i1, i2, i5, i3, i4⟩ := hi
    rcases hn with hn | hn
    · exact i5 hn
    · exact hn i i1 i2 ⟨i3, i4⟩
  cases r with
  | none => cases s with
    | none => rfl
    | some j => exact absurd hr (out j hs)
  | some i => cases s with
    | none => exact absurd hs (out i hr)
    | some j =>
      rcases Int.lt_trichotomy i j with h | h | h
      · exact (key i j hr hs h).elim
      · rw [h]
      · exact (key j i hs hr h).elim
/-- What At tells, as a value. -/
def atV : Option Int → Value
  | some x => .tuple #[.int .i64 x, .bool true]
  | none => .tuple #[.int .i64 0, .bool false]
theorem at_gv {k a z m : Int} {W : World} (hok : okS k a z = true) (hM : ∀ w1, Below W.heap.size W w1 → Mon w1) : ∃ r, AtIs k a z m r ∧ Gv W 46 #[vS k a z, .int .i64 m] (atV r) := by
  have hbd := ok_bd hok
  have go : ∀ r, AtIs k a z m r → Gv W 46 #[vS k a z, .int .i64 m] (atV r) := fun r hr w1 hb => by
    refine (at_any k a z m w1 (hM w1 hb) hok).mono ?_
    rintro e w2 ⟨⟨s, hs, rfl⟩, hb2⟩
    obtain rfl := at_one hbd.1 hr hs
    refine ⟨?_, hb2⟩
    cases r <;> rfl
  by_cases h : ∃ i, AtIs k a z m (some i)
  · obtain ⟨i, hi⟩ := h
    exact ⟨_, hi, go _ hi⟩
  · have hn : AtIs k a z m none := by
      by_cases h5 : k = 5
      · exact .inl h5
      · exact .inr fun i h1 h2 h3 => h ⟨i, h1, h2, h5, h3⟩
    exact ⟨_, hn, go _ hn⟩
/-- How many of the first t lie within. -/
def cntW (x y t : Nat) : Nat := min t y - x
theorem within_iff {k a f t : Int} {n x y i : Nat} (hx : IsFst (fun j => decide (f ≤ bg k (a + (j : Int)))) n x) (hy : IsFst (fun j => decide (t < bg k (a + (j : Int) + 1))) n y) (hi : i < n) :
    (f ≤ bg k (a + (i : Int)) ↔ x ≤ i) ∧ (bg k (a + (i : Int) + 1) ≤ t ↔ i < y) := by
  obtain ⟨_, x1, x2⟩ := hx
  obtain ⟨_, y1, y2⟩ := hy
  refine ⟨⟨fun h => ?_, fun h => by simpa using x2 i h hi⟩, ⟨fun h => ?_, fun h => ?_⟩⟩
  · rcases Nat.lt_or_ge i x with h' | h'
    · have := x1 i h'; simp at this; omega
    · exact h'
  · rcases Nat.lt_or_ge i y with h' | h'
    · exact h'
    · have := y2 i h' hi; simp at this; omega
  · have := y1 i h; simp at this; omega

end Go.Proofs.YtomhiganfmoceaaDoor
