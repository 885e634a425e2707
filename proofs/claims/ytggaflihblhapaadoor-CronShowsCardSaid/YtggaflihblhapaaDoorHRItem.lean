/-
  The reference's item.
-/
import Derived.Test.YtggaflihblhapaaDoorHRItm
import Derived.Test.YtggaflihblhapaaDoorHRefR
import Derived.Test.YtggaflihblhapaaDoorHFit
import Derived.Test.YtggaflihblhapaaDoorHBetw
namespace Go.Proofs.YtggaflihblhapaaDoor
open Go.RowKit CM HM

/-- Block b is a row of fields that reads as h. -/
def RowB (w : World) (b : Nat) (h : Nat → Bool) : Prop :=
  ∃ arr : Array Value, arr.size = 325 ∧ w.heap[b]? = some (.cells arr 35 (0, 0)) ∧ ∀ i, i < 325 → arr[i]? = some (.bool (h i))
theorem RowB.lt {w : World} {b : Nat} {h : Nat → Bool} (hr : RowB w b h) : b < w.heap.size := by
  obtain ⟨arr, a1, a2, a3⟩ := hr
  exact (Array.getElem?_eq_some_iff.1 a2).1
theorem RowB.cell {w : World} {b : Nat} {h : Nat → Bool} (hr : RowB w b h) {i : Nat} (hi : i < 325) : w.cell? ⟨b, i, none⟩ = some (.bool (h i)) ∧ w.frozen? ⟨b, i, none⟩ = false := by
  obtain ⟨arr, a1, a2, a3⟩ := hr
  exact ⟨by rw [cell_of_row w b i arr _ (0, 0) a2, a3 i hi], by simp [World.frozen?, a2]⟩
theorem RowB.same {w w' : World} {b : Nat} {h : Nat → Bool} (hr : RowB w b h) (hb : w'.heap[b]? = w.heap[b]?) : RowB w' b h := by
  obtain ⟨arr, a1, a2, a3⟩ := hr
  exact ⟨arr, a1, hb.trans a2, a3⟩
theorem RowB.on {w w' : World} {b : Nat} {h : Nat → Bool} (hr : RowB w b h) (hb : Below w.heap.size w w') : RowB w' b h := hr.same (hb.block b hr.lt)
theorem RowB.set {w : World} {b : Nat} {h : Nat → Bool} (hr : RowB w b h) (i : Nat) (v : Bool) : RowB (w.setCell ⟨b, i, none⟩ (.bool v)) b (fun j => if j = i then v else h j) := by
  obtain ⟨arr, a1, a2, a3⟩ := hr
  refine ⟨arr.setIfInBounds i (.bool v), by simp [a1], ?_, fun j hj => ?_⟩
  · rw [setCell_eq_setRow w b i arr _ (0, 0) _ a2]
    exact setRow_heap w b arr _ _ (0, 0) a2
  · rw [Array.getElem?_setIfInBounds]
    by_cases e : i = j
    · subst e; simp [a1, hj]
    · rw [if_neg e]
      show arr[j]? = some (.bool (if j = i then v else h j))
      rw [if_neg (fun x => e x.symm), a3 j hj]
theorem RowB.ext {w : World} {b : Nat} {h g : Nat → Bool} (hr : RowB w b h) (he : ∀ i, i < 325 → h i = g i) : RowB w b g := by
  obtain ⟨arr, a1, a2, a3⟩ := hr
  exact ⟨arr, a1, a2, fun i hi => by rw [a3 i hi, he i hi]⟩
theorem grown_set (w : World) (b i : Nat) (v : Value) : w.grownBy (w.setCell ⟨b, i, none⟩ v) (some b) :=
  ⟨rfl, rfl, rfl, by simp, fun k _ hk => Below.heap_setCell w ⟨b, i, none⟩ v k (fun e => hk (by simp [e]))⟩
theorem grown_trans {w w1 w2 : World} {b : Nat} (h : w.grownBy w1 (some b)) (h2 : w1.grownBy w2 (some b)) : w.grownBy w2 (some b) :=
  ⟨h2.os.trans h.os, h2.tape.trans h.tape, h2.output.trans h.output, Nat.le_trans h.size h2.size, fun k hk hne => (h2.block k (Nat.lt_of_lt_of_le hk h.size) hne).trans (h.block k hk hne)⟩
theorem grown_below {w w1 : World} {b : Nat} (h : Below w.heap.size w w1) : w.grownBy w1 (some b) := only_of_below h _
theorem rn_bd {l : List UInt8} {p : Nat} (hp : p ≤ l.length) (h : ¬ rnE l p < 0) : ∃ k : Nat, rnE l p = (k : Int) ∧ p < k ∧ k ≤ l.length := by
  obtain ⟨d, rest, e1, e2, e3, e4⟩ := rn_to h
  have h1 := congrArg List.length e1
  rw [List.length_drop, List.length_append] at h1
  have h2 : d.length ≠ 0 := fun e => numB_ne e2 (List.length_eq_zero_iff.1 e)
  exact ⟨p + d.length, e3, by omega, by omega⟩
theorem rnV_le (l : List UInt8) (p : Nat) : rnV l p ≤ 99 := by
  by_cases h : rnE l p < 0
  · unfold rnV
    by_cases hc : ((l.drop p).takeWhile dig?).length = 0 ∨ 2 < ((l.drop p).takeWhile dig?).length
    · rw [if_pos hc]; omega
    · exfalso
      unfold rnE at h
      rw [if_neg hc] at h
      omega
  · obtain ⟨d, rest, e1, e2, e3, e4⟩ := rn_to h
    rw [e4]; exact numV_le d
theorem byte_ne {b c : UInt8} (h : ¬ b = c) : ((b.toNat : Int) == (c.toNat : Int)) = false := by
  rw [beq_eq_false_iff_ne]
  intro e
  exact h (UInt8.toNat_inj.1 (by omega))
/-- The error of an item. -/
def iE (f : Nat) (l : List UInt8) : Int := match rI f l with
  | none => 20
  | some (a, z, s) => if fitB f a z s = true then 0 else 30
theorem iE_none {f : Nat} {l : List UInt8} (h : rI f l = none) : iE f l = 20 := by unfold iE; rw [h]
theorem iE_no {f : Nat} {l : List UInt8} {a z s : Nat} (h : rI f l = some (a, z, s)) (hf : fitB f a z s = false) : iE f l = 30 := by unfold iE; rw [h]; simp [hf]
theorem iE_yes {f : Nat} {l : List UInt8} {a z s : Nat} (h : rI f l = some (a, z, s)) (hf : fitB f a z s = true) : iE f l = 0 := by unfold iE; rw [h]; simp [hf]
/-- What an item adds to the row. -/
def addI (f : Nat) (l : List UInt8) (h : Nat → Bool) (i : Nat) : Bool := match rI f l with
  | none => h i
  | some (a, z, s) => h i || (decide (65 * f ≤ i) && (decide (i < 65 * f + 64) && inS a z s (i - 65 * f)))
def ItOut (f : Nat) (l : List UInt8) (b : Nat) (h : Nat → Bool) (w : World) (e : Ending) (w' : World) : Prop :=
  e = .returned (.int .i64 (iE f l)) ∧ w.grownBy w' (some b) ∧ (iE f l = 0 → RowB w' b (addI f l h))
theorem it_fail {f : Nat} {l : List UInt8} {b : Nat} {h : Nat → Bool} {w w' : World} (hn : rI f l = none) (hg : w.grownBy w' (some b)) : ItOut f l b h w (.returned (.int .i64 20)) w' :=
  ⟨by rw [iE_none hn], hg, fun h0 => by rw [iE_none hn] at h0; cases h0⟩
theorem it_range {f : Nat} {l : List UInt8} {b : Nat} {h : Nat → Bool} {w w' : World} {a z s : Nat} (hn : rI f l = some (a, z, s)) (hf : fitB f a z s = false) (hg : w.grownBy w' (some b)) : ItOut f l b h w (.returned (.int .i64 30)) w' :=
  ⟨by rw [iE_no hn hf], hg, fun h0 => by rw [iE_no hn hf] at h0; cases h0⟩
theorem row_start (h : Nat → Bool) (f a z s i : Nat) : h i = (h i || (decide (65 * f ≤ i) && (decide (i < 65 * f + 64) && (inS a z s (i - 65 * f) && decide (i - 65 * f < a))))) := by
  unfold inS
  by_cases e : a ≤ i - 65 * f
  · rw [decide_eq_false (show ¬ i - 65 * f < a by omega)]; simp
  · rw [decide_eq_false e]; simp
theorem row_hit (h : Nat → Bool) (f a z s n i : Nat) (h0 : a ≤ n) (h1 : n ≤ z) (hm : (n - a) % s = 0) (hn : n < 64) : (if i = f * 65 + n then true else (h i || (decide (65 * f ≤ i) && (decide (i < 65 * f + 64) && (inS a z s (i - 65 * f) && decide (i - 65 * f < n)))))) = (h i || (decide (65 * f ≤ i) && (decide (i < 65 * f + 64) && (inS a z s (i - 65 * f) && decide (i - 65 * f < n + 1))))) := by
  by_cases e : i = f * 65 + n
  · rw [if_pos e]
    have e2 : i - 65 * f = n := by omega
    have e3 : inS a z s n = true := by unfold inS; rw [decide_eq_true h0, decide_eq_true h1, decide_eq_true hm]; rfl
    rw [e2, e3, decide_eq_true (show 65 * f ≤ i by omega), decide_eq_true (show i < 65 * f + 64 by omega), decide_eq_true (show n < n + 1 by omega)]
    simp
  · rw [if_neg e]
    by_cases h3 : 65 * f ≤ i
    · have : decide (i - 65 * f < n) = decide (i - 65 * f < n + 1) := by congr 1; exact propext ⟨fun h => by omega, fun h => by omega⟩
      rw [this]
    · rw [decide_eq_false h3]; rfl
theorem row_miss (h : Nat → Bool) (f a z s n i : Nat) (hm : ¬ (n - a) % s = 0) : (h i || (decide (65 * f ≤ i) && (decide (i < 65 * f + 64) && (inS a z s (i - 65 * f) && decide (i - 65 * f < n))))) = (h i || (decide (65 * f ≤ i) && (decide (i < 65 * f + 64) && (inS a z s (i - 65 * f) && decide (i - 65 * f < n + 1))))) := by
  by_cases e : i - 65 * f = n
  · have : inS a z s n = false := by unfold inS; rw [decide_eq_false hm]; simp
    rw [e, this]; rfl
  · have : decide (i - 65 * f < n) = decide (i - 65 * f < n + 1) := by congr 1; exact propext ⟨fun h => by omega, fun h => by omega⟩
    rw [this]
theorem row_done (h : Nat → Bool) (f a z s n i : Nat) (hz : z < n) : (h i || (decide (65 * f ≤ i) && (decide (i < 65 * f + 64) && (inS a z s (i - 65 * f) && decide (i - 65 * f < n))))) = (h i || (decide (65 * f ≤ i) && (decide (i < 65 * f + 64) && inS a z s (i - 65 * f)))) := by
  by_cases e : i - 65 * f < n
  · rw [decide_eq_true e, Bool.and_true]
  · have : inS a z s (i - 65 * f) = false := by unfold inS; rw [decide_eq_false (show ¬ i - 65 * f ≤ z by omega)]; simp
    rw [this]; rfl
end Go.Proofs.YtggaflihblhapaaDoor
