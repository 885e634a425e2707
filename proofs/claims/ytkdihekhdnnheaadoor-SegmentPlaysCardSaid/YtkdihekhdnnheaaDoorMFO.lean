/-
  What every law's proof of the frame seat shares: the listed table; how arguments come in; a world for the witness.
  How lists of byte slices come in.
  Lists of integers and of texts: how they lie, how they come in.
  How the scripts' calls come in.
-/
import Derived.Test.YtkdihekhdnnheaaDoorCards
import Derived.Test.YtkdihekhdnnheaaDoorTie
import Derived.Test.YtkdihekhdnnheaaDoorFBase
import Derived.WalkKit
import Derived.ProofKit
import Derived.OpenShut
import Derived.LaidMore
import Derived.MakeChecks
import Derived.Stop.LaidErr
import Derived.Deep.DeepHandedRow
import Derived.Deep.DeepWitnessRowRef
import Derived.Lib.LaidTab
import Derived.Lib.SmallJoins
import Derived.Deep.Slices
import Derived.SliceStrings
import Derived.Carry
import Derived.Shelf.Vars
import Derived.Test.YtkdihekhdnnheaaDoorFTwo
import Derived.Test.YtkdihekhdnnheaaDoorFLists
import Derived.Test.YtkdihekhdnnheaaDoorMG5
namespace Go.Proofs.YtkdihekhdnnheaaDoor
open Go.ChangeShapes Go.WideShapes Go.ChangeAt Go.RowKit Go.Joins Go.Deep

theorem own : ownKnob Tryd.prog.godebug = none := by kernel_rfl
theorem laidOut' : laidOutB Tryd.prog = true := by kernel_rfl
theorem mem_lt {p q : List MemPlace} {n : Nat} (h : ∀ x ∈ p ++ q, x.block < n) : (∀ x ∈ p, x.block < n) ∧ ∀ x ∈ q, x.block < n :=
  ⟨fun x hx => h x (List.mem_append_left _ hx), fun x hx => h x (List.mem_append_right _ hx)⟩
theorem cell_lt {w : World} {a : Addr} {v : Value} (h : w.cell? a = some v) : a.block < w.heap.size := by
  rcases Nat.lt_or_ge a.block w.heap.size with h' | h'
  · exact h'
  · exfalso; simp [World.cell?, Array.getElem?_eq_none h'] at h
theorem cells_int : Tryd.prog.cellsOf 3 = 1 := by kernel_rfl
theorem cells_byte : Tryd.prog.cellsOf 5 = 1 := by kernel_rfl
theorem cells_text : Tryd.prog.cellsOf 9 = 1 := by kernel_rfl
theorem g_half : Tryd.prog.globalNamed "bywash/frame.halfSums" = some 0 := by kernel_rfl
theorem half_type : (Tryd.prog.globals[0]?).map (·.type) = some 100 := by kernel_rfl
theorem cells_half : Tryd.prog.cellsOf 100 = 16 := by kernel_rfl
theorem cells_u32 : Tryd.prog.cellsOf 78 = 1 := by kernel_rfl
theorem half_data : (Rows.laid_bywash_frame_halfSums : DataW Unit) = .agg (halfT.map fun s => .lit (.int .u32 (s : Nat))) := rfl
section
variable {H : Type} {enc : TypeId × Value → H} {w : World} {base fuel : Nat} {sp : Nat → Bool} {held : Bool}
theorem one_u32 {cs : List Value} {k : Int} {p : List MemPlace} (h : DataW.trod enc Tryd.prog w base sp held fuel 78 cs = some (.lit (.int .u32 k), p)) : cs = [.int .u32 k] := by
  obtain ⟨n, e, hx, _⟩ := DataW.trod_int Tryd.underlying78 h
  simp only [Prod.mk.injEq, DataW.lit.injEq, Lit.int.injEq, true_and] at hx
  rw [e, hx.1]
end
theorem tab_of {W : World} (h : laidMetH Tryd.prog [("bywash/frame.halfSums", Rows.laid_bywash_frame_halfSums)] W) : Tab W := by
  rw [MakeChecks.laidMetH_plain _ _ _ (by kernel_rfl)] at h
  obtain ⟨ps, ⟨g', t', cs, fuel, p, q, hg', ht', hvar, hd, _, _⟩, _⟩ := h
  obtain rfl := Option.some.inj (g_half.symm.trans hg')
  obtain rfl := Option.some.inj (half_type.symm.trans ht')
  rw [half_data] at hd
  obtain ⟨xs, m, _, hx, hl, hn, hat⟩ := DataW.trod_array Tryd.underlying100 hd
  rw [cells_half] at hl
  intro i hi
  have h0 := hat i hi
  rw [cells_u32] at h0
  have hxi : xs[i]? = some (xs[i]'(by omega)) := List.getElem?_eq_getElem (by omega)
  simp only [Prod.mk.injEq, DataW.agg.injEq] at hx
  have hd0 : (xs[i]'(by omega)).1 = .lit (.int .u32 (halfT.getD i 0 : Nat)) := by
    have h1 : (xs.map (·.1))[i]? = some (xs[i]'(by omega)).1 := by rw [List.getElem?_map, hxi]; rfl
    rw [← hx.1, List.getElem?_map, List.getElem?_eq_getElem (show i < halfT.length from hi)] at h1
    rw [List.getD_eq_getElem?_getD, List.getElem?_eq_getElem (show i < halfT.length from hi)]
    exact (Option.some.inj h1).symm
  rw [hxi] at h0
  have e := one_u32 (cs := (cs.toList.drop (i * 1)).take 1) (p := (xs[i]'(by omega)).2) (k := (halfT.getD i 0 : Nat)) (by rw [h0, ← hd0])
  have hc := World.var?_cell g_half hvar i
  rw [hc]
  have h3 : cs.toList[i]? = some (.int .u32 (halfT.getD i 0 : Nat)) := by
    have := congrArg (·[0]?) e
    simpa [List.getElem?_take, List.getElem?_drop] using this
  simpa using h3
set_option maxRecDepth 100000 in
/-- Bytes that come in. -/
theorem openB {H : Type} {enc : TypeId × Value → H} {w : World} {b0 base : Nat} {v : Value} {d : DataW H} {p : List MemPlace} (hv : Value.okWide Tryd.prog w .any b0 28 v) (h : DataW.Trod enc Tryd.prog w base (fun _ => true) true 28 v d p) :
    ∃ A cap l, v = .slice A l.length cap ∧ BytesAt w.heap.size w A l ∧ l.length ≤ maxLen := by
  obtain ⟨A, len, cap, rfl⟩ := okWide_slice Tryd.underlying28 hv
  obtain ⟨fuel, hf⟩ := h
  rcases open_slice Tryd.underlying28 hf with ⟨hc, _⟩ | ⟨a, len', cap', m, n, D, Pl, hc, _, hl, hm, hmm, _, hi⟩
  · simp [Value.cells] at hc
    obtain ⟨rfl, rfl, rfl⟩ := hc
    exact ⟨none, 0, [], rfl, fun j hj => by simp at hj, Nat.zero_le _⟩
  · simp [Value.cells] at hc
    obtain ⟨rfl, rfl, rfl⟩ := hc
    have hml : m = cap := by simpa using hmm
    have each : ∀ i, i < len → ∃ c : UInt8, w.cell? (a.add i) = some (.int .u8 c.toNat) := fun i hil => by
      obtain ⟨cs', hcs, ht⟩ := hi i (by omega)
      rw [cells_byte, Nat.mul_one] at hcs
      obtain ⟨_, hlen, hat⟩ := World.cells?_some hcs
      match cs', hlen with
      | [c0], _ =>
        obtain ⟨k, e0, _, wk⟩ := DataW.trod_int Tryd.underlying5 ht
        simp at e0
        subst e0
        have g0 := hat 0 (by omega)
        rw [add_add] at g0
        have hk := bounds_u8 wk
        refine ⟨UInt8.ofNat k.toNat, ?_⟩
        rw [UInt8.toNat_ofNat_of_lt' (by show _ < 256; omega), Int.toNat_of_nonneg hk.1]
        simpa using g0
    obtain ⟨f, hfn⟩ := choose_lt each
    refine ⟨some a, cap, (List.range len).map f, by simp, fun j hj => ?_, by rw [List.length_map, List.length_range]; exact Nat.le_trans hl hm⟩
    rw [List.length_map, List.length_range] at hj
    have h0 := hfn j hj
    obtain ⟨b, off, spot⟩ := a
    have hspot : spot = none := by
      have := World.cell?_spot (hfn 0 (by omega))
      simpa [Addr.add] using this
    subst hspot
    rw [add_plain] at h0
    have hb := cell_lt h0
    have e : ((List.range len).map f).getD j 0 = f j := by
      rw [List.getD_eq_getElem?_getD, List.getElem?_map, List.getElem?_range hj]; rfl
    rw [e]
    exact ⟨b, off, rfl, hb, h0⟩
set_option maxRecDepth 100000 in
/-- A slice that comes in without an address is nil. -/
theorem nilC {H : Type} {enc : TypeId × Value → H} {w : World} {base n c : Nat} {A : Option Addr} {d : DataW H} {p : List MemPlace} {t e : TypeId} (ht : Tryd.prog.underlying t = some (.slice e))
    (h : DataW.Trod enc Tryd.prog w base (fun _ => true) true t (.slice A n c) d p) : A = none → c = 0 := by
  obtain ⟨fuel, hf⟩ := h
  rcases open_slice ht hf with ⟨hc, _⟩ | ⟨a, len', cap', m, k, D, Pl, hc, _⟩
  · simp [Value.cells] at hc
    exact fun _ => hc.2.2
  · simp [Value.cells] at hc
    rintro rfl
    cases hc.1
/-- A block whose cells are these. -/
def tabObj (c : Array Value) : Obj → Obj
  | .cells _ t frozen => .cells c t frozen
  | o => o
/-- A world for the witnesses: the settled one, the listed table holding what its initialiser lays. -/
noncomputable def halfWorld (os : Os) : World :=
  let w0 := World.holding Tryd.prog os ⟨#[], #[], []⟩
  { w0 with heap := w0.heap.modify 0 (tabObj (halfT.map fun (s : Nat) => Value.int .u32 s).toArray) }
end Go.Proofs.YtkdihekhdnnheaaDoor
namespace Go.Proofs.YtkdihekhdnnheaaDoor
open Go.ChangeShapes Go.WideShapes Go.ChangeAt Go.RowKit Go.Joins Go.Deep

instance : Inhabited BH := ⟨dH⟩
theorem cells_sl : Tryd.prog.cellsOf 28 = 1 := by kernel_rfl
section
variable {H : Type} {enc : TypeId × Value → H} {w : World} {base fuel : Nat} {sp : Nat → Bool} {held : Bool}
set_option maxRecDepth 100000 in
theorem some_bytes {cs : List Value} {y : DataW H × List MemPlace} (hf : DataW.trod enc Tryd.prog w base sp held fuel 28 cs = some y) :
    ∃ A cap, ∃ l : List UInt8, cs = [.slice A l.length cap] ∧ BytesAt w.heap.size w A l ∧ l.length ≤ maxLen ∧ (A = none → cap = 0) := by
  rcases open_slice Tryd.underlying28 hf with ⟨hc, _⟩ | ⟨a, len, cap, m, n, D, Pl, hc, _, hl, hm, hmm, _, hi⟩
  · exact ⟨none, 0, [], hc, fun j hj => by simp at hj, Nat.zero_le _, fun _ => rfl⟩
  · have hml : len ≤ m := by rw [hmm]; split <;> omega
    have each : ∀ i, i < len → ∃ c : UInt8, w.cell? (a.add i) = some (.int .u8 c.toNat) := fun i hil => by
      obtain ⟨cs', hcs, ht⟩ := hi i (by omega)
      rw [cells_byte, Nat.mul_one] at hcs
      obtain ⟨_, hlen, hat⟩ := World.cells?_some hcs
      match cs', hlen with
      | [c0], _ =>
        obtain ⟨k, e0, _, wk⟩ := DataW.trod_int Tryd.underlying5 ht
        simp at e0
        subst e0
        have g0 := hat 0 (by omega)
        rw [add_add] at g0
        have hk := bounds_u8 wk
        refine ⟨UInt8.ofNat k.toNat, ?_⟩
        rw [UInt8.toNat_ofNat_of_lt' (by show _ < 256; omega), Int.toNat_of_nonneg hk.1]
        simpa using g0
    obtain ⟨f, hfn⟩ := choose_lt each
    refine ⟨some a, cap, (List.range len).map f, by rw [hc]; simp, fun j hj => ?_, by rw [List.length_map, List.length_range]; exact Nat.le_trans hl hm, fun e => by cases e⟩
    rw [List.length_map, List.length_range] at hj
    have h0 := hfn j hj
    obtain ⟨b, off, spot⟩ := a
    have hspot : spot = none := by
      have := World.cell?_spot (hfn 0 (by omega))
      simpa [Addr.add] using this
    subst hspot
    rw [add_plain] at h0
    have hb := cell_lt h0
    have e : ((List.range len).map f).getD j 0 = f j := by
      rw [List.getD_eq_getElem?_getD, List.getElem?_map, List.getElem?_range hj]; rfl
    rw [e]
    exact ⟨b, off, rfl, hb, h0⟩
end
set_option maxRecDepth 100000 in
/-- A list of byte slices that comes in. -/
theorem openH {H : Type} {enc : TypeId × Value → H} {w : World} {b0 base : Nat} {v : Value} {d : DataW H} {p : List MemPlace} (hv : Value.okWide Tryd.prog w .any b0 36 v) (h : DataW.Trod enc Tryd.prog w base (fun _ => true) true 36 v d p) :
    ∃ A cap l, v = .slice A l.length cap ∧ (HeadsAt w.heap.size w A l ∧ (A = none → cap = 0)) ∧ WfHs l := by
  obtain ⟨A, len, cap, rfl⟩ := okWide_slice Tryd.underlying36 hv
  obtain ⟨fuel, hf⟩ := h
  rcases open_slice Tryd.underlying36 hf with ⟨hc, _⟩ | ⟨a, len', cap', m, n, D, Pl, hc, _, hl, hm, hmm, _, hi⟩
  · simp [Value.cells] at hc
    obtain ⟨rfl, rfl, rfl⟩ := hc
    exact ⟨none, 0, [], rfl, ⟨fun j hj => by simp at hj, fun _ => rfl⟩, Nat.zero_le _, fun j hj => by simp at hj⟩
  · simp [Value.cells] at hc
    obtain ⟨rfl, rfl, rfl⟩ := hc
    have hml : len ≤ m := by rw [hmm]; split <;> omega
    have each : ∀ i, i < len → ∃ o : BH, w.cell? (a.add i) = some (hdr o) ∧ WfH o ∧ BytesAt w.heap.size w o.A o.l := fun i hil => by
      obtain ⟨cs', hcs, ht⟩ := hi i (by omega)
      rw [cells_sl, Nat.mul_one] at hcs
      obtain ⟨_, hlen, hat⟩ := World.cells?_some hcs
      obtain ⟨dA, dc, dl, rfl, d1, d2, d3⟩ := some_bytes ht
      have g := hat 0 (by simp)
      rw [add_add] at g
      exact ⟨⟨dA, dc, dl⟩, by unfold hdr; simpa using g, ⟨d2, d3⟩, d1⟩
    obtain ⟨f, hfn⟩ := choose_lt each
    refine ⟨some a, cap, (List.range len).map f, by simp, ⟨fun j hj => ?_, fun e => by cases e⟩, by rw [List.length_map, List.length_range]; exact Nat.le_trans hl hm, fun j hj => ?_⟩
    · rw [List.length_map, List.length_range] at hj
      obtain ⟨h0, _, hd⟩ := hfn j hj
      obtain ⟨b, off, spot⟩ := a
      have hspot : spot = none := by
        have c00 := (hfn 0 (by omega)).1
        have := World.cell?_spot c00
        simpa [Addr.add] using this
      subst hspot
      have e : ((List.range len).map f).getD j dH = f j := by
        rw [List.getD_eq_getElem?_getD, List.getElem?_map, List.getElem?_range hj]; rfl
      rw [e]
      rw [add_plain] at h0
      exact ⟨b, off, rfl, cell_lt h0, h0, hd⟩
    · rw [List.length_map, List.length_range] at hj
      have e : ((List.range len).map f).getD j dH = f j := by
        rw [List.getD_eq_getElem?_getD, List.getElem?_map, List.getElem?_range hj]; rfl
      rw [e]
      exact (hfn j hj).2.1
end Go.Proofs.YtkdihekhdnnheaaDoor
namespace Go.Proofs.YtkdihekhdnnheaaDoor
open Go.ChangeShapes Go.WideShapes Go.ChangeAt Go.RowKit Go.Joins Go.Deep

set_option maxRecDepth 100000 in
/-- Integers that come in, as cells. -/
theorem openInts {H : Type} {enc : TypeId × Value → H} {w : World} {base fuel : Nat} {sp : Nat → Bool} {held : Bool} {A : Option Addr} {len cap : Nat} {y : DataW H × List MemPlace} (hf : DataW.trod enc Tryd.prog w base sp held fuel 37 [.slice A len cap] = some y) :
    ∃ l : List Int, len = l.length ∧ IntsAt w.heap.size w A l ∧ l.length ≤ maxLen ∧ (∀ j, j < l.length → -9223372036854775808 ≤ l.getD j 0 ∧ l.getD j 0 ≤ 9223372036854775807) ∧ (A = none → cap = 0) := by
  rcases open_slice Tryd.underlying37 hf with ⟨hc, _⟩ | ⟨a, len', cap', m, n, D, Pl, hc, _, hl, hm, hmm, _, hi⟩
  · simp at hc
    obtain ⟨rfl, rfl, rfl⟩ := hc
    exact ⟨[], rfl, fun j hj => by simp at hj, Nat.zero_le _, fun j hj => by simp at hj, fun _ => rfl⟩
  · simp at hc
    obtain ⟨rfl, rfl, rfl⟩ := hc
    have hml : len ≤ m := by rw [hmm]; split <;> omega
    have each : ∀ i, i < len → ∃ c : Int, w.cell? (a.add i) = some (.int .i64 c) ∧ -9223372036854775808 ≤ c ∧ c ≤ 9223372036854775807 := fun i hil => by
      obtain ⟨cs', hcs, ht⟩ := hi i (by omega)
      rw [cells_int, Nat.mul_one] at hcs
      obtain ⟨_, hlen, hat⟩ := World.cells?_some hcs
      match cs', hlen with
      | [c0], _ =>
        obtain ⟨k, e0, _, wk⟩ := DataW.trod_int Tryd.underlying3 ht
        simp at e0
        subst e0
        have g0 := hat 0 (by omega)
        rw [add_add] at g0
        have hk := bounds_i64 wk
        exact ⟨k, by simpa using g0, by omega, by omega⟩
    obtain ⟨f, hfn⟩ := choose_lt each
    refine ⟨(List.range len).map f, by simp, fun j hj => ?_, by rw [List.length_map, List.length_range]; exact Nat.le_trans hl hm, fun j hj => ?_, fun e => by cases e⟩
    · rw [List.length_map, List.length_range] at hj
      have h0 := (hfn j hj).1
      obtain ⟨b, off, spot⟩ := a
      have hspot : spot = none := by
        have := World.cell?_spot (hfn 0 (by omega)).1
        simpa [Addr.add] using this
      subst hspot
      rw [add_plain] at h0
      have hb := cell_lt h0
      have e : ((List.range len).map f).getD j 0 = f j := by
        rw [List.getD_eq_getElem?_getD, List.getElem?_map, List.getElem?_range hj]; rfl
      rw [e]
      exact ⟨b, off, rfl, hb, h0⟩
    · rw [List.length_map, List.length_range] at hj
      have e : ((List.range len).map f).getD j 0 = f j := by
        rw [List.getD_eq_getElem?_getD, List.getElem?_map, List.getElem?_range hj]; rfl
      rw [e]
      exact (hfn j hj).2
set_option maxRecDepth 100000 in
theorem openN {H : Type} {enc : TypeId × Value → H} {w : World} {b0 base : Nat} {v : Value} {d : DataW H} {p : List MemPlace} (hv : Value.okWide Tryd.prog w .any b0 37 v) (h : DataW.Trod enc Tryd.prog w base (fun _ => true) true 37 v d p) :
    ∃ A cap l, v = .slice A l.length cap ∧ IntsAt w.heap.size w A l ∧ WfN l := by
  obtain ⟨A, len, cap, rfl⟩ := okWide_slice Tryd.underlying37 hv
  obtain ⟨fuel, hf⟩ := h
  obtain ⟨l, rfl, h1, h2, h3, _⟩ := openInts (by simpa [Value.cells] using hf)
  exact ⟨A, cap, l, rfl, h1, h2, h3⟩
end Go.Proofs.YtkdihekhdnnheaaDoor
namespace Go.Proofs.YtkdihekhdnnheaaDoor
open Go.ChangeShapes Go.WideShapes Go.ChangeAt Go.RowKit Go.Joins Go.Deep

instance : Inhabited OpS := ⟨dS⟩
theorem ints_in {w : World} {A : Option Addr} {l : List Int} (h : IntsAt w.heap.size w A l) : IntsIn (fun b => b < w.heap.size) w A l := fun j hj => by
  obtain ⟨b, off, e, h1, h2⟩ := h j hj
  exact ⟨b, off, e, h1, h1, h2⟩
theorem bytes_in {w : World} {A : Option Addr} {l : List UInt8} (h : BytesAt w.heap.size w A l) : BytesIn (fun b => b < w.heap.size) w A l := fun j hj => by
  obtain ⟨b, off, e, h1, h2⟩ := h j hj
  exact ⟨b, off, e, h1, h1, h2⟩
theorem cells_op : Tryd.prog.cellsOf 39 = 5 := by kernel_rfl
theorem cells_ls : Tryd.prog.cellsOf 36 = 1 := by kernel_rfl
theorem cells_si : Tryd.prog.cellsOf 37 = 1 := by kernel_rfl
theorem op_fields : (Tryd.prog.fieldsOf 39).toList.map (fun f => (f.type, f.offset)) = [(3, 0), (3, 1), (28, 2), (36, 3), (37, 4)] := by kernel_rfl
theorem op_under : Tryd.prog.underlying 39 = some (.struct (Tryd.prog.fieldsOf 39)) := by kernel_rfl
theorem list5 {α : Type} {l : List α} (h : l.length = 5) : ∃ a b c d e, l = [a, b, c, d, e] := by
  match l, h with
  | [a, b, c, d, e], _ => exact ⟨a, b, c, d, e, rfl⟩
section
variable {H : Type} {enc : TypeId × Value → H} {w : World} {base fuel : Nat} {sp : Nat → Bool} {held : Bool}
theorem some_int {cs : List Value} {y : DataW H × List MemPlace} (h : DataW.trod enc Tryd.prog w base sp held fuel 3 cs = some y) : ∃ k : Int, cs = [.int .i64 k] ∧ -9223372036854775808 ≤ k ∧ k ≤ 9223372036854775807 := by
  obtain ⟨n, e, _, hw⟩ := DataW.trod_int Tryd.underlying3 h
  have := bounds_i64 hw
  exact ⟨n, e, by omega, by omega⟩
set_option maxRecDepth 100000 in
theorem some_ints {cs : List Value} {y : DataW H × List MemPlace} (hf : DataW.trod enc Tryd.prog w base sp held fuel 37 cs = some y) :
    ∃ A cap, ∃ l : List Int, cs = [.slice A l.length cap] ∧ IntsAt w.heap.size w A l ∧ l.length ≤ maxLen ∧ (∀ j, j < l.length → -9223372036854775808 ≤ l.getD j 0 ∧ l.getD j 0 ≤ 9223372036854775807) ∧ (A = none → cap = 0) := by
  rcases open_slice Tryd.underlying37 hf with ⟨hc, _⟩ | ⟨a, len, cap, m, n, D, Pl, hc, _, _, _, _, _, _⟩
  · exact ⟨none, 0, [], hc, fun j hj => by simp at hj, Nat.zero_le _, fun j hj => by simp at hj, fun _ => rfl⟩
  · rw [hc] at hf
    obtain ⟨l, e, h1, h2, h3, h4⟩ := openInts hf
    exact ⟨some a, cap, l, by rw [hc, e], h1, h2, h3, h4⟩
set_option maxRecDepth 100000 in
theorem some_recs {cs : List Value} {y : DataW H × List MemPlace} (hf : DataW.trod enc Tryd.prog w base sp held fuel 36 cs = some y) :
    ∃ A cap, ∃ l : List BH, cs = [.slice A l.length cap] ∧ RecsIn (fun b => b < w.heap.size) w A l ∧ l.length ≤ maxLen ∧ (A = none → cap = 0) := by
  rcases open_slice Tryd.underlying36 hf with ⟨hc, _⟩ | ⟨a, len, cap, m, n, D, Pl, hc, _, hl, hm, hmm, _, hi⟩
  · exact ⟨none, 0, [], hc, fun j hj => by simp at hj, Nat.zero_le _, fun _ => rfl⟩
  · have hml : len ≤ m := by rw [hmm]; split <;> omega
    have each : ∀ i, i < len → ∃ o : BH, w.cell? (a.add i) = some (hdr o) ∧ WfH o ∧ BytesAt w.heap.size w o.A o.l := fun i hil => by
      obtain ⟨cs', hcs, ht⟩ := hi i (by omega)
      rw [cells_sl, Nat.mul_one] at hcs
      obtain ⟨_, hlen, hat⟩ := World.cells?_some hcs
      obtain ⟨dA, dc, dl, rfl, d1, d2, d3⟩ := some_bytes ht
      have g := hat 0 (by simp)
      rw [add_add] at g
      exact ⟨⟨dA, dc, dl⟩, by unfold hdr; simpa using g, ⟨d2, d3⟩, d1⟩
    obtain ⟨f, hfn⟩ := choose_lt each
    refine ⟨some a, cap, (List.range len).map f, by rw [hc]; simp, fun j hj => ?_, by rw [List.length_map, List.length_range]; exact Nat.le_trans hl hm, fun e => by cases e⟩
    rw [List.length_map, List.length_range] at hj
    obtain ⟨h0, hw, hd⟩ := hfn j hj
    obtain ⟨b, off, spot⟩ := a
    have hspot : spot = none := by
      have c00 := (hfn 0 (by omega)).1
      have := World.cell?_spot c00
      simpa [Addr.add] using this
    subst hspot
    have e : ((List.range len).map f).getD j dH = f j := by
      rw [List.getD_eq_getElem?_getD, List.getElem?_map, List.getElem?_range hj]; rfl
    rw [e]
    rw [add_plain] at h0
    exact ⟨b, off, rfl, cell_lt h0, cell_lt h0, h0, bytes_in hd, hw⟩
set_option maxRecDepth 100000 in
theorem op_cells {cs : List Value} {y : DataW H × List MemPlace} (h : DataW.trod enc Tryd.prog w base sp held fuel 39 cs = some y) : ∃ o : OpS, cs = (sCells o).toList ∧ WfS o ∧ BytesIn (fun b => b < w.heap.size) w o.dA o.dl ∧ RecsIn (fun b => b < w.heap.size) w o.rA o.rs ∧ IntsIn (fun b => b < w.heap.size) w o.kA o.kl := by
  obtain ⟨xs, m, _, hx, hl, hn, hat⟩ := DataW.trod_struct op_under h
  have hfs := op_fields
  generalize Tryd.prog.fieldsOf 39 = fs at *
  obtain ⟨fl⟩ := fs
  simp only at hfs
  rw [cells_op] at hl
  have hfl : fl.length = 5 := by have := congrArg List.length hfs; simpa using this
  obtain ⟨f0, f1, f2, f3, f4, rfl⟩ := list5 hfl
  simp only [List.map_cons, List.map_nil, List.cons.injEq, Prod.mk.injEq, and_true] at hfs
  obtain ⟨⟨t0, o0⟩, ⟨t1, o1⟩, ⟨t2, o2⟩, ⟨t3, o3⟩, t4, o4⟩ := hfs
  obtain ⟨x0, x1, x2, x3, x4, rfl⟩ := list5 (hn.trans (by simp))
  obtain ⟨c0, c1, c2, c3, c4, rfl⟩ := list5 hl
  have h0 := hat 0 f0 rfl
  have h1 := hat 1 f1 rfl
  have h2 := hat 2 f2 rfl
  have h3 := hat 3 f3 rfl
  have h4 := hat 4 f4 rfl
  rw [t0, o0, cells_int] at h0
  rw [t1, o1, cells_int] at h1
  rw [t2, o2, cells_sl] at h2
  rw [t3, o3, cells_ls] at h3
  rw [t4, o4, cells_si] at h4
  obtain ⟨k, e0, b0, b0'⟩ := some_int (cs := [c0]) (by simpa using h0)
  obtain ⟨n, e1, b1, b1'⟩ := some_int (cs := [c1]) (by simpa using h1)
  obtain ⟨dA, dc, dl, e2, d1, d2, d3⟩ := some_bytes (cs := [c2]) (by simpa using h2)
  obtain ⟨rA, rc, rs, e3, r1, r2, r3⟩ := some_recs (cs := [c3]) (by simpa using h3)
  obtain ⟨kA, kc, kl, e4, k1, k2, k3, k4⟩ := some_ints (cs := [c4]) (by simpa using h4)
  simp only [List.cons.injEq, and_true] at e0 e1 e2 e3 e4
  exact ⟨⟨k, n, dA, dc, dl, rA, rc, rs, kA, kc, kl⟩, by rw [e0, e1, e2, e3, e4], ⟨b0, b0', b1, b1', d2, d3, r2, r3, k2, k4, k3⟩, bytes_in d1, r1, ints_in k1⟩
end
set_option maxRecDepth 100000 in
/-- A list of calls that comes in. -/
theorem openQ {H : Type} {enc : TypeId × Value → H} {w : World} {b0 base : Nat} {v : Value} {d : DataW H} {p : List MemPlace} (hv : Value.okWide Tryd.prog w .any b0 22 v) (h : DataW.Trod enc Tryd.prog w base (fun _ => true) true 22 v d p) :
    ∃ A cap l, v = .slice A l.length cap ∧ OpsIn (fun b => b < w.heap.size) w A l ∧ WfSs l := by
  obtain ⟨A, len, cap, rfl⟩ := okWide_slice Tryd.underlying22 hv
  obtain ⟨fuel, hf⟩ := h
  rcases open_slice Tryd.underlying22 hf with ⟨hc, _⟩ | ⟨a, len', cap', m, n, D, Pl, hc, _, hl, hm, hmm, _, hi⟩
  · simp [Value.cells] at hc
    obtain ⟨rfl, rfl, rfl⟩ := hc
    exact ⟨none, 0, [], rfl, fun j hj => by simp at hj, Nat.zero_le _, fun j hj => by simp at hj⟩
  · simp [Value.cells] at hc
    obtain ⟨rfl, rfl, rfl⟩ := hc
    have hml : len ≤ m := by rw [hmm]; split <;> omega
    have each : ∀ i, i < len → ∃ o : OpS, (∀ j, j < 5 → w.cell? (a.add (i * 5 + j)) = (sCells o)[j]?) ∧ WfS o ∧ BytesIn (fun b => b < w.heap.size) w o.dA o.dl ∧ RecsIn (fun b => b < w.heap.size) w o.rA o.rs ∧ IntsIn (fun b => b < w.heap.size) w o.kA o.kl := fun i hil => by
      obtain ⟨cs', hcs, ht⟩ := hi i (by omega)
      rw [cells_op] at hcs
      obtain ⟨_, hlen, hat⟩ := World.cells?_some hcs
      obtain ⟨o, rfl, h1, h2, h3, h4⟩ := op_cells ht
      refine ⟨o, fun j hj => ?_, h1, h2, h3, h4⟩
      have g := hat j (by simpa using hj)
      rw [add_add] at g
      rw [g]
      rcases (by omega : j = 0 ∨ j = 1 ∨ j = 2 ∨ j = 3 ∨ j = 4) with rfl | rfl | rfl | rfl | rfl <;> rfl
    obtain ⟨f, hfn⟩ := choose_lt each
    refine ⟨some a, cap, (List.range len).map f, by simp, fun j hj => ?_, by rw [List.length_map, List.length_range]; exact Nat.le_trans hl hm, fun j hj => ?_⟩
    · rw [List.length_map, List.length_range] at hj
      obtain ⟨h0, _, hd, hr, hk⟩ := hfn j hj
      have c0 := h0 0 (by omega)
      obtain ⟨b, off, spot⟩ := a
      have hspot : spot = none := by
        have c00 := (hfn 0 (by omega)).1 0 (by omega)
        have := World.cell?_spot (show w.cell? _ = some (.int .i64 (f 0).k) from c00)
        simpa [Addr.add] using this
      subst hspot
      have e : ((List.range len).map f).getD j dS = f j := by
        rw [List.getD_eq_getElem?_getD, List.getElem?_map, List.getElem?_range hj]; rfl
      rw [e]
      have hb := cell_lt (show w.cell? _ = some (.int .i64 (f j).k) from c0)
      rw [add_plain] at hb
      have g : ∀ i, i < 5 → w.cell? ⟨b, off + j * 5 + i, none⟩ = (sCells (f j))[i]? := fun i hi => by
        have := h0 i hi
        rw [add_plain, ← Nat.add_assoc] at this
        exact this
      exact ⟨b, off, rfl, hb, hb, g 0 (by omega), g 1 (by omega), g 2 (by omega), g 3 (by omega), g 4 (by omega), hd, hr, hk⟩
    · rw [List.length_map, List.length_range] at hj
      have e : ((List.range len).map f).getD j dS = f j := by
        rw [List.getD_eq_getElem?_getD, List.getElem?_map, List.getElem?_range hj]; rfl
      rw [e]
      exact (hfn j hj).2.1
end Go.Proofs.YtkdihekhdnnheaaDoor
