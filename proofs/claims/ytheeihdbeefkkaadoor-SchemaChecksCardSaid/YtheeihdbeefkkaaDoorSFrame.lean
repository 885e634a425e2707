/-
  What every law's proof of the schema seat shares: how slices of columns, values and texts come in and read on; the library's variable; a world for the witness.
-/
import Derived.Test.YtheeihdbeefkkaaDoorCards
import Derived.Test.YtheeihdbeefkkaaDoorTie
import Derived.Test.YtheeihdbeefkkaaDoorSParse
import Derived.Test.YtheeihdbeefkkaaDoorSRow
import Derived.WalkKit
import Derived.ProofKit
import Derived.OpenShut
import Derived.LaidMore
import Derived.MakeChecks
import Derived.Deep.DeepHandedRow
import Derived.Deep.DeepWitnessRowRef
import Derived.Lib.SmallJoins
import Derived.Deep.Slices
import Derived.SliceStrings
import Derived.Carry
import Derived.Shelf.Vars
namespace Go.Proofs.YtheeihdbeefkkaaDoor
open Go.ChangeShapes Go.WideShapes Go.ChangeAt Go.RowKit Go.Joins Go.Deep

theorem own : ownKnob Tryd.prog.godebug = none := by kernel_rfl
theorem laidOut' : laidOutB Tryd.prog = true := by kernel_rfl
theorem cells_col : Tryd.prog.cellsOf 33 = 2 := by kernel_rfl
theorem cells_val : Tryd.prog.cellsOf 56 = 3 := by kernel_rfl
theorem cells_text : Tryd.prog.cellsOf 9 = 1 := by kernel_rfl
set_option maxRecDepth 100000 in
theorem mx_of {W : World} (h : W.ShapedOpen Tryd.prog) : Mx W :=
  cell_of_shapedOpen_int (zero := #[.int .i64 0]) (t := 3) h (of_decide_eq_true (by kernel_rfl)) (by kernel_rfl) rfl (by kernel_rfl) (by kernel_rfl) Tryd.underlying3
theorem cell_lt {w : World} {a : Addr} {v : Value} (h : w.cell? a = some v) : a.block < w.heap.size := by
  rcases Nat.lt_or_ge a.block w.heap.size with h' | h'
  · exact h'
  · exfalso; simp [World.cell?, Array.getElem?_eq_none h'] at h

section
variable {H : Type} {enc : TypeId × Value → H} {w : World} {b0 base : Nat}

set_option maxRecDepth 100000 in
/-- A slice of columns that comes in. -/
theorem openC {v : Value} {d : DataW H} {p : List MemPlace} (hv : Value.okWide Tryd.prog w .any b0 23 v) (h : DataW.Trod enc Tryd.prog w base (fun _ => true) true 23 v d p) :
    ∃ A cap cs, v = .slice A cs.length cap ∧ ColsAt w.heap.size w A cs ∧ Wf cs := by
  obtain ⟨A, len, cap, rfl⟩ := okWide_slice Tryd.underlying23 hv
  obtain ⟨fuel, hf⟩ := h
  rcases open_slice Tryd.underlying23 hf with ⟨hc, _⟩ | ⟨a, len', cap', m, n, D, Pl, hc, _, hl, hm, hmm, _, hi⟩
  · simp [Value.cells] at hc
    obtain ⟨rfl, rfl, rfl⟩ := hc
    exact ⟨none, 0, [], rfl, ColsAt.nil _ _ _, Nat.zero_le _, fun c h => by simp at h⟩
  · simp [Value.cells] at hc
    obtain ⟨rfl, rfl, rfl⟩ := hc
    have hml : m = cap := by simpa using hmm
    have each : ∀ i, i < len → ∃ c : ByteArray × Int, w.cell? (a.add (i * 2)) = some (.string c.1) ∧ w.cell? (a.add (i * 2 + 1)) = some (.int .i64 c.2) ∧ colWf c := fun i hil => by
      obtain ⟨cs', hcs, ht⟩ := hi i (by omega)
      rw [cells_col] at hcs
      obtain ⟨_, hlen, hat⟩ := World.cells?_some hcs
      match cs', hlen with
      | [c0, c1], _ =>
        obtain ⟨y0, y1, n', _, _, h0, h1⟩ := trod_struct2 Tryd.underlying33 ht
        obtain ⟨s, e0, _, ws⟩ := DataW.trod_string Tryd.underlying9 h0
        obtain ⟨k, e1, _, wk⟩ := DataW.trod_int Tryd.underlying3 h1
        have q0 : [c0] = [Value.string s] := e0
        have q1 : [c1] = [Value.int .i64 k] := e1
        simp at q0 q1
        subst q0 q1
        have g0 := hat 0 (by omega)
        have g1 := hat 1 (by omega)
        rw [add_add] at g0 g1
        have := bounds_i64 wk
        exact ⟨(s, k), by simpa using g0, by simpa using g1, ws, by omega, by omega⟩
    obtain ⟨f, hfn⟩ := choose_lt each
    refine ⟨some a, cap, (List.range len).map f, by simp, fun j hj => ?_, by rw [List.length_map, List.length_range]; exact Nat.le_trans hl hm, fun c hc => ?_⟩
    · rw [List.length_map, List.length_range] at hj
      obtain ⟨h0, h1, _⟩ := hfn j hj
      obtain ⟨b, off, spot⟩ := a
      have hspot : spot = none := by
        have := World.cell?_spot (hfn 0 (by omega)).1
        simpa [Addr.add] using this
      subst hspot
      refine ⟨b, off, rfl, cell_lt h0 |> fun h => by simpa [Addr.add] using (show _ < _ from by
        have := h; unfold Addr.add at this; split at this <;> simpa using this), ?_, ?_⟩
      · rw [List.getD_eq_getElem?_getD, List.getElem?_map, List.getElem?_range hj]
        rw [add_plain] at h0; simpa using h0
      · rw [List.getD_eq_getElem?_getD, List.getElem?_map, List.getElem?_range hj]
        rw [add_plain] at h1; simpa [Nat.add_assoc] using h1
    · obtain ⟨j, hj, rfl⟩ := List.mem_map.1 hc
      exact (hfn j (List.mem_range.1 hj)).2.2
end

set_option maxRecDepth 100000 in
/-- A slice of texts that comes in. -/
theorem openL {H : Type} {enc : TypeId × Value → H} {w : World} {b0 base : Nat} {v : Value} {d : DataW H} {p : List MemPlace} (hv : Value.okWide Tryd.prog w .any b0 51 v) (h : DataW.Trod enc Tryd.prog w base (fun _ => true) true 51 v d p) :
    ∃ A cap ss, v = .slice A ss.length cap ∧ StrsAt w.heap.size w A ss ∧ ss.length ≤ maxLen := by
  obtain ⟨A, len, cap, rfl⟩ := okWide_slice Tryd.underlying51 hv
  obtain ⟨fuel, hf⟩ := h
  rcases open_strings Tryd.underlying51 Tryd.underlying9 cells_text hf with ⟨hc, _⟩ | ⟨a, len', cap', ss, hc, _, hl, hm, hz, _, hcell, hwz⟩
  · simp [Value.cells] at hc
    obtain ⟨rfl, rfl, rfl⟩ := hc
    exact ⟨none, 0, [], rfl, fun j hj => by simp at hj, Nat.zero_le _⟩
  · simp [Value.cells] at hc
    obtain ⟨rfl, rfl, rfl⟩ := hc
    simp only [if_true] at hz
    have hlt : (ss.take len).length = len := by rw [List.length_take]; omega
    refine ⟨some a, cap, ss.take len, by rw [hlt], fun j hj => ?_, by rw [hlt]; exact Nat.le_trans hl hm⟩
    rw [hlt] at hj
    have h0 := hcell j (by omega)
    obtain ⟨b, off, spot⟩ := a
    have hspot : spot = none := by simpa [Addr.add] using World.cell?_spot (hcell 0 (by omega))
    subst hspot
    have hb := cell_lt h0
    rw [add_plain] at h0 hb
    refine ⟨b, off, rfl, hb, ?_⟩
    rw [h0, List.getD_eq_getElem?_getD, List.getD_eq_getElem?_getD, List.getElem?_take_of_lt hj, List.getElem?_eq_getElem (by omega)]
    rfl

set_option maxRecDepth 100000 in
/-- A slice of values that comes in. -/
theorem openR {H : Type} {enc : TypeId × Value → H} {w : World} {b0 base : Nat} {v : Value} {d : DataW H} {p : List MemPlace} (hv : Value.okWide Tryd.prog w .any b0 39 v) (h : DataW.Trod enc Tryd.prog w base (fun _ => true) true 39 v d p) :
    ∃ A cap vs, v = .slice A vs.length cap ∧ RowAt w.heap.size w A vs ∧ WfR vs := by
  obtain ⟨A, len, cap, rfl⟩ := okWide_slice Tryd.underlying39 hv
  obtain ⟨fuel, hf⟩ := h
  rcases open_slice Tryd.underlying39 hf with ⟨hc, _⟩ | ⟨a, len', cap', m, n, D, Pl, hc, _, hl, hm, hmm, _, hi⟩
  · simp [Value.cells] at hc
    obtain ⟨rfl, rfl, rfl⟩ := hc
    exact ⟨none, 0, [], rfl, RowAt.nil _ _ _, Nat.zero_le _, fun c h => by simp at h⟩
  · simp [Value.cells] at hc
    obtain ⟨rfl, rfl, rfl⟩ := hc
    have hml : m = cap := by simpa using hmm
    have each : ∀ i, i < len → ∃ c : Int × Int × ByteArray, w.cell? (a.add (i * 3)) = some (.int .i64 c.1) ∧ w.cell? (a.add (i * 3 + 1)) = some (.int .i64 c.2.1) ∧ w.cell? (a.add (i * 3 + 2)) = some (.string c.2.2) ∧ valWf c := fun i hil => by
      obtain ⟨cs', hcs, ht⟩ := hi i (by omega)
      rw [cells_val] at hcs
      obtain ⟨_, hlen, hat⟩ := World.cells?_some hcs
      match cs', hlen with
      | [c0, c1, c2], _ =>
        obtain ⟨y0, y1, y2, n', _, _, h0, h1, h2⟩ := trod_struct3 Tryd.underlying56 ht
        obtain ⟨k, e0, _, wk⟩ := DataW.trod_int Tryd.underlying3 h0
        obtain ⟨l, e1, _, wl⟩ := DataW.trod_int Tryd.underlying3 h1
        obtain ⟨s, e2, _, ws⟩ := DataW.trod_string Tryd.underlying9 h2
        have q0 : [c0] = [Value.int .i64 k] := e0
        have q1 : [c1] = [Value.int .i64 l] := e1
        have q2 : [c2] = [Value.string s] := e2
        simp at q0 q1 q2
        subst q0 q1 q2
        have g0 := hat 0 (by omega)
        have g1 := hat 1 (by omega)
        have g2 := hat 2 (by omega)
        rw [add_add] at g0 g1 g2
        have b0 := bounds_i64 wk
        have b1 := bounds_i64 wl
        exact ⟨(k, l, s), by simpa using g0, by simpa using g1, by simpa using g2, ⟨show _ ≤ k by omega, show k ≤ _ by omega⟩, ⟨show _ ≤ l by omega, show l ≤ _ by omega⟩, ws⟩
    obtain ⟨f, hfn⟩ := choose_lt each
    refine ⟨some a, cap, (List.range len).map f, by simp, fun j hj => ?_, by rw [List.length_map, List.length_range]; exact Nat.le_trans hl hm, fun c hc => ?_⟩
    · rw [List.length_map, List.length_range] at hj
      obtain ⟨h0, h1, h2, _⟩ := hfn j hj
      obtain ⟨b, off, spot⟩ := a
      have hspot : spot = none := by
        have := World.cell?_spot (hfn 0 (by omega)).1
        simpa [Addr.add] using this
      subst hspot
      rw [add_plain] at h0 h1 h2
      have hb := cell_lt h0
      have e : ((List.range len).map f).getD j (0, 0, ⟨#[]⟩) = f j := by
        rw [List.getD_eq_getElem?_getD, List.getElem?_map, List.getElem?_range hj]; rfl
      rw [e]
      exact ⟨b, off, rfl, hb, h0, by simpa [Nat.add_assoc] using h1, by simpa [Nat.add_assoc] using h2⟩
    · obtain ⟨j, hj, rfl⟩ := List.mem_map.1 hc
      exact (hfn j (List.mem_range.1 hj)).2.2.2

set_option maxRecDepth 100000 in
/-- A slice that comes in without an address is nil. -/
theorem nilC {H : Type} {enc : TypeId × Value → H} {w : World} {base n c : Nat} {A : Option Addr} {d : DataW H} {p : List MemPlace} {t e : TypeId} (ht : Tryd.prog.underlying t = some (.slice e))
    (h : DataW.Trod enc Tryd.prog w base (fun _ => true) true t (.slice A n c) d p) : A = none → c = 0 := by
  obtain ⟨fuel, hf⟩ := h
  rcases open_slice ht hf with ⟨hc, _⟩ | ⟨a, len', cap', m, k, D, Pl, hc, _⟩
  · simp [Value.cells] at hc
    exact fun _ => hc.2.2
  · simp [Value.cells] at hc
    rintro rfl
    cases hc.1
/-- A block whose cells are these. -/
def tabObj (c : Array Value) : Obj → Obj
  | .cells _ t frozen => .cells c t frozen
  | o => o
def litV : DataW Unit → Value
  | .lit (.int k n) => .int k n
  | _ => .bool false
def cellsD : DataW Unit → List Value
  | .agg l => l.map litV
  | d => [litV d]
def cellsDD : DataW Unit → Array Value
  | .agg l => (l.flatMap cellsD).toArray
  | _ => #[]
/-- A world for the witnesses: the settled one, each listed table holding what its initialiser lays. -/
noncomputable def pinWorld (os : Os) : World :=
  let w0 := World.holding Tryd.prog os ⟨#[], #[], []⟩
  { w0 with heap := (w0.heap.modify 2 (tabObj (cellsDD Rows.laid_unicode_utf8_acceptRanges))).modify 1 (tabObj (cellsDD Rows.laid_unicode_utf8_first)) }
theorem mem_lt {p q : List MemPlace} {n : Nat} (h : ∀ x ∈ p ++ q, x.block < n) : (∀ x ∈ p, x.block < n) ∧ ∀ x ∈ q, x.block < n :=
  ⟨fun x hx => h x (List.mem_append_left _ hx), fun x hx => h x (List.mem_append_right _ hx)⟩
end Go.Proofs.YtheeihdbeefkkaaDoor
