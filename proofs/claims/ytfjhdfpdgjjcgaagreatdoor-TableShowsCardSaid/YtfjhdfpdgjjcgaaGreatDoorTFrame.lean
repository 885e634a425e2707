/-
  What every law's proof of the table seats shares: how tables, rows, texts, bytes and numbers come in and read on; the listed table of powers of ten; a world for the witness.
-/
import Derived.Test.YtfjhdfpdgjjcgaaGreatDoorCards
import Derived.Test.YtfjhdfpdgjjcgaaGreatDoorTie
import Derived.Test.YtfjhdfpdgjjcgaaGreatDoorTLaw
import Derived.Test.YtfjhdfpdgjjcgaaGreatDoorVShow
import Derived.WalkKit
import Derived.ProofKit
import Derived.OpenShut
import Derived.LaidMore
import Derived.MakeChecks
import Derived.Stop.LaidErr
import Derived.Deep.DeepHandedRow
import Derived.Deep.DeepWitnessRowRef
import Derived.Lib.LaidTab
import Derived.Lib.SmallJoins
import Derived.Deep.Slices
import Derived.SliceStrings
import Derived.Carry
import Derived.Shelf.Vars
namespace Go.Proofs.YtfjhdfpdgjjcgaaGreatDoor
open Go.ChangeShapes Go.WideShapes Go.ChangeAt Go.RowKit Go.Joins Go.Deep

theorem own : ownKnob Tryz.prog.godebug = none := by kernel_rfl
theorem g_tab_type : (Tryz.prog.globals[1]?).map (·.type) = some 174 := by kernel_rfl
theorem cells_tab : Tryz.prog.cellsOf 174 = 20 := by kernel_rfl
theorem cells_u64 : Tryz.prog.cellsOf 43 = 1 := by kernel_rfl

/-- What the rows' lists give: strconv's table of powers of ten (it stands third on each list). -/
theorem tab_of {W : World} {x y : String × DataW Unit} {rest : List (String × DataW Unit)} (hp : ((x :: y :: ("internal/strconv.uint64pow10", Rows.laid_internal_strconv_uint64pow10) :: rest).all fun x => x.2.handleName?.isNone) = true)
    (h : laidMetH Tryz.prog (x :: y :: ("internal/strconv.uint64pow10", Rows.laid_internal_strconv_uint64pow10) :: rest) W) : Tab W := by
  rw [MakeChecks.laidMetH_plain _ _ _ hp] at h
  exact Lib.tabIs_of_head (rest := rest) g_tab g_tab_type Tryz.underlying174 Tryz.underlying43 cells_u64 cells_tab h.tail.tail

theorem cells_col : Tryz.prog.cellsOf 52 = 2 := by kernel_rfl
theorem cells_val : Tryz.prog.cellsOf 54 = 3 := by kernel_rfl
theorem cells_row : Tryz.prog.cellsOf 27 = 1 := by kernel_rfl
theorem cells_byte : Tryz.prog.cellsOf 5 = 1 := by kernel_rfl
theorem laidOut' : laidOutB Tryz.prog = true := by kernel_rfl
theorem cell_lt {w : World} {a : Addr} {v : Value} (h : w.cell? a = some v) : a.block < w.heap.size := by
  rcases Nat.lt_or_ge a.block w.heap.size with h' | h'
  · exact h'
  · exfalso; simp [World.cell?, Array.getElem?_eq_none h'] at h
theorem plain_of {w : World} {a : Addr} {v : Value} (h : w.cell? a = some v) : ∃ b off, a = ⟨b, off, none⟩ ∧ b < w.heap.size := by
  have h1 := cell_lt h
  have h2 := World.cell?_spot h
  obtain ⟨b, off, spot⟩ := a
  simp only at h2
  subst h2
  exact ⟨b, off, rfl, h1⟩

section
variable {H : Type} {enc : TypeId × Value → H} {w : World} {base fuel : Nat}

set_option maxRecDepth 100000 in
theorem openCells {v : Value} {y : DataW H × List MemPlace} (hf : DataW.trod enc Tryz.prog w base (fun _ => true) true fuel 23 [v] = some y) :
    ∃ A cap cs, v = .slice A cs.length cap ∧ ColsAt w.heap.size w A cs ∧ Wf cs ∧ (A = none → cap = 0) := by
  rcases open_slice Tryz.underlying23 hf with ⟨hc, _⟩ | ⟨a, len, cap, m, n, D, Pl, hc, _, hl, hm, hmm, _, hi⟩
  · simp at hc
    subst hc
    exact ⟨none, 0, [], rfl, ColsAt.nil _ _ _, ⟨Nat.zero_le _, fun c h => by simp at h⟩, fun _ => rfl⟩
  · simp at hc
    subst hc
    have hml : m = cap := by simpa using hmm
    have each : ∀ i, i < len → ∃ c : ByteArray × Int, w.cell? (a.add (i * 2)) = some (.string c.1) ∧ w.cell? (a.add (i * 2 + 1)) = some (.int .i64 c.2) ∧ colWf c := fun i hil => by
      obtain ⟨cs', hcs, ht⟩ := hi i (by omega)
      rw [cells_col] at hcs
      obtain ⟨_, hlen, hat⟩ := World.cells?_some hcs
      match cs', hlen with
      | [c0, c1], _ =>
        obtain ⟨y0, y1, n', _, _, h0, h1⟩ := trod_struct2 Tryz.underlying52 ht
        obtain ⟨s, e0, _, ws⟩ := DataW.trod_string Tryz.underlying9 h0
        obtain ⟨k, e1, _, wk⟩ := DataW.trod_int Tryz.underlying3 h1
        have q0 : [c0] = [Value.string s] := e0
        have q1 : [c1] = [Value.int .i64 k] := e1
        simp at q0 q1
        subst q0 q1
        have g0 := hat 0 (by omega)
        have g1 := hat 1 (by omega)
        rw [add_add] at g0 g1
        have := bounds_i64 wk
        exact ⟨(s, k), by simpa using g0, by simpa using g1, ws, by omega, by omega⟩
    obtain ⟨f, hfn⟩ := choose_lt each
    refine ⟨some a, cap, (List.range len).map f, by simp, fun j hj => ?_, ⟨by rw [List.length_map, List.length_range]; exact Nat.le_trans hl hm, fun c hc => ?_⟩, fun h => by cases h⟩
    · rw [List.length_map, List.length_range] at hj
      obtain ⟨h0, h1, _⟩ := hfn j hj
      obtain ⟨b, off, spot⟩ := a
      have hspot : spot = none := by
        have := World.cell?_spot (hfn 0 (by omega)).1
        simpa [Addr.add] using this
      subst hspot
      rw [add_plain] at h0 h1
      have hb := cell_lt h0
      have e : ((List.range len).map f).getD j (⟨#[]⟩, 0) = f j := by
        rw [List.getD_eq_getElem?_getD, List.getElem?_map, List.getElem?_range hj]; rfl
      rw [e]
      exact ⟨b, off, rfl, hb, h0, by simpa [Nat.add_assoc] using h1⟩
    · obtain ⟨j, hj, rfl⟩ := List.mem_map.1 hc
      exact (hfn j (List.mem_range.1 hj)).2.2

set_option maxRecDepth 100000 in
theorem openRow {v : Value} {y : DataW H × List MemPlace} (hf : DataW.trod enc Tryz.prog w base (fun _ => true) true fuel 27 [v] = some y) :
    ∃ A cap vs, v = .slice A vs.length cap ∧ RowAt w.heap.size w A vs ∧ WfR vs ∧ (A = none → cap = 0) := by
  rcases open_slice Tryz.underlying27 hf with ⟨hc, _⟩ | ⟨a, len, cap, m, n, D, Pl, hc, _, hl, hm, hmm, _, hi⟩
  · simp at hc
    subst hc
    exact ⟨none, 0, [], rfl, RowAt.nil _ _ _, ⟨Nat.zero_le _, fun c h => by simp at h⟩, fun _ => rfl⟩
  · simp at hc
    subst hc
    have hml : m = cap := by simpa using hmm
    have each : ∀ i, i < len → ∃ c : Int × Int × ByteArray, w.cell? (a.add (i * 3)) = some (.int .i64 c.1) ∧ w.cell? (a.add (i * 3 + 1)) = some (.int .i64 c.2.1) ∧ w.cell? (a.add (i * 3 + 2)) = some (.string c.2.2) ∧ valWf c := fun i hil => by
      obtain ⟨cs', hcs, ht⟩ := hi i (by omega)
      rw [cells_val] at hcs
      obtain ⟨_, hlen, hat⟩ := World.cells?_some hcs
      match cs', hlen with
      | [c0, c1, c2], _ =>
        obtain ⟨y0, y1, y2, n', _, _, h0, h1, h2⟩ := trod_struct3 Tryz.underlying54 ht
        obtain ⟨k, e0, _, wk⟩ := DataW.trod_int Tryz.underlying3 h0
        obtain ⟨l, e1, _, wl⟩ := DataW.trod_int Tryz.underlying3 h1
        obtain ⟨s, e2, _, ws⟩ := DataW.trod_string Tryz.underlying9 h2
        have q0 : [c0] = [Value.int .i64 k] := e0
        have q1 : [c1] = [Value.int .i64 l] := e1
        have q2 : [c2] = [Value.string s] := e2
        simp at q0 q1 q2
        subst q0 q1 q2
        have g0 := hat 0 (by omega)
        have g1 := hat 1 (by omega)
        have g2 := hat 2 (by omega)
        rw [add_add] at g0 g1 g2
        have b0 := bounds_i64 wk
        have b1 := bounds_i64 wl
        exact ⟨(k, l, s), by simpa using g0, by simpa using g1, by simpa using g2, ⟨show _ ≤ k by omega, show k ≤ _ by omega⟩, ⟨show _ ≤ l by omega, show l ≤ _ by omega⟩, ws⟩
    obtain ⟨f, hfn⟩ := choose_lt each
    refine ⟨some a, cap, (List.range len).map f, by simp, fun j hj => ?_, ⟨by rw [List.length_map, List.length_range]; exact Nat.le_trans hl hm, fun c hc => ?_⟩, fun h => by cases h⟩
    · rw [List.length_map, List.length_range] at hj
      obtain ⟨h0, h1, h2, _⟩ := hfn j hj
      obtain ⟨b, off, spot⟩ := a
      have hspot : spot = none := by
        have := World.cell?_spot (hfn 0 (by omega)).1
        simpa [Addr.add] using this
      subst hspot
      rw [add_plain] at h0 h1 h2
      have hb := cell_lt h0
      have e : ((List.range len).map f).getD j (0, 0, ⟨#[]⟩) = f j := by
        rw [List.getD_eq_getElem?_getD, List.getElem?_map, List.getElem?_range hj]; rfl
      rw [e]
      exact ⟨b, off, rfl, hb, h0, by simpa [Nat.add_assoc] using h1, by simpa [Nat.add_assoc] using h2⟩
    · obtain ⟨j, hj, rfl⟩ := List.mem_map.1 hc
      exact (hfn j (List.mem_range.1 hj)).2.2.2

set_option maxRecDepth 100000 in
theorem openRows {v : Value} {y : DataW H × List MemPlace} (hf : DataW.trod enc Tryz.prog w base (fun _ => true) true fuel 24 [v] = some y) :
    ∃ A cap hs, v = .slice A hs.length cap ∧ RowsAt w.heap.size w A hs ∧ WfT (rowsOf hs) ∧ (A = none → cap = 0) := by
  rcases open_slice Tryz.underlying24 hf with ⟨hc, _⟩ | ⟨a, len, cap, m, n, D, Pl, hc, _, hl, hm, hmm, _, hi⟩
  · simp at hc
    subst hc
    exact ⟨none, 0, [], rfl, RowsAt.nil _ _ _, ⟨Nat.zero_le _, fun c h => by simp [rowsOf] at h⟩, fun _ => rfl⟩
  · simp at hc
    subst hc
    have hml : m = cap := by simpa using hmm
    have each : ∀ i, i < len → ∃ h : RH, w.cell? (a.add i) = some (hdr h) ∧ HdrOk w.heap.size w h ∧ WfR h.2.2 := fun i hil => by
      obtain ⟨cs', hcs, ht⟩ := hi i (by omega)
      rw [cells_row, Nat.mul_one] at hcs
      obtain ⟨_, hlen, hat⟩ := World.cells?_some hcs
      match cs', hlen with
      | [c0], _ =>
        obtain ⟨A', c', r, rfl, hr, hw, hn⟩ := openRow ht
        have g0 := hat 0 (by omega)
        rw [add_add] at g0
        exact ⟨(A', c', r), by simpa [hdr] using g0, ⟨hr, hn⟩, hw⟩
    obtain ⟨f, hfn⟩ := choose_lt each
    have hok : ∀ h ∈ (List.range len).map f, HdrOk w.heap.size w h ∧ WfR h.2.2 := fun h hh => by
      obtain ⟨j, hj, rfl⟩ := List.mem_map.1 hh
      exact (hfn j (List.mem_range.1 hj)).2
    refine ⟨some a, cap, (List.range len).map f, by simp, ⟨fun j hj => ?_, fun h hh => (hok h hh).1⟩, ⟨by rw [rowsOf_len, List.length_map, List.length_range]; exact Nat.le_trans hl hm, fun r hr => ?_⟩, fun h => by cases h⟩
    · rw [List.length_map, List.length_range] at hj
      have h0 := (hfn j hj).1
      obtain ⟨b, off, spot⟩ := a
      have hspot : spot = none := by
        have := World.cell?_spot (hfn 0 (by omega)).1
        simpa [Addr.add] using this
      subst hspot
      rw [add_plain] at h0
      have hb := cell_lt h0
      have e : ((List.range len).map f).getD j dH = f j := by
        rw [List.getD_eq_getElem?_getD, List.getElem?_map, List.getElem?_range hj]; rfl
      rw [e]
      exact ⟨b, off, rfl, hb, h0⟩
    · unfold rowsOf at hr
      obtain ⟨h, hh, rfl⟩ := List.mem_map.1 hr
      exact (hok h hh).2
end

set_option maxRecDepth 100000 in
/-- A table that comes in. -/
theorem openT {H : Type} {enc : TypeId × Value → H} {w : World} {b0 base : Nat} {v : Value} {d : DataW H} {p : List MemPlace} (hv : Value.okWide Tryz.prog w .any b0 26 v) (h : DataW.Trod enc Tryz.prog w base (fun _ => true) true 26 v d p) :
    ∃ S c cs A cap hs, v = vTab S cs.length c A hs.length cap ∧ ColsAt w.heap.size w S cs ∧ Wf cs ∧ (S = none → c = 0) ∧ RowsAt w.heap.size w A hs ∧ WfT (rowsOf hs) ∧ (A = none → cap = 0) := by
  obtain ⟨v0, v1, y0, y1, n, rfl, _, _, h0, h1⟩ := open_agg2 Tryz.underlying26 (by kernel_rfl) (by kernel_rfl) hv h
  obtain ⟨S, c, cs, rfl, f0, w0, n0⟩ := openCells h0
  obtain ⟨A, cap, hs, rfl, f1, w1, n1⟩ := openRows h1
  exact ⟨S, c, cs, A, cap, hs, rfl, f0, w0, n0, f1, w1, n1⟩
set_option maxRecDepth 100000 in
/-- A row that comes in. -/
theorem openR {H : Type} {enc : TypeId × Value → H} {w : World} {b0 base : Nat} {v : Value} {d : DataW H} {p : List MemPlace} (hv : Value.okWide Tryz.prog w .any b0 27 v) (h : DataW.Trod enc Tryz.prog w base (fun _ => true) true 27 v d p) :
    ∃ A cap vs, v = .slice A vs.length cap ∧ RowAt w.heap.size w A vs ∧ WfR vs ∧ (A = none → cap = 0) := by
  obtain ⟨A, len, cap, rfl⟩ := okWide_slice Tryz.underlying27 hv
  obtain ⟨fuel, hf⟩ := h
  exact openRow (v := .slice A len cap) (by simpa [Value.cells] using hf)

/-- The slice at A reads as these bytes. -/
def BytesAt (B : Nat) (w : World) (A : Option Addr) (l : List UInt8) : Prop :=
  ∀ j, j < l.length → ∃ b off, A = some ⟨b, off, none⟩ ∧ b < B ∧ w.cell? ⟨b, off + j, none⟩ = some (.int .u8 (l.getD j 0).toNat)
theorem BytesAt.below {B : Nat} {w w' : World} {A : Option Addr} {l : List UInt8} (h : BytesAt B w A l) (hb : Below B w w') : BytesAt B w' A l := fun j hj => by
  obtain ⟨b, off, e, hlt, h0⟩ := h j hj
  exact ⟨b, off, e, hlt, (hb.cell (p := ⟨b, off + j, none⟩) hlt).trans h0⟩
set_option maxRecDepth 100000 in
/-- Bytes that come in. -/
theorem openB {H : Type} {enc : TypeId × Value → H} {w : World} {b0 base : Nat} {v : Value} {d : DataW H} {p : List MemPlace} (hv : Value.okWide Tryz.prog w .any b0 71 v) (h : DataW.Trod enc Tryz.prog w base (fun _ => true) true 71 v d p) :
    ∃ A cap l, v = .slice A l.length cap ∧ BytesAt w.heap.size w A l ∧ l.length ≤ maxLen := by
  obtain ⟨A, len, cap, rfl⟩ := okWide_slice Tryz.underlying71 hv
  obtain ⟨fuel, hf⟩ := h
  rcases open_slice Tryz.underlying71 hf with ⟨hc, _⟩ | ⟨a, len', cap', m, n, D, Pl, hc, _, hl, hm, hmm, _, hi⟩
  · simp [Value.cells] at hc
    obtain ⟨rfl, rfl, rfl⟩ := hc
    exact ⟨none, 0, [], rfl, fun j hj => by simp at hj, Nat.zero_le _⟩
  · simp [Value.cells] at hc
    obtain ⟨rfl, rfl, rfl⟩ := hc
    have hml : m = cap := by simpa using hmm
    have each : ∀ i, i < len → ∃ c : UInt8, w.cell? (a.add i) = some (.int .u8 c.toNat) := fun i hil => by
      obtain ⟨cs', hcs, ht⟩ := hi i (by omega)
      rw [cells_byte, Nat.mul_one] at hcs
      obtain ⟨_, hlen, hat⟩ := World.cells?_some hcs
      match cs', hlen with
      | [c0], _ =>
        obtain ⟨k, e0, _, wk⟩ := DataW.trod_int Tryz.underlying5 ht
        simp at e0
        subst e0
        have g0 := hat 0 (by omega)
        rw [add_add] at g0
        have hk := bounds_u8 wk
        refine ⟨UInt8.ofNat k.toNat, ?_⟩
        rw [UInt8.toNat_ofNat_of_lt' (by show _ < 256; omega), Int.toNat_of_nonneg hk.1]
        simpa using g0
    obtain ⟨f, hfn⟩ := choose_lt each
    refine ⟨some a, cap, (List.range len).map f, by simp, fun j hj => ?_, by rw [List.length_map, List.length_range]; exact Nat.le_trans hl hm⟩
    rw [List.length_map, List.length_range] at hj
    have h0 := hfn j hj
    obtain ⟨b, off, spot⟩ := a
    have hspot : spot = none := by
      have := World.cell?_spot (hfn 0 (by omega))
      simpa [Addr.add] using this
    subst hspot
    rw [add_plain] at h0
    have hb := cell_lt h0
    have e : ((List.range len).map f).getD j 0 = f j := by
      rw [List.getD_eq_getElem?_getD, List.getElem?_map, List.getElem?_range hj]; rfl
    rw [e]
    exact ⟨b, off, rfl, hb, h0⟩
theorem mem_lt {p q : List MemPlace} {n : Nat} (h : ∀ x ∈ p ++ q, x.block < n) : (∀ x ∈ p, x.block < n) ∧ ∀ x ∈ q, x.block < n :=
  ⟨fun x hx => h x (List.mem_append_left _ hx), fun x hx => h x (List.mem_append_right _ hx)⟩
/-- A block whose cells are these. -/
def tabObj (c : Array Value) : Obj → Obj
  | .cells _ t frozen => .cells c t frozen
  | o => o
def tabCells0 : Array Value := #[.int .u64 1, .int .u64 10, .int .u64 100, .int .u64 1000, .int .u64 10000, .int .u64 100000, .int .u64 1000000, .int .u64 10000000, .int .u64 100000000, .int .u64 1000000000, .int .u64 10000000000, .int .u64 100000000000, .int .u64 1000000000000, .int .u64 10000000000000, .int .u64 100000000000000, .int .u64 1000000000000000, .int .u64 10000000000000000, .int .u64 100000000000000000, .int .u64 1000000000000000000, .int .u64 10000000000000000000]
def tabCells1 : Array Value := #[.int .u8 0, .int .u8 1, .int .u8 28, .int .u8 2, .int .u8 29, .int .u8 14, .int .u8 24, .int .u8 3, .int .u8 30, .int .u8 22, .int .u8 20, .int .u8 15, .int .u8 25, .int .u8 17, .int .u8 4, .int .u8 8, .int .u8 31, .int .u8 27, .int .u8 13, .int .u8 23, .int .u8 21, .int .u8 19, .int .u8 16, .int .u8 7, .int .u8 26, .int .u8 12, .int .u8 18, .int .u8 6, .int .u8 11, .int .u8 5, .int .u8 10, .int .u8 9]
def tabCells2 : Array Value := #[.int .u8 0, .int .u8 1, .int .u8 56, .int .u8 2, .int .u8 57, .int .u8 49, .int .u8 28, .int .u8 3, .int .u8 61, .int .u8 58, .int .u8 42, .int .u8 50, .int .u8 38, .int .u8 29, .int .u8 17, .int .u8 4, .int .u8 62, .int .u8 47, .int .u8 59, .int .u8 36, .int .u8 45, .int .u8 43, .int .u8 51, .int .u8 22, .int .u8 53, .int .u8 39, .int .u8 33, .int .u8 30, .int .u8 24, .int .u8 18, .int .u8 12, .int .u8 5, .int .u8 63, .int .u8 55, .int .u8 48, .int .u8 27, .int .u8 60, .int .u8 41, .int .u8 37, .int .u8 16, .int .u8 46, .int .u8 35, .int .u8 44, .int .u8 21, .int .u8 52, .int .u8 32, .int .u8 23, .int .u8 11, .int .u8 54, .int .u8 26, .int .u8 40, .int .u8 15, .int .u8 34, .int .u8 20, .int .u8 31, .int .u8 10, .int .u8 25, .int .u8 14, .int .u8 19, .int .u8 9, .int .u8 13, .int .u8 8, .int .u8 7, .int .u8 6]
/-- A world for the witnesses: the settled one, each listed table holding what its initialiser lays. -/
noncomputable def tabWorld (os : Os) : World :=
  let w0 := World.holding Tryz.prog os ⟨#[], #[], []⟩
  { w0 with heap := ((w0.heap.modify 1 (tabObj tabCells0)).modify 6 (tabObj tabCells1)).modify 7 (tabObj tabCells2) }

end Go.Proofs.YtfjhdfpdgjjcgaaGreatDoor
