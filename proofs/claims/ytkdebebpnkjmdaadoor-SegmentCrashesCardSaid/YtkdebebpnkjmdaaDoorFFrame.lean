/-
  What every law's proof of the frame seat shares: the listed table; how arguments come in; a world for the witness.
-/
import Derived.Test.YtkdebebpnkjmdaaDoorCards
import Derived.Test.YtkdebebpnkjmdaaDoorTie
import Derived.Test.YtkdebebpnkjmdaaDoorFBase
import Derived.WalkKit
import Derived.ProofKit
import Derived.OpenShut
import Derived.LaidMore
import Derived.MakeChecks
import Derived.Stop.LaidErr
import Derived.Deep.DeepHandedRow
import Derived.Deep.DeepWitnessRowRef
import Derived.Lib.LaidTab
import Derived.Lib.SmallJoins
import Derived.Deep.Slices
import Derived.SliceStrings
import Derived.Carry
import Derived.Shelf.Vars
namespace Go.Proofs.YtkdebebpnkjmdaaDoor
open Go.ChangeShapes Go.WideShapes Go.ChangeAt Go.RowKit Go.Joins Go.Deep

theorem own : ownKnob Tryd.prog.godebug = none := by kernel_rfl
theorem laidOut' : laidOutB Tryd.prog = true := by kernel_rfl
theorem mem_lt {p q : List MemPlace} {n : Nat} (h : ∀ x ∈ p ++ q, x.block < n) : (∀ x ∈ p, x.block < n) ∧ ∀ x ∈ q, x.block < n :=
  ⟨fun x hx => h x (List.mem_append_left _ hx), fun x hx => h x (List.mem_append_right _ hx)⟩
theorem cell_lt {w : World} {a : Addr} {v : Value} (h : w.cell? a = some v) : a.block < w.heap.size := by
  rcases Nat.lt_or_ge a.block w.heap.size with h' | h'
  · exact h'
  · exfalso; simp [World.cell?, Array.getElem?_eq_none h'] at h
theorem cells_int : Tryd.prog.cellsOf 3 = 1 := by kernel_rfl
theorem cells_byte : Tryd.prog.cellsOf 5 = 1 := by kernel_rfl
theorem cells_text : Tryd.prog.cellsOf 9 = 1 := by kernel_rfl
theorem g_half : Tryd.prog.globalNamed "bywash/frame.halfSums" = some 0 := by kernel_rfl
theorem half_type : (Tryd.prog.globals[0]?).map (·.type) = some 115 := by kernel_rfl
theorem cells_half : Tryd.prog.cellsOf 115 = 16 := by kernel_rfl
theorem cells_u32 : Tryd.prog.cellsOf 97 = 1 := by kernel_rfl
theorem half_data : (Rows.laid_bywash_frame_halfSums : DataW Unit) = .agg (halfT.map fun s => .lit (.int .u32 (s : Nat))) := rfl
section
variable {H : Type} {enc : TypeId × Value → H} {w : World} {base fuel : Nat} {sp : Nat → Bool} {held : Bool}
theorem one_u32 {cs : List Value} {k : Int} {p : List MemPlace} (h : DataW.trod enc Tryd.prog w base sp held fuel 97 cs = some (.lit (.int .u32 k), p)) : cs = [.int .u32 k] := by
  obtain ⟨n, e, hx, _⟩ := DataW.trod_int Tryd.underlying97 h
  simp only [Prod.mk.injEq, DataW.lit.injEq, Lit.int.injEq, true_and] at hx
  rw [e, hx.1]
end
theorem tab_of {W : World} (h : laidMetH Tryd.prog [("bywash/frame.halfSums", Rows.laid_bywash_frame_halfSums)] W) : Tab W := by
  rw [MakeChecks.laidMetH_plain _ _ _ (by kernel_rfl)] at h
  obtain ⟨ps, ⟨g', t', cs, fuel, p, q, hg', ht', hvar, hd, _, _⟩, _⟩ := h
  obtain rfl := Option.some.inj (g_half.symm.trans hg')
  obtain rfl := Option.some.inj (half_type.symm.trans ht')
  rw [half_data] at hd
  obtain ⟨xs, m, _, hx, hl, hn, hat⟩ := DataW.trod_array Tryd.underlying115 hd
  rw [cells_half] at hl
  intro i hi
  have h0 := hat i hi
  rw [cells_u32] at h0
  have hxi : xs[i]? = some (xs[i]'(by omega)) := List.getElem?_eq_getElem (by omega)
  simp only [Prod.mk.injEq, DataW.agg.injEq] at hx
  have hd0 : (xs[i]'(by omega)).1 = .lit (.int .u32 (halfT.getD i 0 : Nat)) := by
    have h1 : (xs.map (·.1))[i]? = some (xs[i]'(by omega)).1 := by rw [List.getElem?_map, hxi]; rfl
    rw [← hx.1, List.getElem?_map, List.getElem?_eq_getElem (show i < halfT.length from hi)] at h1
    rw [List.getD_eq_getElem?_getD, List.getElem?_eq_getElem (show i < halfT.length from hi)]
    exact (Option.some.inj h1).symm
  rw [hxi] at h0
  have e := one_u32 (cs := (cs.toList.drop (i * 1)).take 1) (p := (xs[i]'(by omega)).2) (k := (halfT.getD i 0 : Nat)) (by rw [h0, ← hd0])
  have hc := World.var?_cell g_half hvar i
  rw [hc]
  have h3 : cs.toList[i]? = some (.int .u32 (halfT.getD i 0 : Nat)) := by
    have := congrArg (·[0]?) e
    simpa [List.getElem?_take, List.getElem?_drop] using this
  simpa using h3
set_option maxRecDepth 100000 in
/-- Bytes that come in. -/
theorem openB {H : Type} {enc : TypeId × Value → H} {w : World} {b0 base : Nat} {v : Value} {d : DataW H} {p : List MemPlace} (hv : Value.okWide Tryd.prog w .any b0 22 v) (h : DataW.Trod enc Tryd.prog w base (fun _ => true) true 22 v d p) :
    ∃ A cap l, v = .slice A l.length cap ∧ BytesAt w.heap.size w A l ∧ l.length ≤ maxLen := by
  obtain ⟨A, len, cap, rfl⟩ := okWide_slice Tryd.underlying22 hv
  obtain ⟨fuel, hf⟩ := h
  rcases open_slice Tryd.underlying22 hf with ⟨hc, _⟩ | ⟨a, len', cap', m, n, D, Pl, hc, _, hl, hm, hmm, _, hi⟩
  · simp [Value.cells] at hc
    obtain ⟨rfl, rfl, rfl⟩ := hc
    exact ⟨none, 0, [], rfl, fun j hj => by simp at hj, Nat.zero_le _⟩
  · simp [Value.cells] at hc
    obtain ⟨rfl, rfl, rfl⟩ := hc
    have hml : m = cap := by simpa using hmm
    have each : ∀ i, i < len → ∃ c : UInt8, w.cell? (a.add i) = some (.int .u8 c.toNat) := fun i hil => by
      obtain ⟨cs', hcs, ht⟩ := hi i (by omega)
      rw [cells_byte, Nat.mul_one] at hcs
      obtain ⟨_, hlen, hat⟩ := World.cells?_some hcs
      match cs', hlen with
      | [c0], _ =>
        obtain ⟨k, e0, _, wk⟩ := DataW.trod_int Tryd.underlying5 ht
        simp at e0
        subst e0
        have g0 := hat 0 (by omega)
        rw [add_add] at g0
        have hk := bounds_u8 wk
        refine ⟨UInt8.ofNat k.toNat, ?_⟩
        rw [UInt8.toNat_ofNat_of_lt' (by show _ < 256; omega), Int.toNat_of_nonneg hk.1]
        simpa using g0
    obtain ⟨f, hfn⟩ := choose_lt each
    refine ⟨some a, cap, (List.range len).map f, by simp, fun j hj => ?_, by rw [List.length_map, List.length_range]; exact Nat.le_trans hl hm⟩
    rw [List.length_map, List.length_range] at hj
    have h0 := hfn j hj
    obtain ⟨b, off, spot⟩ := a
    have hspot : spot = none := by
      have := World.cell?_spot (hfn 0 (by omega))
      simpa [Addr.add] using this
    subst hspot
    rw [add_plain] at h0
    have hb := cell_lt h0
    have e : ((List.range len).map f).getD j 0 = f j := by
      rw [List.getD_eq_getElem?_getD, List.getElem?_map, List.getElem?_range hj]; rfl
    rw [e]
    exact ⟨b, off, rfl, hb, h0⟩
set_option maxRecDepth 100000 in
/-- A slice that comes in without an address is nil. -/
theorem nilC {H : Type} {enc : TypeId × Value → H} {w : World} {base n c : Nat} {A : Option Addr} {d : DataW H} {p : List MemPlace} {t e : TypeId} (ht : Tryd.prog.underlying t = some (.slice e))
    (h : DataW.Trod enc Tryd.prog w base (fun _ => true) true t (.slice A n c) d p) : A = none → c = 0 := by
  obtain ⟨fuel, hf⟩ := h
  rcases open_slice ht hf with ⟨hc, _⟩ | ⟨a, len', cap', m, k, D, Pl, hc, _⟩
  · simp [Value.cells] at hc
    exact fun _ => hc.2.2
  · simp [Value.cells] at hc
    rintro rfl
    cases hc.1
/-- A block whose cells are these. -/
def tabObj (c : Array Value) : Obj → Obj
  | .cells _ t frozen => .cells c t frozen
  | o => o
/-- A world for the witnesses: the settled one, the listed table holding what its initialiser lays. -/
noncomputable def halfWorld (os : Os) : World :=
  let w0 := World.holding Tryd.prog os ⟨#[], #[], []⟩
  { w0 with heap := w0.heap.modify 0 (tabObj (halfT.map fun (s : Nat) => Value.int .u32 s).toArray) }
end Go.Proofs.YtkdebebpnkjmdaaDoor
