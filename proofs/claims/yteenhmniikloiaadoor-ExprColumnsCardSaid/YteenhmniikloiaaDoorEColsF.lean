/-
  Columns: the names of the columns in an expression, sorted, each once.
-/
import Derived.Test.YteenhmniikloiaaDoorEAdd
import Derived.Test.YteenhmniikloiaaDoorShelf
import Derived.Lib.OwnBridge
import Derived.Sort.OwnSorted
namespace Go.Proofs.YteenhmniikloiaaDoor
open Go.RowKit

/-- The slice at A reads as these texts, and lies below block B. -/
def StrsAt (B : Nat) (w : World) (A : Option Addr) (l : List ByteArray) : Prop :=
  ∀ j, j < l.length → ∃ b off, A = some ⟨b, off, none⟩ ∧ b < B ∧ w.cell? ⟨b, off + j, none⟩ = some (.string (l.getD j ⟨#[]⟩))
theorem StrsAt.below {B : Nat} {w w' : World} {A : Option Addr} {l : List ByteArray} (h : StrsAt B w A l) (hb : Below B w w') : StrsAt B w' A l := fun j hj => by
  obtain ⟨b, off, e, hlt, h0⟩ := h j hj
  exact ⟨b, off, e, hlt, (hb.cell (p := ⟨b, off + j, none⟩) hlt).trans h0⟩
theorem StrsAt.mono {B B' : Nat} {w : World} {A : Option Addr} {l : List ByteArray} (h : StrsAt B w A l) (hB : B ≤ B') : StrsAt B' w A l := fun j hj => by
  obtain ⟨b, off, e, hlt, r⟩ := h j hj
  exact ⟨b, off, e, Nat.lt_of_lt_of_le hlt hB, r⟩
theorem StrsAt.on {w w' : World} {A : Option Addr} {l : List ByteArray} (h : StrsAt w.heap.size w A l) (hb : Below w.heap.size w w') : StrsAt w'.heap.size w' A l := (h.below hb).mono hb.size

def bytesL (ms : List ByteArray) : List (List UInt8) := ms.map (·.data.toList)
def sortL (zs : List (List UInt8)) : List (List UInt8) := zs.mergeSort fun x y => decide (x ≤ y)
/-- What Columns tells, as lists of bytes. -/
def colsL (ms : List ByteArray) : List (List UInt8) := Lib.compact (sortL (bytesL ms))
def colsB (ms : List ByteArray) : List ByteArray := (colsL ms).map fun l => ⟨l.toArray⟩
theorem strCells_enc (ms : List ByteArray) : strCells ms = (bytesL ms).map encStr := (Lib.map_encStr ms).symm
theorem sortL_len (zs : List (List UInt8)) : (sortL zs).length = zs.length := by unfold sortL; simp
theorem compact_le (zs : List (List UInt8)) : (Lib.compact zs).length ≤ zs.length := by
  unfold Lib.compact Lib.compactUpTo
  rw [List.length_map]
  exact Nat.le_trans (List.length_filter_le _ _) (by simp)
theorem holds_strs {w : World} {g : Nat} {zs : List (List UInt8)} (h : Sort.Holds encStr w g 0 zs.toArray) (hg : g < w.heap.size) : StrsAt w.heap.size w (some ⟨g, 0, none⟩) (zs.map fun l => ⟨l.toArray⟩) := fun j hj => by
  rw [List.length_map] at hj
  refine ⟨g, 0, rfl, hg, ?_⟩
  rw [(h j (by simpa using hj)).1]
  rw [List.getD_eq_getElem?_getD, List.getElem?_map, List.getElem?_eq_getElem hj]
  simp [hj]
/-- What Columns gives: a slice of its own that reads as the names. -/
def ColsRes (ms : List ByteArray) (w : World) (e : Ending) (w' : World) : Prop :=
  (∃ A c, e = .returned (.slice A (colsB ms).length c) ∧ StrsAt w'.heap.size w' A (colsB ms)) ∧ Below w.heap.size w w'
set_option maxHeartbeats 3200000 in
set_option maxRecDepth 100000 in
theorem columns_any (x : XT) (w : World) (hz : szX x ≤ 1000000) (hx : LiesX w.heap.size w x) :
    Calls Tryd.prog 22 #[vX x] w (ColsRes (namesX x) w) := by
  have hal := boxE_below w x
  have HBox := hide (fun w' => boxE_at (w := w) (x := x) (w' := w'))
  have HAdd := hide (add_ok (szX x) x (boxE w x).heap.size (.slice none 0 0) [] (boxE w x) (Nat.le_refl _) hz (by simp; omega) (Nat.le_refl _) (hx.on hal) (World.ownsRow_nil _ _ _ _))
  have HL := hide hal
  have hlen := namesX_len x
  rw [List.nil_append] at HAdd
  obtain ⟨kd, nm, v, o, A, c, ts⟩ := x
  have HWE := hide (show boxE w (.mk kd nm v o A c ts) = w.alloc (.cells (eCells kd nm v o A ts.length c) 32) from rfl)
  simp only [XT.kind, XT.name, XT.val, XT.op, XT.adr, XT.args, XT.cap] at HBox
  rw [show vX (.mk kd nm v o A c ts) = .agg (eCells kd nm v o A ts.length c) from rfl] at HAdd ⊢
  generalize namesX (.mk kd nm v o A c ts) = ms at *
  have hms : ms.length ≤ 1000000 := by omega
  generalize boxE w (.mk kd nm v o A c ts) = W at *
  clear hx hal hlen hz
  unfold ColsRes
  have HQ := hide (show colsB ms = (Lib.compact (sortL (bytesL ms))).map (fun l => ⟨l.toArray⟩) from rfl)
  generalize colsB ms = N at HQ ⊢
  go_enter Tryd.func22, Tryd.ntmps22
  obtain ⟨c0, c1, c2, c3, c4, c5, c6, cz⟩ := HBox.out _ (Below.refl _ _)
  go_wp2_with fail
  rw [← HWE.out]
  refine HAdd.out.mono ?_
  rintro e w3 ⟨v3, rfl, hown, hgr, -⟩
  have hb3 : Below W.heap.size W w3 := (Below.refl _ _).grown hgr (Nat.le_refl _) (fun j hj => by cases hj)
  have HB3 := hide (HL.out.trans (hb3.mono HL.out.size))
  have hown' : w3.ownsRow W.heap.size 9 1 v3 (bytesL ms).length ((bytesL ms).map encStr) := by
    rw [← strCells_enc, show (bytesL ms).length = ms.length by unfold bytesL; simp]; exact hown
  have hzl : (bytesL ms).length ≤ 1000000 := by unfold bytesL; simpa using hms
  generalize bytesL ms = zs at *
  clear hown hgr hb3 hms
  by_cases hv : v3 = .slice none 0 0
  · subst hv
    have hm0 : zs = [] := by
      rcases hown'.2 with ⟨_, h⟩ | ⟨g, cap, cur, e0, _⟩
      · exact List.eq_nil_of_length_eq_zero h
      · cases e0
    subst hm0
    have HN0 := hide (show N = [] from by rw [HQ.out]; simp [Lib.compact, Lib.compactUpTo, sortL])
    have HSn := hide (fun w' => Tryd.slices_Sort_string_none none 0 w')
    have HCn := hide (fun w' => Tryd.slices_Compact_string_empty none 0 w')
    clear hown' c0 c1 c2 c3 c4 c5 c6 cz HQ hzl
    go_wp2_with fail
    refine (HSn.out _).mono ?_
    rintro e w4 ⟨rfl, rfl⟩
    go_wp2_with fail
    refine (HCn.out _).mono ?_
    rintro e w5 ⟨rfl, rfl⟩
    go_wp2_with fail
    go_ret
    exact ⟨⟨none, 0, by rw [HN0.out]; rfl, fun j hj => by rw [HN0.out] at hj; simp at hj⟩, HB3.out⟩
  · obtain ⟨g, cap, rfl, hbase, hg, hnc, hcm, -, hH⟩ := Lib.holds_of_ownsRow hown' hv
    have HSt := hide (Tryd.slices_Sort_string g 0 cap zs w3 hH hg (by omega))
    have hWs := HL.out.size
    have HF := hide (show W.heap.size ≤ g ∧ g < w3.heap.size ∧ zs.length ≤ cap ∧ zs.length ≤ 1000000 ∧ w.heap.size ≤ W.heap.size from ⟨hbase, hg, hnc, hzl, hWs⟩)
    have HH := hide hH
    clear hown' c0 c1 c2 c3 c4 c5 c6 cz hv hbase hg hnc hcm hH hzl hWs
    go_wp2_with fail
    refine HSt.out.mono ?_
    rintro e w4 ⟨rfl, n, os, hw4⟩
    obtain ⟨hbase, hg, hnc, hzl, hWs⟩ := HF.out
    have hH := HH.out
    have hsl : (sortL zs).length = zs.length := sortL_len _
    have hw4' : w4 = Sort.grow (Sort.putRow encStr (Sort.ahead w3 n) g 0 (sortL zs).toArray) os := hw4
    have hH4 : Sort.Holds encStr w4 g 0 (sortL zs).toArray := by
      have h1 : Sort.Holds encStr (Sort.putRow encStr (Sort.ahead w3 n) g 0 (sortL zs).toArray) g 0 (sortL zs).toArray := Sort.holds_putRow encStr (Sort.ahead w3 n) g 0 zs.toArray _ hH (by simp [hsl])
      intro j hj
      have hgs : g < (Sort.putRow encStr (Sort.ahead w3 n) g 0 (sortL zs).toArray).heap.size := by simpa [Sort.ahead] using hg
      have e1 : w4.heap[g]? = (Sort.putRow encStr (Sort.ahead w3 n) g 0 (sortL zs).toArray).heap[g]? := by rw [hw4']; exact Sort.heap_grow_old _ _ hgs
      exact ⟨(World.cell?_of_block (a := ⟨g, 0 + j, none⟩) e1).trans (h1 j hj).1, (World.frozen?_of_block (a := ⟨g, 0 + j, none⟩) e1).trans (h1 j hj).2⟩
    have hgr4 : w3.grownBy w4 (some g) := by rw [hw4']; exact grownBy_sorted _
    have hg4 : g < w4.heap.size := Nat.lt_of_lt_of_le hg hgr4.size
    have HB4 := hide (HB3.out.grown hgr4 HB3.out.size (fun j hj => by cases hj; omega))
    have HCm := hide (show Calls Tryd.prog 47 #[.slice (some ⟨g, 0, none⟩) zs.length cap] w4 fun e w' => e = .returned (.slice (some ⟨g, 0, none⟩) (Lib.compact (sortL zs)).length cap) ∧ ∃ q, w' = Sort.putRow encStr (Sort.ahead w4 q) g 0 (Lib.compact (sortL zs) ++ List.replicate ((sortL zs).length - (Lib.compact (sortL zs)).length) []).toArray from by
      rw [← hsl]
      exact Tryd.slices_Compact_string g 0 cap (sortL zs) w4 hH4 (by omega) (by omega))
    have HH4 := hide hH4
    have HG4 := hide (show g < w4.heap.size ∧ w.heap.size ≤ g from ⟨hg4, by omega⟩)
    clear hH hH4 hsl hw4 hw4' hgr4 hg4 hbase hg hnc hzl hWs
    go_wp2_with fail
    refine HCm.out.mono ?_
    rintro e w5 ⟨rfl, q, hw5⟩
    have hcl := compact_le (sortL zs)
    have HFin := hide (show StrsAt w5.heap.size w5 (some ⟨g, 0, none⟩) N ∧ N.length = (Lib.compact (sortL zs)).length ∧ Below w.heap.size w w5 from by
      have hNl : N.length = (Lib.compact (sortL zs)).length := by rw [HQ.out, List.length_map]
      refine ⟨fun j hj => ?_, hNl, by rw [hw5]; exact Lib.below_putRow HB4.out HG4.out.2⟩
      have hj' : j < (Lib.compact (sortL zs)).length := by omega
      have hH5 := Sort.holds_putRow encStr (Sort.ahead w4 q) g 0 (sortL zs).toArray (Lib.compact (sortL zs) ++ List.replicate ((sortL zs).length - (Lib.compact (sortL zs)).length) []).toArray HH4.out (by simp; omega)
      refine ⟨g, 0, rfl, by rw [hw5]; simpa [Sort.ahead] using HG4.out.1, ?_⟩
      have h6 := (hH5 j (by simp; omega)).1
      rw [hw5]
      refine h6.trans ?_
      rw [HQ.out, List.getD_eq_getElem?_getD, List.getElem?_map, List.getElem?_eq_getElem hj']
      simp
      rw [List.getElem?_append_left hj', List.getElem?_eq_getElem hj']
      rfl)
    clear hw5 hcl HQ HCm HH4 HG4
    generalize (Lib.compact (sortL zs)).length = m at *
    go_wp2_with fail
    go_ret
    exact ⟨⟨some ⟨g, 0, none⟩, cap, by rw [HFin.out.2.1]; rfl, HFin.out.1⟩, HFin.out.2.2⟩
end Go.Proofs.YteenhmniikloiaaDoor
