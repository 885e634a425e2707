/-
  The decoder: tables.
-/
import Derived.Test.YtbjcbgomkhdmmaaDoorFInRs
import Derived.Test.YtbjcbgomkhdmmaaDoorTCheck
namespace Go.Proofs.YtbjcbgomkhdmmaaDoor
open Go.RowKit

theorem ColsAt.kept {base : Nat} {w w' : World} {A : Option Addr} {cs : List (ByteArray × Int)} (k : ColsAt w.heap.size w A cs) (hn : ∀ a, A = some a → base ≤ a.block) (hs : w.heap.size ≤ w'.heap.size) (hb : ∀ b, base ≤ b → b < w.heap.size → w'.heap[b]? = w.heap[b]?) : ColsAt w'.heap.size w' A cs := fun j hj => by
  obtain ⟨b, o, e, hlt, c0, c1⟩ := k j hj
  have hc : ∀ i, w'.cell? ⟨b, i, none⟩ = w.cell? ⟨b, i, none⟩ := fun i => World.cell?_of_block (hb b (hn _ e) hlt)
  exact ⟨b, o, e, Nat.lt_of_lt_of_le hlt hs, (hc _).trans c0, (hc _).trans c1⟩
theorem RowsAt.kept {base : Nat} {w w' : World} {A : Option Addr} {ns : List RH} (k : RowsAt w.heap.size w A ns) (hn : ∀ a, A = some a → base ≤ a.block) (hn2 : ∀ h ∈ ns, ∀ a, h.1 = some a → base ≤ a.block) (hs : w.heap.size ≤ w'.heap.size) (hb : ∀ b, base ≤ b → b < w.heap.size → w'.heap[b]? = w.heap[b]?) : RowsAt w'.heap.size w' A ns :=
  ⟨fun j hj => by
    obtain ⟨b, o, e, hlt, c0⟩ := k.1 j hj
    have hc : w'.cell? ⟨b, o + j, none⟩ = w.cell? ⟨b, o + j, none⟩ := World.cell?_of_block (hb b (hn _ e) hlt)
    exact ⟨b, o, e, Nat.lt_of_lt_of_le hlt hs, hc.trans c0⟩, fun h hh => hdr_kept (k.2 h hh) (hn2 h hh) hs hb⟩
/-- A table of the call's own. -/
structure TabN (base : Nat) (w : World) (S A : Option Addr) (cs : List (ByteArray × Int)) (ns : List RH) : Prop where
  c : ColsAt w.heap.size w S cs
  cn : ∀ a, S = some a → base ≤ a.block
  r : RowsAt w.heap.size w A ns
  rn : ∀ a, A = some a → base ≤ a.block
  rh : ∀ h ∈ ns, ∀ a, h.1 = some a → base ≤ a.block
theorem TabN.kept {base : Nat} {w w' : World} {S A : Option Addr} {cs : List (ByteArray × Int)} {ns : List RH} (k : TabN base w S A cs ns) (hs : w.heap.size ≤ w'.heap.size) (hb : ∀ b, base ≤ b → b < w.heap.size → w'.heap[b]? = w.heap[b]?) : TabN base w' S A cs ns :=
  ⟨k.c.kept k.cn hs hb, k.cn, k.r.kept k.rn k.rh hs hb, k.rn, k.rh⟩
theorem TabN.below {base : Nat} {w w' : World} {S A : Option Addr} {cs : List (ByteArray × Int)} {ns : List RH} (k : TabN base w S A cs ns) (hb : Below w.heap.size w w') : TabN base w' S A cs ns := k.kept hb.size fun b _ h => hb.block b h
def TabRes (lo : Nat → Prop) (g : Nat) (w : World) (l : List UInt8) (e : Ending) (w' : World) : Prop :=
  (∃ S c A d cs ns r, e = .returned (.agg #[.slice S (List.length cs) c, .slice A (List.length ns) d]) ∧ tabP l = some ((cs, rowsOf ns), r) ∧ TabN w.heap.size w' S A cs ns ∧ InAt lo g w' r false ∧ OnlyG g w w') ∨
  (e = .returned (.agg #[.slice none 0 0, .slice none 0 0]) ∧ tabP l = none ∧ InAt lo g w' [] true ∧ OnlyG g w w')
/-- A table's box. -/
def BoxT (w : World) (b : Nat) (x y : Value) : Prop := w.heap[b]? = some (.cells #[x, y] 27 (0, 0))
theorem BoxT.cells {w : World} {b : Nat} {x y : Value} (h : BoxT w b x y) : (w.cell? ⟨b, 0, none⟩ = some x ∧ w.cell? ⟨b, 1, none⟩ = some y) ∧ w.frozen? ⟨b, 0, none⟩ = false ∧ w.frozen? ⟨b, 1, none⟩ = false :=
  ⟨⟨Lib.cell_of_heap h 0, Lib.cell_of_heap h 1⟩, Lib.frozen_of_heap h 0, Lib.frozen_of_heap h 1⟩
theorem BoxT.turn {g : Nat} {w w' : World} {b : Nat} {x y : Value} (h : BoxT w b x y) (ho : OnlyG g w w') (hg : b ≠ g) : BoxT w' b x y := (ho.block b (Array.getElem?_eq_some_iff.1 h).1 hg).trans h
theorem BoxT.below {N : Nat} {w w' : World} {b : Nat} {x y : Value} (h : BoxT w b x y) (ho : Below N w w') (hN : b < N) : BoxT w' b x y := (ho.block b hN).trans h
theorem BoxT.lt {w : World} {b : Nat} {x y : Value} (h : BoxT w b x y) : b < w.heap.size := (Array.getElem?_eq_some_iff.1 h).1
theorem boxT_new (w : World) (x y : Value) : BoxT (w.alloc (.cells #[x, y] 27)) w.heap.size x y := heap_alloc_new w _
theorem fin2 {lo : Nat → Prop} {g : Nat} {w wf : World} {l : List UInt8} {x : Bool} {a b : Value} (hI : InAt lo g wf l x) (hO : OnlyG g w wf) (hlo : ∀ b, lo b → b < w.heap.size) :
    Below w.heap.size wf ((wf.setCell ⟨w.heap.size, 0, none⟩ a).setCell ⟨w.heap.size, 1, none⟩ b) ∧ InAt lo g ((wf.setCell ⟨w.heap.size, 0, none⟩ a).setCell ⟨w.heap.size, 1, none⟩ b) l x ∧ OnlyG g w ((wf.setCell ⟨w.heap.size, 0, none⟩ a).setCell ⟨w.heap.size, 1, none⟩ b) := by
  have hb : Below w.heap.size wf ((wf.setCell ⟨w.heap.size, 0, none⟩ a).setCell ⟨w.heap.size, 1, none⟩ b) := ⟨rfl, rfl, rfl, by simp [World.setCell], fun i hi => by rw [Below.heap_setCell _ _ _ _ (Nat.ne_of_lt hi), Below.heap_setCell _ _ _ _ (Nat.ne_of_lt hi)]⟩
  exact ⟨hb, hI.on hlo hb, hO.on hb⟩
theorem TabN.fin {w wf : World} {S A : Option Addr} {cs : List (ByteArray × Int)} {ns : List RH} {a b : Value} (k : TabN (w.heap.size + 1) wf S A cs ns) : TabN w.heap.size ((wf.setCell ⟨w.heap.size, 0, none⟩ a).setCell ⟨w.heap.size, 1, none⟩ b) S A cs ns := by
  have h := k.kept (w' := (wf.setCell ⟨w.heap.size, 0, none⟩ a).setCell ⟨w.heap.size, 1, none⟩ b) (by simp [World.setCell]) fun i hi _ => by rw [Below.heap_setCell _ _ _ _ (by simp only; omega), Below.heap_setCell _ _ _ _ (by simp only; omega)]
  exact ⟨h.c, fun a e => by have := h.cn a e; omega, h.r, fun a e => by have := h.rn a e; omega, fun x hx a e => by have := h.rh x hx a e; omega⟩
theorem rowsQ_nil (wd : Nat) : rowsQ wd [] = none := rfl
theorem tabP_c {l : List UInt8} (h : colsP l = none) : tabP l = none := by unfold tabP; rw [h]; rfl
theorem tabP_r {l r : List UInt8} {cs : List (ByteArray × Int)} (h : colsP l = some (cs, r)) (h2 : rowsQ cs.length r = none) : tabP l = none := by unfold tabP; rw [h]; show (rowsQ cs.length r).bind _ = _; rw [h2]; rfl
theorem tabP_f {l r r' : List UInt8} {cs : List (ByteArray × Int)} {rs : R3} (h : colsP l = some (cs, r)) (h2 : rowsQ cs.length r = some (rs, r')) : tabP l = if fullT cs rs = 0 then some ((cs, rs), r') else none := by unfold tabP; rw [h]; show (rowsQ cs.length r).bind _ = _; rw [h2]; rfl

set_option maxHeartbeats 6400000 in
set_option maxRecDepth 100000 in
theorem inTable_any {lo : Nat → Prop} {g : Nat} {l : List UInt8} (w : World) (hI : InAt lo g w l false) (hlo : ∀ b, lo b → b < w.heap.size) :
    Calls Tryd.prog 17 #[vI g] w (TabRes lo g w l) := by
  have hglt := hI.lt
  have hsh := hI.short
  have HA := hide ((Below.refl w.heap.size w).alloc (Nat.le_refl _) (.cells #[.slice none 0 0, .slice none 0 0] 27))
  have HC := hide (inColumns_any _ (hI.on hlo HA.out) (fun b hb => Nat.lt_of_lt_of_le (hlo b hb) (by simp)))
  have HLo := hide hlo
  have HB1 := hide (fun (w' : World) o => (Below.refl w'.heap.size w').alloc (Nat.le_refl _) o)
  clear hI hlo
  unfold ColsRes at HC
  unfold TabRes
  go_enter Tryd.func17, Tryd.ntmps17
  go_wp2_with fail
  refine HC.out.mono ?_
  rintro e w1 (⟨S, c, cs, r1, rfl, hcp, hCa, hcn, hcnew, hI1, ho1⟩ | ⟨rfl, hcp, hI1, ho1⟩)
  · have hs1 := ho1.size
    simp only [World.size_alloc] at hs1
    obtain ⟨-, hc16, hcok, hrl⟩ := colsP_dec hcp
    have HCp := hide hcp
    have HO1 := hide ((OnlyG.of_below HA.out).trans ho1)
    have HR1 := hide ((boxT_new w (.slice none 0 0) (.slice none 0 0)).turn ho1 (by omega))
    have HCa := hide hCa
    have HCn := hide hcnew
    have HWf := hide (show Wf cs from ⟨by unfold maxLen; omega, fun x hx => ⟨by have := (hcok x hx).1; unfold maxLen; omega, (hcok x hx).2⟩⟩)
    have HRw := hide (inRows_any cs.length w1 hI1 (fun b hb => Nat.lt_of_lt_of_le (HLo.out b hb) (by omega)) (by omega))
    unfold RowsRes at HRw
    clear hcp hCa hcn hcnew hI1 ho1 hcok hrl
    go_wp2_with fail
    refine HRw.out.mono ?_
    rintro e w2 (⟨A, d, ns, r2, rfl, hrp, hRa, hrn, hrnew, hhnew, hI2, ho2⟩ | ⟨rfl, hrp, hI2, ho2⟩)
    · have hs2 := ho2.size
      obtain ⟨-, hr4, hrok, -⟩ := rowsQ_dec hrp
      have HF := hide (tabP_f HCp.out hrp)
      have HTb := hide (show TabN (w.heap.size + 1) w2 S A cs ns from ⟨HCa.out.kept HCn.out ho2.size (fun b hb hl => ho2.block b hl (by simp only [World.size_alloc] at hb; omega)), fun a e => by have := HCn.out a e; simpa using this, hRa, fun a e => by have := hrnew a e; omega, fun h hh a e => by have := hhnew h hh a e; omega⟩)
      have HAl := HB1.out w2 (.cells #[.slice S cs.length c, .slice A ns.length d] 27)
      have HI3 := hide (hI2.below HAl)
      have HO3 := hide ((HO1.out.trans ho2).trans (OnlyG.of_below HAl))
      have HR3 := hide ((HR1.out.turn ho2 (by omega)).below HAl (by omega))
      have HT3 := hide (HTb.out.below HAl)
      have hbc := HI3.out.bad_cell
      have HWt := hide (show WfT (rowsOf ns) from ⟨by unfold maxLen; omega, fun x hx => okRow.wf (hrok x hx).2 (by rw [(hrok x hx).1]; unfold maxLen; omega)⟩)
      have HCk := hide (tabCheck_any S A c d cs ns _ HT3.out.c HT3.out.r HWf.out HWt.out)
      have HBx := hide (boxT_new w2 (.slice S cs.length c) (.slice A ns.length d))
      have hlow : w.heap.size ≤ (w2.alloc (.cells #[.slice S cs.length c, .slice A ns.length d] 27)).heap.size := by simp; omega
      have HLw := hide hlow
      clear hrp hRa hrn hrnew hhnew hI2 ho2 hrok HAl hlow
      by_cases hf : fullT cs (rowsOf ns) = 0
      · have HFs := hide (show tabP l = some ((cs, rowsOf ns), r2) by rw [HF.out, if_pos hf])
        rw [hf] at HCk
        clear hf
        go_wp2_with fail
        refine HCk.out.mono ?_
        rintro e w4 ⟨rfl, hb4⟩
        obtain ⟨⟨d0, d1⟩, -, -⟩ := (HBx.out.below hb4 HBx.out.lt).cells
        have HRf := hide (HR3.out.below hb4 HR3.out.lt)
        obtain ⟨⟨c0, c1⟩, f0, f1⟩ := HRf.out.cells
        have hltf := HRf.out.lt
        have HIf := hide (HI3.out.below hb4)
        have HOf := hide (HO3.out.on (hb4.mono HLw.out))
        have HTf := hide (HT3.out.below hb4)
        have HFin := hide (fin2 (a := .slice S cs.length c) (b := .slice A ns.length d) HIf.out HOf.out HLo.out)
        have HTF := hide (HTf.out.fin (a := .slice S cs.length c) (b := .slice A ns.length d))
        clear hb4 hbc
        go_wp2_with fail
        exact bodyPost_ret (v := .agg #[.slice S cs.length c, .slice A ns.length d]) (by simp [results, Tryd.results17, go_sem, c0, c1]) rfl (.inl ⟨S, c, A, d, cs, ns, r2, rfl, HFs.out, HTF.out, HFin.out.2⟩)
      · have HFs := hide (show tabP l = none by rw [HF.out, if_neg hf])
        have hfb : (fullT cs (rowsOf ns) != 0) = true := by simpa using hf
        clear hf
        generalize fullT cs (rowsOf ns) = ft at *
        go_wp2_with fail
        refine HCk.out.mono ?_
        rintro e w4 ⟨rfl, hb4⟩
        have HI4 := hide (HI3.out.below hb4)
        have HO4 := hide (HO3.out.on (hb4.mono HLw.out))
        have HR4 := hide (HR3.out.below hb4 HR3.out.lt)
        have HFl := hide (fail_any _ HI4.out)
        clear hb4 hbc
        go_wp2_with fail
        refine HFl.out.mono ?_
        rintro e w8 ⟨rfl, hI8, ho8⟩
        have HRf := hide (HR4.out.turn ho8 (by omega))
        obtain ⟨⟨c0, c1⟩, f0, f1⟩ := HRf.out.cells
        have hltf := HRf.out.lt
        have HFin := hide (fin2 (a := .slice none 0 0) (b := .slice none 0 0) hI8 (HO4.out.trans ho8) HLo.out)
        clear hI8 ho8
        go_wp2_with fail
        exact bodyPost_ret (v := .agg #[.slice none 0 0, .slice none 0 0]) (by simp [results, Tryd.results17, go_sem, c0, c1]) rfl (.inr ⟨rfl, HFs.out, HFin.out.2⟩)
    · have hs2 := ho2.size
      have HFs := hide (tabP_r HCp.out hrp)
      have HAl := HB1.out w2 (.cells #[.slice S cs.length c, .slice none 0 0] 27)
      have HI4 := hide (hI2.below HAl)
      have HO4 := hide ((HO1.out.trans ho2).trans (OnlyG.of_below HAl))
      have HR4 := hide ((HR1.out.turn ho2 (by omega)).below HAl (by omega))
      have hbc := HI4.out.bad_cell
      have HFl := hide (fail_any _ HI4.out)
      clear hrp hI2 ho2 HAl
      go_wp2_with fail
      refine HFl.out.mono ?_
      rintro e w8 ⟨rfl, hI8, ho8⟩
      have HRf := hide (HR4.out.turn ho8 (by omega))
      obtain ⟨⟨c0, c1⟩, f0, f1⟩ := HRf.out.cells
      have hltf := HRf.out.lt
      have HFin := hide (fin2 (a := .slice none 0 0) (b := .slice none 0 0) hI8 (HO4.out.trans ho8) HLo.out)
      clear hI8 ho8 hbc
      go_wp2_with fail
      exact bodyPost_ret (v := .agg #[.slice none 0 0, .slice none 0 0]) (by simp [results, Tryd.results17, go_sem, c0, c1]) rfl (.inr ⟨rfl, HFs.out, HFin.out.2⟩)
  · have hs1 := ho1.size
    simp only [World.size_alloc] at hs1
    have HFs := hide (tabP_c hcp)
    have HO1 := hide ((OnlyG.of_below HA.out).trans ho1)
    have HR1 := hide ((boxT_new w (.slice none 0 0) (.slice none 0 0)).turn ho1 (by omega))
    have HRw := hide (inRows_any 0 w1 hI1 (fun b hb => Nat.lt_of_lt_of_le (HLo.out b hb) (by omega)) (by omega))
    unfold RowsRes at HRw
    rw [rowsQ_nil] at HRw
    clear hcp hI1 ho1
    go_wp2_with fail
    refine HRw.out.mono ?_
    rintro e w2 (⟨_, _, _, _, _, hrp, _⟩ | ⟨rfl, -, hI2, ho2⟩)
    · cases hrp
    · have hs2 := ho2.size
      have HAl := HB1.out w2 (.cells #[.slice none 0 0, .slice none 0 0] 27)
      have HI4 := hide (hI2.below HAl)
      have HO4 := hide ((HO1.out.trans ho2).trans (OnlyG.of_below HAl))
      have HR4 := hide ((HR1.out.turn ho2 (by omega)).below HAl (by omega))
      have hbc := HI4.out.bad_cell
      have HFl := hide (fail_any _ HI4.out)
      clear hI2 ho2 HAl
      go_wp2_with fail
      refine HFl.out.mono ?_
      rintro e w8 ⟨rfl, hI8, ho8⟩
      have HRf := hide (HR4.out.turn ho8 (by omega))
      obtain ⟨⟨c0, c1⟩, f0, f1⟩ := HRf.out.cells
      have hltf := HRf.out.lt
      have HFin := hide (fin2 (a := .slice none 0 0) (b := .slice none 0 0) hI8 (HO4.out.trans ho8) HLo.out)
      clear hI8 ho8 hbc
      go_wp2_with fail
      exact bodyPost_ret (v := .agg #[.slice none 0 0, .slice none 0 0]) (by simp [results, Tryd.results17, go_sem, c0, c1]) rfl (.inr ⟨rfl, HFs.out, HFin.out.2⟩)
end Go.Proofs.YtbjcbgomkhdmmaaDoor
