/-
  The decoder: values.
-/
import Derived.Test.YtbjcbgomkhdmmaaDoorFTabM
namespace Go.Proofs.YtbjcbgomkhdmmaaDoor
open Go.RowKit

theorem OnlyG.on {g : Nat} {w w1 w2 : World} (h : OnlyG g w w1) (k : Below w.heap.size w1 w2) : OnlyG g w w2 :=
  ⟨k.os.trans h.os, k.tape.trans h.tape, k.output.trans h.output, Nat.le_trans h.size k.size, fun i hi hg => (k.block i hi).trans (h.block i hi hg)⟩
theorem InAt.on {lo : Nat → Prop} {g N : Nat} {w w' : World} {l : List UInt8} {bad : Bool} (h : InAt lo g w l bad) (hlo : ∀ b, lo b → b < N) (k : Below N w w') : InAt lo g w' l bad := h.keep k.size fun b e _ => k.block b (hlo b e)
theorem InAt.bad_cell {lo : Nat → Prop} {g : Nat} {w : World} {l : List UInt8} {bad : Bool} (h : InAt lo g w l bad) : w.cell? ⟨g, 1, none⟩ = some (.bool bad) := by
  obtain ⟨_, _, A, c, hb, _⟩ := h
  exact (InAt.cells hb).2.1
def ValRes (lo : Nat → Prop) (g : Nat) (w : World) (l : List UInt8) (e : Ending) (w' : World) : Prop :=
  (∃ x r, valR l = some (x, r) ∧ e = .returned (vVal x.1 x.2.1 x.2.2) ∧ InAt lo g w' r false ∧ OnlyG g w w') ∨ (valR l = none ∧ e = .returned (vVal 0 0 ⟨#[]⟩) ∧ InAt lo g w' [] true ∧ OnlyG g w w')
/-- A value's box. -/
def BoxV (w : World) (b : Nat) (k n : Int) (s : ByteArray) : Prop := w.heap[b]? = some (.cells #[.int .i64 k, .int .i64 n, .string s] 36 (0, 0))
theorem BoxV.cells {w : World} {b : Nat} {k n : Int} {s : ByteArray} (h : BoxV w b k n s) : (w.cell? ⟨b, 0, none⟩ = some (.int .i64 k) ∧ w.cell? ⟨b, 1, none⟩ = some (.int .i64 n) ∧ w.cell? ⟨b, 2, none⟩ = some (.string s)) ∧ w.frozen? ⟨b, 0, none⟩ = false ∧ w.frozen? ⟨b, 1, none⟩ = false ∧ w.frozen? ⟨b, 2, none⟩ = false :=
  ⟨⟨Lib.cell_of_heap h 0, Lib.cell_of_heap h 1, Lib.cell_of_heap h 2⟩, Lib.frozen_of_heap h 0, Lib.frozen_of_heap h 1, Lib.frozen_of_heap h 2⟩
theorem BoxV.set0 {w : World} {b : Nat} {k n : Int} {s : ByteArray} (h : BoxV w b k n s) (m : Int) : BoxV (w.setCell ⟨b, 0, none⟩ (.int .i64 m)) b m n s := by
  unfold BoxV at *; rw [Joins.block_setCell (i := 0) h]; simp
theorem BoxV.set1 {w : World} {b : Nat} {k n : Int} {s : ByteArray} (h : BoxV w b k n s) (m : Int) : BoxV (w.setCell ⟨b, 1, none⟩ (.int .i64 m)) b k m s := by
  unfold BoxV at *; rw [Joins.block_setCell (i := 1) h]; simp
theorem BoxV.set2 {w : World} {b : Nat} {k n : Int} {s : ByteArray} (h : BoxV w b k n s) (t : ByteArray) : BoxV (w.setCell ⟨b, 2, none⟩ (.string t)) b k n t := by
  unfold BoxV at *; rw [Joins.block_setCell (i := 2) h]; simp
theorem BoxV.turn {g : Nat} {w w' : World} {b : Nat} {k n : Int} {s : ByteArray} (h : BoxV w b k n s) (ho : OnlyG g w w') (hg : b ≠ g) : BoxV w' b k n s := (ho.block b (Array.getElem?_eq_some_iff.1 h).1 hg).trans h
theorem BoxV.below {N : Nat} {w w' : World} {b : Nat} {k n : Int} {s : ByteArray} (h : BoxV w b k n s) (ho : Below N w w') (hN : b < N) : BoxV w' b k n s := (ho.block b hN).trans h
theorem BoxV.other {w : World} {b : Nat} {k n : Int} {s : ByteArray} (h : BoxV w b k n s) (p : Addr) (v : Value) (hp : p.block ≠ b) : BoxV (w.setCell p v) b k n s := (Below.heap_setCell _ _ _ _ (Ne.symm hp)).trans h
theorem box_new (w : World) (k n : Int) (s : ByteArray) : BoxV (w.alloc (.cells #[.int .i64 k, .int .i64 n, .string s] 36)) w.heap.size k n s := heap_alloc_new w _
/-- The result is laid into its box. -/
theorem fin3 {lo : Nat → Prop} {g : Nat} {w wf : World} {l : List UInt8} {x : Bool} {k' n' : Int} {s' : ByteArray} (hI : InAt lo g wf l x) (hO : OnlyG g w wf) (hlo : ∀ b, lo b → b < w.heap.size) :
    InAt lo g (((wf.setCell ⟨w.heap.size, 0, none⟩ (.int .i64 k')).setCell ⟨w.heap.size, 1, none⟩ (.int .i64 n')).setCell ⟨w.heap.size, 2, none⟩ (.string s')) l x ∧
    OnlyG g w (((wf.setCell ⟨w.heap.size, 0, none⟩ (.int .i64 k')).setCell ⟨w.heap.size, 1, none⟩ (.int .i64 n')).setCell ⟨w.heap.size, 2, none⟩ (.string s')) := by
  have hb : Below w.heap.size wf (((wf.setCell ⟨w.heap.size, 0, none⟩ (.int .i64 k')).setCell ⟨w.heap.size, 1, none⟩ (.int .i64 n')).setCell ⟨w.heap.size, 2, none⟩ (.string s')) := ⟨rfl, rfl, rfl, by simp [World.setCell], fun b hb => by rw [Below.heap_setCell _ _ _ _ (Nat.ne_of_lt hb), Below.heap_setCell _ _ _ _ (Nat.ne_of_lt hb), Below.heap_setCell _ _ _ _ (Nat.ne_of_lt hb)]⟩
  exact ⟨hI.on hlo hb, hO.on hb⟩
theorem txt_size {l : List UInt8} (h : l.length ≤ 140737488355328) : (⟨(txtS (intL l)).toArray⟩ : ByteArray).size ≤ maxLen := by
  have h1 : (intL l).length ≤ l.length := by
    unfold intL
    cases hr : readI l with
    | none => simp
    | some p => simp only [Option.elim_some, List.length_drop]; omega
  have h2 : (txtS (intL l)).length ≤ l.length := by
    cases hx : txtX (intL l) with
    | false => have := (txt_dec hx).2.1; omega
    | true =>
      unfold txtX at hx
      unfold txtS
      by_cases ho : TxtOk (intL l)
      · rw [if_pos ho] at hx ⊢
        rw [(int_dead hx).2]; simp
      · rw [if_neg ho]; simp
  unfold maxLen
  simp only [ByteArray.size, List.size_toArray]
  omega

set_option maxHeartbeats 3200000 in
set_option maxRecDepth 100000 in
theorem inValue_other {lo : Nat → Prop} {g : Nat} {l : List UInt8} {bad : Bool} (w : World) (hI : InAt lo g w l bad) (hlo : ∀ b, lo b → b < w.heap.size) (k1 : ¬ intN l = 1) (k2 : ¬ intN l = 2) :
    Calls Tryd.prog 16 #[vI g] w (ValRes lo g w l) := by
  have hraw : rawV l = ((intN l, 0, ⟨#[]⟩), intL l, intX l) := by unfold rawV; rw [if_neg k1, if_neg k2]
  have hbad : badV l = (intX l || !rightV (intN l) 0 ⟨#[]⟩) := by unfold badV; rw [hraw]
  have HV := hide (fun (h : badV l = false) => (show valR l = some (((intN l), 0, ⟨#[]⟩), intL l) by rw [valR_some h, hraw]))
  have HN := hide (fun (h : badV l = true) => valR_none h)
  rw [hbad] at HV HN
  have HA := hide ((Below.refl w.heap.size w).alloc (Nat.le_refl _) (.cells #[.int .i64 0, .int .i64 0, .string ⟨#[]⟩] 36))
  have HI := hide (inInt_any _ (hI.on hlo HA.out))
  have hglt := hI.lt
  have HB1 := hide (fun (w' : World) o => (Below.refl w'.heap.size w').alloc (Nat.le_refl _) o)
  have HLo := hide hlo
  have e1 : (intN l == 1) = false := by simpa using k1
  have e2 : (intN l == 2) = false := by simpa using k2
  clear k1 k2
  clear hI hlo hraw hbad
  unfold IntRes at HI
  unfold ValRes
  generalize intN l = k at *
  generalize intL l = tl at *
  generalize intX l = x at *
  go_enter Tryd.func16, Tryd.ntmps16
  go_wp2_with fail
  refine HI.out.mono ?_
  rintro e w1 ⟨rfl, hI1, ho1⟩
  have hs1 := ho1.size
  simp only [World.size_alloc] at hs1
  have HO1 := hide ((OnlyG.of_below HA.out).trans ho1)
  have HR1 := hide ((box_new w 0 0 ⟨#[]⟩).turn ho1 (by omega))
  have HI2 := hide (hI1.on HLo.out ((HB1.out w1 (.cells #[.int .i64 k, .int .i64 0, .string ⟨#[]⟩] 36)).mono (by omega)))
  have HO2 := hide (HO1.out.on ((HB1.out w1 (.cells #[.int .i64 k, .int .i64 0, .string ⟨#[]⟩] 36)).mono (by omega)))
  have HR2 := hide (HR1.out.below (HB1.out w1 (.cells #[.int .i64 k, .int .i64 0, .string ⟨#[]⟩] 36)) (by omega))
  have HX2 := hide (box_new w1 k 0 ⟨#[]⟩)
  clear hI1 ho1
  have HIs := HI2
  have HOs := HO2
  have HRs := HR2
  have HBx := HX2
  have HLow := hide (show w.heap.size ≤ (w1.alloc (.cells #[.int .i64 k, .int .i64 0, .string ⟨#[]⟩] 36)).heap.size by simp; omega)
  have hbc := HIs.out.bad_cell
  clear HI2 HO2 HR2 HX2
  cases x
  · have HRt := hide (right_any k 0 ⟨#[]⟩ (w1.alloc (.cells #[.int .i64 k, .int .i64 0, .string ⟨#[]⟩] 36)) nil_max)
    rw [Bool.false_or] at HV HN
    generalize rightV k 0 ⟨#[]⟩ = rt at *
    cases rt
    · go_wp2_with fail
      refine HRt.out.mono ?_
      rintro e w7 ⟨rfl, hb7⟩
      have HIs := hide (HIs.out.below hb7)
      have HOs := hide (HOs.out.on (hb7.mono HLow.out))
      have HRs := hide (HRs.out.below hb7 (Array.getElem?_eq_some_iff.1 HRs.out).1)
      clear hb7
      have HFl := hide (fail_any _ HIs.out)
      clear hbc
      go_wp2_with fail
      refine HFl.out.mono ?_
      rintro e w8 ⟨rfl, hI8, ho8⟩
      have HRf := hide (HRs.out.turn ho8 (by omega))
      have HIf := hide hI8
      have HOf := hide (HOs.out.trans ho8)
      clear hI8 ho8
      obtain ⟨⟨c0, c1, c2⟩, f0, f1, f2⟩ := HRf.out.cells
      have HF := hide (fin3 (k' := 0) (n' := 0) (s' := ⟨#[]⟩) HIf.out HOf.out HLo.out)
      have hltf : w.heap.size < w8.heap.size := (Array.getElem?_eq_some_iff.1 HRf.out).1
      go_wp2_with fail
      exact bodyPost_ret (v := vVal 0 0 ⟨#[]⟩) (by simp [results, Tryd.results16, go_sem, c0, c1, c2]) rfl (.inr ⟨HN.out rfl, rfl, HF.out.1, HF.out.2⟩)
    · go_wp2_with fail
      refine HRt.out.mono ?_
      rintro e w7 ⟨rfl, hb7⟩
      have HIf := hide (HIs.out.below hb7)
      have HOf := hide (HOs.out.on (hb7.mono HLow.out))
      have HRf := hide (HRs.out.below hb7 (Array.getElem?_eq_some_iff.1 HRs.out).1)
      obtain ⟨⟨d0, d1, d2⟩, -, -, -⟩ := (HBx.out.below hb7 (Array.getElem?_eq_some_iff.1 HBx.out).1).cells
      clear hb7 hbc
      obtain ⟨⟨c0, c1, c2⟩, f0, f1, f2⟩ := HRf.out.cells
      have HF := hide (fin3 (k' := k) (n' := 0) (s' := ⟨#[]⟩) HIf.out HOf.out HLo.out)
      have hltf : w.heap.size < w7.heap.size := (Array.getElem?_eq_some_iff.1 HRf.out).1
      go_wp2_with fail
      exact bodyPost_ret (v := vVal k 0 ⟨#[]⟩) (by simp [results, Tryd.results16, go_sem, c0, c1, c2]) rfl (.inl ⟨_, _, HV.out rfl, rfl, HF.out.1, HF.out.2⟩)
  · rw [Bool.true_or] at HV HN
    have HFl := hide (fail_any _ HIs.out)
    go_wp2_with fail
    refine HFl.out.mono ?_
    rintro e w8 ⟨rfl, hI8, ho8⟩
    have HRf := hide (HRs.out.turn ho8 (by omega))
    have HIf := hide hI8
    have HOf := hide (HOs.out.trans ho8)
    clear hI8 ho8
    obtain ⟨⟨c0, c1, c2⟩, f0, f1, f2⟩ := HRf.out.cells
    have HF := hide (fin3 (k' := 0) (n' := 0) (s' := ⟨#[]⟩) HIf.out HOf.out HLo.out)
    have hltf : w.heap.size < w8.heap.size := (Array.getElem?_eq_some_iff.1 HRf.out).1
    go_wp2_with fail
    exact bodyPost_ret (v := vVal 0 0 ⟨#[]⟩) (by simp [results, Tryd.results16, go_sem, c0, c1, c2]) rfl (.inr ⟨HN.out trivial, rfl, HF.out.1, HF.out.2⟩)
set_option maxHeartbeats 3200000 in
set_option maxRecDepth 100000 in
theorem inValue_int {lo : Nat → Prop} {g : Nat} {l : List UInt8} {bad : Bool} (w : World) (hI : InAt lo g w l bad) (hlo : ∀ b, lo b → b < w.heap.size) (k1 : intN l = 1) :
    Calls Tryd.prog 16 #[vI g] w (ValRes lo g w l) := by
  have hraw : rawV l = ((1, intN (intL l), ⟨#[]⟩), intL (intL l), intX (intL l)) := by unfold rawV; rw [if_pos k1]
  have hbad : badV l = (intX (intL l) || !rightV 1 (intN (intL l)) ⟨#[]⟩) := by unfold badV; rw [hraw]
  have HV := hide (fun (h : badV l = false) => (show valR l = some ((1, (intN (intL l)), ⟨#[]⟩), intL (intL l)) by rw [valR_some h, hraw]))
  have HN := hide (fun (h : badV l = true) => valR_none h)
  rw [hbad] at HV HN
  have HA := hide ((Below.refl w.heap.size w).alloc (Nat.le_refl _) (.cells #[.int .i64 0, .int .i64 0, .string ⟨#[]⟩] 36))
  have HI := hide (inInt_any _ (hI.on hlo HA.out))
  have hglt := hI.lt
  have HB1 := hide (fun (w' : World) o => (Below.refl w'.heap.size w').alloc (Nat.le_refl _) o)
  have HLo := hide hlo

  clear hI hlo hraw hbad
  unfold IntRes at HI
  unfold ValRes
  generalize intN l = k at *
  subst k1
  generalize intL l = tl at *
  generalize intX l = x0 at *
  obtain ⟨n, hn⟩ : ∃ n, n = intN tl := ⟨_, rfl⟩
  obtain ⟨x, hx⟩ : ∃ x, x = intX tl := ⟨_, rfl⟩
  rw [← hn, ← hx] at HV HN
  have HNq := hide hn
  have HXq := hide hx
  clear hn hx
  go_enter Tryd.func16, Tryd.ntmps16
  go_wp2_with fail
  refine HI.out.mono ?_
  rintro e w1 ⟨rfl, hI1, ho1⟩
  have hs1 := ho1.size
  simp only [World.size_alloc] at hs1
  have HO1 := hide ((OnlyG.of_below HA.out).trans ho1)
  have HR1 := hide ((box_new w 0 0 ⟨#[]⟩).turn ho1 (by omega))
  have HI2 := hide (hI1.on HLo.out ((HB1.out w1 (.cells #[.int .i64 1, .int .i64 0, .string ⟨#[]⟩] 36)).mono (by omega)))
  have HO2 := hide (HO1.out.on ((HB1.out w1 (.cells #[.int .i64 1, .int .i64 0, .string ⟨#[]⟩] 36)).mono (by omega)))
  have HR2 := hide (HR1.out.below (HB1.out w1 (.cells #[.int .i64 1, .int .i64 0, .string ⟨#[]⟩] 36)) (by omega))
  have HX2 := hide (box_new w1 1 0 ⟨#[]⟩)
  clear hI1 ho1
  have HI3 := hide (inInt_any _ HI2.out)
  unfold IntRes at HI3
  rw [← HNq.out, ← HXq.out] at HI3
  go_wp2_with fail
  refine HI3.out.mono ?_
  rintro e w2 ⟨rfl, hI3, ho3⟩
  have hs3 := ho3.size
  simp only [World.size_alloc] at hs3
  have HX3 := hide (HX2.out.turn ho3 (by omega))
  have HR3 := hide (HR2.out.turn ho3 (by omega))
  have HO3 := hide (HO2.out.trans ho3)
  obtain ⟨-, k0, k1, k2⟩ := HX3.out.cells
  obtain ⟨⟨j0, j1, j2⟩, -, -, -⟩ := HX3.out.cells
  have hst : Below w.heap.size w2 (w2.setCell ⟨w1.heap.size, 1, none⟩ (.int .i64 n)) := (Below.refl _ _).setCell (by simp only; omega) _
  have HIs := hide (hI3.on HLo.out hst)
  have HOs := hide (HO3.out.on hst)
  have HRs := hide (HR3.out.other ⟨w1.heap.size, 1, none⟩ (.int .i64 n) (by simp only; omega))
  have HBx := hide (HX3.out.set1 n)
  have HLow := hide (show w.heap.size ≤ (w2.setCell ⟨w1.heap.size, 1, none⟩ (.int .i64 n)).heap.size by have := hst.size; omega)
  have hbc := HIs.out.bad_cell
  clear hI3 ho3 hst HI2 HO2 HR2 HX2 HX3 HR3 HO3 HI3
  cases x
  · have HRt := hide (right_any 1 n ⟨#[]⟩ (w2.setCell ⟨w1.heap.size, 1, none⟩ (.int .i64 n)) nil_max)
    rw [Bool.false_or] at HV HN
    generalize rightV 1 n ⟨#[]⟩ = rt at *
    cases rt
    · go_wp2_with fail
      refine HRt.out.mono ?_
      rintro e w7 ⟨rfl, hb7⟩
      have HIs := hide (HIs.out.below hb7)
      have HOs := hide (HOs.out.on (hb7.mono HLow.out))
      have HRs := hide (HRs.out.below hb7 (Array.getElem?_eq_some_iff.1 HRs.out).1)
      clear hb7
      have HFl := hide (fail_any _ HIs.out)
      clear hbc
      go_wp2_with fail
      refine HFl.out.mono ?_
      rintro e w8 ⟨rfl, hI8, ho8⟩
      have HRf := hide (HRs.out.turn ho8 (by omega))
      have HIf := hide hI8
      have HOf := hide (HOs.out.trans ho8)
      clear hI8 ho8
      obtain ⟨⟨c0, c1, c2⟩, f0, f1, f2⟩ := HRf.out.cells
      have HF := hide (fin3 (k' := 0) (n' := 0) (s' := ⟨#[]⟩) HIf.out HOf.out HLo.out)
      have hltf : w.heap.size < w8.heap.size := (Array.getElem?_eq_some_iff.1 HRf.out).1
      go_wp2_with fail
      exact bodyPost_ret (v := vVal 0 0 ⟨#[]⟩) (by simp [results, Tryd.results16, go_sem, c0, c1, c2]) rfl (.inr ⟨HN.out rfl, rfl, HF.out.1, HF.out.2⟩)
    · go_wp2_with fail
      refine HRt.out.mono ?_
      rintro e w7 ⟨rfl, hb7⟩
      have HIf := hide (HIs.out.below hb7)
      have HOf := hide (HOs.out.on (hb7.mono HLow.out))
      have HRf := hide (HRs.out.below hb7 (Array.getElem?_eq_some_iff.1 HRs.out).1)
      obtain ⟨⟨d0, d1, d2⟩, -, -, -⟩ := (HBx.out.below hb7 (Array.getElem?_eq_some_iff.1 HBx.out).1).cells
      clear hb7 hbc
      obtain ⟨⟨c0, c1, c2⟩, f0, f1, f2⟩ := HRf.out.cells
      have HF := hide (fin3 (k' := 1) (n' := n) (s' := ⟨#[]⟩) HIf.out HOf.out HLo.out)
      have hltf : w.heap.size < w7.heap.size := (Array.getElem?_eq_some_iff.1 HRf.out).1
      go_wp2_with fail
      exact bodyPost_ret (v := vVal 1 n ⟨#[]⟩) (by simp [results, Tryd.results16, go_sem, c0, c1, c2]) rfl (.inl ⟨_, _, HV.out rfl, rfl, HF.out.1, HF.out.2⟩)
  · rw [Bool.true_or] at HV HN
    have HFl := hide (fail_any _ HIs.out)
    go_wp2_with fail
    refine HFl.out.mono ?_
    rintro e w8 ⟨rfl, hI8, ho8⟩
    have HRf := hide (HRs.out.turn ho8 (by omega))
    have HIf := hide hI8
    have HOf := hide (HOs.out.trans ho8)
    clear hI8 ho8
    obtain ⟨⟨c0, c1, c2⟩, f0, f1, f2⟩ := HRf.out.cells
    have HF := hide (fin3 (k' := 0) (n' := 0) (s' := ⟨#[]⟩) HIf.out HOf.out HLo.out)
    have hltf : w.heap.size < w8.heap.size := (Array.getElem?_eq_some_iff.1 HRf.out).1
    go_wp2_with fail
    exact bodyPost_ret (v := vVal 0 0 ⟨#[]⟩) (by simp [results, Tryd.results16, go_sem, c0, c1, c2]) rfl (.inr ⟨HN.out trivial, rfl, HF.out.1, HF.out.2⟩)
set_option maxHeartbeats 3200000 in
set_option maxRecDepth 100000 in
theorem inValue_text {lo : Nat → Prop} {g : Nat} {l : List UInt8} {bad : Bool} (w : World) (hI : InAt lo g w l bad) (hlo : ∀ b, lo b → b < w.heap.size) (k2 : intN l = 2) :
    Calls Tryd.prog 16 #[vI g] w (ValRes lo g w l) := by
  have hraw : rawV l = ((2, 0, ⟨(txtS (intL l)).toArray⟩), txtL (intL l), txtX (intL l)) := by unfold rawV; rw [if_neg (by rw [k2]; decide), if_pos k2]
  have hbad : badV l = (txtX (intL l) || !rightV 2 0 ⟨(txtS (intL l)).toArray⟩) := by unfold badV; rw [hraw]
  have HV := hide (fun (h : badV l = false) => (show valR l = some ((2, 0, ⟨(txtS (intL l)).toArray⟩), txtL (intL l)) by rw [valR_some h, hraw]))
  have HN := hide (fun (h : badV l = true) => valR_none h)
  rw [hbad] at HV HN
  have HA := hide ((Below.refl w.heap.size w).alloc (Nat.le_refl _) (.cells #[.int .i64 0, .int .i64 0, .string ⟨#[]⟩] 36))
  have HI := hide (inInt_any _ (hI.on hlo HA.out))
  have hglt := hI.lt
  have HB1 := hide (fun (w' : World) o => (Below.refl w'.heap.size w').alloc (Nat.le_refl _) o)
  have HLo := hide hlo
  have hsz := txt_size hI.short
  clear hI hlo hraw hbad
  unfold IntRes at HI
  unfold ValRes
  generalize intN l = k at *
  subst k2
  generalize intL l = tl at *
  generalize intX l = x0 at *
  obtain ⟨st, hn⟩ : ∃ st : ByteArray, st = ⟨(txtS tl).toArray⟩ := ⟨_, rfl⟩
  obtain ⟨x, hx⟩ : ∃ x, x = txtX tl := ⟨_, rfl⟩
  rw [← hn] at HV HN
  rw [← hx] at HV HN
  have HSz := hide hsz
  have HNq := hide hn
  have HXq := hide hx
  clear hn hx hsz
  go_enter Tryd.func16, Tryd.ntmps16
  go_wp2_with fail
  refine HI.out.mono ?_
  rintro e w1 ⟨rfl, hI1, ho1⟩
  have hs1 := ho1.size
  simp only [World.size_alloc] at hs1
  have HO1 := hide ((OnlyG.of_below HA.out).trans ho1)
  have HR1 := hide ((box_new w 0 0 ⟨#[]⟩).turn ho1 (by omega))
  have HI2 := hide (hI1.on HLo.out ((HB1.out w1 (.cells #[.int .i64 2, .int .i64 0, .string ⟨#[]⟩] 36)).mono (by omega)))
  have HO2 := hide (HO1.out.on ((HB1.out w1 (.cells #[.int .i64 2, .int .i64 0, .string ⟨#[]⟩] 36)).mono (by omega)))
  have HR2 := hide (HR1.out.below (HB1.out w1 (.cells #[.int .i64 2, .int .i64 0, .string ⟨#[]⟩] 36)) (by omega))
  have HX2 := hide (box_new w1 2 0 ⟨#[]⟩)
  clear hI1 ho1
  have HI3 := hide (inText_any _ HI2.out)
  unfold TxtRes at HI3
  rw [← HNq.out, ← HXq.out] at HI3
  go_wp2_with fail
  refine HI3.out.mono ?_
  rintro e w2 ⟨rfl, hI3, ho3⟩
  have hs3 := ho3.size
  simp only [World.size_alloc] at hs3
  have HX3 := hide (HX2.out.turn ho3 (by omega))
  have HR3 := hide (HR2.out.turn ho3 (by omega))
  have HO3 := hide (HO2.out.trans ho3)
  obtain ⟨-, k0, k1, k2⟩ := HX3.out.cells
  obtain ⟨⟨j0, j1, j2⟩, -, -, -⟩ := HX3.out.cells
  have hst : Below w.heap.size w2 (w2.setCell ⟨w1.heap.size, 2, none⟩ (.string st)) := (Below.refl _ _).setCell (by simp only; omega) _
  have HIs := hide (hI3.on HLo.out hst)
  have HOs := hide (HO3.out.on hst)
  have HRs := hide (HR3.out.other ⟨w1.heap.size, 2, none⟩ (.string st) (by simp only; omega))
  have HBx := hide (HX3.out.set2 st)
  have HLow := hide (show w.heap.size ≤ (w2.setCell ⟨w1.heap.size, 2, none⟩ (.string st)).heap.size by have := hst.size; omega)
  have hbc := HIs.out.bad_cell
  clear hI3 ho3 hst HI2 HO2 HR2 HX2 HX3 HR3 HO3 HI3
  cases x
  · have HRt := hide (right_any 2 0 st (w2.setCell ⟨w1.heap.size, 2, none⟩ (.string st)) (by rw [HNq.out]; exact HSz.out))
    rw [Bool.false_or] at HV HN
    generalize rightV 2 0 st = rt at *
    cases rt
    · go_wp2_with fail
      refine HRt.out.mono ?_
      rintro e w7 ⟨rfl, hb7⟩
      have HIs := hide (HIs.out.below hb7)
      have HOs := hide (HOs.out.on (hb7.mono HLow.out))
      have HRs := hide (HRs.out.below hb7 (Array.getElem?_eq_some_iff.1 HRs.out).1)
      clear hb7
      have HFl := hide (fail_any _ HIs.out)
      clear hbc
      go_wp2_with fail
      refine HFl.out.mono ?_
      rintro e w8 ⟨rfl, hI8, ho8⟩
      have HRf := hide (HRs.out.turn ho8 (by omega))
      have HIf := hide hI8
      have HOf := hide (HOs.out.trans ho8)
      clear hI8 ho8
      obtain ⟨⟨c0, c1, c2⟩, f0, f1, f2⟩ := HRf.out.cells
      have HF := hide (fin3 (k' := 0) (n' := 0) (s' := ⟨#[]⟩) HIf.out HOf.out HLo.out)
      have hltf : w.heap.size < w8.heap.size := (Array.getElem?_eq_some_iff.1 HRf.out).1
      go_wp2_with fail
      exact bodyPost_ret (v := vVal 0 0 ⟨#[]⟩) (by simp [results, Tryd.results16, go_sem, c0, c1, c2]) rfl (.inr ⟨HN.out rfl, rfl, HF.out.1, HF.out.2⟩)
    · go_wp2_with fail
      refine HRt.out.mono ?_
      rintro e w7 ⟨rfl, hb7⟩
      have HIf := hide (HIs.out.below hb7)
      have HOf := hide (HOs.out.on (hb7.mono HLow.out))
      have HRf := hide (HRs.out.below hb7 (Array.getElem?_eq_some_iff.1 HRs.out).1)
      obtain ⟨⟨d0, d1, d2⟩, -, -, -⟩ := (HBx.out.below hb7 (Array.getElem?_eq_some_iff.1 HBx.out).1).cells
      clear hb7 hbc
      obtain ⟨⟨c0, c1, c2⟩, f0, f1, f2⟩ := HRf.out.cells
      have HF := hide (fin3 (k' := 2) (n' := 0) (s' := st) HIf.out HOf.out HLo.out)
      have hltf : w.heap.size < w7.heap.size := (Array.getElem?_eq_some_iff.1 HRf.out).1
      go_wp2_with fail
      exact bodyPost_ret (v := vVal 2 0 st) (by simp [results, Tryd.results16, go_sem, c0, c1, c2]) rfl (.inl ⟨_, _, HV.out rfl, rfl, HF.out.1, HF.out.2⟩)
  · rw [Bool.true_or] at HV HN
    have HFl := hide (fail_any _ HIs.out)
    go_wp2_with fail
    refine HFl.out.mono ?_
    rintro e w8 ⟨rfl, hI8, ho8⟩
    have HRf := hide (HRs.out.turn ho8 (by omega))
    have HIf := hide hI8
    have HOf := hide (HOs.out.trans ho8)
    clear hI8 ho8
    obtain ⟨⟨c0, c1, c2⟩, f0, f1, f2⟩ := HRf.out.cells
    have HF := hide (fin3 (k' := 0) (n' := 0) (s' := ⟨#[]⟩) HIf.out HOf.out HLo.out)
    have hltf : w.heap.size < w8.heap.size := (Array.getElem?_eq_some_iff.1 HRf.out).1
    go_wp2_with fail
    exact bodyPost_ret (v := vVal 0 0 ⟨#[]⟩) (by simp [results, Tryd.results16, go_sem, c0, c1, c2]) rfl (.inr ⟨HN.out trivial, rfl, HF.out.1, HF.out.2⟩)
theorem inValue_any {lo : Nat → Prop} {g : Nat} {l : List UInt8} {bad : Bool} (w : World) (hI : InAt lo g w l bad) (hlo : ∀ b, lo b → b < w.heap.size) : Calls Tryd.prog 16 #[vI g] w (ValRes lo g w l) := by
  by_cases k1 : intN l = 1
  · exact inValue_int w hI hlo k1
  · by_cases k2 : intN l = 2
    · exact inValue_text w hI hlo k2
    · exact inValue_other w hI hlo k1 k2
end Go.Proofs.YtbjcbgomkhdmmaaDoor
