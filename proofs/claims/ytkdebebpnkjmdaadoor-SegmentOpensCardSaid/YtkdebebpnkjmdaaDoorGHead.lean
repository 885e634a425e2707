/-
  A head is read.
-/
import Derived.Test.YtkdebebpnkjmdaaDoorGOps
import Derived.Lib.ConvBytes
namespace Go.Proofs.YtkdebebpnkjmdaaDoor
open Go.RowKit

theorem conv_str (l : List UInt8) (w : World) : (convert 9 22 (.string ⟨l.toArray⟩)).run Tryd.prog w = .ok (.slice (some ⟨w.heap.size, 0, none⟩) l.length (grownCap w l.length 0 5)) (Lib.bytesWorld w 5 ⟨l.toArray⟩) := by
  have h := Lib.run_convert_string_bytes (P := Tryd.prog) w 9 22 5 ⟨l.toArray⟩ Tryd.underlying9 Tryd.underlying22 Tryd.underlying5
  have e : (ByteArray.mk l.toArray).size = l.length := by simp [ByteArray.size]
  rw [e] at h
  exact h
theorem bw_below (w : World) (l : List UInt8) : Below w.heap.size w (Lib.bytesWorld w 5 ⟨l.toArray⟩) := Joins.below_bytesWorld _ w _ _ (Nat.le_refl _)
theorem bw_bytes (w : World) (l : List UInt8) : BytesIn (fun b => w.heap.size ≤ b) (Lib.bytesWorld w 5 ⟨l.toArray⟩) (some ⟨w.heap.size, 0, none⟩) l := fun j hj => by
  have e : (ByteArray.mk l.toArray).size = l.length := by simp [ByteArray.size]
  refine ⟨w.heap.size, 0, rfl, Nat.le_refl _, by rw [Lib.bytesWorld_size]; omega, ?_⟩
  have h := Lib.bytesWorld_cell w 5 ⟨l.toArray⟩ j (by rw [e]; exact hj)
  rw [Nat.zero_add]
  simpa using h
/-- A segment's box that holds the zero value. -/
abbrev oSeg : Obj := .cells #[.int .i64 0, .int .i64 0, .slice none 0 0, .slice none 0 0] 80
theorem seg_cells {wk : World} {R : Nat} {v0 v1 v2 v3 : Value} (h : wk.heap[R]? = some (.cells #[v0, v1, v2, v3] 80 (0, 0))) :
    (wk.cell? ⟨R, 0, none⟩ = some v0 ∧ wk.cell? ⟨R, 1, none⟩ = some v1 ∧ wk.cell? ⟨R, 2, none⟩ = some v2 ∧ wk.cell? ⟨R, 3, none⟩ = some v3) ∧ (wk.frozen? ⟨R, 0, none⟩ = false ∧ wk.frozen? ⟨R, 1, none⟩ = false ∧ wk.frozen? ⟨R, 2, none⟩ = false ∧ wk.frozen? ⟨R, 3, none⟩ = false) ∧ R < wk.heap.size :=
  ⟨⟨Lib.cell_of_heap h 0, Lib.cell_of_heap h 1, Lib.cell_of_heap h 2, Lib.cell_of_heap h 3⟩, ⟨Lib.frozen_of_heap h 0, Lib.frozen_of_heap h 1, Lib.frozen_of_heap h 2, Lib.frozen_of_heap h 3⟩, block_lt h⟩
abbrev set4 (w : World) (R : Nat) (a b c d : Value) : World := (((w.setCell ⟨R, 0, none⟩ a).setCell ⟨R, 1, none⟩ b).setCell ⟨R, 2, none⟩ c).setCell ⟨R, 3, none⟩ d
theorem set4_but (w : World) (R : Nat) (a b c d : Value) : (∀ k, k ≠ R → (set4 w R a b c d).heap[k]? = w.heap[k]?) ∧ (set4 w R a b c d).heap.size = w.heap.size :=
  ⟨fun k hk => by rw [Below.heap_setCell _ _ _ _ hk, Below.heap_setCell _ _ _ _ hk, Below.heap_setCell _ _ _ _ hk, Below.heap_setCell _ _ _ _ hk], by simp⟩
theorem set4_below {w wk : World} {R : Nat} (h : Below R w wk) (a b c d : Value) : Below R w (set4 wk R a b c d) :=
  (((h.setCell (p := ⟨R, 0, none⟩) (Nat.le_refl _) a).setCell (p := ⟨R, 1, none⟩) (Nat.le_refl _) b).setCell (p := ⟨R, 2, none⟩) (Nat.le_refl _) c).setCell (p := ⟨R, 3, none⟩) (Nat.le_refl _) d
abbrev vSeg (g : Int) (n : Nat) (a b : Value) : Value := .agg #[.int .i64 g, .int .i64 (n : Nat), a, b]
abbrev vSeg0 : Value := .agg #[.int .i64 0, .int .i64 0, .slice none 0 0, .slice none 0 0]
def HeadRes (w : World) (l : List UInt8) (e : Ending) (w' : World) : Prop :=
  ((headM l = none ∧ e = .returned vSeg0) ∨ (∃ g cp A c, headM l = some (g, cp) ∧ e = .returned (vSeg g (frameB l).length (.slice A cp.length c) (.slice none 0 0)) ∧ BytesIn (fun b => w.heap.size ≤ b) w' A cp ∧ (A = none → c = 0) ∧ 1 ≤ g ∧ Int64 g ∧ cp.length ≤ l.length)) ∧ Below w.heap.size w w'
theorem isE (l : List UInt8) : (l.isEmpty = true) ↔ l = [] := by simp
set_option maxHeartbeats 6400000 in
set_option maxRecDepth 100000 in
theorem readHead_any (A : Option Addr) (c : Nat) (l : List UInt8) (w : World) (hB : BytesAt w.heap.size w A l) (hT : Tab w) (hl : l.length ≤ 1073741824) (hnil : A = none → c = 0) :
    Calls Tryd.prog 72 #[.slice A l.length c] w (HeadRes w l) := by
  have hal := (Below.refl w.heap.size w).alloc (Nat.le_refl _) oSeg
  have hw0 : (w.alloc oSeg).heap[w.heap.size]? = some (.cells #[.int .i64 0, .int .i64 0, .slice none 0 0, .slice none 0 0] 80 (0, 0)) := heap_alloc_new w _
  have hsz0 : (w.alloc oSeg).heap.size = w.heap.size + 1 := by simp
  have HN := hide (newIn_any A c l (w.alloc oSeg) (hB.on hal) (by omega))
  have HFs := hide (fun w' (hb : Below w.heap.size w w') => frameSize_any A c l w' (hB.on hb) (hT.on hb) (by omega) hnil)
  have HL0 := hide hal
  have HZ := hide (fun (wk : World) (hb : Below (w.alloc oSeg).heap.size (w.alloc oSeg) wk) => (hb.block w.heap.size (by rw [hsz0]; omega)).trans hw0)
  have HM := hide (show headM l = if intN l = 1 ∧ 1 ≤ intN (intL l) ∧ txtX (intL (intL l)) = false ∧ txtL (intL (intL l)) = [] then some (intN (intL l), txtS (intL (intL l))) else none from rfl)
  have HI6 := hide (intN_i64 (intL l))
  have HTl := hide (show (txtS (intL (intL l))).length ≤ l.length by
    have h1 := int_shrinks l
    have h2 := int_shrinks (intL l)
    have h3 := int_shrinks (intL (intL l))
    unfold txtS
    split
    · rw [List.length_take]; omega
    · simp)
  have hfb := (frameB_bd l).2
  have hfm : (frameB l).length ≤ 1073742000 := by omega
  have HSz0 := hide hsz0
  unfold HeadRes
  generalize headM l = hm at *
  clear hB hT hnil hal hw0 hl hfb
  generalize frameB l = fb at *
  go_enter Tryd.func72, Tryd.ntmps72
  go_wp2_with fail
  refine HN.out.mono ?_
  rintro e w1 ⟨g, rfl, hg, hi1, hb1⟩
  have hsz := HSz0.out
  have HG := hide (show w.heap.size + 1 ≤ g by omega)
  have HB1 := hide hb1
  have HI1 := hide (inInt_any w1 hi1)
  unfold IntRes at HI1
  clear hi1 hb1 hg
  go_wp2_with fail
  refine HI1.out.mono ?_
  rintro e w2 ⟨rfl, hi2, ho2⟩
  have HI2 := hide (inInt_any w2 hi2)
  unfold IntRes at HI2
  have HO2 := hide ho2
  clear hi2 ho2
  go_wp2_with fail
  refine HI2.out.mono ?_
  rintro e w3 ⟨rfl, hi3, ho3⟩
  have HI3 := hide (inText_any w3 hi3)
  unfold TxtRes at HI3
  have HO3 := hide (HO2.out.trans ho3)
  clear hi3 ho3
  go_wp2_with fail
  refine HI3.out.mono ?_
  rintro e w4 ⟨rfl, hi4, ho4⟩
  have HO4 := hide (HO3.out.trans ho4)
  have HB4 := hide (HB1.out.trans (HO4.out.below (base := (w.alloc oSeg).heap.size) (by rw [hsz]; exact HG.out) HB1.out.size))
  have HX := hide (done_any w4 hi4)
  have HSg := hide (HZ.out w4 HB4.out)
  clear hi4 ho4 HI1 HI2 HI3 HN HO2 HO3 HO4
  obtain ⟨⟨r0, r1, r2, r3⟩, ⟨f0, f1, f2, f3⟩, hlt⟩ := seg_cells HSg.out
  have HW4 := hide (HL0.out.trans (HB4.out.mono HL0.out.size))
  generalize intN l = i1 at *
  generalize hi2 : intN (intL l) = i2 at *
  generalize txtX (intL (intL l)) = x3 at *
  generalize txtL (intL (intL l)) = l3 at *
  generalize txtS (intL (intL l)) = cp at *
  clear hi2
  by_cases h1 : i1 = 1
  · subst h1
    by_cases h2 : i2 < 1
    · have HQ := hide (show hm = none by rw [HM.out, if_neg (by omega)])
      clear HX
      go_wp2_with fail
      refine bodyPost_ret (v := vSeg0) (by simp [results, Tryd.results72, go_sem, r0, r1, r2, r3]) rfl ?_
      exact ⟨.inl ⟨HQ.out, rfl⟩, set4_below HW4.out _ _ _ _⟩
    · by_cases h3 : (!x3 && l3.isEmpty) = true
      · have HQ := hide (show hm = some (i2, cp) by
          rw [HM.out, if_pos]
          simp at h3
          exact ⟨rfl, by omega, h3.1, by simpa using h3.2⟩)
        rw [h3] at HX
        have hcv := fun w' => conv_str cp w'
        have HF4 := hide (HFs.out w4 HW4.out)
        clear h3
        go_wp2_with fail
        refine HX.out.mono ?_
        rintro e w5 ⟨rfl, rfl⟩
        go_wp2_with fail
        refine HF4.out.mono ?_
        rintro e w6 ⟨rfl, hb6⟩
        have HB6 := hide hb6
        have HBW := hide (bw_below w6 cp)
        have HBy := hide (bw_bytes w6 cp)
        have HW7 := hide (HW4.out.trans ((hb6.trans (HBW.out.mono hb6.size)).mono HW4.out.size))
        have h7 := ((hb6.trans (HBW.out.mono hb6.size)).block w.heap.size hlt).trans HSg.out
        clear r0 r1 r2 r3 f0 f1 f2 f3 hb6
        obtain ⟨⟨r0, r1, r2, r3⟩, ⟨f0, f1, f2, f3⟩, hlt7⟩ := seg_cells h7
        clear h7
        go_wp2_with fail
        refine bodyPost_ret (v := vSeg i2 fb.length (.slice (some ⟨w6.heap.size, 0, none⟩) cp.length (grownCap w6 cp.length 0 5)) (.slice none 0 0)) (by simp [results, Tryd.results72, go_sem, r0, r1, r2, r3]) rfl ?_
        refine ⟨.inr ⟨i2, cp, _, _, HQ.out, rfl, HBy.out.keep (by rw [(set4_but _ _ _ _ _ _).2]; exact Nat.le_refl _) fun b hb _ => ⟨?_, (set4_but _ _ _ _ _ _).1 b ?_⟩, (fun e => by cases e), by omega, HI6.out, HTl.out⟩, set4_below HW7.out _ _ _ _⟩
        · have := HB6.out.size; have := HW4.out.size; omega
        · have := HB6.out.size; omega
      · have HQ := hide (show hm = none by
          rw [HM.out, if_neg]
          intro hh
          apply h3
          simp [hh.2.2.1, hh.2.2.2])
        rw [show (!x3 && l3.isEmpty) = false by simpa using h3] at HX
        clear h3
        go_wp2_with fail
        refine HX.out.mono ?_
        rintro e w5 ⟨rfl, rfl⟩
        go_wp2_with fail
        refine bodyPost_ret (v := vSeg0) (by simp [results, Tryd.results72, go_sem, r0, r1, r2, r3]) rfl ?_
        exact ⟨.inl ⟨HQ.out, rfl⟩, set4_below HW4.out _ _ _ _⟩
  · have HQ := hide (show hm = none by rw [HM.out, if_neg (by omega)])
    have hb := show (i1 != 1) = true by rw [bne_iff_ne]; exact h1
    clear HX
    go_wp2_with fail
    refine bodyPost_ret (v := vSeg0) (by simp [results, Tryd.results72, go_sem, r0, r1, r2, r3]) rfl ?_
    exact ⟨.inl ⟨HQ.out, rfl⟩, set4_below HW4.out _ _ _ _⟩
end Go.Proofs.YtkdebebpnkjmdaaDoor
