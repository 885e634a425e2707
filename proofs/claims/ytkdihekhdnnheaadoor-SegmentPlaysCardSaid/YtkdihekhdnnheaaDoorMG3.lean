/-
  A head is read.
  A group is read.
  Read, with the row that it makes; one segment's row of groups.
  Scan, with what is known of a slice without an address.
  What a segment's frames say, bounds (no program).
-/
import Derived.Test.YtkdihekhdnnheaaDoorMG2
import Derived.Lib.ConvBytes
namespace Go.Proofs.YtkdihekhdnnheaaDoor
open Go.RowKit

theorem conv_str (l : List UInt8) (w : World) : (convert 9 28 (.string ⟨l.toArray⟩)).run Tryd.prog w = .ok (.slice (some ⟨w.heap.size, 0, none⟩) l.length (grownCap w l.length 0 5)) (Lib.bytesWorld w 5 ⟨l.toArray⟩) := by
  have h := Lib.run_convert_string_bytes (P := Tryd.prog) w 9 28 5 ⟨l.toArray⟩ Tryd.underlying9 Tryd.underlying28 Tryd.underlying5
  have e : (ByteArray.mk l.toArray).size = l.length := by simp [ByteArray.size]
  rw [e] at h
  exact h
theorem bw_below (w : World) (l : List UInt8) : Below w.heap.size w (Lib.bytesWorld w 5 ⟨l.toArray⟩) := Joins.below_bytesWorld _ w _ _ (Nat.le_refl _)
theorem bw_bytes (w : World) (l : List UInt8) : BytesIn (fun b => w.heap.size ≤ b) (Lib.bytesWorld w 5 ⟨l.toArray⟩) (some ⟨w.heap.size, 0, none⟩) l := fun j hj => by
  have e : (ByteArray.mk l.toArray).size = l.length := by simp [ByteArray.size]
  refine ⟨w.heap.size, 0, rfl, Nat.le_refl _, by rw [Lib.bytesWorld_size]; omega, ?_⟩
  have h := Lib.bytesWorld_cell w 5 ⟨l.toArray⟩ j (by rw [e]; exact hj)
  rw [Nat.zero_add]
  simpa using h
/-- A segment's box that holds the zero value. -/
abbrev oSeg : Obj := .cells #[.int .i64 0, .int .i64 0, .slice none 0 0, .slice none 0 0] 60
theorem seg_cells {wk : World} {R : Nat} {v0 v1 v2 v3 : Value} (h : wk.heap[R]? = some (.cells #[v0, v1, v2, v3] 60 (0, 0))) :
    (wk.cell? ⟨R, 0, none⟩ = some v0 ∧ wk.cell? ⟨R, 1, none⟩ = some v1 ∧ wk.cell? ⟨R, 2, none⟩ = some v2 ∧ wk.cell? ⟨R, 3, none⟩ = some v3) ∧ (wk.frozen? ⟨R, 0, none⟩ = false ∧ wk.frozen? ⟨R, 1, none⟩ = false ∧ wk.frozen? ⟨R, 2, none⟩ = false ∧ wk.frozen? ⟨R, 3, none⟩ = false) ∧ R < wk.heap.size :=
  ⟨⟨Lib.cell_of_heap h 0, Lib.cell_of_heap h 1, Lib.cell_of_heap h 2, Lib.cell_of_heap h 3⟩, ⟨Lib.frozen_of_heap h 0, Lib.frozen_of_heap h 1, Lib.frozen_of_heap h 2, Lib.frozen_of_heap h 3⟩, block_lt h⟩
abbrev set4 (w : World) (R : Nat) (a b c d : Value) : World := (((w.setCell ⟨R, 0, none⟩ a).setCell ⟨R, 1, none⟩ b).setCell ⟨R, 2, none⟩ c).setCell ⟨R, 3, none⟩ d
theorem set4_but (w : World) (R : Nat) (a b c d : Value) : (∀ k, k ≠ R → (set4 w R a b c d).heap[k]? = w.heap[k]?) ∧ (set4 w R a b c d).heap.size = w.heap.size :=
  ⟨fun k hk => by rw [Below.heap_setCell _ _ _ _ hk, Below.heap_setCell _ _ _ _ hk, Below.heap_setCell _ _ _ _ hk, Below.heap_setCell _ _ _ _ hk], by simp⟩
theorem set4_below {w wk : World} {R : Nat} (h : Below R w wk) (a b c d : Value) : Below R w (set4 wk R a b c d) :=
  (((h.setCell (p := ⟨R, 0, none⟩) (Nat.le_refl _) a).setCell (p := ⟨R, 1, none⟩) (Nat.le_refl _) b).setCell (p := ⟨R, 2, none⟩) (Nat.le_refl _) c).setCell (p := ⟨R, 3, none⟩) (Nat.le_refl _) d
abbrev vSeg (g : Int) (n : Nat) (a b : Value) : Value := .agg #[.int .i64 g, .int .i64 (n : Nat), a, b]
abbrev vSeg0 : Value := .agg #[.int .i64 0, .int .i64 0, .slice none 0 0, .slice none 0 0]
def HeadRes (w : World) (l : List UInt8) (e : Ending) (w' : World) : Prop :=
  ((headM l = none ∧ e = .returned vSeg0) ∨ (∃ g cp A c, headM l = some (g, cp) ∧ e = .returned (vSeg g (frameB l).length (.slice A cp.length c) (.slice none 0 0)) ∧ BytesIn (fun b => w.heap.size ≤ b) w' A cp ∧ (A = none → c = 0) ∧ 1 ≤ g ∧ Int64 g ∧ cp.length ≤ l.length)) ∧ Below w.heap.size w w'
theorem isE (l : List UInt8) : (l.isEmpty = true) ↔ l = [] := by simp
set_option maxHeartbeats 6400000 in
set_option maxRecDepth 100000 in
theorem readHead_any (A : Option Addr) (c : Nat) (l : List UInt8) (w : World) (hB : BytesAt w.heap.size w A l) (hT : Tab w) (hl : l.length ≤ 1073741824) (hnil : A = none → c = 0) :
    Calls Tryd.prog 60 #[.slice A l.length c] w (HeadRes w l) := by
  have hal := (Below.refl w.heap.size w).alloc (Nat.le_refl _) oSeg
  have hw0 : (w.alloc oSeg).heap[w.heap.size]? = some (.cells #[.int .i64 0, .int .i64 0, .slice none 0 0, .slice none 0 0] 60 (0, 0)) := heap_alloc_new w _
  have hsz0 : (w.alloc oSeg).heap.size = w.heap.size + 1 := by simp
  have HN := hide (newIn_any A c l (w.alloc oSeg) (hB.on hal) (by omega))
  have HFs := hide (fun w' (hb : Below w.heap.size w w') => frameSize_any A c l w' (hB.on hb) (hT.on hb) (by omega) hnil)
  have HL0 := hide hal
  have HZ := hide (fun (wk : World) (hb : Below (w.alloc oSeg).heap.size (w.alloc oSeg) wk) => (hb.block w.heap.size (by rw [hsz0]; omega)).trans hw0)
  have HM := hide (show headM l = if intN l = 1 ∧ 1 ≤ intN (intL l) ∧ txtX (intL (intL l)) = false ∧ txtL (intL (intL l)) = [] then some (intN (intL l), txtS (intL (intL l))) else none from rfl)
  have HI6 := hide (intN_i64 (intL l))
  have HTl := hide (show (txtS (intL (intL l))).length ≤ l.length by
    have h1 := int_shrinks l
    have h2 := int_shrinks (intL l)
    have h3 := int_shrinks (intL (intL l))
    unfold txtS
    split
    · rw [List.length_take]; omega
    · simp)
  have hfb := (frameB_bd l).2
  have hfm : (frameB l).length ≤ 1073742000 := by omega
  have HSz0 := hide hsz0
  unfold HeadRes
  generalize headM l = hm at *
  clear hB hT hnil hal hw0 hl hfb
  generalize frameB l = fb at *
  go_enter Tryd.func60, Tryd.ntmps60
  go_wp2_with fail
  refine HN.out.mono ?_
  rintro e w1 ⟨g, rfl, hg, hi1, hb1⟩
  have hsz := HSz0.out
  have HG := hide (show w.heap.size + 1 ≤ g by omega)
  have HB1 := hide hb1
  have HI1 := hide (inInt_any w1 hi1)
  unfold IntRes at HI1
  clear hi1 hb1 hg
  go_wp2_with fail
  refine HI1.out.mono ?_
  rintro e w2 ⟨rfl, hi2, ho2⟩
  have HI2 := hide (inInt_any w2 hi2)
  unfold IntRes at HI2
  have HO2 := hide ho2
  clear hi2 ho2
  go_wp2_with fail
  refine HI2.out.mono ?_
  rintro e w3 ⟨rfl, hi3, ho3⟩
  have HI3 := hide (inText_any w3 hi3)
  unfold TxtRes at HI3
  have HO3 := hide (HO2.out.trans ho3)
  clear hi3 ho3
  go_wp2_with fail
  refine HI3.out.mono ?_
  rintro e w4 ⟨rfl, hi4, ho4⟩
  have HO4 := hide (HO3.out.trans ho4)
  have HB4 := hide (HB1.out.trans (HO4.out.below (base := (w.alloc oSeg).heap.size) (by rw [hsz]; exact HG.out) HB1.out.size))
  have HX := hide (done_any w4 hi4)
  have HSg := hide (HZ.out w4 HB4.out)
  clear hi4 ho4 HI1 HI2 HI3 HN HO2 HO3 HO4
  obtain ⟨⟨r0, r1, r2, r3⟩, ⟨f0, f1, f2, f3⟩, hlt⟩ := seg_cells HSg.out
  have HW4 := hide (HL0.out.trans (HB4.out.mono HL0.out.size))
  generalize intN l = i1 at *
  generalize hi2 : intN (intL l) = i2 at *
  generalize txtX (intL (intL l)) = x3 at *
  generalize txtL (intL (intL l)) = l3 at *
  generalize txtS (intL (intL l)) = cp at *
  clear hi2
  by_cases h1 : i1 = 1
  · subst h1
    by_cases h2 : i2 < 1
    · have HQ := hide (show hm = none by rw [HM.out, if_neg (by omega)])
      clear HX
      go_wp2_with fail
      refine bodyPost_ret (v := vSeg0) (by simp [results, Tryd.results60, go_sem, r0, r1, r2, r3]) rfl ?_
      exact ⟨.inl ⟨HQ.out, rfl⟩, set4_below HW4.out _ _ _ _⟩
    · by_cases h3 : (!x3 && l3.isEmpty) = true
      · have HQ := hide (show hm = some (i2, cp) by
          rw [HM.out, if_pos]
          simp at h3
          exact ⟨rfl, by omega, h3.1, by simpa using h3.2⟩)
        rw [h3] at HX
        have hcv := fun w' => conv_str cp w'
        have HF4 := hide (HFs.out w4 HW4.out)
        clear h3
        go_wp2_with fail
        refine HX.out.mono ?_
        rintro e w5 ⟨rfl, rfl⟩
        go_wp2_with fail
        refine HF4.out.mono ?_
        rintro e w6 ⟨rfl, hb6⟩
        have HB6 := hide hb6
        have HBW := hide (bw_below w6 cp)
        have HBy := hide (bw_bytes w6 cp)
        have HW7 := hide (HW4.out.trans ((hb6.trans (HBW.out.mono hb6.size)).mono HW4.out.size))
        have h7 := ((hb6.trans (HBW.out.mono hb6.size)).block w.heap.size hlt).trans HSg.out
        clear r0 r1 r2 r3 f0 f1 f2 f3 hb6
        obtain ⟨⟨r0, r1, r2, r3⟩, ⟨f0, f1, f2, f3⟩, hlt7⟩ := seg_cells h7
        clear h7
        go_wp2_with fail
        refine bodyPost_ret (v := vSeg i2 fb.length (.slice (some ⟨w6.heap.size, 0, none⟩) cp.length (grownCap w6 cp.length 0 5)) (.slice none 0 0)) (by simp [results, Tryd.results60, go_sem, r0, r1, r2, r3]) rfl ?_
        refine ⟨.inr ⟨i2, cp, _, _, HQ.out, rfl, HBy.out.keep (by rw [(set4_but _ _ _ _ _ _).2]; exact Nat.le_refl _) fun b hb _ => ⟨?_, (set4_but _ _ _ _ _ _).1 b ?_⟩, (fun e => by cases e), by omega, HI6.out, HTl.out⟩, set4_below HW7.out _ _ _ _⟩
        · have := HB6.out.size; have := HW4.out.size; omega
        · have := HB6.out.size; omega
      · have HQ := hide (show hm = none by
          rw [HM.out, if_neg]
          intro hh
          apply h3
          simp [hh.2.2.1, hh.2.2.2])
        rw [show (!x3 && l3.isEmpty) = false by simpa using h3] at HX
        clear h3
        go_wp2_with fail
        refine HX.out.mono ?_
        rintro e w5 ⟨rfl, rfl⟩
        go_wp2_with fail
        refine bodyPost_ret (v := vSeg0) (by simp [results, Tryd.results60, go_sem, r0, r1, r2, r3]) rfl ?_
        exact ⟨.inl ⟨HQ.out, rfl⟩, set4_below HW4.out _ _ _ _⟩
  · have HQ := hide (show hm = none by rw [HM.out, if_neg (by omega)])
    have hb := show (i1 != 1) = true by rw [bne_iff_ne]; exact h1
    clear HX
    go_wp2_with fail
    refine bodyPost_ret (v := vSeg0) (by simp [results, Tryd.results60, go_sem, r0, r1, r2, r3]) rfl ?_
    exact ⟨.inl ⟨HQ.out, rfl⟩, set4_below HW4.out _ _ _ _⟩
end Go.Proofs.YtkdihekhdnnheaaDoor
namespace Go.Proofs.YtkdihekhdnnheaaDoor
open Go.RowKit

theorem InAt.mono {lo lo' : Nat → Prop} {g : Nat} {w : World} {l : List UInt8} {bad : Bool} (h : InAt lo g w l bad) (hb : ∀ b, lo b → b < w.heap.size → lo' b) : InAt lo' g w l bad := by
  have hlt := h.lt
  obtain ⟨hg, h0, A, c, hbx, h1, h2, h3, h4, h5⟩ := h
  refine ⟨hb g hg hlt, h0, A, c, hbx, h1, h2, h3, h4, fun j hj => ?_⟩
  obtain ⟨b, off, e, e1, e2, e3, e4⟩ := h5 j hj
  exact ⟨b, off, e, hb b e1 e3, e2, e3, e4⟩
/-- A row of headers of the call's own as a list that reads. -/
theorem HeadsOwn.recs {base : Nat} {w : World} {v : Value} {hs : List BH} (h : HeadsOwn base w v hs) (hn : ∀ x, x ∈ hs → WfH x) :
    ∃ A c, v = .slice A hs.length c ∧ RecsIn (fun b => base ≤ b) w A hs ∧ (A = none → c = 0) ∧ hs.length ≤ c := by
  obtain ⟨A, c, rfl, hnc, -⟩ := row_slice h.row
  refine ⟨A, c, rfl, fun j hj => ?_, ?_, hnc⟩
  · rcases h.row.2 with ⟨_, h0⟩ | ⟨g, cap, cur, e, hb, hg, hn', _, hsz, htk⟩
    · omega
    · injection e with e1 e2 e3
      subst e1
      have hm : hs.getD j dH ∈ hs := by
        rw [List.getD_eq_getElem?_getD, List.getElem?_eq_getElem hj]; exact List.getElem_mem hj
      refine ⟨g, 0, rfl, hb, (Array.getElem?_eq_some_iff.1 hg).1, ?_, fun i hi => ?_, hn _ hm⟩
      · rw [Nat.zero_add, Lib.cell_of_heap hg]
        have hc : (hs.map hdr)[j]? = some (hdr (hs.getD j dH)) := by
          rw [List.getElem?_map, List.getElem?_eq_getElem hj, List.getD_eq_getElem?_getD, List.getElem?_eq_getElem hj]
          rfl
        rw [← htk, List.getElem?_take_of_lt (by omega)] at hc
        simpa using hc
      · obtain ⟨b, off, e, h1, h2, _, h4⟩ := h.lies _ hm i hi
        exact ⟨b, off, e, h1, h2, h4⟩
  · rintro rfl
    rcases h.row.2 with ⟨e, _⟩ | ⟨g, c', cur, e, _⟩
    · injection e
    · injection e with e1; cases e1
theorem txt_deadG {l : List UInt8} (h : txtX l = true) : txtL l = [] := by
  unfold txtX at h
  unfold txtL
  by_cases ho : TxtOk l
  · rw [if_pos ho] at h ⊢
    rw [(int_dead2 h).2]; simp
  · rw [if_neg ho]
def GrpRes (w : World) (l : List UInt8) (e : Ending) (w' : World) : Prop :=
  ((groupM l = none ∧ e = .returned (.tuple #[.slice none 0 0, .bool false])) ∨ (∃ (A : Option Addr) (c : Nat) (rs : List BH), groupM l = some (lsOf rs) ∧ e = .returned (.tuple #[.slice A rs.length c, .bool true]) ∧ RecsIn (fun b => w.heap.size ≤ b) w' A rs ∧ (A = none → c = 0) ∧ rs.length ≤ l.length)) ∧ Below w.heap.size w w'
theorem cnt_dead2 {l : List UInt8} {m : Int} (h : cntX l m = true) : cntN l m = 0 ∧ cntL l m = [] := by
  unfold cntX at h
  unfold cntN cntL
  split at h
  · rename_i hc
    rw [if_pos hc, if_pos hc]
    exact int_dead2 h
  · rename_i hc
    rw [if_neg hc, if_neg hc]
    exact ⟨rfl, rfl⟩
set_option maxHeartbeats 6400000 in
set_option maxRecDepth 100000 in
theorem readGroup_any (A : Option Addr) (c : Nat) (l : List UInt8) (w : World) (hB : BytesAt w.heap.size w A l) (hl : l.length ≤ 1073741824) :
    Calls Tryd.prog 61 #[.slice A l.length c] w (GrpRes w l) := by
  have HN := hide (newIn_any A c l w hB (by omega))
  have HM := hide (show groupM l = if intN l = 2 ∧ 0 ≤ intN (intL l) ∧ intX (intL l) = false then grpE (txtsP (intN (intL l)).toNat (intL (intL l))) else none from rfl)
  have HMany := hide (groupM_many (c := l))
  have HB1 := hide (fun (w' : World) o => (Below.refl w'.heap.size w').alloc (Nat.le_refl _) o)
  unfold GrpRes
  clear hB
  by_cases h1 : intN l = 2
  · by_cases hx : cntX (intL l) l.length = true
    · -- the count is bad
      have HQ := hide (show groupM l = none by
        by_cases hc : CntOk (intL l) l.length
        · rw [HM.out, if_neg]
          intro hh
          unfold cntX at hx
          rw [if_pos hc] at hx
          rw [hx] at hh
          exact absurd hh.2.2 (by decide)
        · unfold CntOk at hc
          by_cases h0 : 0 ≤ intN (intL l)
          · exact HMany.out (by omega)
          · rw [HM.out, if_neg]
            intro hh
            exact h0 hh.2.1)
      obtain ⟨d1, d2⟩ := cnt_dead2 hx
      generalize groupM l = gm at *
      clear HM HMany
      go_enter Tryd.func61, Tryd.ntmps61
      go_wp2_with fail
      refine HN.out.mono ?_
      rintro e w1 ⟨g, rfl, hg, hi1, hb1⟩
      have HBl1 := hide hb1
      have HG := hide hg
      have HI1 := hide (inInt_any w1 hi1)
      unfold IntRes at HI1
      rw [h1] at HI1
      clear hi1 hb1 hg
      go_wp2_with fail
      refine HI1.out.mono ?_
      rintro e w2 ⟨rfl, hi2, ho2⟩
      have HC2 := hide (inCount_any l.length w2 hi2)
      unfold CntRes at HC2
      rw [hx, d1, d2] at HC2
      have HO2 := hide ho2
      clear hi2 ho2 hx d1 d2 h1
      go_wp2_with fail
      refine HC2.out.mono ?_
      rintro e w3 ⟨rfl, hi3, ho3⟩
      have HW3 := hide (HBl1.out.trans ((HO2.out.trans ho3).below HG.out HBl1.out.size))
      have HX := hide (done_any w3 hi3)
      clear hi3 ho3
      go_wp2_with fail
      go_loopw [2, 14] (fun v i wr => v = .slice none 0 0 ∧ i = .int .i64 0 ∧ wr = w3) (fun _ _ _ => 0)
      case atStart => exact ⟨rfl, rfl, rfl⟩
      case round =>
        obtain ⟨rfl, rfl, rfl⟩ := hrel
        go_wp2_with fail
        refine HX.out.mono ?_
        rintro e w5 ⟨rfl, rfl⟩
        go_wp2_with fail
        go_ret2
        exact ⟨.inl ⟨HQ.out, rfl⟩, HW3.out⟩
    · have hx : cntX (intL l) l.length = false := by simpa using hx
      have hok : CntOk (intL l) l.length := by
        unfold cntX at hx
        split at hx
        · assumption
        · cases hx
      have e1 : cntN (intL l) l.length = ((intN (intL l)).toNat : Nat) := by
        unfold cntN
        rw [if_pos hok]
        unfold CntOk at hok
        omega
      have e2 : cntL (intL l) l.length = intL (intL l) := by unfold cntL; rw [if_pos hok]
      have HP := hide (show groupM l = grpE (txtsP (intN (intL l)).toNat (intL (intL l))) by
        rw [HM.out, if_pos]
        unfold cntX at hx
        rw [if_pos hok] at hx
        exact ⟨h1, hok.1, hx⟩)
      have hnl : (intN (intL l)).toNat ≤ l.length := by unfold CntOk at hok; omega
      have HLn := hide (show (intL (intL l)).length ≤ 1073741824 by have := int_shrinks l; have := int_shrinks (intL l); omega)
      have HNl := hide hnl
      clear HM HMany hok
      generalize groupM l = gm at *
      go_enter Tryd.func61, Tryd.ntmps61
      go_wp2_with fail
      refine HN.out.mono ?_
      rintro e w1 ⟨g, rfl, hg, hi1, hb1⟩
      have HBl1 := hide hb1
      have HG := hide hg
      have hi1' := hi1.mono (lo' := fun b => w.heap.size ≤ b ∧ b < w1.heap.size) fun b h1 h2 => ⟨h1, h2⟩
      have HGl := hide hi1.lt
      have HI1 := hide (inInt_any w1 hi1')
      unfold IntRes at HI1
      rw [h1] at HI1
      clear hi1 hi1' hb1 hg
      go_wp2_with fail
      refine HI1.out.mono ?_
      rintro e w2 ⟨rfl, hi2, ho2⟩
      have HC2 := hide (inCount_any l.length w2 hi2)
      unfold CntRes at HC2
      rw [hx, e1, e2] at HC2
      have HO2 := hide ho2
      clear hi2 ho2 hx e1 e2 h1
      generalize intL (intL l) = l2 at *
      generalize (intN (intL l)).toNat = n at *
      go_wp2_with fail
      refine HC2.out.mono ?_
      rintro e w3 ⟨rfl, hi3, ho3⟩
      have HO3 := hide (HO2.out.trans ho3)
      have HI3 := hide hi3
      clear hi3 ho3 HO2
      go_wp2_with fail
      go_loopw [2, 14] (fun v i wr => ∃ (k : Nat) (rs : List BH) (rl : List UInt8), k ≤ n ∧ i = .int .i64 k ∧ rs.length = k ∧ txtsP k l2 = some (lsOf rs, rl) ∧ HeadsOwn w1.heap.size wr v rs ∧ (∀ x, x ∈ rs → WfH x) ∧ InAt (fun b => w.heap.size ≤ b ∧ b < w1.heap.size) g wr rl false ∧ OnlyG g w1 wr) (fun _ i _ => n - (intOf i).toNat)
      case atStart => exact ⟨0, [], l2, Nat.zero_le _, rfl, rfl, rfl, HeadsOwn.nil _ _, (fun x hx => by simp at hx), HI3.out, HO3.out⟩
      case round =>
        obtain ⟨k, rs, rl, hk, rfl, hrl, htp, hown, hwf, hin, hog⟩ := hrel
        have HO := hide hog
        have HOw := hide hown
        have HWf := hide hwf
        have HTp := hide htp
        have HRl := hide hrl
        have HIn := hide hin
        have hsz := hog.size
        clear hown hwf htp hin hog HI3 HO3 HC2 HI1 HN
        by_cases hlt : k < n
        · have HLt := hide hlt
          have HTx := hide (inText_any wr HIn.out)
          unfold TxtRes at HTx
          have HTl := hide (show (txtS rl).length ≤ 1073741824 by
            have h1 := (txtsP_len HTp.out).2
            have h2 := int_shrinks rl
            have h3 := HLn.out
            unfold txtS
            split
            · rw [List.length_take]; omega
            · simp)
          have HRln := hide (show rl.length ≤ 1073741824 by
            have h1 := (txtsP_len HTp.out).2
            have h3 := HLn.out
            omega)
          clear hk hrl
          go_wp2_with fail
          refine HTx.out.mono ?_
          rintro e w4 ⟨rfl, hi4, ho4⟩
          have HO4 := hide (HO.out.trans ho4)
          have HOw4 := hide (HOw.out.keep ho4.size fun b h1 h2 => ho4.block b h2 (by have := HGl.out; omega))
          have HI4 := hide hi4
          have hs4 := HO4.out.size
          have HX4 := hide (show txtX rl = txtX rl from rfl)
          clear hi4 ho4 HTx
          have HStep := hide (fun (h : txtX rl = false) => txtsP_step HTp.out h)
          have HStop := hide (fun (h : txtX rl = true) => txtsP_none (txtsP_stop HTp.out h) n HLt.out)
          have HDead := hide (fun (h : txtX rl = true) => txt_deadG h)
          generalize txtS rl = ts at *
          generalize txtL rl = tl at *
          generalize txtX rl = x at *
          clear HX4
          have hcv4 := conv_str ts w4
          have HBW := hide (bw_below w4 ts)
          have HByW := hide (bw_bytes w4 ts)
          have HSW := hide (Lib.bytesWorld_size w4 5 ⟨ts.toArray⟩)
          have HOw5 := hide (HOw4.out.below HBW.out)
          have HI5 := hide (HI4.out.below HBW.out)
          have HH5 := hide (show HAt w1.heap.size (Lib.bytesWorld w4 5 ⟨ts.toArray⟩) u2 ⟨some ⟨w4.heap.size, 0, none⟩, grownCap w4 ts.length 0 5, ts⟩ from fun j hj => by
            obtain ⟨b, off, e, e1, e2, e3⟩ := HByW.out j hj
            have e4 : b = w4.heap.size := by injection e with e; injection e with e4; exact e4.symm
            exact ⟨b, off, e, by omega, e2, fun e5 => by have := (HOw4.out.row.lt b e5).2; omega, e3⟩)
          have HO5 := hide (HO4.out.trans (OnlyG.of_below (g := g) HBW.out))
          have hs5 : w1.heap.size ≤ (Lib.bytesWorld w4 5 ⟨ts.toArray⟩).heap.size := Nat.le_trans hs4 HBW.out.size
          generalize Lib.bytesWorld w4 5 ⟨ts.toArray⟩ = w5 at *
          generalize grownCap w4 ts.length 0 5 = cap5 at *
          clear HBW HByW HSW HOw4 HI4 HO4
          have hrn : rs.length ≤ 1073741824 := by have h1 := HRl.out; have h2 := HLt.out; omega
          go_wp2_with (at_builtin; go_must (refine append_head rfl _ _ rfl w1.heap.size u2 rs rs.length rfl rfl (HOw5.out.below (HB1.out w5 _)) ⟨some ⟨w4.heap.size, 0, none⟩, cap5, ts⟩ w5.heap.size rfl (Lib.cell_of_heap (heap_alloc_new w5 _) 0) (HH5.out.keep (by simp) fun b _ h _ => Below.heap_alloc _ _ _ h) hrn (by simp; omega) ?_))
          intro v6 w6 hho6 hown6 hgrow6
          have HHo6 := hide hho6
          have HI6 := hide (HI5.out.keep (w' := w6) (Nat.le_trans (HB1.out w5 (.cells #[hdr ⟨some ⟨w4.heap.size, 0, none⟩, cap5, ts⟩] 28)).size hgrow6.size) fun b hle h => (hgrow6.block b (by simp; omega) (fun e => by
            have h1 := (HOw5.out.row.lt b e.symm).1
            omega)).trans (Below.heap_alloc _ _ _ h))
          have HO6 := hide (show OnlyG g w1 w6 from ⟨hgrow6.os.trans HO5.out.os, hgrow6.tape.trans HO5.out.tape, hgrow6.output.trans HO5.out.output, Nat.le_trans hs5 (Nat.le_trans (HB1.out w5 (.cells #[hdr ⟨some ⟨w4.heap.size, 0, none⟩, cap5, ts⟩] 28)).size hgrow6.size), fun b h hb => by
            exact ((hgrow6.block b (by simp; omega) (fun x => by have := (HOw5.out.row.lt b x.symm).1; omega)).trans (Below.heap_alloc _ _ _ (by omega))).trans (HO5.out.block b h hb)⟩)
          have HX6 := hide (bad_any w6 HI6.out)
          have HD6 := hide (done_any w6 HI6.out)
          obtain ⟨A6, c6, rfl, -⟩ := row_slice hown6
          clear hho6 hown6 hgrow6 HOw5 HH5 HI5 HO5
          cases x
          · go_wp2_with fail
            refine HX6.out.mono ?_
            rintro e w7 ⟨rfl, rfl⟩
            go_wp2_with fail
            go_roundw
            case rel => exact ⟨k + 1, rs ++ [⟨some ⟨w4.heap.size, 0, none⟩, cap5, ts⟩], tl, HLt.out, by go_num, by rw [List.length_append, HRl.out]; rfl, by rw [lsOf_snoc]; exact HStep.out (by first | trivial | rfl), HHo6.out, (fun y hy => by
              rcases List.mem_append.1 hy with hy | hy
              · exact HWf.out y hy
              · simp at hy; subst hy; exact ⟨by have := HTl.out; unfold maxLen; show ts.length ≤ _; omega, fun e => by cases e⟩), HI6.out, HO6.out⟩
            case measure => have := HLt.out; simp [intOf]; omega
          · have HQ := hide (show gm = none by rw [HP.out, HStop.out (by first | trivial | rfl)]; rfl)
            rw [show (!true && tl.isEmpty) = false from rfl] at HD6
            go_wp2_with fail
            refine HX6.out.mono ?_
            rintro e w7 ⟨rfl, rfl⟩
            go_wp2_with fail
            refine HD6.out.mono ?_
            rintro e w8 ⟨rfl, rfl⟩
            go_wp2_with fail
            go_ret2
            exact ⟨.inl ⟨HQ.out, rfl⟩, HBl1.out.trans (HO6.out.below HG.out HBl1.out.size)⟩
        · obtain rfl : k = n := by omega
          have HD := hide (done_any wr HIn.out)
          have HW := hide (HBl1.out.trans (HO.out.below HG.out HBl1.out.size))
          obtain ⟨A6, c6, rfl, hr6, hn6, -⟩ := HOw.out.recs HWf.out
          have HR6 := hide (show RecsIn (fun b => w.heap.size ≤ b) wr A6 rs from hr6.mono fun b h1 _ => Nat.le_trans HBl1.out.size h1)
          have HN6 := hide hn6
          clear hr6 hn6 hlt hk hrl
          by_cases he : rl = []
          · have HQ := hide (show gm = some (lsOf rs) by rw [HP.out, HTp.out, he]; rfl)
            rw [he, show (!false && ([] : List UInt8).isEmpty) = true from rfl] at HD
            clear he
            go_wp2_with fail
            refine HD.out.mono ?_
            rintro e w8 ⟨rfl, rfl⟩
            go_wp2_with fail
            go_ret2
            exact ⟨.inr ⟨A6, c6, rs, HQ.out, rfl, HR6.out, HN6.out, by rw [HRl.out]; exact HNl.out⟩, HW.out⟩
          · have HQ := hide (show gm = none by
              rw [HP.out, HTp.out]
              cases rl with
              | nil => exact absurd rfl he
              | cons a b => rfl)
            rw [show (!false && rl.isEmpty) = false by cases rl with | nil => exact absurd rfl he | cons a b => rfl] at HD
            clear he
            go_wp2_with fail
            refine HD.out.mono ?_
            rintro e w8 ⟨rfl, rfl⟩
            go_wp2_with fail
            go_ret2
            exact ⟨.inl ⟨HQ.out, rfl⟩, HW.out⟩
  · have HQ := hide (show groupM l = none by rw [HM.out, if_neg (by omega)])
    have hb := show (intN l != 2) = true by rw [bne_iff_ne]; exact h1
    generalize groupM l = gm at *
    clear HM HMany h1
    go_enter Tryd.func61, Tryd.ntmps61
    go_wp2_with fail
    refine HN.out.mono ?_
    rintro e w1 ⟨g, rfl, hg, hi1, hb1⟩
    have HBl1 := hide hb1
    have HG := hide hg
    have HI1 := hide (inInt_any w1 hi1)
    unfold IntRes at HI1
    clear hi1 hb1 hg
    generalize intN l = i1 at *
    go_wp2_with fail
    refine HI1.out.mono ?_
    rintro e w2 ⟨rfl, hi2, ho2⟩
    have HW := hide (HBl1.out.trans (ho2.below HG.out HBl1.out.size))
    clear hi2 ho2
    go_wp2_with fail
    go_ret2
    exact ⟨.inl ⟨HQ.out, rfl⟩, HW.out⟩
end Go.Proofs.YtkdihekhdnnheaaDoor
namespace Go.Proofs.YtkdihekhdnnheaaDoor
open Go.RowKit

def ReadV (w : World) (p : PD) (f : Nat) (e : Ending) (w' : World) : Prop :=
  ∃ v', e = .returned (.tuple #[v', .int .i64 (checkE p f)]) ∧ w'.ownsRow w.heap.size 5 1 v' (rdL p f).length (byC (rdL p f)) ∧ Below w.heap.size w w'
set_option maxHeartbeats 3200000 in
set_option maxRecDepth 100000 in
theorem read_own {base g : Nat} {D : DS} (f : Nat) (w : World) (hD : DiskAt base g w D) (hO : D.p.Ok) (hf2 : f < 2) :
    Calls Tryd.prog 17 #[vD g, .int .i64 f] w (ReadV w D.p f) := by
  unfold ReadV
  have HC := hide (check_any f w hD)
  have HD := hide hD
  by_cases h0 : checkE D.p f = 0
  · have hlen := hO.len (i := f) (by omega)
    have HL := hide (show rdL D.p f = D.p.xs f from if_pos h0)
    rw [h0] at HC
    rw [h0]
    generalize rdL D.p f = l at *
    clear h0
    rcases (by omega : f = 0 ∨ f = 1) with rfl | rfl
    · have HL2 := hide (show l = D.p.xs 0 from HL.out)
      have hlen' : (D.p.xs 0).length ≤ 1073741824 := hlen
      rw [← HL2.out] at hlen'
      have HRow := hide (fun w' (h : Below w.heap.size w w') => bytes_of_row ((HD.out.below h).row 0 (by decide)))
      rw [← HL2.out] at HRow
      clear hD hO hlen HL
      go_enter Tryd.func17, Tryd.ntmps17
      go_wp2_with fail
      refine HC.out.mono ?_
      rintro e w1 ⟨rfl, hb1⟩
      have HB1 := hide hb1
      obtain ⟨A, c, hA, hBy, -, hnl, -⟩ := HRow.out w1 hb1
      obtain ⟨c0, c1, c2, c3, c4, c5, c6, c7, c8, c9, c10, c11⟩ := (HD.out.below hb1).cells
      rw [hA] at c0
      have HCl := hide (clone_any A c l w1 hBy (by omega))
      have hlt := (HD.out.below hb1).lt
      clear hb1 hA hBy hnl HRow
      go_wp2_with fail
      refine HCl.out.mono ?_
      rintro e w2 ⟨v2, rfl, hr2, hb2⟩
      have HF := hide (own_mono hr2 HB1.out.size)
      have HB2 := hide (then_below HB1.out hb2)
      obtain ⟨A2, c2, rfl, -⟩ := row_slice hr2
      clear hr2 hb2
      go_wp2_with fail
      go_ret2
      exact ⟨_, rfl, HF.out, HB2.out⟩
    · have HL2 := hide (show l = D.p.xs 1 from HL.out)
      have hlen' : (D.p.xs 1).length ≤ 1073741824 := hlen
      rw [← HL2.out] at hlen'
      have HRow := hide (fun w' (h : Below w.heap.size w w') => bytes_of_row ((HD.out.below h).row 1 (by decide)))
      rw [← HL2.out] at HRow
      clear hD hO hlen HL
      go_enter Tryd.func17, Tryd.ntmps17
      go_wp2_with fail
      refine HC.out.mono ?_
      rintro e w1 ⟨rfl, hb1⟩
      have HB1 := hide hb1
      obtain ⟨A, c, hA, hBy, -, hnl, -⟩ := HRow.out w1 hb1
      obtain ⟨c0, c1, c2, c3, c4, c5, c6, c7, c8, c9, c10, c11⟩ := (HD.out.below hb1).cells
      rw [hA] at c2
      have HCl := hide (clone_any A c l w1 hBy (by omega))
      have hlt := (HD.out.below hb1).lt
      clear hb1 hA hBy hnl HRow
      go_wp2_with fail
      refine HCl.out.mono ?_
      rintro e w2 ⟨v2, rfl, hr2, hb2⟩
      have HF := hide (own_mono hr2 HB1.out.size)
      have HB2 := hide (then_below HB1.out hb2)
      obtain ⟨A2, c2, rfl, -⟩ := row_slice hr2
      clear hr2 hb2
      go_wp2_with fail
      go_ret2
      exact ⟨_, rfl, HF.out, HB2.out⟩
  · have HL := hide (show rdL D.p f = [] from if_neg h0)
    have hb := ne_b h0
    rw [HL.out]
    generalize checkE D.p f = ce at *
    clear hD hO h0 HL
    go_enter Tryd.func17, Tryd.ntmps17
    go_wp2_with fail
    refine HC.out.mono ?_
    rintro e w1 ⟨rfl, hb1⟩
    have HB1 := hide hb1
    clear hb1
    go_wp2_with fail
    go_ret2
    exact ⟨_, rfl, World.ownsRow_nil _ _ _ _, HB1.out⟩
/-- A row of groups of the call's own. -/
structure GrpsOwn (base : Nat) (w : World) (v : Value) (gs : List GH) : Prop where
  row : w.ownsRow base 36 1 v gs.length (gs.map ghd)
  lies : ∀ h, h ∈ gs → RecsIn (fun b => base ≤ b ∧ v.ownBlock ≠ some b) w h.A h.rs ∧ WfG h
theorem GrpsOwn.keep {base : Nat} {w w' : World} {v : Value} {gs : List GH} (k : GrpsOwn base w v gs) (hs : w.heap.size ≤ w'.heap.size) (hb : ∀ b, base ≤ b → b < w.heap.size → w'.heap[b]? = w.heap[b]?) : GrpsOwn base w' v gs :=
  ⟨row_keep k.row fun b e => hb b (k.row.lt b e).1 (k.row.lt b e).2, fun h hm => ⟨(k.lies h hm).1.keep hs fun b e1 e2 => ⟨e1, hb b e1.1 e2⟩, (k.lies h hm).2⟩⟩
theorem GrpsOwn.below {base : Nat} {w w' : World} {v : Value} {gs : List GH} (k : GrpsOwn base w v gs) (hb : Below w.heap.size w w') : GrpsOwn base w' v gs := k.keep hb.size fun b _ h => hb.block b h
theorem GrpsOwn.nil (base : Nat) (w : World) : GrpsOwn base w (.slice none 0 0) [] := ⟨World.ownsRow_nil _ _ _ _, fun h hm => by simp at hm⟩
theorem grp_info : (Tryd.prog.info? 36).map (fun i => (i.zero, i.size, i.bytes)) = some (some (.slice none 0 0), 1, 24) := by kernel_rfl
set_option maxRecDepth 100000 in
/-- append of one group. -/
theorem append_grp {w : World} {ops : Array Oper} {rest : List Oper} {o : Oper} {a : Act} {Q : Exit → Act → World → Prop} (hgd : o.guard = none) (s x : Operand)
    (ho : o.op = .call { callee := .builtin .append, args := #[s, x], argTypes := #[29, 29] })
    (base : Nat) (v : Value) (gs : List GH) (n : Nat) (hn : n = gs.length) (he : a.eval s = v) (hown : GrpsOwn base w v gs) (h : GH) (bl : Nat) (hx : a.eval x = .slice (some ⟨bl, 0, none⟩) 1 1) (hc : w.cell? ⟨bl, 0, none⟩ = some (ghd h))
    (hh : RecsIn (fun b => base ≤ b ∧ v.ownBlock ≠ some b) w h.A h.rs) (hw : WfG h) (hlen : n ≤ 1073741824) (hbase : base ≤ w.heap.size)
    (hk : ∀ v' w', GrpsOwn base w' v' (gs ++ [h]) → w'.ownsRow base 36 1 v' (n + 1) ((gs ++ [h]).map ghd) → w.grownBy w' v.ownBlock → (v'.ownBlock = v.ownBlock ∨ v'.ownBlock = some w.heap.size) → wpList Tryd.prog ops Q rest (a.put o.dst v') w') : wpList Tryd.prog ops Q (o :: rest) a w := by
  subst hn
  obtain ⟨i0, hi, hz0, hz1, hz2⟩ := info_parts grp_info
  have hcat : (gs ++ [h]).map ghd = gs.map ghd ++ [ghd h] := by simp
  refine wpList_append_own_at w hgd s x _ ho base 36 i0 (.slice none 0 0) 1 24 Tryd.underlying29 hi hz0 hz1 hz2 rfl (by decide) v gs.length _ he hown.row ⟨bl, 0, none⟩ 1 1 [ghd h] hx rfl ?_ ?_ (by unfold maxLen; omega) (by omega) hbase ?_
  · intro j u hu
    match j, hu with
    | 0, hu =>
      simp at hu
      subst hu
      exact hc
  · intro u hu
    simp at hu
    subst hu
    rfl
  · intro v' w' h1 h2 _ h4
    rw [← hcat] at h1
    have hap : ∀ b, b < w.heap.size → v.ownBlock ≠ some b → v'.ownBlock ≠ some b := fun b hb hv e => by
      rcases h4 with h5 | h5
      · exact hv (h5.symm.trans e)
      · rw [e] at h5; injection h5 with h5; omega
    have hkeep : ∀ b, (base ≤ b ∧ v.ownBlock ≠ some b) → b < w.heap.size → (base ≤ b ∧ v'.ownBlock ≠ some b) ∧ w'.heap[b]? = w.heap[b]? := fun b hb hlt => ⟨⟨hb.1, hap b hlt hb.2⟩, h2.block b hlt (fun q => hb.2 q.symm)⟩
    refine hk v' w' ⟨by rw [List.length_append]; exact h1, fun k hm => ?_⟩ h1 h2 h4
    rcases List.mem_append.1 hm with hm | hm
    · exact ⟨(hown.lies k hm).1.keep h2.size hkeep, (hown.lies k hm).2⟩
    · simp at hm; subst hm; exact ⟨hh.keep h2.size hkeep, hw⟩
theorem GrpsOwn.grps {base : Nat} {w : World} {v : Value} {gs : List GH} (h : GrpsOwn base w v gs) :
    ∃ A c, v = .slice A gs.length c ∧ GrpsIn (fun b => base ≤ b) w A gs ∧ (A = none → c = 0) ∧ (gs.length ≤ c ∧ c ≤ maxLen) := by
  obtain ⟨A, c, rfl, hnc, hcm⟩ := row_slice h.row
  refine ⟨A, c, rfl, fun j hj => ?_, ?_, hnc, hcm⟩
  · rcases h.row.2 with ⟨_, h0⟩ | ⟨g, cap, cur, e, hb, hg, hn', _, hsz, htk⟩
    · omega
    · injection e with e1 e2 e3
      subst e1
      have hm : gs.getD j dG ∈ gs := by
        rw [List.getD_eq_getElem?_getD, List.getElem?_eq_getElem hj]; exact List.getElem_mem hj
      refine ⟨g, 0, rfl, hb, (Array.getElem?_eq_some_iff.1 hg).1, ?_, (h.lies _ hm).1.mono fun b h1 _ => h1.1, (h.lies _ hm).2⟩
      rw [Nat.zero_add, Lib.cell_of_heap hg]
      have hc : (gs.map ghd)[j]? = some (ghd (gs.getD j dG)) := by
        rw [List.getElem?_map, List.getElem?_eq_getElem hj, List.getD_eq_getElem?_getD, List.getElem?_eq_getElem hj]
        rfl
      rw [← htk, List.getElem?_take_of_lt (by omega)] at hc
      simpa using hc
  · rintro rfl
    rcases h.row.2 with ⟨e, _⟩ | ⟨g, c', cur, e, _⟩
    · injection e
    · injection e with e1; cases e1
end Go.Proofs.YtkdihekhdnnheaaDoor
namespace Go.Proofs.YtkdihekhdnnheaaDoor
open Go.RowKit

def ScanResN (base : Nat) (w : World) (l : List UInt8) (e : Ending) (w' : World) : Prop :=
  ∃ v' hs, e = .returned (.tuple #[v', .int .i64 ((allB (lsOf hs)).length : Nat)]) ∧ Scanned l (lsOf hs) ∧ HeadsOwn base w' v' hs ∧ Below w.heap.size w w' ∧ ∀ x, x ∈ hs → x.A = none → x.c = 0
set_option maxHeartbeats 6400000 in
set_option maxRecDepth 100000 in
theorem scanN_any (A : Option Addr) (c : Nat) (l : List UInt8) (w : World) (hB : BytesAt w.heap.size w A l) (hT : Tab w) (hl : l.length ≤ 1073741824) (hnil : A = none → c = 0) (hcap : l.length ≤ c) (hc : c ≤ 9223372036854775807) (hA : ∀ a, A = some a → a = ⟨a.block, a.off, none⟩) :
    Calls Tryd.prog 59 #[.slice A l.length c] w (ScanResN (w.heap.size + 1) w l) := by
  have HL0 := hide ((Below.refl w.heap.size w).alloc (Nat.le_refl _) (.cells #[.slice A l.length c, .bool false] 96))
  have HI0 := hide (show InAt (fun b => b ≤ w.heap.size) w.heap.size (w.alloc (.cells #[.slice A l.length c, .bool false] 96)) l false from by
    refine ⟨Nat.le_refl _, (fun e => by cases e), A, c, heap_alloc_new w _, hcap, ⟨hc, by omega⟩, hnil, hA, fun j hj => ?_⟩
    obtain ⟨b, off, e, hlt, h0⟩ := hB j hj
    exact ⟨b, off, e, Nat.le_of_lt hlt, by omega, by simp; omega, by rw [Lib.cell?_alloc_some _ h0]⟩)
  have HTb := hide (fun (wr : World) (hbw : Below w.heap.size w wr) w' (h : OnlyG w.heap.size wr w') => hT.stays (Nat.le_refl _) (hbw.trans (h.below (Nat.le_refl _) hbw.size)))
  have HB1 := hide (fun (w' : World) o => (Below.refl w'.heap.size w').alloc (Nat.le_refl _) o)
  clear hB hT hnil hcap hc hA
  unfold ScanResN
  go_enter Tryd.func59, Tryd.ntmps59
  go_wp2_with fail
  go_loopw [2, 3] (fun lv ev wr => ∃ hs rl, l = allB (lsOf hs) ++ rl ∧ ev = .int .i64 ((allB (lsOf hs)).length : Nat) ∧ InAt (fun b => b ≤ w.heap.size) w.heap.size wr rl false ∧ HeadsOwn (w.heap.size + 1) wr lv hs ∧ Below w.heap.size w wr ∧ w.heap.size + 1 ≤ wr.heap.size ∧ hs.length ≤ (allB (lsOf hs)).length ∧ ∀ x, x ∈ hs → x.A = none → x.c = 0) (fun _ ev _ => l.length - (intOf ev).toNat)
  case atStart => exact ⟨[], l, rfl, rfl, HI0.out, HeadsOwn.nil _ _, HL0.out, by simp, by simp, fun x hx => by simp at hx⟩
  case round =>
    obtain ⟨hs, rl, hl1, rfl, hin, hho, hbw, hsz, hhl, hnn⟩ := hrel
    have HNn := hide hnn
    clear hnn
    clear HI0 HL0
    have hll := congrArg List.length hl1
    rw [List.length_append] at hll
    have HF := hide (inFrm_any wr hin (HTb.out wr hbw) (by omega))
    have HHo := hide hho
    have HBw := hide hbw
    have HL1 := hide hl1
    unfold FrmRes at HF
    have hrll : rl.length ≤ 1073741824 := by omega
    have hhb : hs.length ≤ 1073741824 := by omega
    have HLl := hide hll
    clear hin hho hbw hl1 hll
    by_cases ok : FrmOk rl
    · obtain ⟨hd, _, hsl⟩ := frm_dec ok
      have hfl := congrArg List.length hd
      rw [List.length_append] at hfl
      have hfb := frameB_bd (txtS rl)
      have HN := hide (show l = allB (lsOf hs ++ [txtS rl]) ++ frmR rl by rw [allB_snoc, List.append_assoc, ← hd]; exact HL1.out)
      have HE := hide (show (allB (lsOf hs ++ [txtS rl])).length = (allB (lsOf hs)).length + (frameB (txtS rl)).length by rw [allB_snoc, List.length_append])
      have HOk := hide ok
      have HFl := hide hfl
      clear hd ok HL1 hfl
      generalize frameB (txtS rl) = fb at *
      generalize txtS rl = ts at *
      generalize frmR rl = r2 at *
      go_wp2_with fail
      refine HF.out.mono ?_
      rintro e w2 ⟨h1, -, ho2⟩
      obtain ⟨A2, c2, rfl, hn2, hR2, hI2⟩ := h1 HOk.out
      have HI2 := hide hI2
      have HHo2 := hide (HHo.out.keep ho2.size fun b h1 h2 => ho2.block b h2 (by omega))
      have HB2 := hide (HBw.out.trans (ho2.below (Nat.le_refl _) (by omega)))
      have hs2 := ho2.size
      have HC := hide (clone_any A2 c2 ts w2 hR2.bytes (by omega))
      obtain ⟨_, _, Ab, cb, hbx, _⟩ := hI2
      obtain ⟨k0, k1, f0, f1⟩ := InAt.cells hbx
      clear hbx hR2 ho2 hn2 h1 HF
      go_wp2_with fail
      refine HC.out.mono ?_
      rintro e w3 ⟨v3, rfl, hr3, hb3⟩
      have HI3 := hide (HI2.out.below hb3)
      have HHo3 := hide (HHo2.out.below hb3)
      have HB3 := hide (HB2.out.trans (hb3.mono (by omega)))
      have hs3 := hb3.size
      obtain ⟨A3, c3, rfl, hBy3, hA3, hn3, _⟩ := bytes_of_row hr3
      have HN3 := hide hn3
      have HH3 := hide (show HAt (w.heap.size + 1) w3 u2 ⟨A3, c3, ts⟩ from fun j hj => by
        obtain ⟨b, off, e, e1, e2⟩ := hBy3 j hj
        have h1 : w2.heap.size ≤ b := (hA3 _ e).1
        exact ⟨b, off, e, by omega, e1, fun e3 => by have := (HHo2.out.row.lt b e3).2; omega, e2⟩)
      clear hr3 hb3 hBy3 hA3 hn3 k0 k1 f0 f1
      go_wp2_with (at_builtin; go_must (refine append_head rfl _ _ rfl (w.heap.size + 1) u2 hs hs.length rfl rfl (HHo3.out.below (HB1.out w3 _)) ⟨A3, c3, ts⟩ w3.heap.size rfl (Lib.cell_of_heap (heap_alloc_new w3 _) 0) (HH3.out.keep (by simp) fun b _ h _ => Below.heap_alloc _ _ _ h) (by omega) (by simp; omega) ?_))
      intro v4 w4 hho4 hown4 hgrow4
      have HHo4 := hide hho4
      have HB4 := hide (HB3.out.trans (((HB1.out w3 _).mono (by omega)).trans ((Below.refl w.heap.size _).grown hgrow4 (by simp; omega) fun j e => by have := (HHo3.out.row.lt j e).1; omega)))
      have HI4 := hide (HI3.out.keep (w' := w4) (Nat.le_trans (HB1.out w3 (.cells #[hdr ⟨A3, c3, ts⟩] 28)).size hgrow4.size) fun b hle h => (hgrow4.block b (by simp; omega) (fun e => by
        have h1 := (HHo3.out.row.lt b e.symm).1
        have h2 : b ≤ w.heap.size := hle
        omega)).trans (Below.heap_alloc _ _ _ h))
      obtain ⟨A4, c4, rfl, -⟩ := row_slice hown4
      obtain ⟨_, _, Ab4, cb4, hbx4, _⟩ := HI4.out
      obtain ⟨m0, m1, f2, f3⟩ := InAt.cells hbx4
      have HSz := hide (Nat.le_trans (Nat.le_trans hs3 (HB1.out w3 (.cells #[hdr ⟨A3, c3, ts⟩] 28)).size) hgrow4.size)
      clear hho4 hown4 hgrow4 hbx4
      go_wp2_with fail
      go_roundw
      case rel => exact ⟨hs ++ [⟨A3, c3, ts⟩], r2, by rw [lsOf_snoc]; exact HN.out, by rw [lsOf_snoc, HE.out]; have h1 := HLl.out; have h2 := HFl.out; congr 1; omega, HI4.out, HHo4.out, HB4.out, by have := HSz.out; omega, by rw [lsOf_snoc, HE.out, List.length_append]; simp; omega, fun x hx => by
        rcases List.mem_append.1 hx with hx | hx
        · exact HNn.out x hx
        · simp at hx; subst hx; exact HN3.out⟩
      case measure => have h1 := HLl.out; have h2 := HFl.out; simp [intOf]; omega
    · have HNo := hide ok
      have HSc := hide (show Scanned l (lsOf hs) from ⟨rl, HL1.out, ok⟩)
      clear ok
      go_wp2_with fail
      refine HF.out.mono ?_
      rintro e w2 ⟨-, h1, ho2⟩
      obtain ⟨rfl, hI2⟩ := h1 HNo.out
      have HHo2 := hide (HHo.out.keep ho2.size fun b h1 h2 => ho2.block b h2 (by omega))
      have HB2 := hide (HBw.out.trans (ho2.below (Nat.le_refl _) (by omega)))
      obtain ⟨_, _, Ab, cb, hbx, _⟩ := hI2
      obtain ⟨k0, k1, f0, f1⟩ := InAt.cells hbx
      clear hbx ho2 h1 HF
      go_wp2_with fail
      go_ret2
      exact ⟨_, hs, rfl, HSc.out, HHo2.out, HB2.out, HNn.out⟩
end Go.Proofs.YtkdihekhdnnheaaDoor
namespace Go.Proofs.YtkdihekhdnnheaaDoor

theorem endsL_le (fs : List (List UInt8)) (k : Nat) : endsL fs k ≤ (allB fs).length := by
  unfold endsL
  rw [allB_split fs k, List.length_append]
  omega
theorem segF_cons {c : List UInt8} {t : List (List UInt8)} {g : Int} {cp : List UInt8} (h : headM c = some (g, cp)) : segF (c :: t) = ⟨g, endsL (c :: t) (1 + (grpsM t).length), cp, grpsM t⟩ := by
  simp only [segF]; rw [h]
theorem segF_none {c : List UInt8} {t : List (List UInt8)} (h : headM c = none) : segF (c :: t) = seg0 := by
  simp only [segF]; rw [h]
theorem headM_bd {c : List UInt8} {g : Int} {cp : List UInt8} (h : headM c = some (g, cp)) : 1 ≤ g ∧ Int64 g ∧ cp.length ≤ c.length := by
  unfold headM at h
  split at h
  · rename_i hh
    injection h with h; injection h with h1 h2
    subst h1; subst h2
    refine ⟨hh.2.1, intN_i64 _, ?_⟩
    have h1 := int_shrinks c
    have h2 := int_shrinks (intL c)
    have h3 := int_shrinks (intL (intL c))
    unfold txtS
    split
    · rw [List.length_take]; omega
    · simp
  · cases h
theorem mem_allB {fs : List (List UInt8)} {x : List UInt8} (h : x ∈ fs) : x.length ≤ (allB fs).length := by
  induction fs with
  | nil => cases h
  | cons c t ih =>
    rw [allB_cons, List.length_append]
    rcases List.mem_cons.1 h with e | e
    · subst e
      have := (frameB_bd x).1
      omega
    · have := ih e; omega
theorem segF_bd (fs : List (List UInt8)) : 0 ≤ (segF fs).gen ∧ Int64 (segF fs).gen ∧ (segF fs).size ≤ (allB fs).length ∧ (segF fs).cp.length ≤ (allB fs).length := by
  cases fs with
  | nil => exact ⟨Int.le_refl _, by constructor <;> decide, Nat.zero_le _, Nat.zero_le _⟩
  | cons c t =>
    cases hm : headM c with
    | none => rw [segF_none hm]; exact ⟨Int.le_refl _, by constructor <;> decide, Nat.zero_le _, Nat.zero_le _⟩
    | some p =>
      obtain ⟨g, cp⟩ := p
      rw [segF_cons hm]
      obtain ⟨h1, h2, h3⟩ := headM_bd hm
      have h4 := mem_allB (fs := c :: t) (x := c) (by simp)
      exact ⟨by show 0 ≤ g; omega, h2, endsL_le _ _, Nat.le_trans h3 h4⟩
theorem segM_bd {b : List UInt8} {fs : List (List UInt8)} (h : Scanned b fs) (hl : b.length ≤ 4294960000) : 0 ≤ (segM b).gen ∧ Int64 (segM b).gen ∧ (segM b).size ≤ b.length ∧ (segM b).cp.length ≤ b.length := by
  rw [segM_of h hl]
  obtain ⟨r, hr, _⟩ := h
  have : (allB fs).length ≤ b.length := by rw [hr, List.length_append]; omega
  obtain ⟨h1, h2, h3, h4⟩ := segF_bd fs
  exact ⟨h1, h2, by omega, by omega⟩
end Go.Proofs.YtkdihekhdnnheaaDoor
