/-
  The walks of read and Parse.
-/
import Derived.Test.YtfjhdfpdgjjcgaaGreatDoorZT
import Derived.Test.YtfjhdfpdgjjcgaaGreatDoorZS
import Derived.Test.YtfjhdfpdgjjcgaaGreatDoorTCopy
import Derived.Lib.SmallJoins
import Derived.Test.YtfjhdfpdgjjcgaaGreatDoorTCheck

/-
  The only table that a text could be of: the walk of read.
-/
namespace Go.Proofs.YtfjhdfpdgjjcgaaGreatDoor
open Go.RowKit

/-- A table's box. -/
def TabBox (w : World) (P : Nat) (x y : Value) : Prop := w.heap[P]? = some (.cells #[x, y] 26 (0, 0))
theorem TabBox.not {w : World} {P o : Nat} {p q : Option Addr} {n c m d : Nat} {x : Value} (hR : TabBox w P (.slice p n c) (.slice q m d)) (h : w.cell? ⟨P, o, none⟩ = some x) : ∃ a b c, x = .slice a b c := by
  unfold World.cell? at h
  unfold TabBox at hR
  simp only [hR] at h
  match o, h with
  | 0, h => exact ⟨_, _, _, by simpa using h.symm⟩
  | 1, h => exact ⟨_, _, _, by simpa using h.symm⟩
  | k + 2, h => simp at h
theorem HdrOk.box {B P : Nat} {w w' : World} {h : RH} {p q : Option Addr} {n c m d : Nat} (k : HdrOk B w h) (hR : TabBox w P (.slice p n c) (.slice q m d)) (hw : ButAt P w w') : HdrOk B w' h := ⟨fun j hj => by
  obtain ⟨b, o, e, hlt, c0, c1, c2⟩ := k.1 j hj
  have hne : b ≠ P := by
    rintro rfl
    obtain ⟨_, _, _, e⟩ := hR.not c0
    cases e
  exact ⟨b, o, e, hlt, (hw.cell hne).trans c0, (hw.cell hne).trans c1, (hw.cell hne).trans c2⟩, k.2⟩
theorem ColsAt.box {B P : Nat} {w w' : World} {A : Option Addr} {cs : List (ByteArray × Int)} {p q : Option Addr} {n c m d : Nat} (k : ColsAt B w A cs) (hR : TabBox w P (.slice p n c) (.slice q m d)) (hw : ButAt P w w') : ColsAt B w' A cs := fun j hj => by
  obtain ⟨b, o, e, hlt, c0, c1⟩ := k j hj
  have hne : b ≠ P := by
    rintro rfl
    obtain ⟨_, _, _, e⟩ := hR.not c0
    cases e
  exact ⟨b, o, e, hlt, (hw.cell hne).trans c0, (hw.cell hne).trans c1⟩
theorem TabBox.set {w : World} {P : Nat} {x y v : Value} (h : TabBox w P x y) : TabBox (w.setCell ⟨P, 1, none⟩ v) P x v := by
  have := Joins.block_setCell (i := 1) h v
  exact this
theorem TabBox.kept {w w' : World} {P B : Nat} {x y : Value} (h : TabBox w P x y) (hb : Below B w w') (hP : P < B) : TabBox w' P x y := (hb.block P hP).trans h
theorem TabBox.facts {w : World} {P : Nat} {x y : Value} (h : TabBox w P x y) : w.cell? ⟨P, 0, none⟩ = some x ∧ w.cell? ⟨P, 1, none⟩ = some y ∧ w.frozen? ⟨P, 0, none⟩ = false ∧ w.frozen? ⟨P, 1, none⟩ = false ∧ P < w.heap.size := by
  refine ⟨Lib.cell_of_heap h 0, Lib.cell_of_heap h 1, Lib.frozen_of_heap h 0, Lib.frozen_of_heap h 1, ?_⟩
  rcases Nat.lt_or_ge P w.heap.size with h' | h'
  · exact h'
  · unfold TabBox at h; rw [Array.getElem?_eq_none h'] at h; cases h

theorem cut_size2 (l sep : List UInt8) : (Lib.cut l sep).2.1.length ≤ l.length := by
  unfold Lib.cut; split
  · simp
  · simp
theorem rows_end {R : Option R3} {ns : R3} {m : Nat} {l : List UInt8} (hm : l.length + 1 ≤ m) (hR : R = (readRowsM m ns.length l).map (ns ++ ·)) (h : l = [] ∨ 4096 < ns.length) : R = some ns := by
  match m, hm with
  | m + 1, _ =>
    unfold readRowsM at hR
    rw [if_pos h] at hR
    rw [hR]; simp
theorem rows_step {R : Option R3} {ns : R3} {m : Nat} {l : List UInt8} (hm : l.length + 1 ≤ m) (hR : R = (readRowsM m ns.length l).map (ns ++ ·)) (h1 : ¬ l = []) (h2 : ¬ 4096 < ns.length) :
    ((Lib.cut l [10]).2.2 = false ∧ R = none) ∨ ((Lib.cut l [10]).2.2 = true ∧ ((readRowM ((Lib.cut l [10]).1.length + 1) (Lib.cut l [10]).1 = none ∧ R = none) ∨
      ∃ vs, readRowM ((Lib.cut l [10]).1.length + 1) (Lib.cut l [10]).1 = some vs ∧ (Lib.cut l [10]).2.1.length < l.length ∧ ∃ m', (Lib.cut l [10]).2.1.length + 1 ≤ m' ∧ R = (readRowsM m' (ns ++ [vs]).length (Lib.cut l [10]).2.1).map ((ns ++ [vs]) ++ ·))) := by
  match m, hm with
  | m + 1, hm =>
    unfold readRowsM at hR
    rw [if_neg (by rintro (h | h); exact h1 h; exact h2 h)] at hR
    cases hc : (Lib.cut l [10]).2.2
    · rw [hc, if_neg (by simp)] at hR
      exact .inl ⟨rfl, hR⟩
    · rw [hc, if_pos rfl] at hR
      refine .inr ⟨rfl, ?_⟩
      have hl := cut_found (l := l) (a := (Lib.cut l [10]).1) (b := (Lib.cut l [10]).2.1) (by rw [← hc])
      have hlen : (Lib.cut l [10]).2.1.length < l.length := by
        have := congrArg List.length hl
        simp only [List.length_append, List.length_cons] at this
        omega
      cases hv : readRowM ((Lib.cut l [10]).1.length + 1) (Lib.cut l [10]).1 with
      | none => rw [hv] at hR; exact .inl ⟨rfl, hR⟩
      | some vs =>
        rw [hv] at hR
        refine .inr ⟨vs, rfl, hlen, m, by omega, ?_⟩
        simp only at hR
        rw [hR, Option.map_map, List.length_append, List.length_singleton]
        congr 1
        funext r
        simp

theorem rows_shape {w : World} {base : Nat} {e : TypeId} {v : Value} {n : Nat} {xs : List Value} (h : w.ownsRow base e 1 v n xs) : ∃ A c, v = .slice A n c ∧ True ∧ True := by
  rcases h.2 with ⟨rfl, rfl⟩ | ⟨g, cap, cur, rfl, _⟩
  · exact ⟨_, _, rfl, trivial, trivial⟩
  · exact ⟨_, _, rfl, trivial, trivial⟩
/-- What read tells of a text. -/
def ReadGot (R : Option (List (ByteArray × Int) × R3)) (w : World) (e : Ending) (w' : World) : Prop :=
  (match R with
    | some x => ∃ S c A cap ns, e = .returned (.tuple #[.agg #[.slice S (List.length x.1) c, .slice A (List.length ns) cap], .bool true]) ∧ ColsAt w'.heap.size w' S x.1 ∧ RowsAt w'.heap.size w' A ns ∧ rowsOf ns = x.2 ∧ ∀ a, A = some a → w.heap.size ≤ a.block
    | none => e = .returned (.tuple #[.agg #[.slice none 0 0, .slice none 0 0], .bool false])) ∧ Below w.heap.size w w'

def restM (t : Value) : Nat := match t with
  | .string s => s.size
  | _ => 0

set_option maxHeartbeats 6400000 in
set_option maxRecDepth 100000 in
theorem read_any (s : ByteArray) (w : World) (hs : s.size ≤ 1000000) (hT : Tab w) (hE : Errs w) (hM : Mx w) :
    Calls Tryz.prog 43 #[.string s] w (ReadGot (readT s.data.toList) w) := by
  have HT := hide hT; have HE := hide hE; have HM := hide hM
  have HCut := hide (fun (u : ByteArray) (hu : u.size ≤ 1000000) m w hm => Tryz.strings_Cut u ⟨#[10]⟩ m w (by omega) hm)
  have HRT := hide (show readT s.data.toList = if (Lib.cut s.data.toList [10]).2.2 = true then
      match parsedC ⟨(Lib.cut s.data.toList [10]).1.toArray⟩ with
      | none => none
      | some cs => (readRowsM ((Lib.cut s.data.toList [10]).2.1.length + 1) 0 (Lib.cut s.data.toList [10]).2.1).map fun rs => (cs, rs)
    else none from rfl)
  have hca := cut_size s.data.toList [10]
  have hcb := cut_size2 s.data.toList [10]
  have hsl : s.data.toList.length = s.size := by simp
  rw [hsl] at hca hcb
  generalize readT s.data.toList = R0 at HRT ⊢
  clear hT hE hM hsl
  go_enter Tryz.func43, Tryz.ntmps43
  go_wp2_with fail
  have hb0 : Below w.heap.size w (w.alloc (.cells #[.slice none 0 0, .slice none 0 0] 26)) := Joins.below_alloc1 w _
  obtain ⟨m, hm⟩ := HM.out.stays hb0
  refine (HCut.out s hs m _ hm).mono ?_
  clear hm
  rintro e w' ⟨rfl, n, rfl⟩
  generalize Lib.cut s.data.toList [10] = C at HRT hca hcb ⊢
  obtain ⟨a, b, fin⟩ := C
  simp only at hca hcb
  have hb1 : Below w.heap.size w ((w.alloc (.cells #[.slice none 0 0, .slice none 0 0] 26)).drewN n) := below_drewN hb0 n
  have hbx : TabBox ((w.alloc (.cells #[.slice none 0 0, .slice none 0 0] 26)).drewN n) w.heap.size (.slice none 0 0) (.slice none 0 0) := heap_alloc_new w _
  have hz1 : ((w.alloc (.cells #[.slice none 0 0, .slice none 0 0] 26)).drewN n).heap.size = w.heap.size + 1 := by show (w.alloc _).heap.size = _; simp
  go_wp2_with fail
  generalize (w.alloc (.cells #[.slice none 0 0, .slice none 0 0] 26)).drewN n = W1 at *
  have HB1 := hide hb1; have HBX := hide hbx; have HZ1 := hide hz1
  have HPa := hide (parse_any ⟨a.toArray⟩ W1 (by rw [size_of]; omega) (HM.out.stays hb1))
  clear hb1 hbx hz1 hb0
  unfold ParseR at HPa
  have HFail := hide (fun w2 (hb : Below W1.heap.size W1 w2) => (by
    have hz := HZ1.out
    have hf := (HBX.out.kept hb (by omega)).facts
    exact ⟨hf.1, hf.2.1, hf.2.2.1, hf.2.2.2.1, hf.2.2.2.2, ((then_below HB1.out hb).setCell (p := ⟨w.heap.size, 0, none⟩) (Nat.le_refl _) (.slice none 0 0)).setCell (p := ⟨w.heap.size, 1, none⟩) (Nat.le_refl _) (.slice none 0 0)⟩ :
    w2.cell? ⟨w.heap.size, 0, none⟩ = some (.slice none 0 0) ∧ w2.cell? ⟨w.heap.size, 1, none⟩ = some (.slice none 0 0) ∧ w2.frozen? ⟨w.heap.size, 0, none⟩ = false ∧ w2.frozen? ⟨w.heap.size, 1, none⟩ = false ∧ w.heap.size < w2.heap.size ∧
      Below w.heap.size w ((w2.setCell ⟨w.heap.size, 0, none⟩ (.slice none 0 0)).setCell ⟨w.heap.size, 1, none⟩ (.slice none 0 0))))
  cases fin
  · have HR0 := hide (show R0 = none from HRT.out)
    cases hpc : parsedC ⟨a.toArray⟩ with
    | none =>
      rw [hpc] at HPa
      refine HPa.out.mono ?_
      rintro e w2 ⟨rfl, hb2⟩
      obtain ⟨r0, r1, f0, f1, hz, hfin⟩ := HFail.out _ hb2
      clear hpc
      go_wp2_with fail
      refine bodyPost_ret (v := .tuple #[.agg #[.slice none 0 0, .slice none 0 0], .bool false]) (by simp [results, Tryz.results43, go_sem, r0, r1]) rfl ?_
      rw [HR0.out]
      exact ⟨rfl, hfin⟩
    | some cs =>
      rw [hpc] at HPa
      refine HPa.out.mono ?_
      rintro e w2 ⟨⟨S, c, rfl, hS⟩, hb2⟩
      obtain ⟨r0, r1, f0, f1, hz, hfin⟩ := HFail.out _ hb2
      clear hpc hS
      go_wp2_with fail
      refine bodyPost_ret (v := .tuple #[.agg #[.slice none 0 0, .slice none 0 0], .bool false]) (by simp [results, Tryz.results43, go_sem, r0, r1]) rfl ?_
      rw [HR0.out]
      exact ⟨rfl, hfin⟩
  · cases hpc : parsedC ⟨a.toArray⟩ with
    | none =>
      rw [hpc] at HPa
      have HR0 := hide (show R0 = none by rw [HRT.out]; simp only; rw [if_pos trivial, hpc])
      refine HPa.out.mono ?_
      rintro e w2 ⟨rfl, hb2⟩
      obtain ⟨r0, r1, f0, f1, hz, hfin⟩ := HFail.out _ hb2
      clear hpc
      go_wp2_with fail
      refine bodyPost_ret (v := .tuple #[.agg #[.slice none 0 0, .slice none 0 0], .bool false]) (by simp [results, Tryz.results43, go_sem, r0, r1]) rfl ?_
      rw [HR0.out]
      exact ⟨rfl, hfin⟩
    | some cs =>
      rw [hpc] at HPa
      have HR0 := hide (show R0 = (readRowsM (b.length + 1) 0 b).map fun rs => (cs, rs) by rw [HRT.out]; simp only; rw [if_pos trivial, hpc])
      refine HPa.out.mono ?_
      rintro e w2 ⟨⟨S, c, rfl, hS⟩, hb2⟩
      have hbP : TabBox (w2.alloc (.cells #[.slice S cs.length c, .slice none 0 0] 26)) w2.heap.size (.slice S cs.length c) (.slice none 0 0) := heap_alloc_new w2 _
      have hz4 : (w2.alloc (.cells #[.slice S cs.length c, .slice none 0 0] 26)).heap.size = w2.heap.size + 1 := by simp
      have hb4 : Below w2.heap.size w2 (w2.alloc (.cells #[.slice S cs.length c, .slice none 0 0] 26)) := Joins.below_alloc1 w2 _
      have hb14 := then_below hb2 hb4
      have hl4 := then_below HB1.out hb14
      have hs4 := hS.below hb4
      have hPw : w.heap.size + 1 ≤ w2.heap.size := by have := hb2.size; have := HZ1.out; omega
      clear hpc
      go_wp2_with fail
      generalize (w2.alloc (.cells #[.slice S cs.length c, .slice none 0 0] 26)) = W4 at *
      generalize w2.heap.size = P at *
      have HBP := hide hbP; have HB14 := hide hb14; have HL4 := hide hl4; have HS4 := hide hs4
      clear hbP hb14 hl4 hs4 hb2 hS hb4
      obtain ⟨R1, hR1⟩ : ∃ R1, R1 = readRowsM (b.length + 1) 0 b := ⟨_, rfl⟩
      rw [← hR1] at HR0
      have HR1 := hide hR1
      obtain ⟨i0, hi, hy0, hy1, hy2⟩ := info_parts row_info
      clear hR1
      go_loopw [5] (fun t wr => ∃ (t' : ByteArray) (v : Value) (ns : List RH) (m : Nat), t = .string t' ∧ t'.size ≤ s.size ∧ TabBox wr P (.slice S cs.length c) v ∧ wr.ownsRow W4.heap.size 27 1 v ns.length (ns.map hdr) ∧ (∀ h ∈ ns, HdrOk wr.heap.size wr h ∧ ApH v h) ∧
        Below P W4 wr ∧ W4.heap.size ≤ wr.heap.size ∧ ns.length ≤ 4097 ∧ t'.data.toList.length + 1 ≤ m ∧ R1 = (readRowsM m (rowsOf ns).length t'.data.toList).map (rowsOf ns ++ ·)) (fun t _ => restM t)
      case atStart =>
        refine ⟨⟨b.toArray⟩, .slice none 0 0, [], b.length + 1, rfl, by rw [size_of]; exact hcb, HBP.out, World.ownsRow_nil _ _ _ _, fun h hh => by simp at hh, Below.refl _ _, Nat.le_refl _, by simp, by rw [list_of]; exact Nat.le_refl _, ?_⟩
        rw [HR1.out, list_of]
        show readRowsM (b.length + 1) 0 b = (readRowsM (b.length + 1) 0 b).map ((rowsOf []) ++ ·)
        unfold rowsOf
        cases readRowsM (b.length + 1) 0 b <;> rfl
      case round =>
        obtain ⟨t, v, ns, m, rfl, hts, hbx, hown, hok, hbw, hsz, hnl, hm, hR⟩ := hrel
        obtain ⟨A1, c1, e1, hA1, -⟩ := rows_of_row hown (fun h hh => (hok h hh).1) (Nat.le_refl _)
        subst e1
        have HOW := hide hown; have HOK := hide hok; have HBx := hide hbx
        obtain ⟨x0, x1, y0, y1, hPl⟩ := hbx.facts
        clear hown hok hA1 hbx
        by_cases he : t.data.toList = []
        · have he1 : (t.toList == []) = true := by rw [Lib.toList_data, he]; rfl
          have he2 : (t.toList != []) = false := by rw [Lib.toList_data, he]; rfl
          have HRS := hide (rows_end hm hR (.inl he))
          clear he hR
          have hq := hide (HB14.out.trans (hbw.mono (by rw [HZ1.out]; omega)))
          obtain ⟨r0, r1, f0, f1, hz0, -⟩ := HFail.out _ hq.out
          have HSr := hide ((HS4.out.below hbw).mono (show P ≤ wr.heap.size by omega))
          have HBx0 := hide (HBX.out.kept hq.out (by rw [HZ1.out]; omega))
          clear hts hm
          go_wp2_with fail
          refine bodyPost_ret (v := .tuple #[.agg #[.slice S cs.length c, .slice A1 ns.length c1], .bool true]) (by simp [results, Tryz.results43, go_sem, r0, r1]) rfl ?_
          have hbut : ButAt w.heap.size wr ((wr.setCell ⟨w.heap.size, 0, none⟩ (.slice S cs.length c)).setCell ⟨w.heap.size, 1, none⟩ (.slice A1 ns.length c1)) := (butAt_set _ _ _ _).trans (butAt_set _ _ _ _)
          have hown' := ownsRow_setCell_below (ownsRow_setCell_below HOW.out (a := ⟨w.heap.size, 0, none⟩) (show w.heap.size < W4.heap.size by omega) (.slice S cs.length c)) (a := ⟨w.heap.size, 1, none⟩) (show w.heap.size < W4.heap.size by omega) (.slice A1 ns.length c1)
          obtain ⟨A3, c3, e3, hA3, -⟩ := rows_of_row hown' (B := wr.heap.size) (fun h hh => ((HOK.out h hh).1).box HBx0.out hbut) (Nat.le_of_eq hbut.2.symm)
          simp only [Value.slice.injEq] at e3
          obtain ⟨rfl, -, rfl⟩ := e3
          rw [HR0.out, HRS.out]
          refine ⟨⟨S, c, A1, c1, ns, rfl, ?_, hA3, rfl, fun a ha => by subst ha; have := (HOW.out.lt a.block rfl).1; omega⟩, ((HL4.out.trans (hbw.mono (by omega))).setCell (p := ⟨w.heap.size, 0, none⟩) (Nat.le_refl _) _).setCell (p := ⟨w.heap.size, 1, none⟩) (Nat.le_refl _) _⟩
          rw [hbut.2]
          exact HSr.out.box HBx0.out hbut
        · have he1 : (t.toList == []) = false := by rw [Lib.toList_data]; simpa using he
          have he2 : (t.toList != []) = true := by rw [Lib.toList_data]; simpa using he
          by_cases hk : (ns.length : Int) ≤ 4096
          · have hrs := rows_step hm hR he (by rw [rowsOf_len]; omega)
            have hc1 := cut_size t.data.toList [10]
            have hc2 := cut_size2 t.data.toList [10]
            have htl : t.data.toList.length = t.size := by simp
            rw [htl] at hc1 hc2 hrs
            have hbW : Below w.heap.size w wr := HL4.out.trans (hbw.mono (by omega))
            have HBW := hide hbW
            obtain ⟨m0, hm0⟩ := HM.out.stays hbW
            have HCt := hide (HCut.out t (by omega) m0 wr hm0)
            clear he hR hm hm0 hbW htl
            go_wp2_with fail
            refine HCt.out.mono ?_
            rintro e w' ⟨rfl, n', rfl⟩
            generalize Lib.cut t.data.toList [10] = C at *
            obtain ⟨a2, b2, fin2⟩ := C
            simp only at hrs hc1 hc2
            have hwd : Below wr.heap.size wr (wr.drewN n') := below_drewN (Below.refl _ _) n'
            have hzd : (wr.drewN n').heap.size = wr.heap.size := rfl
            have hbxd : TabBox (wr.drewN n') P (.slice S cs.length c) (.slice A1 ns.length c1) := HBx.out
            have hownd : (wr.drewN n').ownsRow W4.heap.size 27 1 (.slice A1 ns.length c1) ns.length (ns.map hdr) := HOW.out
            have hokd : ∀ h ∈ ns, HdrOk (wr.drewN n').heap.size (wr.drewN n') h ∧ ApH (.slice A1 ns.length c1) h := HOK.out
            have hbd : Below P W4 (wr.drewN n') := below_drewN hbw n'
            clear x0 x1 y0 y1 hPl HCt
            go_wp2_with fail
            generalize wr.drewN n' = wd at *
            have HBD := hide hbd; have HOD := hide hownd; have HKD := hide hokd; have HXD := hide hbxd
            have HWD := hide (then_below HBW.out hwd)
            have HQ := hide (HB14.out.trans (hbd.mono (by rw [HZ1.out]; omega)))
            have HRr := hide (readRow_any ⟨a2.toArray⟩ wd (by rw [size_of]; omega) (HT.out.stays HWD.out (Nat.le_refl _)) (HE.out.stays HWD.out (Nat.le_refl _)) (HM.out.stays HWD.out))
            unfold RowGot at HRr
            rw [list_of] at HRr
            have hzd' : W4.heap.size ≤ wd.heap.size := by rw [hzd]; exact hsz
            clear hwd hbd hownd hokd hbxd hbw HBW HBx HOW HOK hzd hsz
            rcases hrs with ⟨hf, hRn⟩ | ⟨hf, ⟨hv, hRn⟩ | ⟨vs, hv, hlt, m', hm', hRR⟩⟩
            · subst hf
              have HRn := hide hRn
              clear hRn
              cases hv : readRowM (a2.length + 1) a2 with
              | none =>
                rw [hv] at HRr
                clear hv
                refine HRr.out.mono ?_
                rintro e w3 ⟨⟨A2, n2, c2, rfl⟩, hb3⟩
                obtain ⟨r0, r1, f0, f1, hz0, hfin⟩ := HFail.out _ (then_below HQ.out hb3)
                go_wp2_with fail
                refine bodyPost_ret (v := .tuple #[.agg #[.slice none 0 0, .slice none 0 0], .bool false]) (by simp [results, Tryz.results43, go_sem, r0, r1]) rfl ?_
                rw [HR0.out, HRn.out]
                exact ⟨rfl, hfin⟩
              | some vs =>
                rw [hv] at HRr
                clear hv
                refine HRr.out.mono ?_
                rintro e w3 ⟨⟨A2, c2, rfl, hA2, -, -⟩, hb3⟩
                clear hA2
                obtain ⟨r0, r1, f0, f1, hz0, hfin⟩ := HFail.out _ (then_below HQ.out hb3)
                go_wp2_with fail
                refine bodyPost_ret (v := .tuple #[.agg #[.slice none 0 0, .slice none 0 0], .bool false]) (by simp [results, Tryz.results43, go_sem, r0, r1]) rfl ?_
                rw [HR0.out, HRn.out]
                exact ⟨rfl, hfin⟩
            · subst hf
              have HRn := hide hRn
              rw [hv] at HRr
              clear hRn hv
              refine HRr.out.mono ?_
              rintro e w3 ⟨⟨A2, n2, c2, rfl⟩, hb3⟩
              obtain ⟨r0, r1, f0, f1, hz0, hfin⟩ := HFail.out _ (then_below HQ.out hb3)
              go_wp2_with fail
              refine bodyPost_ret (v := .tuple #[.agg #[.slice none 0 0, .slice none 0 0], .bool false]) (by simp [results, Tryz.results43, go_sem, r0, r1]) rfl ?_
              rw [HR0.out, HRn.out]
              exact ⟨rfl, hfin⟩
            · subst hf
              rw [hv] at HRr
              have HX := hide hRR; have HM' := hide hm'; have HLt := hide hlt
              clear hRR hm' hlt hv
              refine HRr.out.mono ?_
              rintro e w3 ⟨⟨A2, c2, rfl, hA2, hn2, hf2⟩, hb3⟩
              have HA2 := hide hA2; have HN2 := hide hn2; have HF2 := hide hf2; have HB3 := hide hb3
              have hown3 := HOD.out.kept (only_of_below hb3 none) (by cases A1 <;> simp [Value.ownBlock])
              have hbx3 := HXD.out.kept hb3 (by omega)
              obtain ⟨x0, x1, y0, y1, hPl⟩ := hbx3.facts
              have hs3 := hb3.size
              have HRL := hide (show ∀ a, A2 = some a → (Value.slice A1 ns.length c1).ownBlock = some a.block → (A2, c2, vs).2.2 = [] from fun a h1 h2 => by
                have := HF2.out a h1
                have := (HOD.out.lt _ h2).2
                omega)
              have HX3 := hide hbx3
              clear hA2 hn2 hf2 hb3 hbx3 HRr
              go_wp2_with (at_builtin; go_must (refine wpList_append_own_at _ rfl _ _ 24 rfl W4.heap.size 27 i0 (.slice none 0 0) 1 24 Tryz.underlying24 hi hy0 hy1 hy2 rfl (by decide) (.slice A1 ns.length c1) ns.length (ns.map hdr) rfl (hown3.alloc _) ⟨w3.heap.size, 0, none⟩ 1 1 [hdr (A2, c2, vs)] rfl rfl (hdr_new _ _ (A2, c2, vs) _ rfl) (hdr_one _) (by unfold maxLen; omega) (by omega) (by simp; omega) ?_))
              intro v5 w5 hown5 hgrow5 _ hat5
              obtain ⟨A5, c5, e5, -, -⟩ := rows_shape hown5
              subst e5
              have HO5 := hide hown5; have HG5 := hide hgrow5; have HAT := hide hat5
              have hs5 := hgrow5.size
              simp at hs5
              have hne5 : (Value.slice A1 ns.length c1).ownBlock ≠ some P := fun h => by
                have := (HOD.out.lt _ h).1
                omega
              have hbx5 : TabBox w5 P (.slice S cs.length c) (.slice A1 ns.length c1) := by
                unfold TabBox
                rw [hgrow5.block P (by simp; omega) (fun h => hne5 h.symm), Below.heap_alloc _ _ _ hPl]
                exact HX3.out
              have HX5 := hide hbx5
              obtain ⟨z0, z1, q0, q1, hPl5⟩ := hbx5.facts
              clear hown5 hgrow5 hat5 hbx5 x0 x1 y0 y1
              go_wp2_with fail
              have HBUT := hide (butAt_set P 1 w5 (.slice A5 (ns.length + 1) c5))
              go_roundw
              case rel =>
                have hal := Joins.below_alloc1 w3 (.cells #[hdr (A2, c2, vs)] 27)
                have hok2 : ∀ h ∈ ns ++ [(A2, c2, vs)], HdrOk (w3.alloc (.cells #[hdr (A2, c2, vs)] 27)).heap.size (w3.alloc (.cells #[hdr (A2, c2, vs)] 27)) h ∧ ApH (.slice A1 ns.length c1) h := fun h hh => by
                  rcases List.mem_append.1 hh with hh | hh
                  · obtain ⟨a1, a2⟩ := HKD.out h hh
                    exact ⟨(a1.on HB3.out).on hal, a2⟩
                  · simp at hh
                    subst hh
                    exact ⟨HdrOk.on (h := (A2, c2, vs)) ⟨HA2.out, HN2.out⟩ hal, HRL.out⟩
                have hro : rowsOf (ns ++ [(A2, c2, vs)]) = rowsOf ns ++ [vs] := by unfold rowsOf; rw [List.map_append]; rfl
                have hlt := HLt.out
                have hb2s := size_of b2
                refine ⟨⟨b2.toArray⟩, _, ns ++ [(A2, c2, vs)], m', rfl, by rw [hb2s]; omega, HX5.out.set, ?_, fun h hh => ?_, ?_, ?_, ?_, by rw [list_of]; exact HM'.out, by rw [list_of, hro]; exact HX.out⟩
                · rw [List.length_append, List.map_append]
                  have hO := HO5.out
                  rw [← hz4] at hO
                  exact ownsRow_setCell_below hO (a := ⟨P, 1, none⟩) (by simp only; omega) _
                · obtain ⟨a1, a2⟩ := hok2 h hh
                  have h3 := hdr_grown a1 HG5.out (fun a h1 h2 => a2 a h1 h2)
                  rw [HBUT.out.2]
                  exact ⟨h3.box HX5.out HBUT.out, apH_step (H := w3.heap.size + 1) a2 a1 (by simp) HAT.out⟩
                · exact (((HBD.out.trans (HB3.out.mono (by omega))).alloc (by omega) _).grown HG5.out (by simp; omega) (fun j hj => by have := (HOD.out.lt j hj).1; omega)).setCell (p := ⟨P, 1, none⟩) (Nat.le_refl _) _
                · rw [HBUT.out.2]; omega
                · rw [List.length_append]; simp; omega
              case measure =>
                have hlt := HLt.out
                have hb2s := size_of b2
                simp only [restM]
                omega
          · have HRS := hide (rows_end hm hR (.inr (by rw [rowsOf_len]; omega)))
            clear he hR
            have hq := hide (HB14.out.trans (hbw.mono (by rw [HZ1.out]; omega)))
            obtain ⟨r0, r1, f0, f1, hz0, -⟩ := HFail.out _ hq.out
            have HSr := hide ((HS4.out.below hbw).mono (show P ≤ wr.heap.size by omega))
            have HBx0 := hide (HBX.out.kept hq.out (by rw [HZ1.out]; omega))
            clear hts hm
            go_wp2_with fail
            refine bodyPost_ret (v := .tuple #[.agg #[.slice S cs.length c, .slice A1 ns.length c1], .bool true]) (by simp [results, Tryz.results43, go_sem, r0, r1]) rfl ?_
            have hbut : ButAt w.heap.size wr ((wr.setCell ⟨w.heap.size, 0, none⟩ (.slice S cs.length c)).setCell ⟨w.heap.size, 1, none⟩ (.slice A1 ns.length c1)) := (butAt_set _ _ _ _).trans (butAt_set _ _ _ _)
            have hown' := ownsRow_setCell_below (ownsRow_setCell_below HOW.out (a := ⟨w.heap.size, 0, none⟩) (show w.heap.size < W4.heap.size by omega) (.slice S cs.length c)) (a := ⟨w.heap.size, 1, none⟩) (show w.heap.size < W4.heap.size by omega) (.slice A1 ns.length c1)
            obtain ⟨A3, c3, e3, hA3, -⟩ := rows_of_row hown' (B := wr.heap.size) (fun h hh => ((HOK.out h hh).1).box HBx0.out hbut) (Nat.le_of_eq hbut.2.symm)
            simp only [Value.slice.injEq] at e3
            obtain ⟨rfl, -, rfl⟩ := e3
            rw [HR0.out, HRS.out]
            refine ⟨⟨S, c, A1, c1, ns, rfl, ?_, hA3, rfl, fun a ha => by subst ha; have := (HOW.out.lt a.block rfl).1; omega⟩, ((HL4.out.trans (hbw.mono (by omega))).setCell (p := ⟨w.heap.size, 0, none⟩) (Nat.le_refl _) _).setCell (p := ⟨w.heap.size, 1, none⟩) (Nat.le_refl _) _⟩
            rw [hbut.2]
            exact HSr.out.box HBx0.out hbut
end Go.Proofs.YtfjhdfpdgjjcgaaGreatDoor

/-
  The table whose text this is, or the error: the walk of Parse.
-/
namespace Go.Proofs.YtfjhdfpdgjjcgaaGreatDoor
open Go.RowKit

theorem RowsAt.box {B P : Nat} {w w' : World} {A : Option Addr} {hs : List RH} {p q : Option Addr} {n c m d : Nat} (h : RowsAt B w A hs) (hR : TabBox w P (.slice p n c) (.slice q m d)) (hw : ButAt P w w') (hA : ∀ a, A = some a → a.block ≠ P) : RowsAt B w' A hs :=
  ⟨fun j hj => by
    obtain ⟨b, off, e, hlt, h0⟩ := h.1 j hj
    have := hA _ e
    exact ⟨b, off, e, hlt, (hw.cell this).trans h0⟩, fun x hx => (h.2 x hx).box hR hw⟩
theorem good_wf {v : Int × Int × ByteArray} (h : Good v) : valWf v := by
  obtain ⟨a, b, c⟩ := h
  have := rightV_size a
  unfold I64 at b c
  exact ⟨b, c, by unfold maxLen; omega⟩
theorem readRowsM_wf : ∀ (n k : Nat) (l : List UInt8) (rs : R3), readRowsM n k l = some rs → rs.length ≤ n ∧ ∀ r ∈ rs, r.length ≤ l.length + 1 ∧ ∀ v ∈ r, Good v
  | 0, _, _, _, h => by cases h
  | n + 1, k, l, rs, h => by
    unfold readRowsM at h
    split at h
    · injection h with h
      subst h
      exact ⟨Nat.zero_le _, fun r hr => by simp at hr⟩
    · split at h
      · split at h
        · cases h
        · rename_i r hr
          obtain ⟨ws, hw, rfl⟩ := Option.map_eq_some_iff.1 h
          obtain ⟨_, h2, h3⟩ := readRowM_sound _ _ _ hr
          obtain ⟨g1, g2⟩ := readRowsM_wf n _ _ ws hw
          have hc1 := cut_size l [10]
          have hc2 := cut_size2 l [10]
          have hln := good_line_len h2
          rw [h3] at hln
          refine ⟨by simp; omega, fun x hx => ?_⟩
          rcases List.mem_cons.1 hx with rfl | hx
          · exact ⟨by omega, h2⟩
          · have := (g2 x hx).1
            exact ⟨by omega, (g2 x hx).2⟩
      · cases h
theorem parsedC_wf {t : ByteArray} {cs : List (ByteArray × Int)} (h : parsedC t = some cs) (ht : t.size ≤ maxLen) : Wf cs := by
  unfold parsedC at h
  split at h
  · injection h with h
    subst h
    have hl := parts_len t
    refine ⟨by unfold colsOf maxLen; rw [List.length_map]; omega, fun c hc => ?_⟩
    unfold colsOf at hc
    obtain ⟨p, hp, rfl⟩ := List.mem_map.1 hc
    exact readC_wf p (Nat.le_trans (parts_size t p hp) ht)
  · cases h
theorem readT_wf {l : List UInt8} {x : List (ByteArray × Int) × R3} (hl : l.length ≤ 1000000) (h : readT l = some x) : Wf x.1 ∧ WfT x.2 := by
  unfold readT at h
  split at h
  · split at h
    · cases h
    · rename_i cs hp
      obtain ⟨rs, hr, rfl⟩ := Option.map_eq_some_iff.1 h
      have hc1 := cut_size l [10]
      have hc2 := cut_size2 l [10]
      obtain ⟨g1, g2⟩ := readRowsM_wf _ _ _ _ hr
      refine ⟨parsedC_wf hp (by rw [size_of]; unfold maxLen; omega), (show rs.length ≤ maxLen by unfold maxLen; omega), fun r hr => ?_⟩
      obtain ⟨h1, h2⟩ := g2 r hr
      exact ⟨by unfold maxLen; omega, fun v hv => good_wf (h2 v hv)⟩
  · cases h

/-- What Parse tells of a text. -/
def ParseT (R : Option (List (ByteArray × Int) × R3)) (w : World) (e : Ending) (w' : World) : Prop :=
  (match R with
    | some x => ∃ S c A cap ns, e = .returned (.tuple #[.agg #[.slice S (List.length x.1) c, .slice A (List.length ns) cap], .int .i64 0]) ∧ ColsAt w'.heap.size w' S x.1 ∧ RowsAt w'.heap.size w' A ns ∧ rowsOf ns = x.2
    | none => e = .returned (.tuple #[.agg #[.slice none 0 0, .slice none 0 0], .int .i64 20])) ∧ Below w.heap.size w w'

set_option maxHeartbeats 3200000 in
set_option maxRecDepth 100000 in
theorem parseT_any (s : ByteArray) (w : World) (hs : s.size ≤ 1000000) (hT : Tab w) (hE : Errs w) (hM : Mx w) :
    Calls Tryz.prog 21 #[.string s] w (ParseT (parseT s.data.toList) w) := by
  have hb0 : Below w.heap.size w (w.alloc (.cells #[.slice none 0 0, .slice none 0 0] 26)) := Joins.below_alloc1 w _
  have hbx : TabBox (w.alloc (.cells #[.slice none 0 0, .slice none 0 0] 26)) w.heap.size (.slice none 0 0) (.slice none 0 0) := heap_alloc_new w _
  have hz1 : (w.alloc (.cells #[.slice none 0 0, .slice none 0 0] 26)).heap.size = w.heap.size + 1 := by simp
  have HRd := hide (read_any s _ hs (hT.stays hb0 (Nat.le_refl _)) (hE.stays hb0 (Nat.le_refl _)) (hM.stays hb0))
  have hPT : parseT s.data.toList = match readT s.data.toList with
    | none => none
    | some x => if fullT x.1 x.2 = 0 then some x else none := rfl
  have hwf := fun x (h : readT s.data.toList = some x) => readT_wf (by simpa using hs) h
  generalize hW : w.alloc (.cells #[.slice none 0 0, .slice none 0 0] 26) = W1 at *
  have HB1 := hide hb0; have HBX := hide hbx; have HZ1 := hide hz1
  have HFail := hide (fun w2 (hb : Below W1.heap.size W1 w2) => (by
    have hz := HZ1.out
    have hf := (HBX.out.kept hb (by omega)).facts
    exact ⟨hf.1, hf.2.1, hf.2.2.1, hf.2.2.2.1, hf.2.2.2.2, ((then_below HB1.out hb).setCell (p := ⟨w.heap.size, 0, none⟩) (Nat.le_refl _) (.slice none 0 0)).setCell (p := ⟨w.heap.size, 1, none⟩) (Nat.le_refl _) (.slice none 0 0)⟩ :
    w2.cell? ⟨w.heap.size, 0, none⟩ = some (.slice none 0 0) ∧ w2.cell? ⟨w.heap.size, 1, none⟩ = some (.slice none 0 0) ∧ w2.frozen? ⟨w.heap.size, 0, none⟩ = false ∧ w2.frozen? ⟨w.heap.size, 1, none⟩ = false ∧ w.heap.size < w2.heap.size ∧
      Below w.heap.size w ((w2.setCell ⟨w.heap.size, 0, none⟩ (.slice none 0 0)).setCell ⟨w.heap.size, 1, none⟩ (.slice none 0 0))))
  generalize parseT s.data.toList = R0 at hPT ⊢
  cases hrt : readT s.data.toList with
  | none =>
    rw [hrt] at hPT HRd
    have HR0 := hide (show R0 = none from hPT)
    have HW := hide hW
    clear hrt hPT hwf hb0 hbx hz1 hT hE hM hW
    go_enter Tryz.func21, Tryz.ntmps21
    go_wp2_with fail
    rw [HW.out]
    refine HRd.out.mono ?_
    rintro e w2 ⟨rfl, hb2⟩
    obtain ⟨r0, r1, f0, f1, hz, hfin⟩ := HFail.out _ (hb2.alloc hb2.size (.cells #[.slice none 0 0, .slice none 0 0] 26))
    go_wp2_with fail
    refine bodyPost_ret (v := .tuple #[.agg #[.slice none 0 0, .slice none 0 0], .int .i64 20]) (by simp [results, Tryz.results21, go_sem, r0, r1]) rfl ?_
    rw [HR0.out]
    exact ⟨rfl, hfin⟩
  | some x =>
    rw [hrt] at hPT HRd
    obtain ⟨hwc, hwt⟩ := hwf x hrt
    have HW := hide hW; have HWC := hide hwc; have HWT := hide hwt
    obtain ⟨cs, rs⟩ := x
    simp only at hPT
    have HPT := hide hPT
    clear hrt hPT hwf hb0 hbx hz1 hT hE hM hW hwc hwt
    go_enter Tryz.func21, Tryz.ntmps21
    go_wp2_with fail
    rw [HW.out]
    refine HRd.out.mono ?_
    rintro e w2 ⟨⟨S, c, A, cap, ns, rfl, hS, hA, hns, hfr⟩, hb2⟩
    simp only at hS hns
    subst hns
    have hbP : TabBox (w2.alloc (.cells #[.slice S cs.length c, .slice A ns.length cap] 26)) w2.heap.size (.slice S cs.length c) (.slice A ns.length cap) := heap_alloc_new w2 _
    have hz4 : (w2.alloc (.cells #[.slice S cs.length c, .slice A ns.length cap] 26)).heap.size = w2.heap.size + 1 := by simp
    have hb4 : Below w2.heap.size w2 (w2.alloc (.cells #[.slice S cs.length c, .slice A ns.length cap] 26)) := Joins.below_alloc1 w2 _
    have HB4 := hide (then_below hb2 hb4)
    have HSs := hide (hS.on hb4); have HAs := hide (hA.on hb4)
    have hW2 : W1.heap.size ≤ w2.heap.size := hb2.size
    have HFr := hide hfr
    clear hS hA hb2 hfr hb4
    go_wp2_with fail
    generalize w2.alloc (.cells #[.slice S cs.length c, .slice A ns.length cap] 26) = W4 at *
    generalize w2.heap.size = P at *
    have HBP := hide hbP
    clear hbP
    by_cases hz : fullT cs (rowsOf ns) = 0
    all_goals
      have HZ := hide hz
      have HCk := hide (tabCheck_any S A c cap cs ns W4 HSs.out HAs.out HWC.out HWT.out)
    · rw [hz] at HCk
      clear hz
      refine HCk.out.mono ?_
      rintro e w5 ⟨rfl, hb5⟩
      have hbx5 := HBP.out.kept hb5 (by omega)
      obtain ⟨x0, x1, y0, y1, hPl⟩ := hbx5.facts
      obtain ⟨r0, r1, f0, f1, hz0, -⟩ := HFail.out _ (then_below HB4.out hb5)
      have HQ := hide (then_below HB4.out hb5)
      have HS5 := hide (HSs.out.on hb5); have HA5 := hide (HAs.out.on hb5)
      clear hbx5 hb5
      go_wp2_with fail
      refine bodyPost_ret (v := .tuple #[.agg #[.slice S cs.length c, .slice A ns.length cap], .int .i64 0]) (by simp [results, Tryz.results21, go_sem, r0, r1]) rfl ?_
      have hbut : ButAt w.heap.size w5 ((w5.setCell ⟨w.heap.size, 0, none⟩ (.slice S cs.length c)).setCell ⟨w.heap.size, 1, none⟩ (.slice A ns.length cap)) := (butAt_set _ _ _ _).trans (butAt_set _ _ _ _)
      have hz1 := HZ1.out
      have hbx0 := HBX.out.kept HQ.out (by omega)
      rw [HPT.out, if_pos HZ.out]
      refine ⟨⟨S, c, A, cap, ns, rfl, ?_, ?_, rfl⟩, ((HB1.out.trans (HQ.out.mono (by omega))).setCell (p := ⟨w.heap.size, 0, none⟩) (Nat.le_refl _) _).setCell (p := ⟨w.heap.size, 1, none⟩) (Nat.le_refl _) _⟩
      · rw [hbut.2]; exact HS5.out.box hbx0 hbut
      · rw [hbut.2]; exact HA5.out.box hbx0 hbut (fun a ha => by have := HFr.out a ha; omega)
    · have hk0 : (fullT cs (rowsOf ns) != 0) = true := by rw [bne_iff_ne]; exact hz
      clear hz
      refine HCk.out.mono ?_
      rintro e w5 ⟨rfl, hb5⟩
      obtain ⟨r0, r1, f0, f1, hz0, hfin⟩ := HFail.out _ (then_below HB4.out hb5)
      clear hb5
      go_wp2_with fail
      refine bodyPost_ret (v := .tuple #[.agg #[.slice none 0 0, .slice none 0 0], .int .i64 20]) (by simp [results, Tryz.results21, go_sem, r0, r1]) rfl ?_
      rw [HPT.out, if_neg HZ.out]
      exact ⟨rfl, hfin⟩
end Go.Proofs.YtfjhdfpdgjjcgaaGreatDoor
