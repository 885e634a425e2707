/-
  A file's segment is read.
-/
import Derived.Test.YtkdihekhdnnheaaDoorMG3
import Derived.Deep.RegionWith
namespace Go.Proofs.YtkdihekhdnnheaaDoor
open Go.RowKit

/-- What is told of a file's bytes: the segment, in memory of the call's own. -/
def SegMem (B : Nat) (w' : World) (S : SegV) (v : Value) : Prop :=
  ∃ (A : Option Addr) (c : Nat) (A2 : Option Addr) (c2 : Nat) (gs : List GH), v = vSeg S.gen S.size (.slice A S.cp.length c) (.slice A2 gs.length c2) ∧ gsOf gs = S.gs ∧ BytesIn (fun b => B ≤ b) w' A S.cp ∧ (A = none → c = 0) ∧ GrpsIn (fun b => B ≤ b) w' A2 gs ∧ (A2 = none → c2 = 0) ∧ (gs.length ≤ c2 ∧ c2 ≤ maxLen)
theorem SegMem.keep {B B' : Nat} {w w' : World} {S : SegV} {v : Value} (h : SegMem B w S v) (hs : w.heap.size ≤ w'.heap.size) (hb : ∀ b, B ≤ b → b < w.heap.size → B' ≤ b ∧ w'.heap[b]? = w.heap[b]?) : SegMem B' w' S v := by
  obtain ⟨A, c, A2, c2, gs, h1, h2, h3, h4, h5, h6, h7⟩ := h
  exact ⟨A, c, A2, c2, gs, h1, h2, h3.keep hs hb, h4, h5.keep hs hb, h6, h7⟩
theorem segMem0 (B : Nat) (w : World) : SegMem B w seg0 vSeg0 := ⟨none, 0, none, 0, [], rfl, rfl, BytesIn.nil _ _ _, fun _ => rfl, GrpsIn.nil _ _ _, fun _ => rfl, Nat.le_refl _, Nat.zero_le _⟩
theorem set4_belowG {w wk : World} {B R : Nat} (h : Below B w wk) (hR : B ≤ R) (a b c d : Value) : Below B w (set4 wk R a b c d) :=
  (((h.setCell (p := ⟨R, 0, none⟩) hR a).setCell (p := ⟨R, 1, none⟩) hR b).setCell (p := ⟨R, 2, none⟩) hR c).setCell (p := ⟨R, 3, none⟩) hR d
theorem box4 (w2 : World) (v0 v1 v2 v3 : Value) : (set4 (w2.alloc oSeg) w2.heap.size v0 v1 v2 v3).heap[w2.heap.size]? = some (.cells #[v0, v1, v2, v3] 60 (0, 0)) ∧ Below w2.heap.size w2 (set4 (w2.alloc oSeg) w2.heap.size v0 v1 v2 v3) ∧ (set4 (w2.alloc oSeg) w2.heap.size v0 v1 v2 v3).heap.size = w2.heap.size + 1 := by
  have h0 : (w2.alloc oSeg).heap[w2.heap.size]? = some (.cells #[.int .i64 0, .int .i64 0, .slice none 0 0, .slice none 0 0] 60 (0, 0)) := heap_alloc_new w2 _
  refine ⟨?_, set4_belowG ((Below.refl w2.heap.size w2).alloc (Nat.le_refl _) oSeg) (Nat.le_refl _) _ _ _ _, by simp⟩
  show (((((w2.alloc oSeg).setCell ⟨w2.heap.size, 0, none⟩ v0).setCell ⟨w2.heap.size, 1, none⟩ v1).setCell ⟨w2.heap.size, 2, none⟩ v2).setCell ⟨w2.heap.size, 3, none⟩ v3).heap[w2.heap.size]? = _
  rw [Joins.block_setCell (i := 3) (Joins.block_setCell (i := 2) (Joins.block_setCell (i := 1) (Joins.block_setCell (i := 0) h0 v0) v1) v2) v3]
  rfl
def SegRes (w : World) (l : List UInt8) (e : Ending) (w' : World) : Prop :=
  ∃ fs v, Scanned l fs ∧ e = .returned v ∧ SegMem w.heap.size w' (segM l) v ∧ Below w.heap.size w w'
/-- What stands when a segment's reading ends. -/
structure SegEnd (w w2 wr : World) (g : Int) (A5 : Option Addr) (c5 : Nat) (cp l0 : List UInt8) (ht : List BH) (gs : List GH) (k : Nat) (A6 : Option Addr) (c6 : Nat) : Prop where
  gp : GP (lsOf ht) k (gsOf gs)
  stop : k = ht.length ∨ groupM ((lsOf ht).getD k []) = none
  bw : Below w2.heap.size w2 wr
  gi : GrpsIn (fun b => w2.heap.size + 1 ≤ b) wr A6 gs
  gn : A6 = none → c6 = 0
  gl : gs.length ≤ c6 ∧ c6 ≤ maxLen
theorem SegEnd.res {w w2 wr : World} {g : Int} {A5 : Option Addr} {c5 : Nat} {cp l l0 : List UInt8} {ht : List BH} {gs : List GH} {k : Nat} {A6 : Option Addr} {c6 : Nat} {fs0 : List (List UInt8)} (h : SegEnd w w2 wr g A5 c5 cp l0 ht gs k A6 c6)
    (hS : Scanned l fs0) (hSeg : segM l = segF (l0 :: lsOf ht)) (hY : headM l0 = some (g, cp)) (hB : BytesIn (fun b => w.heap.size + 1 ≤ b) w2 A5 cp) (hN : A5 = none → c5 = 0) (hw : Below w.heap.size w w2) (hlt : w.heap.size < w2.heap.size) :
    ∃ fs v, Scanned l fs ∧ Ending.returned (vSeg g (endsL (l0 :: lsOf ht) (1 + k)) (.slice A5 cp.length c5) (.slice A6 gs.length c6)) = .returned v ∧
      SegMem w.heap.size (set4 wr w.heap.size (.int .i64 g) (.int .i64 ((endsL (l0 :: lsOf ht) (1 + k) : Nat) : Int)) (.slice A5 cp.length c5) (.slice A6 gs.length c6)) (segM l) v ∧ Below w.heap.size w (set4 wr w.heap.size (.int .i64 g) (.int .i64 ((endsL (l0 :: lsOf ht) (1 + k) : Nat) : Int)) (.slice A5 cp.length c5) (.slice A6 gs.length c6)) := by
  have hg : grpsM (lsOf ht) = gsOf gs := by
    refine h.gp.all ?_ ?_
    · rw [lsOf_len]
      rcases Nat.lt_or_ge ht.length k with h1 | h1
      · exfalso
        have h2 := h.gp.2 ht.length h1
        rw [List.getD_eq_getElem?_getD, List.getElem?_eq_none (by rw [lsOf_len]; omega)] at h2
        simp [groupM, intN_nil.1] at h2
      · exact h1
    · rw [lsOf_len]; exact h.stop
  have hk : (gsOf gs).length = k := h.gp.1
  obtain ⟨hb1, hb2⟩ := set4_but wr w.heap.size (.int .i64 g) (.int .i64 ((endsL (l0 :: lsOf ht) (1 + k) : Nat) : Int)) (.slice A5 cp.length c5) (.slice A6 gs.length c6)
  refine ⟨_, _, hS, rfl, ⟨A5, c5, A6, c6, gs, ?_, ?_, ?_, hN, ?_, h.gn, h.gl⟩, set4_below (hw.trans (h.bw.mono hw.size)) _ _ _ _⟩
  · rw [hSeg, segF_cons hY, hg, hk]
  · rw [hSeg, segF_cons hY, hg]
  · rw [hSeg, segF_cons hY]
    refine (hB.below h.bw).keep (by rw [hb2]; exact Nat.le_refl _) fun b h1 _ => ⟨by omega, hb1 b (by omega)⟩
  · exact h.gi.keep (by rw [hb2]; exact Nat.le_refl _) fun b h1 _ => ⟨by omega, hb1 b (by omega)⟩
set_option maxHeartbeats 12800000 in
set_option maxRecDepth 100000 in
theorem segmentOf_any (A : Option Addr) (c : Nat) (l : List UInt8) (w : World) (hB : BytesAt w.heap.size w A l) (hT : Tab w) (hl : l.length ≤ 1073741824) (hnil : A = none → c = 0) (hcap : l.length ≤ c) (hc : c ≤ 9223372036854775807) (hA : ∀ a, A = some a → a = ⟨a.block, a.off, none⟩) :
    Calls Tryd.prog 46 #[.slice A l.length c] w (SegRes w l) := by
  have hal := (Below.refl w.heap.size w).alloc (Nat.le_refl _) oSeg
  have hw0 : (w.alloc oSeg).heap[w.heap.size]? = some (.cells #[.int .i64 0, .int .i64 0, .slice none 0 0, .slice none 0 0] 60 (0, 0)) := heap_alloc_new w _
  have hsz0 : (w.alloc oSeg).heap.size = w.heap.size + 1 := by simp
  have HSc := hide (scanN_any A c l (w.alloc oSeg) (hB.on hal) (hT.on hal) hl hnil hcap hc hA)
  unfold ScanResN at HSc
  have HT := hide hT
  have HL0 := hide hal
  have HZ := hide (fun (wk : World) (hb : Below (w.alloc oSeg).heap.size (w.alloc oSeg) wk) => (hb.block w.heap.size (by rw [hsz0]; omega)).trans hw0)
  have HSz0 := hide hsz0
  have HLl := hide hl
  have HB1 := hide (fun (w' : World) o => (Below.refl w'.heap.size w').alloc (Nat.le_refl _) o)
  unfold SegRes
  clear hB hT hnil hcap hc hA hal hw0 hsz0 hl
  go_enter Tryd.func46, Tryd.ntmps46
  go_wp2_with fail
  refine HSc.out.mono ?_
  rintro e w1 ⟨v1, hs, rfl, hsc, hho, hb1, hnn⟩
  have HS := hide hsc
  have HAll := hide (show (allB (lsOf hs)).length ≤ 1073741824 by
    obtain ⟨r, hr, _⟩ := hsc
    have := congrArg List.length hr
    rw [List.length_append] at this
    have := HLl.out
    omega)
  have HHo := hide hho
  have hwf : ∀ x, x ∈ hs → WfH x := fun x hx => ⟨by
    have h1 := mem_allB (fs := lsOf hs) (x := x.l) (List.mem_map.2 ⟨x, hx, rfl⟩)
    have h2 := HAll.out
    unfold maxLen; omega, hnn x hx⟩
  have HB := hide (show Below (w.heap.size + 1) (w.alloc oSeg) w1 by have h := hb1; rw [HSz0.out] at h; exact h)
  have hW1 := HL0.out.trans (hb1.mono HL0.out.size)
  have HW1 := hide hW1
  have HRes := hide (HZ.out w1 hb1)
  have hnl : hs.length ≤ 1073741824 := by
    have h1 := HAll.out
    have h2 : ∀ l : List (List UInt8), l.length ≤ (allB l).length := fun l => by
      induction l with
      | nil => simp
      | cons c t ih => rw [allB_cons, List.length_append, List.length_cons]; have := (frameB_bd c).1; omega
    have h3 := h2 (lsOf hs)
    rw [lsOf_len] at h3
    omega
  cases hs with
  | nil =>
    have HQ := hide (show segM l = seg0 by rw [segM_of HS.out (by have := HLl.out; omega)]; rfl)
    obtain ⟨A1, c1, rfl, -⟩ := row_slice hho.row
    clear hsc hho hb1 hnn hwf hW1 hnl HSc
    obtain ⟨⟨r0, r1, r2, r3⟩, ⟨f0, f1, f2, f3⟩, hltR⟩ := seg_cells HRes.out
    go_wp2_with fail
    refine bodyPost_ret (v := vSeg0) (by simp [results, Tryd.results46, go_sem, r0, r1, r2, r3]) rfl ?_
    exact ⟨_, _, HS.out, rfl, by rw [HQ.out]; exact segMem0 _ _, set4_below HW1.out _ _ _ _⟩
  | cons h0 ht =>
    have hrow := hho.row
    obtain ⟨A1, c1, rfl, hR1, hn1, hc1⟩ := hho.recs hwf
    obtain ⟨b1, off1, A0, k0, l0, rfl, hb1b, hb1l, hcell0, hby0, hl0, hm0, hnil0⟩ := hR1.got (k := 0) (by simp)
    have hoff : off1 = 0 := by
      rcases hrow.2 with ⟨e, _⟩ | ⟨g, c', cur, e, _⟩
      · injection e with e; cases e
      · injection e with e1; injection e1 with e1; injection e1
    subst hoff
    have hl00 : h0.l = l0 := by rw [← hl0]; simp [lsOf]
    have HHd := hide (readHead_any A0 k0 l0 w1 hby0.bytes (HT.out.on hW1) (by
      have h1 := mem_allB (fs := lsOf (h0 :: ht)) (x := l0) (by rw [← hl00]; simp [lsOf])
      have := HAll.out
      omega) hnil0)
    unfold HeadRes at HHd
    have HR1 := hide hR1
    have hlc1 : c1 ≤ 9223372036854775807 := by
      obtain ⟨_, _, e, _, h⟩ := row_slice hrow
      injection e with e1 e2 e3
      unfold maxLen at h; omega
    have hnlI : ((ht.length + 1 : Nat) : Int) ≤ (c1 : Int) := by simp at hc1; omega
    have hcell0' : w1.cell? ⟨b1, 0, none⟩ = some (.slice A0 l0.length k0) := hcell0
    have HSeg := hide (show segM l = segF (l0 :: lsOf ht) by rw [segM_of HS.out (by have := HLl.out; omega), ← hl00]; rfl)
    have HL00 := hide hl00
    have hpos : ¬ ((h0 :: ht).length = 0) := by simp
    have hlen1 : (h0 :: ht).length = ht.length + 1 := rfl
    rw [hlen1] at *
    have hht : ht.length + 1 ≤ 1073741824 := by rw [← hlen1]; exact hnl
    clear hsc hho hb1 hnn hwf hW1 HSc hR1 hby0 hl0 hcell0 hnl hrow hl00 hc1 hlen1 hpos
    go_wp2_with fail
    refine HHd.out.mono ?_
    rintro e w2 ⟨hcase, hb2⟩
    have HB2 := hide (HB.out.trans (hb2.mono (by have h1 := HB.out.size; rw [HSz0.out] at h1; exact h1)))
    have HB2w := hide hb2
    have HW2 := hide (HW1.out.trans (hb2.mono HW1.out.size))
    have HRes2 := hide ((hb2.block _ (block_lt HRes.out)).trans HRes.out)
    have HLt2 := hide (block_lt HRes2.out)
    rcases hcase with ⟨hno, rfl⟩ | ⟨g, cp, A5, c5, hyes, rfl, hby5, hn5, hg1, hg64, hcpl⟩
    · have HQ := hide (show segM l = seg0 by rw [HSeg.out, segF_none hno])
      clear hno hb2 HHd hcell0'
      obtain ⟨w3, hW3⟩ : ∃ w3, w3 = w2.alloc (.cells #[.int .i64 0, .int .i64 0, .slice none 0 0, .slice none 0 0] 60) := ⟨_, rfl⟩
      have hbx3 : w3.heap[w2.heap.size]? = some (.cells #[.int .i64 0, .int .i64 0, .slice none 0 0, .slice none 0 0] 60 (0, 0)) := by rw [hW3]; exact heap_alloc_new w2 _
      have hb3 : Below w2.heap.size w2 w3 := by rw [hW3]; exact (Below.refl w2.heap.size w2).alloc (Nat.le_refl _) _
      have HWE := hide hW3
      clear hW3
      have HBx3 := hide hbx3
      have HB3 := hide hb3
      have HW3 := hide (HW2.out.trans (hb3.mono HW2.out.size))
      have HRes3 := hide ((hb3.block _ HLt2.out).trans HRes2.out)
      obtain ⟨⟨s0, s1, s2, s3⟩, -, hltB⟩ := seg_cells hbx3
      clear hbx3 hb3
      obtain ⟨⟨r0, r1, r2, r3⟩, ⟨f0, f1, f2, f3⟩, hltR⟩ := seg_cells HRes3.out
      go_wp2_with (guard_target =~ wpList _ _ _ (Oper.mk _ (Op.fieldAddr _ _ _) _ _ _ _ :: _) _ _; rw [← HWE.out])
      refine bodyPost_ret (v := vSeg0) (by simp [results, Tryd.results46, go_sem, r0, r1, r2, r3]) rfl ?_
      exact ⟨_, _, HS.out, rfl, by rw [HQ.out]; exact segMem0 _ _, set4_below HW3.out _ _ _ _⟩
    · have hlt2 := HLt2.out
      have HYes := hide hyes
      have HBy5 := hide (hby5.keep (Q := fun b => w.heap.size + 1 ≤ b) (Nat.le_refl _) fun b h1 _ => ⟨Nat.le_trans (by have h2 := HB.out.size; rw [HSz0.out] at h2; exact h2) h1, rfl⟩)
      have HN5 := hide hn5
      have hg0 : ¬ g = 0 := by omega
      have hgb : (g == 0) = false := by rw [beq_eq_false_iff_ne]; exact hg0
      have HEn := hide (endsL_cons l0 (lsOf ht))
      have HFin := hide (fun wr k gs A6 c6 (h : SegEnd w w2 wr g A5 c5 cp l0 ht gs k A6 c6) => h.res (l := l) HS.out HSeg.out HYes.out HBy5.out HN5.out HW2.out HLt2.out)
      clear hyes hb2 HHd hcell0' hby5 hn5 hg1 hg64 hcpl hg0
      obtain ⟨w3, hW3⟩ : ∃ w3, w3 = w2.alloc (.cells #[.int .i64 g, .int .i64 ((frameB l0).length : Nat), .slice A5 cp.length c5, .slice none 0 0] 60) := ⟨_, rfl⟩
      have hbx3 : w3.heap[w2.heap.size]? = some (.cells #[.int .i64 g, .int .i64 ((frameB l0).length : Nat), .slice A5 cp.length c5, .slice none 0 0] 60 (0, 0)) := by rw [hW3]; exact heap_alloc_new w2 _
      have hb3 : Below w2.heap.size w2 w3 := by rw [hW3]; exact (Below.refl w2.heap.size w2).alloc (Nat.le_refl _) _
      have HWE := hide hW3
      clear hW3
      have HBx3 := hide hbx3
      have HB3 := hide hb3
      have HW3 := hide (HW2.out.trans (hb3.mono HW2.out.size))
      have HRes3 := hide ((hb3.block _ HLt2.out).trans HRes2.out)
      obtain ⟨⟨s0, s1, s2, s3⟩, -, hltB⟩ := seg_cells hbx3
      clear hbx3 hb3
      have HSt := hide (show w3.heap[w2.heap.size]? = some (.cells #[.int .i64 g, .int .i64 ((endsL (l0 :: lsOf ht) (1 + 0) : Nat) : Int), .slice A5 cp.length c5, .slice none 0 0] 60 (0, 0)) by rw [show 1 + 0 = 1 from rfl, HEn.out]; exact HBx3.out)
      by_cases hce : c1 = 1
      · have hz : ht.length = 0 := by omega
        have hce2 : c1 - 1 = 0 := by omega
        subst hce
        obtain rfl : ht = [] := List.length_eq_zero_iff.1 hz
        have HGo := hide (GrpsOwn.nil (w2.heap.size + 1) w3)
        have HGp := hide (show GP (lsOf []) 0 (gsOf []) from ⟨rfl, fun j hj => by omega⟩)
        have HEnd := hide (show SegEnd w w2 w3 g A5 c5 cp l0 [] [] 0 none 0 from ⟨HGp.out, .inl rfl, HB3.out, GrpsIn.nil _ _ _, fun _ => rfl, Nat.le_refl _, Nat.zero_le _⟩)
        have HRes3b := hide HRes3.out
        have HSt2 := hide HBx3.out
        have HF0 := hide (HFin.out w3 0 [] none 0 HEnd.out)
        rw [show 1 + 0 = 1 from rfl, HEn.out] at HF0
        have hcc : ((1 : Nat) : Int) = 1 := rfl
        clear hz hce2 hnlI hht hlc1 HR1 HHo HEn HSt hcc
        go_wp2_with (guard_target =~ wpList _ _ _ (Oper.mk _ (Op.fieldAddr _ _ _) _ _ _ _ :: _) _ _; rw [← HWE.out])
        go_loopw [30] (fun i wr => i = .int .i64 0 ∧ wr = w3) (fun _ _ => 0)
        case atStart => exact ⟨rfl, rfl⟩
        case round =>
          obtain ⟨rfl, rfl⟩ := hrel
          obtain ⟨⟨s0, s1, s2, s3⟩, -, hltB⟩ := seg_cells HSt2.out
          obtain ⟨⟨r0, r1, r2, r3⟩, ⟨f0, f1, f2, f3⟩, hltR⟩ := seg_cells HRes3b.out
          go_wp2_with fail
          refine bodyPost_ret (v := vSeg g (frameB l0).length (.slice A5 cp.length c5) (.slice none 0 0)) (by simp [results, Tryd.results46, go_sem, r0, r1, r2, r3]) rfl ?_
          exact HF0.out
      · have hcg : 1 < c1 := by omega
        go_wp2_with (guard_target =~ wpList _ _ _ (Oper.mk _ (Op.fieldAddr _ _ _) _ _ _ _ :: _) _ _; rw [← HWE.out])
        go_loopw [30] (fun i wr => ∃ (k : Nat) (gs : List GH) (gv : Value), k ≤ ht.length ∧ i = .int .i64 k ∧ GP (lsOf ht) k (gsOf gs) ∧ wr.heap[w2.heap.size]? = some (.cells #[.int .i64 g, .int .i64 ((endsL (l0 :: lsOf ht) (1 + k) : Nat) : Int), .slice A5 cp.length c5, gv] 60 (0, 0)) ∧ GrpsOwn (w2.heap.size + 1) wr gv gs ∧ Below w2.heap.size w2 wr) (fun i _ => ht.length - (intOf i).toNat)
        case atStart => exact ⟨0, [], .slice none 0 0, Nat.zero_le _, rfl, ⟨rfl, fun j hj => by omega⟩, HSt.out, GrpsOwn.nil _ _, HB3.out⟩
        case round =>
          obtain ⟨k, gs, gv, hk, rfl, hgp, hbx, hgo, hbw⟩ := hrel
          have HGp := hide hgp
          have HBx := hide hbx
          have HGo := hide hgo
          have HBw := hide hbw
          have HResR := hide ((hbw.block _ HLt2.out).trans HRes2.out)
          clear hgp hbx hgo hbw s0 s1 s2 s3 hltB HWE HBx3 HB3 HW3 HRes3 HSt
          by_cases hlt : k < ht.length
          · have HLt := hide hlt
            obtain ⟨b7, o7, A7, c7, l7, e7, hb7b, hb7, hcell7, hby7, hl7, hm7, hnil7⟩ := HR1.out.got (k := 1 + k) (by simp; omega)
            injection e7 with e7; injection e7 with e71 e72
            subst e71; subst e72
            have hBw1 : Below w1.heap.size w1 wr := HB2w.out.trans (HBw.out.mono HB2w.out.size)
            have hcw : wr.cell? ⟨b1, 1 + k, none⟩ = some (.slice A7 l7.length c7) := by
              have h := (hBw1.cell (p := ⟨b1, 0 + (1 + k), none⟩) hb7).trans hcell7
              rw [Nat.zero_add] at h; exact h
            have hl7' : (lsOf ht).getD k [] = l7 := by rw [← hl7]; simp [lsOf, Nat.add_comm]
            have HL7 := hide hl7'
            have HLn7 := hide (show l7.length ≤ 1073741824 by
              have h1 := mem_allB (fs := lsOf (h0 :: ht)) (x := l7) (by
                rw [← hl7, List.getD_eq_getElem?_getD, List.getElem?_eq_getElem (by rw [lsOf_len]; simp; omega)]
                exact List.getElem_mem _)
              have := HAll.out
              omega)
            have HRg := hide (readGroup_any A7 c7 l7 wr (hby7.bytes.on hBw1) HLn7.out)
            unfold GrpRes at HRg
            have HFz := hide (fun w' (hb : Below w1.heap.size w1 w') => frameSize_any A7 c7 l7 w' (hby7.bytes.on hb) ((HT.out.on HW1.out).on hb) (by have := HLn7.out; omega) hnil7)
            clear hk hcell7 hby7 hl7 hl7' hm7 hnil7 hb7b hb7 hBw1
            go_wp2_with fail
            refine HRg.out.mono ?_
            rintro e w5 ⟨hcase, hb5⟩
            have HBx5 := hide ((hb5.block _ (block_lt HBx.out)).trans HBx.out)
            have HResR5 := hide ((hb5.block _ (block_lt HResR.out)).trans HResR.out)
            have HGo5 := hide (HGo.out.below hb5)
            have HBw5 := hide (HBw.out.trans (hb5.mono HBw.out.size))
            have HSz5 := hide hb5.size
            have HGlt := hide (fun b e => (HGo.out.row.lt b e).2)
            have HBlt := hide (block_lt HBx.out)
            clear HBx HResR HGo HBw HRg hb5 hcw
            rcases hcase with ⟨hno, rfl⟩ | ⟨A8, c8, rs, hyes, rfl, hr8, hn8, hrl8⟩
            · have HNo := hide (show groupM ((lsOf ht).getD k []) = none by rw [HL7.out]; exact hno)
              clear hno
              obtain ⟨A6, c6, rfl, hgi, hgn, hgl⟩ := HGo5.out.grps
              have HEnd := hide (show SegEnd w w2 w5 g A5 c5 cp l0 ht gs k A6 c6 from ⟨HGp.out, .inr HNo.out, HBw5.out, hgi, hgn, hgl⟩)
              obtain ⟨⟨s0, s1, s2, s3⟩, -, hltB⟩ := seg_cells HBx5.out
              obtain ⟨⟨r0, r1, r2, r3⟩, ⟨f0, f1, f2, f3⟩, hltR⟩ := seg_cells HResR5.out
              clear hgi hgn hgl
              go_wp2_with fail
              refine bodyPost_ret (v := vSeg g (endsL (l0 :: lsOf ht) (1 + k)) (.slice A5 cp.length c5) (.slice A6 gs.length c6)) (by simp [results, Tryd.results46, go_sem, r0, r1, r2, r3]) rfl ?_
              exact HFin.out _ k gs A6 c6 HEnd.out
            · have HYg := hide (show groupM ((lsOf ht).getD k []) = some (lsOf rs) by rw [HL7.out]; exact hyes)
              have HR8 := hide hr8
              have HN8 := hide hn8
              have HRl8 := hide hrl8
              obtain ⟨⟨s0, s1, s2, s3⟩, ⟨m0, m1, m2, m3⟩, hltB⟩ := seg_cells HBx5.out
              have hgl : gs.length ≤ 1073741824 := by have := HGp.out.1; rw [gsOf_len] at this; omega
              have hwb : w2.heap.size + 1 ≤ w5.heap.size := hltB
              have hwb0 : w2.heap.size + 1 ≤ wr.heap.size := HBlt.out
              clear hyes hr8 hn8 hrl8
              go_wp2_with (at_builtin; go_must (refine append_grp rfl _ _ rfl (w2.heap.size + 1) gv gs gs.length rfl rfl (HGo5.out.below (HB1.out w5 _)) ⟨A8, c8, rs⟩ w5.heap.size rfl (Lib.cell_of_heap (heap_alloc_new w5 _) 0) ((HR8.out.below (HB1.out w5 _)).mono fun b h1 h2 => ⟨by omega, fun e => by have := HGlt.out b e; omega⟩) ⟨by have h1 := HRl8.out; have h2 := HLn7.out; unfold maxLen; show rs.length ≤ _; omega, HN8.out⟩ hgl (by simp; omega) ?_))
              intro v6 w6 hgo6 hrow6 hgrow6 hat6
              have HGo6 := hide hgo6
              have hs6 : w5.heap.size + 1 ≤ w6.heap.size := by have := hgrow6.size; simp at this; omega
              have hbx6 : w6.heap[w2.heap.size]? = some (.cells #[.int .i64 g, .int .i64 ((endsL (l0 :: lsOf ht) (1 + k) : Nat) : Int), .slice A5 cp.length c5, gv] 60 (0, 0)) := by
                rw [hgrow6.block w2.heap.size (by simp; omega) (fun e => by have := (HGo5.out.row.lt _ e.symm).1; omega), Below.heap_alloc _ _ _ (by omega)]
                exact HBx5.out
              have HB6 := hide (show Below w2.heap.size w5 w6 from ((HB1.out w5 (.cells #[ghd ⟨A8, c8, rs⟩] 36)).mono (by omega)).trans ((Below.refl _ _).grown hgrow6 (by simp; omega) fun j e => by have := (HGo5.out.row.lt j e).1; omega))
              obtain ⟨A6, c6, rfl, -⟩ := row_slice hrow6
              obtain ⟨⟨q0, q1, q2, q3⟩, ⟨n0, n1, n2, n3⟩, hltB6⟩ := seg_cells hbx6
              have HBx6 := hide hbx6
              have hgo7 : GrpsOwn (w2.heap.size + 1) (w6.setCell ⟨w2.heap.size, 3, none⟩ (.slice A6 (gs.length + 1) c6)) (.slice A6 (gs.length + 1) c6) (gs ++ [⟨A8, c8, rs⟩]) := HGo6.out.keep (by simp) fun b h1 _ => Below.heap_setCell _ _ _ _ (show b ≠ w2.heap.size by omega)
              have HGo7 := hide hgo7
              have hbx7 := Joins.block_setCell (i := 3) hbx6 (.slice A6 (gs.length + 1) c6)
              have HBx7 := hide hbx7
              have HB7 := hide (show Below w2.heap.size w2 (w6.setCell ⟨w2.heap.size, 3, none⟩ (.slice A6 (gs.length + 1) c6)) from (HBw5.out.trans HB6.out).setCell (p := ⟨w2.heap.size, 3, none⟩) (Nat.le_refl _) _)
              have HF7 := hide (HFz.out (w6.setCell ⟨w2.heap.size, 3, none⟩ (.slice A6 (gs.length + 1) c6)).drew (HB2w.out.trans (HB7.out.drew.mono HB2w.out.size)))
              have HEs := hide (show endsL (l0 :: lsOf ht) (1 + (k + 1)) = endsL (l0 :: lsOf ht) (1 + k) + (frameB l7).length by
                rw [show 1 + (k + 1) = (1 + k) + 1 by omega, endsL_succ (by have := HLt.out; simp [lsOf_len]; omega), ← HL7.out, Nat.add_comm 1 k]; rfl)
              have HEl := hide (show endsL (l0 :: lsOf ht) (1 + (k + 1)) ≤ 1073741824 from Nat.le_trans (endsL_le _ _) (by have h1 := HAll.out; have h2 := HL00.out; simpa [lsOf, h2] using h1))
              have hen : endsL (l0 :: lsOf ht) (1 + k) + (frameB l7).length ≤ 1073741824 := by have := HEl.out; have := HEs.out; omega
              generalize hW7 : w6.setCell ⟨w2.heap.size, 3, none⟩ (.slice A6 (gs.length + 1) c6) = W7 at HGo7 HBx7 HB7 HF7
              have HW7 := hide hW7
              have hbxd : W7.drew.heap[w2.heap.size]? = some (.cells #[.int .i64 g, .int .i64 ((endsL (l0 :: lsOf ht) (1 + k) : Nat) : Int), .slice A5 cp.length c5, .slice A6 (gs.length + 1) c6] 60 (0, 0)) := by
                rw [(Below.refl W7.heap.size W7).drew.block _ (block_lt HBx7.out), HBx7.out]; rfl
              clear hgo6 hrow6 hgrow6 hat6 hbx6 hgo7 hbx7 hW7
              have HBxd := hide hbxd
              obtain ⟨⟨d0, d1, d2, d3⟩, ⟨g0', g1', g2', g3'⟩, hltd⟩ := seg_cells hbxd
              clear hbxd
              go_upto_region 13 with fail
              rw [HW7.out]
              clear s0 s1 s2 s3 m0 m1 m2 m3 q0 q1 q2 q3 n0 n1 n2 n3
              go_region_with (first | (go_at_call 62; refine HF7.out.mono ?_; rintro e w8 ⟨rfl, hb8⟩; have HBx8 := hide ((hb8.block _ hltd).trans HBxd.out); have HB8 := hide (HB7.out.drew.trans (hb8.mono HB7.out.drew.size)); have HGo8 := hide ((HGo7.out.below (Below.refl _ _).drew).below hb8); obtain ⟨⟨q0, q1, q2, q3⟩, ⟨n0, n1, n2, n3⟩, hltB8⟩ := seg_cells HBx8.out; clear hb8))
              all_goals
                have hwr : IntKind.i64.wrap (((endsL (l0 :: lsOf ht) (1 + k) : Nat) : Int) + ((frameB l7).length : Int)) = ((endsL (l0 :: lsOf ht) (1 + k) : Nat) : Int) + ((frameB l7).length : Int) := by
                  unfold IntKind.wrap
                  simp [IntKind.signed, IntKind.bits]
                  omega
                have hbx9 := Joins.block_setCell (i := 1) HBx8.out (.int .i64 (((endsL (l0 :: lsOf ht) (1 + k) : Nat) : Int) + ((frameB l7).length : Int)))
                have HBx9 := hide (show (w8.setCell ⟨w2.heap.size, 1, none⟩ (.int .i64 (((endsL (l0 :: lsOf ht) (1 + k) : Nat) : Int) + ((frameB l7).length : Int)))).heap[w2.heap.size]? = some (.cells #[.int .i64 g, .int .i64 ((endsL (l0 :: lsOf ht) (1 + (k + 1)) : Nat) : Int), .slice A5 cp.length c5, .slice A6 (gs.length + 1) c6] 60 (0, 0)) by rw [HEs.out]; exact hbx9)
                have HGo9 := hide (show GrpsOwn (w2.heap.size + 1) (w8.setCell ⟨w2.heap.size, 1, none⟩ (.int .i64 (((endsL (l0 :: lsOf ht) (1 + k) : Nat) : Int) + ((frameB l7).length : Int)))) (.slice A6 (gs.length + 1) c6) (gs ++ [⟨A8, c8, rs⟩]) from HGo8.out.keep (by simp) fun b h1 _ => Below.heap_setCell _ _ _ _ (show b ≠ w2.heap.size by omega))
                have HB9 := hide (HB8.out.setCell (p := ⟨w2.heap.size, 1, none⟩) (Nat.le_refl _) (.int .i64 (((endsL (l0 :: lsOf ht) (1 + k) : Nat) : Int) + ((frameB l7).length : Int))))
                rw [hwr]
                clear hbx9 hwr q0 q1 q2 q3 n0 n1 n2 n3 d0 d1 d2 d3
                go_wp2_with fail
                go_roundw
                case rel => exact ⟨k + 1, gs ++ [⟨A8, c8, rs⟩], _, HLt.out, by go_num, by rw [gsOf_snoc]; exact HGp.out.snoc HYg.out, HBx9.out, HGo9.out, HB9.out⟩
                case measure => have := HLt.out; simp [intOf]; omega
          · have HKe := hide (show k = ht.length by omega)
            obtain ⟨A6, c6, rfl, hgi, hgn, hgl⟩ := HGo.out.grps
            have HEnd := hide (show SegEnd w w2 wr g A5 c5 cp l0 ht gs k A6 c6 from ⟨HGp.out, .inl HKe.out, HBw.out, hgi, hgn, hgl⟩)
            obtain ⟨⟨s0, s1, s2, s3⟩, -, hltB⟩ := seg_cells HBx.out
            obtain ⟨⟨r0, r1, r2, r3⟩, ⟨f0, f1, f2, f3⟩, hltR⟩ := seg_cells HResR.out
            clear hgi hgn hgl
            go_wp2_with fail
            refine bodyPost_ret (v := vSeg g (endsL (l0 :: lsOf ht) (1 + k)) (.slice A5 cp.length c5) (.slice A6 gs.length c6)) (by simp [results, Tryd.results46, go_sem, r0, r1, r2, r3]) rfl ?_
            exact HFin.out _ k gs A6 c6 HEnd.out
end Go.Proofs.YtkdihekhdnnheaaDoor
