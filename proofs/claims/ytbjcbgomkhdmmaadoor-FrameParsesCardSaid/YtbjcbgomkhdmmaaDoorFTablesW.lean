/-
  The walk of FrameTables.
-/
import Derived.Test.YtbjcbgomkhdmmaaDoorFInT
import Derived.Test.YtbjcbgomkhdmmaaDoorFOutTb
import Derived.Test.YtbjcbgomkhdmmaaDoorFTabBy
import Derived.Test.YtbjcbgomkhdmmaaDoorFSmallT
import Derived.Test.YtbjcbgomkhdmmaaDoorFOW
import Derived.Test.YtbjcbgomkhdmmaaDoorFAwake
import Derived.Test.YtbjcbgomkhdmmaaDoorTEqual
import Derived.Deep.RegionLaw
import Derived.Deep.AppendLies
namespace Go.Proofs.YtbjcbgomkhdmmaaDoor
open Go.RowKit

theorem BoxV.oturn {g : Nat} {v v' : Value} {w w' : World} {b : Nat} {k n : Int} {s : ByteArray} (h : BoxV w b k n s) (ho : OutTurn g v v' w w') (hg : b ≠ g) (hv : v.ownBlock ≠ some b) : BoxV w' b k n s := (ho.block b (Array.getElem?_eq_some_iff.1 h).1 hg hv).trans h
theorem col_names {cs : List (ByteArray × Int)} {rs : R3} (h : fullT cs rs = 0) : ∀ x ∈ cs, x.1.size ≤ 16 := fun x hx => by
  obtain ⟨h1, _⟩ := fullT_zero h
  obtain ⟨h3, _, _⟩ := checkT_zero h1
  obtain ⟨_, _, hcl⟩ := checkC_ok h3
  obtain ⟨j, hj, e⟩ := List.getElem_of_mem hx
  have := (badC_name (hcl j hj)).1
  rw [List.getD_eq_getElem?_getD, List.getElem?_eq_getElem hj] at this
  simp only [Option.getD_some, e] at this
  unfold nameB at this
  rw [Bool.and_eq_true, decide_eq_true_iff] at this
  omega
theorem encC_len : ∀ {cs : List (ByteArray × Int)}, (∀ x ∈ cs, x.1.size ≤ 16) → (encC cs).length ≤ 40 * cs.length
  | [], _ => by simp [encC]
  | c :: cs, h => by
    have := encC_len (cs := cs) fun x hx => h x (List.mem_cons_of_mem _ hx)
    have h1 := h c (List.mem_cons_self ..)
    have h2 := textB_len c.1
    have h3 := (intB_len c.2).2
    have h4 : (colB c).length = (textB c.1.data.toList).length + (intB c.2).length := by unfold colB; rw [List.length_append]
    unfold encC at this ⊢
    rw [List.flatMap_cons, List.length_append, List.length_cons]
    omega
theorem encR_len {n : Nat} : ∀ {rs : R3}, (∀ x ∈ rs, x.length ≤ n ∧ ∀ v ∈ x, okV v) → (encR rs).length ≤ 100 * n * rs.length
  | [], _ => by simp [encR]
  | r :: rs, h => by
    have := encR_len (rs := rs) fun x hx => h x (List.mem_cons_of_mem _ hx)
    have h1 := h r (List.mem_cons_self ..)
    have h2 := encV_len h1.2
    have h3 : 100 * r.length ≤ 100 * n := Nat.mul_le_mul_left _ h1.1
    unfold encR at this ⊢
    rw [List.flatMap_cons, List.length_append, List.length_cons, Nat.mul_add]
    omega
theorem news_at {w : World} {b off : Nat} {l : List UInt8} (h : ∀ j, j < l.length → w.cell? ⟨b, off + j, none⟩ = some (.int .u8 (l.getD j 0).toNat)) : ∀ j u, (byC l)[j]? = some u → w.cell? ((⟨b, off, none⟩ : Addr).add j) = some u := fun j u hu => by
  have hj : j < l.length := by rw [← byC_len l]; exact (List.getElem?_eq_some_iff.1 hu).1
  rw [byC_at hj] at hu
  injection hu with hu
  rw [show (⟨b, off, none⟩ : Addr).add j = ⟨b, off + j, none⟩ by unfold Addr.add; split <;> simp_all, h j hj, hu]
theorem byC_one (l : List UInt8) : ∀ u ∈ byC l, u.oneCell' = true := fun u hu => by
  unfold byC at hu
  obtain ⟨c, _, rfl⟩ := List.mem_map.1 hu
  rfl
theorem row_conv {w : World} {base n : Nat} {v : Value} {l : List UInt8} (h : w.ownsRow base 5 1 v n (byC l)) (hn : n = l.length) : (convert 32 9 v).run Tryd.prog w = .ok (.string ⟨l.toArray⟩) w := by
  subst hn
  obtain ⟨A, c, rfl, hB, _⟩ := bytes_of_row h
  exact conv_bytes A c l w hB
theorem InAt.narrow {lo : Nat → Prop} {g : Nat} {w : World} {l : List UInt8} {bad : Bool} (h : InAt lo g w l bad) : InAt (fun b => b < w.heap.size) g w l bad := by
  have hlt := h.lt
  obtain ⟨_, h1, A, c, h2, h3, h4, h5, h6, h7⟩ := h
  exact ⟨hlt, h1, A, c, h2, h3, h4, h5, h6, fun j hj => by obtain ⟨b, off, e, _, e2, e3, e4⟩ := h7 j hj; exact ⟨b, off, e, e3, e2, e3, e4⟩⟩
theorem BoxV.lt' {w : World} {b : Nat} {k n : Int} {s : ByteArray} (h : BoxV w b k n s) : b < w.heap.size := (Array.getElem?_eq_some_iff.1 h).1
theorem ValRes.of {lo : Nat → Prop} {g : Nat} {w w' : World} {l r : List UInt8} {e : Ending} {x : V3} (h : ValRes lo g w l e w') (hv : valR l = some (x, r)) : e = .returned (vVal x.1 x.2.1 x.2.2) ∧ InAt lo g w' r false ∧ OnlyG g w w' := by
  rcases h with ⟨x', r', h1, h2, h3, h4⟩ | ⟨h1, _⟩
  · rw [hv] at h1; injection h1 with h1; injection h1 with e1 e2
    subst e1; subst e2
    exact ⟨h2, h3, h4⟩
  · rw [hv] at h1; cases h1
theorem TabRes.of {lo : Nat → Prop} {g : Nat} {w w' : World} {l r : List UInt8} {e : Ending} {cs : List (ByteArray × Int)} {rs : R3} (h : TabRes lo g w l e w') (hv : tabP l = some ((cs, rs), r)) :
    ∃ S c A d ns, e = .returned (.agg #[.slice S cs.length c, .slice A (List.length ns) d]) ∧ rowsOf ns = rs ∧ TabN w.heap.size w' S A cs ns ∧ InAt lo g w' r false ∧ OnlyG g w w' := by
  rcases h with ⟨S, c, A, d, cs', ns, r', h1, h2, h3, h4, h5⟩ | ⟨_, h1, _⟩
  · rw [hv] at h2; injection h2 with h2; injection h2 with e1 e2; injection e1 with e3 e4
    subst e3; subst e2; subst e4
    exact ⟨S, c, A, d, ns, h1, rfl, h3, h4, h5⟩
  · rw [hv] at h1; cases h1
theorem sameC_self (cs : List (ByteArray × Int)) : sameC cs cs = true := by unfold sameC; simp
theorem tab_same {f : FuncId} {args : Array Value} {w : World} {cs : List (ByteArray × Int)} {rs ss : R3} (h : Calls Tryd.prog f args w fun e w' => e = .returned (.bool (sameC cs cs && sameRs rs ss)) ∧ Below w.heap.size w w') (e : rs = ss) : Calls Tryd.prog f args w fun e w' => e = .returned (.bool true) ∧ Below w.heap.size w w' := by
  subst e
  rwa [sameC_self, sameRs_self] at h
theorem tabB_len {cs : List (ByteArray × Int)} {rs : R3} (h : fullT cs rs = 0) (hv : WfT rs) : 2 ≤ (tabB cs rs).length ∧ (tabB cs rs).length ≤ 10000000 := by
  obtain ⟨h1, h2, h3⟩ := full_parts h hv
  have h4 := encC_len (col_names h)
  have h5 := encR_len (n := 16) (rs := rs) fun x hx => ⟨by rw [(h3 x hx).1]; exact h1, (h3 x hx).2⟩
  have h6 := intB_len (cs.length : Int)
  have h7 := intB_len (rs.length : Int)
  unfold tabB
  rw [List.length_append, List.length_append, List.length_append]
  omega
set_option maxHeartbeats 25600000 in
set_option maxRecDepth 100000 in
theorem frameTables_walk (A : Option Addr) (c : Nat) (vs : List V3) (S : Option Addr) (c1 : Nat) (cs : List (ByteArray × Int)) (B : Option Addr) (d : Nat) (hs : List RH) (w : World) (hV : RowAt w.heap.size w A vs) (hvw : WfR vs) (_hvn : A = none → c = 0)
    (hC : ColsAt w.heap.size w S cs) (hw : Wf cs) (_hn : S = none → c1 = 0) (hR : RowsAt w.heap.size w B hs) (hwr : WfT (rowsOf hs)) (_hn2 : B = none → d = 0) (hT : Tab w) :
    Calls Tryd.prog 3 #[.slice A vs.length c, .agg #[.slice S cs.length c1, .slice B hs.length d]] w fun e w' => e = .returned (.bool true) ∧ Below w.heap.size w w' := by
  have HAw := hide (fun w' (h : Below w.heap.size w w') => awake_any w' (hT.on h))
  have HB1 := hide (fun (w' : World) o => (Below.refl w'.heap.size w').alloc (Nat.le_refl _) o)
  have hal := (Below.refl w.heap.size w).alloc (Nat.le_refl _) (.cells #[.slice S cs.length c1, .slice B hs.length d] 27)
  have HA := hide hal
  have hvl := hvw.1
  unfold maxLen at hvl
  have HSm := hide (smallTable_any S B c1 d cs hs _ (hC.on hal) (hR.on hal) hw.1 hwr)
  unfold SmallRes at HSm
  have HBx := hide (boxT_new w (.slice S cs.length c1) (.slice B hs.length d))
  have HV := hide hV; have HVw := hide hvw; have HC := hide hC; have HW := hide hw; have HR := hide hR; have HWr := hide hwr
  clear hV hvw hC hw hR hwr hT hal
  by_cases h40 : vs.length ≤ 40
  · have h40' : ¬ (40 : Int) < (vs.length : Int) := by omega
    go_enter Tryd.func3, Tryd.ntmps3
    go_wp2_with fail
    refine HSm.out.mono ?_
    rintro e w1 ⟨b, rfl, hb1⟩
    have HL1 := hide (HA.out.trans (hb1.mono (by simp)))
    have HBx1 := hide (HBx.out.below hb1 HBx.out.lt)
    have hs1 := hb1.size
    simp only [World.size_alloc] at hs1
    obtain ⟨⟨p0, p1⟩, -, -⟩ := HBx1.out.cells
    clear hb1
    cases b
    · have HA2 := hide (HAw.out w1 HL1.out)
      clear p0 p1
      go_wp2_with fail
      refine HA2.out.mono ?_
      rintro e w6 ⟨rfl, hb6⟩
      have HF := hide (HL1.out.trans (hb6.mono HL1.out.size))
      clear hb6
      go_wp2_with fail
      go_ret
      exact ⟨rfl, HF.out⟩
    · have HCk := hide (tabCheck_any S B c1 d cs hs w1 (HC.out.on HL1.out) (HR.out.on HL1.out) HW.out HWr.out)
      by_cases hf : fullT cs (rowsOf hs) = 0
      · have HFt := hide hf
        rw [hf] at HCk
        clear hf
        go_wp2_with fail
        refine HCk.out.mono ?_
        rintro e w2 ⟨rfl, hb2⟩
        have HL2 := hide (HL1.out.trans (hb2.mono HL1.out.size))
        have HBx2 := hide (HBx1.out.below hb2 HBx1.out.lt)
        have hs2 := hb2.size
        clear hb2 p0 p1
        have HOW0 := hide (show OW w2.heap.size w2.heap.size (w2.alloc (.cells #[.slice none 0 0] 34)) (.slice none 0 0) (.slice none 0 0) [] [] from ⟨out_new w2, World.ownsRow_nil _ _ _ _, (fun b e => by cases e), (fun b e => by cases e)⟩)
        have HL3 := hide (HB1.out w2 (.cells #[.slice none 0 0] 34))
        go_wp2_with fail
        go_loopw [6, 29] (fun v i wr => ∃ (k : Nat) (vo : Value), k ≤ vs.length ∧ i = .int .i64 k ∧ OW w2.heap.size w2.heap.size wr vo v (encV (vs.take k)) (encV (vs.take k)) ∧ (∀ x ∈ vs.take k, okV x) ∧ Below w2.heap.size w2 wr) (fun _ i _ => vs.length - (intOf i).toNat)
        case atStart => exact ⟨0, _, Nat.zero_le _, rfl, HOW0.out, fun x hx => by simp at hx, HL3.out⟩
        case round =>
          obtain ⟨k, vo, hk, rfl, how, hall, hbw⟩ := hrel
          clear HOW0 HL3
          have hsw := hbw.size
          have HBw := hide hbw
          have HLw := hide (HL2.out.trans (hbw.mono HL2.out.size))
          have HOw := hide how
          have HAll := hide hall
          clear how hall hbw
          by_cases hlt : k < vs.length
          · have HLt := hide hlt
            obtain ⟨b, off, rfl, hb, h0, h1, h2⟩ := (HV.out.below HLw.out) k hlt
            have hwf := HVw.out.at hlt
            have HT := hide (take_val hlt)
            have HEn := hide (encV_take hlt)
            have hvlen := encV_len HAll.out
            have htk : (vs.take k).length = k := by rw [List.length_take]; omega
            generalize hval : vs.getD k (0, 0, ⟨#[]⟩) = val at *
            obtain ⟨k0, n0, s0⟩ := val
            simp only at h0 h1 h2
            have hI64 := hwf.2.1
            have hsz0 := hwf.2.2
            simp only at hI64 hsz0
            have hA1 := HB1.out wr (.cells #[.int .i64 k0, .int .i64 n0, .string s0] 36)
            have HA1 := hide hA1
            have HRt := hide (right_any k0 n0 s0 (wr.alloc (.cells #[.int .i64 k0, .int .i64 n0, .string s0] 36)) hsz0)
            have HX := hide (box_new wr k0 n0 s0)
            have HI6 := hide hI64
            have hpl : (encV (vs.take k)).length ≤ 4000 := by omega
            clear hval hwf hsz0 hA1 hk hvlen htk hI64
            cases hr : rightV k0 n0 s0
            · have HRr := hide hr
              clear hr
              go_wp2_with fail
              refine HRt.out.mono ?_
              rintro e w3 ⟨rfl, hb3⟩
              rw [HRr.out]
              have HL4 := hide (HLw.out.trans ((HA1.out.trans (hb3.mono (by simp))).mono HLw.out.size))
              have HA2 := hide (HAw.out w3 HL4.out)
              clear hb3 h0 h1 h2
              go_wp2_with fail
              refine HA2.out.mono ?_
              rintro e w6 ⟨rfl, hb6⟩
              have HF := hide (HL4.out.trans (hb6.mono HL4.out.size))
              clear hb6
              go_wp2_with fail
              go_ret
              exact ⟨rfl, HF.out⟩
            · have HOk := hide (show okV (k0, n0, s0) from ⟨hr, HI6.out⟩)
              have HRr := hide hr
              clear hr
              go_wp2_with fail
              refine HRt.out.mono ?_
              rintro e w3 ⟨rfl, hb3⟩
              rw [HRr.out]
              have hb3' : Below wr.heap.size wr w3 := HA1.out.trans (hb3.mono (by simp))
              have HOw3 := hide (HOw.out.below hb3')
              have HX3 := hide (HX.out.below hb3 (by simp))
              have HB3 := hide (HBw.out.trans (hb3'.mono hsw))
              have hs3 := HB3.out.size
              obtain ⟨⟨j0, j1, j2⟩, -, -⟩ := HX3.out.cells
              have HOv := hide (outValue_any (k0, n0, s0) w3 HOk.out HOw3.out.o (by omega))
              clear hb3 hb3' h0 h1 h2
              go_wp2_with fail
              refine HOv.out.mono ?_
              rintro e w4 ⟨rfl, vo4, ho4, ht4⟩
              have HX4 := hide (HX3.out.oturn ht4 (by have := HOw.out.o.lt; omega) (fun e => by have := (HOw.out.o.row.lt _ e).2; omega))
              have HOw4 := hide (HOw3.out.out ho4 ht4)
              have HB4 := hide (HB3.out.trans (ht4.below HOw3.out.o))
              have hs4 := HB4.out.size
              obtain ⟨⟨i0, i1, i2⟩, -, -⟩ := HX4.out.cells
              have HRf := hide (ref_any k0 n0 s0 w4)
              clear ho4 ht4 j0 j1 j2
              go_wp2_with fail
              refine HRf.out.mono ?_
              rintro e w5 ⟨rfl, hb5⟩
              have HOw5 := hide (HOw4.out.below hb5)
              have HB5 := hide (HB4.out.trans (hb5.mono hs4))
              have hs5 := HB5.out.size
              have HRv := hide (refValue_any (k0, n0, s0) w5 HOk.out)
              unfold OwnRes at HRv
              clear hb5 i0 i1 i2
              go_wp2_with fail
              refine HRv.out.mono ?_
              rintro e w6 ⟨v6, rfl, hr6, hb6⟩
              have HOw6 := hide (HOw5.out.below hb6)
              have HB6 := hide (HB5.out.trans (hb6.mono hs5))
              have hs6 := HB6.out.size
              obtain ⟨A6, c6, rfl, hBy, -, hn6, -⟩ := bytes_of_row hr6
              have HBy := hide hBy
              have HN6 := hide hn6
              have hvb := (valB_len HOk.out).2
              clear hr6 hb6 hBy hn6
              have HEn2 := hide (show encV (vs.take k) ++ valB (k0, n0, s0) = encV (vs.take (k + 1)) from HEn.out.symm)
              have HAll2 := hide (show ∀ x ∈ vs.take (k + 1), okV x by
                rw [HT.out]
                intro x hx
                rcases List.mem_append.1 hx with hx | hx
                · exact HAll.out x hx
                · rw [List.mem_singleton] at hx; subst hx; exact HOk.out)
              generalize valB (k0, n0, s0) = tb at *
              generalize encV (vs.take k) = pre at *
              go_wp2_with (at_builtin; go_must (refine append_bytes rfl _ _ rfl w2.heap.size u6 pre tb pre.length rfl HOw6.out.r _ A6 tb.length c6 rfl rfl HBy.out HN6.out (by omega) hs6 ?_))
              intro v7 w7 hown7 hgrow7 hat7
              have HA3 := hide (show OW w2.heap.size w2.heap.size w7 vo4 v7 (encV (vs.take (k + 1))) (encV (vs.take (k + 1))) ∧ Below w2.heap.size w2 w7 from ⟨by have := HOw6.out.app _ (by rw [List.length_append]) hown7 hgrow7 hat7; rw [HEn2.out] at this; exact this, grow_below0 HB6.out HOw6.out.r hs6 hgrow7⟩)
              clear hown7 hgrow7 hat7
              go_wp2_with fail
              go_roundw
              case rel => exact ⟨k + 1, vo4, HLt.out, by go_num, HA3.out.1, HAll2.out, HA3.out.2⟩
              case measure => have := HLt.out; simp [intOf]; omega
          · obtain rfl : k = vs.length := by omega
            rw [List.take_length] at HOw HAll
            have HBx3 := hide (HBx2.out.below HBw.out HBx2.out.lt)
            obtain ⟨⟨p0, p1⟩, -, -⟩ := HBx3.out.cells
            obtain ⟨hp1, hp2, hp3⟩ := full_parts HFt.out HWr.out
            have htl := tabB_len HFt.out HWr.out
            have hvlen := encV_len HAll.out
            have HOt := hide (outTable_any S B c1 d cs hs wr ((HC.out.below HLw.out).mono HL2.out.size) ((HR.out.below HLw.out).mono HL2.out.size) (fun x hx => (HW.out.2 x hx).2) (fun x hx => (hp3 x hx).2) HW.out.1 HWr.out HOw.out.o (by omega))
            have HFp := hide (show cs.length ≤ 4096 ∧ hs.length ≤ 4096 ∧ (∀ x ∈ rowsOf hs, x.length ≤ 4096) from ⟨by omega, by rw [rowsOf_len] at hp2; exact hp2, fun x hx => by rw [(hp3 x hx).1]; omega⟩)
            have HTB := hide (fun w' (h : Below w.heap.size w w') => tableBytes_any S B c1 d cs hs w' (HC.out.on h) (HR.out.on h) (fun x hx => (HW.out.2 x hx).2) (fun x hx => (hp3 x hx).2) HFp.out.1 HFp.out.2.1 HFp.out.2.2 HWr.out (by omega))
            have HFull := hide (fun r => tabP_enc (cs := cs) (rs := rowsOf hs) r (fun x hx => ⟨by have := col_names HFt.out x hx; omega, (HW.out.2 x hx).2⟩) hp1 hp3 hp2 HFt.out)
            have HRd := hide (fun k (h : k < vs.length) r => valR_enc (HAll.out (vs.getD k (0, 0, ⟨#[]⟩)) (by rw [List.getD_eq_getElem?_getD, List.getElem?_eq_getElem h]; exact List.getElem_mem h)) r)
            unfold OwnRes at HTB
            have htl1 := htl.1
            have htl2 := htl.2
            have hpl : (encV vs).length ≤ 4000 := by omega
            have HDr := hide (show vs.drop 0 = vs from rfl)
            have HEd := hide (fun k (h : k < vs.length) => encV_drop h)
            clear hp1 hp2 hp3 htl hvlen hk hlt
            have HEv := hide (show encV (vs.drop 0) = encV vs from rfl)
            generalize encV vs = pre at *
            have HTq := hide (rfl : tabB cs (rowsOf hs) = tabB cs (rowsOf hs))
            generalize htb : tabB cs (rowsOf hs) = tb at *
            have HTq2 := hide htb
            clear htb HTq
            go_wp2_with fail
            refine HOt.out.mono ?_
            rintro e w3 ⟨rfl, vo3, ho3, ht3⟩
            have HOw3 := hide (HOw.out.out ho3 ht3)
            have HB3 := hide (HBw.out.trans (ht3.below HOw.out.o))
            have hs3 := HB3.out.size
            have hs3w := ht3.size
            have HLt6 := hide (fun b (e : u6.ownBlock = some b) => (HOw.out.r.lt b e).2)
            have hpt : (pre ++ tb).length = pre.length + tb.length := List.length_append
            have HOb := hide (outBytes_any w3 ho3 (by omega))
            clear ho3 ht3 p0 p1
            go_wp2_with fail
            refine HOb.out.mono ?_
            rintro e w4 ⟨v4, rfl, hr4, hb4⟩
            have HOw4 := hide (HOw3.out.below hb4)
            have HB4 := hide (HB3.out.trans (hb4.mono hs3))
            have hs4 := HB4.out.size
            have HL4 := hide (HL2.out.trans (HB4.out.mono HL2.out.size))
            have HBx4 := hide (HBx2.out.below HB4.out HBx2.out.lt)
            obtain ⟨⟨p0, p1⟩, -, -⟩ := HBx4.out.cells
            have HR4 := hide hr4
            obtain ⟨A4, c4, rfl, hBy4, -, hn4, hc4⟩ := bytes_of_row hr4
            have HBy4 := hide hBy4
            have hcv0 := conv_bytes A4 c4 (pre ++ tb) w4.drew (hBy4.on (Below.refl _ _).drew)
            have HC4 := hide (fun w' (h : w'.ownsRow w3.heap.size 5 1 (.slice A4 (pre ++ tb).length c4) (pre ++ tb).length (byC (pre ++ tb))) => conv_bytes A4 c4 (pre ++ tb) w' (by
              obtain ⟨A4', c4', e4, hBy4', -⟩ := bytes_of_row h
              injection e4 with e4 _ _
              rw [e4]
              exact hBy4'))
            rw [hpt] at hcv0 HC4 HR4
            have HR4' := hide hpt
            have HAp4 := hide (fun b (e : (Value.slice A4 (pre.length + tb.length) c4).ownBlock = some b) => (show w3.heap.size ≤ b ∧ b < w4.heap.size from HR4.out.lt b e))
            obtain ⟨q0, qi, qz0, qz1, qz2⟩ := info_parts u8_info
            have hcat : byC (pre ++ tb) = byC pre ++ byC tb := by simp [byC]
            have HCat := hide hcat
            clear hr4 hb4 hBy4 hn4 hc4 hpt hcat
            have hD4 := (Below.refl w4.heap.size w4).drew
            have HD4 := hide hD4
            have HOwD := hide (HOw4.out.below hD4)
            have HRD := hide (row_keep HR4.out fun b e => hD4.block b (HR4.out.lt b e).2)
            have HLD := hide (HL4.out.trans (hD4.mono HL4.out.size))
            have HBD := hide (HB4.out.trans (hD4.mono hs4))
            clear hD4
            go_wp2_with fail
            go_region_law (first
              | (refine step_append_lies _ (by rfl) _ _ _ (by rfl) w2.heap.size 5 q0 (.int .u8 0) 1 1 Tryd.underlying32 qi qz0 qz1 qz2 rfl (by decide) u6 pre.length (byC pre) (by rfl) HOw5.out.r ⟨b5, off5, none⟩ tb.length c5 (byC tb) (by rfl) (by rw [byC_len]; omega) HNews.out HOne.out (by omega) (by unfold maxLen; omega) (by omega) HS5.out _ rfl ?_; intro g6 cap6 w6 hown6 hgrow6 hat6 hlt6; rw [← HCat.out] at hown6; have hcv6 := row_conv hown6 HR4'.out.symm; have HR7 := hide (row_keep HR5.out fun b e => hgrow6.block b (HR5.out.lt b e).2 (fun e2 => by have h1 := HLt6.out b e2.symm; have h2 := (HAp4.out b e).1; omega)); have hcv7 := HC4.out w6 HR7.out; have HB7 := hide (grow_below0 HB5.out HOw5.out.r HS5.out hgrow6); have HOw6 := hide hown6; have HG6 := hide hgrow6; have HAt6 := hide hat6; clear hown6 hgrow6 hat6)
              | (go_simp; go_at_call 14; refine (HTB.out _ HLD.out).mono ?_; rintro e w5 ⟨v5, rfl, hr5, hb5⟩; have HOw5 := hide (HOwD.out.below hb5); have HR5 := hide (row_keep HRD.out fun b e => hb5.block b (HRD.out.lt b e).2); have hcv1 := HC4.out w5 HR5.out; have HL5 := hide (HLD.out.trans (hb5.mono HLD.out.size)); have HB5 := hide (HBD.out.trans (hb5.mono HBD.out.size)); have HS5 := hide HB5.out.size; obtain ⟨A5, c5, rfl, hBy5, -, -, -⟩ := bytes_of_row hr5; obtain ⟨b5, off5, rfl, -, hce5⟩ := hBy5.some_at (by intro e; rw [e] at htl1; simp at htl1); have HNews := hide (news_at hce5); have HOne := hide (byC_one tb); clear hr5 hb5 hBy5 hce5))
            all_goals
              have HL7 := hide (HL2.out.trans (HB7.out.mono HL2.out.size))
              have hs7 := HB7.out.size
              have HNi := hide (show Calls Tryd.prog 15 #[.slice A4 (pre.length + tb.length) c4] w6 fun e w' => ∃ g, e = .returned (vI g) ∧ w6.heap.size ≤ g ∧ InAt (fun b => w6.heap.size ≤ b) g w' (pre ++ tb) false ∧ Below w6.heap.size w6 w' from by
                have hrow := HR7.out
                rw [← HR4'.out] at hrow ⊢
                obtain ⟨A4', c4', e4, hBy4', -⟩ := bytes_of_row hrow
                injection e4 with e4 e5 e6
                subst e4; subst e6
                exact newIn_any _ _ _ w6 hBy4' (by rw [HR4'.out]; omega))
              clear hcv6 hcv7
              go_wp2_with fail
              refine HNi.out.mono ?_
              rintro e w8 ⟨g8, rfl, hg8, hI8, hb8⟩
              have HI8 := hide hI8.narrow
              have HL8 := hide (HL7.out.trans (hb8.mono HL7.out.size))
              have HBx8 := hide (HBx2.out.below (HB7.out.trans (hb8.mono hs7)) HBx2.out.lt)
              have hs8 := HL8.out.size
              have hs68 := hb8.size
              have hwg : w.heap.size + 1 ≤ g8 := by omega
              have hgl := hI8.lt
              have HG8 := hide hg8
              clear hI8 hb8 hg8
              go_wp2_with fail
              go_loopw [60] (fun i wr => ∃ k : Nat, k ≤ vs.length ∧ i = .int .i64 k ∧ InAt (fun b => b < w8.heap.size) g8 wr (encV (vs.drop k) ++ tb) false ∧ OnlyG g8 w8 wr) (fun i _ => vs.length - (intOf i).toNat)
              case atStart => exact ⟨0, Nat.zero_le _, rfl, by rw [HEv.out]; exact HI8.out, OnlyG.of_below (Below.refl _ _)⟩
              case round =>
                obtain ⟨k, hk, rfl, hin, hog⟩ := hrel
                clear HI8
                have HLw2 := hide (HL8.out.trans (hog.below (by omega) hs8))
                have hsg := hog.size
                have HOg := hide hog
                have HIn := hide hin
                clear hog hin
                by_cases hlt : k < vs.length
                · have HLt := hide hlt
                  obtain ⟨b, off, rfl, hb, h0, h1, h2⟩ := (HV.out.below HLw2.out) k hlt
                  have HVr := hide (HRd.out k hlt (encV (vs.drop (k + 1)) ++ tb))
                  have HEk := hide (show encV (vs.drop k) ++ tb = valB (vs.getD k (0, 0, ⟨#[]⟩)) ++ (encV (vs.drop (k + 1)) ++ tb) by rw [HEd.out k hlt, List.append_assoc])
                  rw [HEk.out] at HIn
                  generalize hval : vs.getD k (0, 0, ⟨#[]⟩) = val at *
                  obtain ⟨k0, n0, s0⟩ := val
                  simp only at h0 h1 h2
                  clear hval hk
                  generalize hrest : encV (vs.drop (k + 1)) ++ tb = rest at *
                  have HRest := hide hrest
                  clear hrest
                  have hA1 := HB1.out wr (.cells #[.int .i64 k0, .int .i64 n0, .string s0] 36)
                  have HX := hide (box_new wr k0 n0 s0)
                  have HD := hide hA1.drew
                  have HXd := hide (show BoxV (wr.alloc (.cells #[.int .i64 k0, .int .i64 n0, .string s0] 36)).drew wr.heap.size k0 n0 s0 from HX.out)
                  have HVl := hide (inValue_any _ (HIn.out.below HD.out) (fun b hb => Nat.lt_of_lt_of_le hb (Nat.le_trans hsg HD.out.size)))
                  have HOd := hide (HOg.out.trans (OnlyG.of_below HD.out))
                  have hneq : ∀ w, (binOp .neq 36 (vVal k0 n0 s0) (vVal k0 n0 s0)).run Tryd.prog w = .ok (.bool false) w := fun w => by rw [run_neq_val]; simp
                  have hgd := run_guard_neq k0 n0 k0 n0 s0 s0
                  have hwg8 : wr.heap.size ≠ g8 := by omega
                  clear hA1
                  go_wp2_with fail
                  go_region_held3 (fun w' => w'.cell? ⟨wr.heap.size, 0, none⟩ = some (.int .i64 k0) ∧ w'.cell? ⟨wr.heap.size, 1, none⟩ = some (.int .i64 n0) ∧ w'.cell? ⟨wr.heap.size, 2, none⟩ = some (.string s0)) (refine ⟨?_, ?_, ?_⟩ <;> first | assumption | simp)
                    ((go_at_call 16; (try go_split_ands); refine HVl.out.mono ?_; intro e w9 hres; obtain ⟨rfl, hI9, ho9⟩ := hres.of HVr.out; obtain ⟨⟨j0, j1, j2⟩, -, -⟩ := (HXd.out.turn ho9 hwg8).cells; have HI9 := hide hI9; have HO9 := hide (HOd.out.trans ho9); clear hI9 ho9 hres))
                  go_wp2_with fail
                  go_roundw
                  case rel => exact ⟨k + 1, HLt.out, by go_num, by rw [HRest.out]; exact HI9.out, HO9.out⟩
                  case measure => have := HLt.out; simp [intOf]; omega
                · obtain rfl : k = vs.length := by omega
                  have hnil : encV (vs.drop vs.length) = [] := by rw [List.drop_length]; rfl
                  rw [hnil, List.nil_append] at HIn
                  have HFl := hide (show tabP tb = some ((cs, rowsOf hs), []) by have := HFull.out []; rwa [List.append_nil] at this)
                  have HBxw := hide (HBx8.out.turn HOg.out (by omega))
                  have hD := (Below.refl wr.heap.size wr).drew
                  have HD := hide hD
                  have HTv := hide (inTable_any _ (HIn.out.below hD) (fun b hb => Nat.lt_of_lt_of_le hb (Nat.le_trans hsg hD.size)))
                  have HBd := hide (HBxw.out.below hD HBxw.out.lt)
                  have HLd := hide (HLw2.out.trans (hD.mono HLw2.out.size))
                  have hgl2 : w.heap.size ≤ g8 := by omega
                  clear hnil hD hk hlt
                  obtain ⟨⟨p0, p1⟩, -, -⟩ := HBxw.out.cells
                  go_wp2_with fail
                  go_region_held3 (fun w' => w'.cell? ⟨w.heap.size, 0, none⟩ = some (.slice S cs.length c1) ∧ w'.cell? ⟨w.heap.size, 1, none⟩ = some (.slice B hs.length d)) (refine ⟨?_, ?_⟩ <;> first | assumption | simpa using p0 | simpa using p1)
                    (first
                      | ((go_at_call 7; (try go_split_ands); refine (HAw.out _ HL11.out).mono ?_; rintro e w12 ⟨rfl, hb12⟩; have HL12 := hide (HL11.out.trans (hb12.mono HL11.out.size)); obtain ⟨⟨s0, s1⟩, -, -⟩ := (HBx11.out.below hb12 HBx11.out.lt).cells; clear hb12))
                      | ((go_at_call 19; (try go_split_ands); refine (HDn.out).mono ?_; rintro e w11' ⟨rfl, rfl⟩))
                      | ((go_at_call 18; (try go_split_ands); refine (HEq.out).mono ?_; rintro e w11 ⟨rfl, hb11⟩; have HL11 := hide (HL10.out.trans (hb11.mono HL10.out.size)); have HBx11 := hide (HBx10.out.below hb11 HBx10.out.lt); obtain ⟨⟨r0, r1⟩, -, -⟩ := HBx11.out.cells; have HDn := hide (done_any w11 (HI10.out.below hb11)); clear hb11))
                      | ((go_at_call 17; (try go_split_ands); refine HTv.out.mono ?_; intro e w10 hres; obtain ⟨S2, e2, A2, d2, ns, rfl, hns, htn, hI10, ho10⟩ := hres.of HFl.out; have HBx10 := hide (HBd.out.turn ho10 (by omega)); obtain ⟨⟨r0, r1⟩, -, -⟩ := HBx10.out.cells; have HI10 := hide hI10; have HL10 := hide (HLd.out.trans (ho10.below hgl2 HLd.out.size)); have HEq := hide (tab_same (tabEqual_any S2 A2 S B e2 d2 c1 d cs cs ns hs w10 htn.c htn.r (HC.out.on HL10.out) (HR.out.on HL10.out) HW.out.1 HWr.out) hns); clear hI10 ho10 htn hns hres)))
                  go_wp2_with fail
                  go_ret
                  exact ⟨rfl, HL12.out⟩
      · have hfb : (fullT cs (rowsOf hs) != 0) = true := by simpa using hf
        clear hf
        generalize fullT cs (rowsOf hs) = ft at *
        go_wp2_with fail
        refine HCk.out.mono ?_
        rintro e w2 ⟨rfl, hb2⟩
        have HL2 := hide (HL1.out.trans (hb2.mono HL1.out.size))
        have HA2 := hide (HAw.out w2 HL2.out)
        clear hb2 p0 p1
        go_wp2_with fail
        refine HA2.out.mono ?_
        rintro e w6 ⟨rfl, hb6⟩
        have HF := hide (HL2.out.trans (hb6.mono HL2.out.size))
        clear hb6
        go_wp2_with fail
        go_ret
        exact ⟨rfl, HF.out⟩
  · have h40' : (40 : Int) < (vs.length : Int) := by omega
    have HA2 := hide (HAw.out _ HA.out)
    clear h40
    go_enter Tryd.func3, Tryd.ntmps3
    go_wp2_with fail
    refine HA2.out.mono ?_
    rintro e w6 ⟨rfl, hb6⟩
    have HF := hide (HA.out.trans (hb6.mono (by simp)))
    clear hb6
    go_wp2_with fail
    go_ret
    exact ⟨rfl, HF.out⟩
end Go.Proofs.YtbjcbgomkhdmmaaDoor
