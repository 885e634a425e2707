/-
  A group is read.
-/
import Derived.Test.YtkdebebpnkjmdaaDoorGHead
namespace Go.Proofs.YtkdebebpnkjmdaaDoor
open Go.RowKit

theorem InAt.mono {lo lo' : Nat → Prop} {g : Nat} {w : World} {l : List UInt8} {bad : Bool} (h : InAt lo g w l bad) (hb : ∀ b, lo b → b < w.heap.size → lo' b) : InAt lo' g w l bad := by
  have hlt := h.lt
  obtain ⟨hg, h0, A, c, hbx, h1, h2, h3, h4, h5⟩ := h
  refine ⟨hb g hg hlt, h0, A, c, hbx, h1, h2, h3, h4, fun j hj => ?_⟩
  obtain ⟨b, off, e, e1, e2, e3, e4⟩ := h5 j hj
  exact ⟨b, off, e, hb b e1 e3, e2, e3, e4⟩
/-- A row of headers of the call's own as a list that reads. -/
theorem HeadsOwn.recs {base : Nat} {w : World} {v : Value} {hs : List BH} (h : HeadsOwn base w v hs) (hn : ∀ x, x ∈ hs → WfH x) :
    ∃ A c, v = .slice A hs.length c ∧ RecsIn (fun b => base ≤ b) w A hs ∧ (A = none → c = 0) ∧ hs.length ≤ c := by
  obtain ⟨A, c, rfl, hnc, -⟩ := row_slice h.row
  refine ⟨A, c, rfl, fun j hj => ?_, ?_, hnc⟩
  · rcases h.row.2 with ⟨_, h0⟩ | ⟨g, cap, cur, e, hb, hg, hn', _, hsz, htk⟩
    · omega
    · injection e with e1 e2 e3
      subst e1
      have hm : hs.getD j dH ∈ hs := by
        rw [List.getD_eq_getElem?_getD, List.getElem?_eq_getElem hj]; exact List.getElem_mem hj
      refine ⟨g, 0, rfl, hb, (Array.getElem?_eq_some_iff.1 hg).1, ?_, fun i hi => ?_, hn _ hm⟩
      · rw [Nat.zero_add, Lib.cell_of_heap hg]
        have hc : (hs.map hdr)[j]? = some (hdr (hs.getD j dH)) := by
          rw [List.getElem?_map, List.getElem?_eq_getElem hj, List.getD_eq_getElem?_getD, List.getElem?_eq_getElem hj]
          rfl
        rw [← htk, List.getElem?_take_of_lt (by omega)] at hc
        simpa using hc
      · obtain ⟨b, off, e, h1, h2, _, h4⟩ := h.lies _ hm i hi
        exact ⟨b, off, e, h1, h2, h4⟩
  · rintro rfl
    rcases h.row.2 with ⟨e, _⟩ | ⟨g, c', cur, e, _⟩
    · injection e
    · injection e with e1; cases e1
theorem txt_deadG {l : List UInt8} (h : txtX l = true) : txtL l = [] := by
  unfold txtX at h
  unfold txtL
  by_cases ho : TxtOk l
  · rw [if_pos ho] at h ⊢
    rw [(int_dead2 h).2]; simp
  · rw [if_neg ho]
def GrpRes (w : World) (l : List UInt8) (e : Ending) (w' : World) : Prop :=
  ((groupM l = none ∧ e = .returned (.tuple #[.slice none 0 0, .bool false])) ∨ (∃ (A : Option Addr) (c : Nat) (rs : List BH), groupM l = some (lsOf rs) ∧ e = .returned (.tuple #[.slice A rs.length c, .bool true]) ∧ RecsIn (fun b => w.heap.size ≤ b) w' A rs ∧ (A = none → c = 0) ∧ rs.length ≤ l.length)) ∧ Below w.heap.size w w'
theorem cnt_dead2 {l : List UInt8} {m : Int} (h : cntX l m = true) : cntN l m = 0 ∧ cntL l m = [] := by
  unfold cntX at h
  unfold cntN cntL
  split at h
  · rename_i hc
    rw [if_pos hc, if_pos hc]
    exact int_dead2 h
  · rename_i hc
    rw [if_neg hc, if_neg hc]
    exact ⟨rfl, rfl⟩
set_option maxHeartbeats 6400000 in
set_option maxRecDepth 100000 in
theorem readGroup_any (A : Option Addr) (c : Nat) (l : List UInt8) (w : World) (hB : BytesAt w.heap.size w A l) (hl : l.length ≤ 1073741824) :
    Calls Tryd.prog 73 #[.slice A l.length c] w (GrpRes w l) := by
  have HN := hide (newIn_any A c l w hB (by omega))
  have HM := hide (show groupM l = if intN l = 2 ∧ 0 ≤ intN (intL l) ∧ intX (intL l) = false then grpE (txtsP (intN (intL l)).toNat (intL (intL l))) else none from rfl)
  have HMany := hide (groupM_many (c := l))
  have HB1 := hide (fun (w' : World) o => (Below.refl w'.heap.size w').alloc (Nat.le_refl _) o)
  unfold GrpRes
  clear hB
  by_cases h1 : intN l = 2
  · by_cases hx : cntX (intL l) l.length = true
    · -- the count is bad
      have HQ := hide (show groupM l = none by
        by_cases hc : CntOk (intL l) l.length
        · rw [HM.out, if_neg]
          intro hh
          unfold cntX at hx
          rw [if_pos hc] at hx
          rw [hx] at hh
          exact absurd hh.2.2 (by decide)
        · unfold CntOk at hc
          by_cases h0 : 0 ≤ intN (intL l)
          · exact HMany.out (by omega)
          · rw [HM.out, if_neg]
            intro hh
            exact h0 hh.2.1)
      obtain ⟨d1, d2⟩ := cnt_dead2 hx
      generalize groupM l = gm at *
      clear HM HMany
      go_enter Tryd.func73, Tryd.ntmps73
      go_wp2_with fail
      refine HN.out.mono ?_
      rintro e w1 ⟨g, rfl, hg, hi1, hb1⟩
      have HBl1 := hide hb1
      have HG := hide hg
      have HI1 := hide (inInt_any w1 hi1)
      unfold IntRes at HI1
      rw [h1] at HI1
      clear hi1 hb1 hg
      go_wp2_with fail
      refine HI1.out.mono ?_
      rintro e w2 ⟨rfl, hi2, ho2⟩
      have HC2 := hide (inCount_any l.length w2 hi2)
      unfold CntRes at HC2
      rw [hx, d1, d2] at HC2
      have HO2 := hide ho2
      clear hi2 ho2 hx d1 d2 h1
      go_wp2_with fail
      refine HC2.out.mono ?_
      rintro e w3 ⟨rfl, hi3, ho3⟩
      have HW3 := hide (HBl1.out.trans ((HO2.out.trans ho3).below HG.out HBl1.out.size))
      have HX := hide (done_any w3 hi3)
      clear hi3 ho3
      go_wp2_with fail
      go_loopw [2, 14] (fun v i wr => v = .slice none 0 0 ∧ i = .int .i64 0 ∧ wr = w3) (fun _ _ _ => 0)
      case atStart => exact ⟨rfl, rfl, rfl⟩
      case round =>
        obtain ⟨rfl, rfl, rfl⟩ := hrel
        go_wp2_with fail
        refine HX.out.mono ?_
        rintro e w5 ⟨rfl, rfl⟩
        go_wp2_with fail
        go_ret2
        exact ⟨.inl ⟨HQ.out, rfl⟩, HW3.out⟩
    · have hx : cntX (intL l) l.length = false := by simpa using hx
      have hok : CntOk (intL l) l.length := by
        unfold cntX at hx
        split at hx
        · assumption
        · cases hx
      have e1 : cntN (intL l) l.length = ((intN (intL l)).toNat : Nat) := by
        unfold cntN
        rw [if_pos hok]
        unfold CntOk at hok
        omega
      have e2 : cntL (intL l) l.length = intL (intL l) := by unfold cntL; rw [if_pos hok]
      have HP := hide (show groupM l = grpE (txtsP (intN (intL l)).toNat (intL (intL l))) by
        rw [HM.out, if_pos]
        unfold cntX at hx
        rw [if_pos hok] at hx
        exact ⟨h1, hok.1, hx⟩)
      have hnl : (intN (intL l)).toNat ≤ l.length := by unfold CntOk at hok; omega
      have HLn := hide (show (intL (intL l)).length ≤ 1073741824 by have := int_shrinks l; have := int_shrinks (intL l); omega)
      have HNl := hide hnl
      clear HM HMany hok
      generalize groupM l = gm at *
      go_enter Tryd.func73, Tryd.ntmps73
      go_wp2_with fail
      refine HN.out.mono ?_
      rintro e w1 ⟨g, rfl, hg, hi1, hb1⟩
      have HBl1 := hide hb1
      have HG := hide hg
      have hi1' := hi1.mono (lo' := fun b => w.heap.size ≤ b ∧ b < w1.heap.size) fun b h1 h2 => ⟨h1, h2⟩
      have HGl := hide hi1.lt
      have HI1 := hide (inInt_any w1 hi1')
      unfold IntRes at HI1
      rw [h1] at HI1
      clear hi1 hi1' hb1 hg
      go_wp2_with fail
      refine HI1.out.mono ?_
      rintro e w2 ⟨rfl, hi2, ho2⟩
      have HC2 := hide (inCount_any l.length w2 hi2)
      unfold CntRes at HC2
      rw [hx, e1, e2] at HC2
      have HO2 := hide ho2
      clear hi2 ho2 hx e1 e2 h1
      generalize intL (intL l) = l2 at *
      generalize (intN (intL l)).toNat = n at *
      go_wp2_with fail
      refine HC2.out.mono ?_
      rintro e w3 ⟨rfl, hi3, ho3⟩
      have HO3 := hide (HO2.out.trans ho3)
      have HI3 := hide hi3
      clear hi3 ho3 HO2
      go_wp2_with fail
      go_loopw [2, 14] (fun v i wr => ∃ (k : Nat) (rs : List BH) (rl : List UInt8), k ≤ n ∧ i = .int .i64 k ∧ rs.length = k ∧ txtsP k l2 = some (lsOf rs, rl) ∧ HeadsOwn w1.heap.size wr v rs ∧ (∀ x, x ∈ rs → WfH x) ∧ InAt (fun b => w.heap.size ≤ b ∧ b < w1.heap.size) g wr rl false ∧ OnlyG g w1 wr) (fun _ i _ => n - (intOf i).toNat)
      case atStart => exact ⟨0, [], l2, Nat.zero_le _, rfl, rfl, rfl, HeadsOwn.nil _ _, (fun x hx => by simp at hx), HI3.out, HO3.out⟩
      case round =>
        obtain ⟨k, rs, rl, hk, rfl, hrl, htp, hown, hwf, hin, hog⟩ := hrel
        have HO := hide hog
        have HOw := hide hown
        have HWf := hide hwf
        have HTp := hide htp
        have HRl := hide hrl
        have HIn := hide hin
        have hsz := hog.size
        clear hown hwf htp hin hog HI3 HO3 HC2 HI1 HN
        by_cases hlt : k < n
        · have HLt := hide hlt
          have HTx := hide (inText_any wr HIn.out)
          unfold TxtRes at HTx
          have HTl := hide (show (txtS rl).length ≤ 1073741824 by
            have h1 := (txtsP_len HTp.out).2
            have h2 := int_shrinks rl
            have h3 := HLn.out
            unfold txtS
            split
            · rw [List.length_take]; omega
            · simp)
          have HRln := hide (show rl.length ≤ 1073741824 by
            have h1 := (txtsP_len HTp.out).2
            have h3 := HLn.out
            omega)
          clear hk hrl
          go_wp2_with fail
          refine HTx.out.mono ?_
          rintro e w4 ⟨rfl, hi4, ho4⟩
          have HO4 := hide (HO.out.trans ho4)
          have HOw4 := hide (HOw.out.keep ho4.size fun b h1 h2 => ho4.block b h2 (by have := HGl.out; omega))
          have HI4 := hide hi4
          have hs4 := HO4.out.size
          have HX4 := hide (show txtX rl = txtX rl from rfl)
          clear hi4 ho4 HTx
          have HStep := hide (fun (h : txtX rl = false) => txtsP_step HTp.out h)
          have HStop := hide (fun (h : txtX rl = true) => txtsP_none (txtsP_stop HTp.out h) n HLt.out)
          have HDead := hide (fun (h : txtX rl = true) => txt_deadG h)
          generalize txtS rl = ts at *
          generalize txtL rl = tl at *
          generalize txtX rl = x at *
          clear HX4
          have hcv4 := conv_str ts w4
          have HBW := hide (bw_below w4 ts)
          have HByW := hide (bw_bytes w4 ts)
          have HSW := hide (Lib.bytesWorld_size w4 5 ⟨ts.toArray⟩)
          have HOw5 := hide (HOw4.out.below HBW.out)
          have HI5 := hide (HI4.out.below HBW.out)
          have HH5 := hide (show HAt w1.heap.size (Lib.bytesWorld w4 5 ⟨ts.toArray⟩) u2 ⟨some ⟨w4.heap.size, 0, none⟩, grownCap w4 ts.length 0 5, ts⟩ from fun j hj => by
            obtain ⟨b, off, e, e1, e2, e3⟩ := HByW.out j hj
            have e4 : b = w4.heap.size := by injection e with e; injection e with e4; exact e4.symm
            exact ⟨b, off, e, by omega, e2, fun e5 => by have := (HOw4.out.row.lt b e5).2; omega, e3⟩)
          have HO5 := hide (HO4.out.trans (OnlyG.of_below (g := g) HBW.out))
          have hs5 : w1.heap.size ≤ (Lib.bytesWorld w4 5 ⟨ts.toArray⟩).heap.size := Nat.le_trans hs4 HBW.out.size
          generalize Lib.bytesWorld w4 5 ⟨ts.toArray⟩ = w5 at *
          generalize grownCap w4 ts.length 0 5 = cap5 at *
          clear HBW HByW HSW HOw4 HI4 HO4
          have hrn : rs.length ≤ 1073741824 := by have h1 := HRl.out; have h2 := HLt.out; omega
          go_wp2_with (at_builtin; go_must (refine append_head rfl _ _ rfl w1.heap.size u2 rs rs.length rfl rfl (HOw5.out.below (HB1.out w5 _)) ⟨some ⟨w4.heap.size, 0, none⟩, cap5, ts⟩ w5.heap.size rfl (Lib.cell_of_heap (heap_alloc_new w5 _) 0) (HH5.out.keep (by simp) fun b _ h _ => Below.heap_alloc _ _ _ h) hrn (by simp; omega) ?_))
          intro v6 w6 hho6 hown6 hgrow6
          have HHo6 := hide hho6
          have HI6 := hide (HI5.out.keep (w' := w6) (Nat.le_trans (HB1.out w5 (.cells #[hdr ⟨some ⟨w4.heap.size, 0, none⟩, cap5, ts⟩] 22)).size hgrow6.size) fun b hle h => (hgrow6.block b (by simp; omega) (fun e => by
            have h1 := (HOw5.out.row.lt b e.symm).1
            omega)).trans (Below.heap_alloc _ _ _ h))
          have HO6 := hide (show OnlyG g w1 w6 from ⟨hgrow6.os.trans HO5.out.os, hgrow6.tape.trans HO5.out.tape, hgrow6.output.trans HO5.out.output, Nat.le_trans hs5 (Nat.le_trans (HB1.out w5 (.cells #[hdr ⟨some ⟨w4.heap.size, 0, none⟩, cap5, ts⟩] 22)).size hgrow6.size), fun b h hb => by
            exact ((hgrow6.block b (by simp; omega) (fun x => by have := (HOw5.out.row.lt b x.symm).1; omega)).trans (Below.heap_alloc _ _ _ (by omega))).trans (HO5.out.block b h hb)⟩)
          have HX6 := hide (bad_any w6 HI6.out)
          have HD6 := hide (done_any w6 HI6.out)
          obtain ⟨A6, c6, rfl, -⟩ := row_slice hown6
          clear hho6 hown6 hgrow6 HOw5 HH5 HI5 HO5
          cases x
          · go_wp2_with fail
            refine HX6.out.mono ?_
            rintro e w7 ⟨rfl, rfl⟩
            go_wp2_with fail
            go_roundw
            case rel => exact ⟨k + 1, rs ++ [⟨some ⟨w4.heap.size, 0, none⟩, cap5, ts⟩], tl, HLt.out, by go_num, by rw [List.length_append, HRl.out]; rfl, by rw [lsOf_snoc]; exact HStep.out (by first | trivial | rfl), HHo6.out, (fun y hy => by
              rcases List.mem_append.1 hy with hy | hy
              · exact HWf.out y hy
              · simp at hy; subst hy; exact ⟨by have := HTl.out; unfold maxLen; show ts.length ≤ _; omega, fun e => by cases e⟩), HI6.out, HO6.out⟩
            case measure => have := HLt.out; simp [intOf]; omega
          · have HQ := hide (show gm = none by rw [HP.out, HStop.out (by first | trivial | rfl)]; rfl)
            rw [show (!true && tl.isEmpty) = false from rfl] at HD6
            go_wp2_with fail
            refine HX6.out.mono ?_
            rintro e w7 ⟨rfl, rfl⟩
            go_wp2_with fail
            refine HD6.out.mono ?_
            rintro e w8 ⟨rfl, rfl⟩
            go_wp2_with fail
            go_ret2
            exact ⟨.inl ⟨HQ.out, rfl⟩, HBl1.out.trans (HO6.out.below HG.out HBl1.out.size)⟩
        · obtain rfl : k = n := by omega
          have HD := hide (done_any wr HIn.out)
          have HW := hide (HBl1.out.trans (HO.out.below HG.out HBl1.out.size))
          obtain ⟨A6, c6, rfl, hr6, hn6, -⟩ := HOw.out.recs HWf.out
          have HR6 := hide (show RecsIn (fun b => w.heap.size ≤ b) wr A6 rs from hr6.mono fun b h1 _ => Nat.le_trans HBl1.out.size h1)
          have HN6 := hide hn6
          clear hr6 hn6 hlt hk hrl
          by_cases he : rl = []
          · have HQ := hide (show gm = some (lsOf rs) by rw [HP.out, HTp.out, he]; rfl)
            rw [he, show (!false && ([] : List UInt8).isEmpty) = true from rfl] at HD
            clear he
            go_wp2_with fail
            refine HD.out.mono ?_
            rintro e w8 ⟨rfl, rfl⟩
            go_wp2_with fail
            go_ret2
            exact ⟨.inr ⟨A6, c6, rs, HQ.out, rfl, HR6.out, HN6.out, by rw [HRl.out]; exact HNl.out⟩, HW.out⟩
          · have HQ := hide (show gm = none by
              rw [HP.out, HTp.out]
              cases rl with
              | nil => exact absurd rfl he
              | cons a b => rfl)
            rw [show (!false && rl.isEmpty) = false by cases rl with | nil => exact absurd rfl he | cons a b => rfl] at HD
            clear he
            go_wp2_with fail
            refine HD.out.mono ?_
            rintro e w8 ⟨rfl, rfl⟩
            go_wp2_with fail
            go_ret2
            exact ⟨.inl ⟨HQ.out, rfl⟩, HW.out⟩
  · have HQ := hide (show groupM l = none by rw [HM.out, if_neg (by omega)])
    have hb := show (intN l != 2) = true by rw [bne_iff_ne]; exact h1
    generalize groupM l = gm at *
    clear HM HMany h1
    go_enter Tryd.func73, Tryd.ntmps73
    go_wp2_with fail
    refine HN.out.mono ?_
    rintro e w1 ⟨g, rfl, hg, hi1, hb1⟩
    have HBl1 := hide hb1
    have HG := hide hg
    have HI1 := hide (inInt_any w1 hi1)
    unfold IntRes at HI1
    clear hi1 hb1 hg
    generalize intN l = i1 at *
    go_wp2_with fail
    refine HI1.out.mono ?_
    rintro e w2 ⟨rfl, hi2, ho2⟩
    have HW := hide (HBl1.out.trans (ho2.below HG.out HBl1.out.size))
    clear hi2 ho2
    go_wp2_with fail
    go_ret2
    exact ⟨.inl ⟨HQ.out, rfl⟩, HW.out⟩
end Go.Proofs.YtkdebebpnkjmdaaDoor
