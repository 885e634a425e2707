/-
  Column: the values of one column, row by row; or the error.
-/
import Derived.Test.YtaoeofnfmlckiaaDoorTBox
namespace Go.Proofs.YtaoeofnfmlckiaaDoor
open Go.RowKit

def colVals (rs : R3) (i : Nat) : List (Int × Int × ByteArray) := rs.map fun r => r.getD i (0, 0, ⟨#[]⟩)
theorem colVals_len (rs : R3) (i : Nat) : (colVals rs i).length = rs.length := List.length_map ..
theorem colVals_take {rs : R3} {i k : Nat} (hk : k < rs.length) : valCells ((colVals rs i).take (k + 1)) = valCells ((colVals rs i).take k) ++ [.int .i64 ((rs.getD k []).getD i (0, 0, ⟨#[]⟩)).1, .int .i64 ((rs.getD k []).getD i (0, 0, ⟨#[]⟩)).2.1, .string ((rs.getD k []).getD i (0, 0, ⟨#[]⟩)).2.2] := by
  have h : (colVals rs i).getD k (0, 0, ⟨#[]⟩) = (rs.getD k []).getD i (0, 0, ⟨#[]⟩) := by
    unfold colVals
    rw [List.getD_eq_getElem?_getD (l := List.map _ rs), List.getElem?_map, List.getElem?_eq_getElem hk, List.getD_eq_getElem?_getD (l := rs), List.getElem?_eq_getElem hk]; rfl
  rw [take_val (by rw [colVals_len]; exact hk), valCells_snoc, h]
def ColumnV (cs : List (ByteArray × Int)) (rs : R3) (s : ByteArray) (w : World) (e : Ending) (w' : World) : Prop :=
  (if fullT cs rs = 0 then
    if findK cs s < cs.length then ∃ A c, e = .returned (.tuple #[.slice A (colVals rs (findK cs s)).length c, .int .i64 0]) ∧ RowAt w'.heap.size w' A (colVals rs (findK cs s))
    else e = .returned (.tuple #[.slice none 0 0, .int .i64 13])
  else e = .returned (.tuple #[.slice none 0 0, .int .i64 (fullT cs rs)])) ∧ Below w.heap.size w w'

set_option maxHeartbeats 3200000 in
set_option maxRecDepth 100000 in
theorem column_any (S A : Option Addr) (c d : Nat) (cs : List (ByteArray × Int)) (hs : List RH) (s : ByteArray) (w : World) (hC : ColsAt w.heap.size w S cs) (hR : RowsAt w.heap.size w A hs) (hw : Wf cs) (hv : WfT (rowsOf hs)) (hl : hs.length ≤ 4096) :
    Calls Tryd.prog 26 #[vTab S cs.length c A hs.length d, .string s] w (ColumnV cs (rowsOf hs) s w) := by
  have hal := boxW_below w (.slice S cs.length c) (.slice A hs.length d)
  have HBox := hide (fun w' => boxW_at (w := w) (a := .slice S cs.length c) (b := .slice A hs.length d) (w' := w'))
  have HWE := hide (show boxW w (.slice S cs.length c) (.slice A hs.length d) = w.alloc (.cells #[.slice S cs.length c, .slice A hs.length d] 26) from rfl)
  have HC := hide (hC.on hal); have HR := hide (hR.on hal)
  generalize boxW w (.slice S cs.length c) (.slice A hs.length d) = W at *
  have HL := hide hal; have HW := hide hw; have HV := hide hv
  have HCk := hide (tabCheck_any S A c d cs hs W HC.out HR.out hw hv)
  have HFi := hide (fun w' (h : Below W.heap.size W w') => find_any S c cs s w' (HC.out.on h) hw.1)
  have HP := hide (show ∀ e w', ((if fullT cs (rowsOf hs) = 0 then
    if findK cs s < cs.length then ∃ A c, e = Ending.returned (.tuple #[.slice A (colVals (rowsOf hs) (findK cs s)).length c, .int .i64 0]) ∧ RowAt w'.heap.size w' A (colVals (rowsOf hs) (findK cs s))
    else e = .returned (.tuple #[.slice none 0 0, .int .i64 13])
    else e = .returned (.tuple #[.slice none 0 0, .int .i64 (fullT cs (rowsOf hs))])) ∧ Below w.heap.size w w') → ColumnV cs (rowsOf hs) s w e w' from fun _ _ h => h)
  clear hC hw hR hv hal
  by_cases hz : fullT cs (rowsOf hs) = 0
  · have hz0 : (fullT cs (rowsOf hs) != 0) = false := by rw [bne_eq_false_iff_eq]; exact hz
    have HFit := hide (checkT_zero (fullT_zero hz).1).2.2
    have HZ := hide hz
    clear hz
    by_cases hf : findK cs s < cs.length
    · have HFV := hide (foundV_at hf rfl)
      have HF := hide hf
      have HPt := hide (fun k => colVals_take (rs := rowsOf hs) (i := findK cs s) (k := k))
      have HPl := hide (colVals_len (rowsOf hs) (findK cs s))
      have hat : findK cs s < cs.length := hf
      generalize findK cs s = i at *
      obtain ⟨i0, hi, hz0', hz1', hz2'⟩ := info_parts val_info
      go_enter Tryd.func26, Tryd.ntmps26
      go_wp2_with fail
      rw [← HWE.out]
      refine HCk.out.mono ?_
      rintro e w1 ⟨rfl, hb1⟩
      have HB1 := hide hb1; clear hb1
      obtain ⟨b0, b1, bz⟩ := HBox.out _ HB1.out
      go_wp2_with fail
      refine (HFi.out _ HB1.out).mono ?_
      rintro e w2 ⟨rfl, hb2⟩
      rw [HFV.out]
      have HB2 := hide (then_below HB1.out hb2)
      obtain ⟨b0', b1', bz'⟩ := HBox.out _ HB2.out
      clear hb2 b0 b1 bz
      go_wp2_with (at_make; go_must (refine wpList_make_own _ rfl _ _ 43 rfl w2.heap.size 57 i0 (.agg #[.int .i64 0, .int .i64 0, .string ⟨#[]⟩]) 3 Tryd.underlying43 hi hz0' hz1' .i64 .i64 hs.length hs.length rfl rfl rfl (by rw [hz2']; omega) (by unfold maxLen; omega) (Nat.le_refl _) ?_))
      intro w3 hown hgrow
      have hb3 : Below w2.heap.size w2 w3 := (Below.refl _ _).grown hgrow (Nat.le_refl _) (fun j hj => by cases hj)
      have HO := hide hown; have HB3 := hide hb3
      have hq3 := then_below HB2.out hb3
      obtain ⟨b0, b1, bz⟩ := HBox.out _ hq3
      clear hown hgrow hb3 hq3 b0' b1' bz'
      go_wp2_with fail
      clear b0 b1 bz
      go_loopw [9, 33] (fun v j wr => ∃ k : Nat, k ≤ hs.length ∧ j = .int .i64 k ∧ wr.ownsRow w2.heap.size 57 3 v k (valCells ((colVals (rowsOf hs) i).take k)) ∧ Below w2.heap.size w2 wr) (fun _ j _ => hs.length - (intOf j).toNat)
      case atStart => exact ⟨0, Nat.zero_le _, rfl, HO.out, HB3.out⟩
      case round =>
        obtain ⟨k, hk, rfl, hrow, hbw⟩ := hrel
        have hs0 := hbw.size
        by_cases hlt : k < hs.length
        · have hbW := then_below HB2.out hbw
          obtain ⟨b, off, A1, c1, r1, rfl, hb, d1, hr1, -, hg1⟩ := (HR.out.below hbW).at hlt
          have hrk := rowsOf_at hlt
          rw [hg1] at hrk
          have hrl : r1.length = cs.length := by
            have := HFit.out
            rw [List.all_eq_true] at this
            exact rowFits_length (this r1 (by unfold rowsOf; exact List.mem_map.2 ⟨_, getH_mem hlt, by rw [hg1]⟩))
          obtain ⟨b2, off2, rfl, hb2, g0, g1, g2⟩ := hr1 i (by omega)
          have HT := hide (HPt.out k (by rw [rowsOf_len]; exact hlt))
          rw [hrk] at HT
          generalize r1.getD i (0, 0, ⟨#[]⟩) = v at g0 g1 g2 HT
          have hil : (i : Int) < (r1.length : Int) := by omega
          have hi0 : (0 : Int) ≤ (i : Int) := by omega
          have hzW : W.heap.size ≤ wr.heap.size := hbW.size
          have HOr := hide hrow
          clear hr1 hg1 hrk hrl hrow
          go_wp2_with (at_builtin; go_must (refine wpList_append_own _ rfl _ _ 43 rfl w2.heap.size 57 i0 (.agg #[.int .i64 0, .int .i64 0, .string ⟨#[]⟩]) 3 32 Tryd.underlying43 hi hz0' hz1' hz2' rfl (by decide) _ _ _ rfl (HOr.out.alloc _) ⟨wr.heap.size, 0, none⟩ 1 1 [.int .i64 v.1, .int .i64 v.2.1, .string v.2.2] rfl rfl (val_new _ _ v _ rfl) (val_one v) (by unfold maxLen; omega) (by omega) (by simp; omega) ?_))
          intro v' w5 hown5 hgrow5 _
          have HO5 := hide hown5; have HG5 := hide hgrow5
          have hs5 := hgrow5.size
          simp at hs5
          clear hown5 hgrow5
          go_wp2_with fail
          go_roundw
          case rel =>
            refine ⟨k + 1, by omega, by go_num, by rw [HT.out]; exact HO5.out, ?_⟩
            exact (hbw.alloc hs0 _).grown HG5.out (by simp; omega) (fun j hj => (HOr.out.lt j hj).1)
          case measure => simp [intOf]; omega
        · obtain rfl : k = hs.length := by omega
          have hl2 : (colVals (rowsOf hs) i).length = hs.length := by rw [HPl.out, rowsOf_len]
          rw [← hl2, List.take_length] at hrow
          obtain ⟨A', cap', e1, hA⟩ := row_of_row hrow
          subst e1
          have HA := hide hA
          clear hrow hA hl2
          go_wp2_with fail
          go_ret2
          refine HP.out _ _ ⟨?_, HL.out.trans ((HB2.out.trans (hbw.mono HB2.out.size)).mono HL.out.size)⟩
          rw [if_pos HZ.out, if_pos HF.out]
          exact ⟨A', cap', rfl, HA.out⟩
    · have hle := findK_le cs s
      have HFV := hide (foundV_none (cs := cs) (s := s) (by omega))
      have HF := hide hf
      clear hf hle
      go_enter Tryd.func26, Tryd.ntmps26
      go_wp2_with fail
      rw [← HWE.out]
      refine HCk.out.mono ?_
      rintro e w1 ⟨rfl, hb1⟩
      have HB1 := hide hb1; clear hb1
      obtain ⟨b0, b1, bz⟩ := HBox.out _ HB1.out
      go_wp2_with fail
      refine (HFi.out _ HB1.out).mono ?_
      rintro e w2 ⟨rfl, hb2⟩
      rw [HFV.out]
      go_wp2_with fail
      go_ret2
      refine HP.out _ _ ⟨?_, then_below HL.out (then_below HB1.out hb2)⟩
      rw [if_pos HZ.out, if_neg HF.out]
      rfl
  · have hz0 : (fullT cs (rowsOf hs) != 0) = true := by rw [bne_iff_ne]; exact hz
    have HZ := hide hz
    clear hz
    go_enter Tryd.func26, Tryd.ntmps26
    go_wp2_with fail
    rw [← HWE.out]
    refine HCk.out.mono ?_
    rintro e w1 ⟨rfl, hb1⟩
    go_wp2_with fail
    go_ret2
    refine HP.out _ _ ⟨?_, then_below HL.out hb1⟩
    rw [if_neg HZ.out]
    rfl
end Go.Proofs.YtaoeofnfmlckiaaDoor
