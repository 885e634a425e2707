/-
  The program's frames: sumOf, Frame, the decoder's frame; the reference's Frame; bytes.Equal.
-/
import Derived.Test.YtkdihekhdnnheaaDoorFFrm
namespace Go.Proofs.YtkdihekhdnnheaaDoor
open Go.RowKit

set_option maxHeartbeats 1600000 in
set_option maxRecDepth 100000 in
theorem equal_any (A B : Option Addr) (n m c d : Nat) (l k : List UInt8) (w : World) (hn : n = l.length) (hm : m = k.length) (hA : BytesAt w.heap.size w A l) (hB : BytesAt w.heap.size w B k) :
    Calls Tryd.prog 75 #[.slice A n c, .slice B m d] w fun e w' => e = .returned (.bool (l == k)) ∧ w = w' := by
  have h1 : (convert 28 9 (.slice A n c)).run Tryd.prog w = .ok (.string ⟨l.toArray⟩) w := hn ▸ conv_bytes A c l w hA
  have h2 : (convert 28 9 (.slice B m d)).run Tryd.prog w = .ok (.string ⟨k.toArray⟩) w := hm ▸ conv_bytes B d k w hB
  clear hA hB hn hm
  go_enter Tryd.func75, Tryd.ntmps75
  go_wp2_with fail
  go_ret
  exact ⟨rfl, rfl⟩
theorem run_make4 (w : World) : (Instr.makeSlice 28 (.int .i64 0) (.int .i64 4)).run Tryd.prog w = .ok (.slice (some ⟨w.heap.size, 0, none⟩) 0 4) (w.alloc (.cells #[.int .u8 0, .int .u8 0, .int .u8 0, .int .u8 0] 5)) := by kernel_rfl
theorem sum4_get {s k : Nat} (hk : k < 4) : (sum4 s).getD k 0 = UInt8.ofNat (s / 256 ^ k) := by
  rcases (by omega : k = 0 ∨ k = 1 ∨ k = 2 ∨ k = 3) with rfl | rfl | rfl | rfl <;> simp [sum4]
theorem sum4_take {s k : Nat} (hk : k < 4) : (sum4 s).take (k + 1) = (sum4 s).take k ++ [UInt8.ofNat (s / 256 ^ k)] := by
  have hl : k < (sum4 s).length := hk
  rw [List.take_succ_eq_append_getElem hl, ← sum4_get hk, List.getD_eq_getElem?_getD, List.getElem?_eq_getElem hl]
  rfl
set_option maxHeartbeats 3200000 in
set_option maxRecDepth 100000 in
theorem sumOf_any (A : Option Addr) (c : Nat) (l : List UInt8) (w : World) (hB : BytesAt w.heap.size w A l) (hT : Tab w) (hl : l.length ≤ maxLen) :
    Calls Tryd.prog 65 #[.slice A l.length c] w (OwnRes w (sum4 (sumL l))) := by
  have HB1 := hide (fun (w' : World) o => (Below.refl w'.heap.size w').alloc (Nat.le_refl _) o)
  have HS := hide (sum_any A c l _ (hB.on (HB1.out w (.cells #[.int .u8 0, .int .u8 0, .int .u8 0, .int .u8 0] 5))) (hT.on (HB1.out w (.cells #[.int .u8 0, .int .u8 0, .int .u8 0, .int .u8 0] 5))) hl)
  have hs := sumL_lt l
  have hE := hide (World.ownsRow_made (base := w.heap.size) (e := 5) (size := 1) w #[.int .u8 0, .int .u8 0, .int .u8 0, .int .u8 0] 4 (Nat.le_refl _) (by decide) rfl)
  have HTk := hide (fun k h => sum4_take (s := sumL l) (k := k) h)
  have hmk := run_make4
  unfold OwnRes
  clear hB hT hl
  generalize sumL l = s at *
  go_enter Tryd.func65, Tryd.ntmps65
  go_wp2_with fail
  refine HS.out.mono ?_
  rintro e w1 ⟨rfl, rfl⟩
  go_wp2_with fail
  go_loopw [3, 4, 8] (fun v x i wr => ∃ k : Nat, k ≤ 4 ∧ i = .int .i64 k ∧ x = .int .u32 (s / 256 ^ k : Nat) ∧ wr.ownsRow w.heap.size 5 1 v k (byC ((sum4 s).take k)) ∧ Below w.heap.size w wr) (fun _ _ i _ => 4 - (intOf i).toNat)
  case atStart => exact ⟨0, by omega, rfl, by rw [Nat.pow_zero, Nat.div_one], hE.out, HB1.out w _⟩
  case round =>
    obtain ⟨k, hk, rfl, rfl, hrow, hbw⟩ := hrel
    by_cases hlk : k < 4
    · have HQ := hide (show s / 256 ^ (k + 1) = s / 256 ^ k / 256 by rw [Nat.pow_succ, Nat.div_div_eq_div_mul])
      have hq : s / 256 ^ k < 4294967296 := Nat.lt_of_le_of_lt (Nat.div_le_self _ _) hs
      have HT1 := hide (HTk.out k hlk)
      generalize s / 256 ^ k = q at *
      have HRow := hide hrow
      have HBw := hide hbw
      have hsz := hbw.size
      obtain ⟨A1, cp1, rfl, -⟩ := row_slice hrow
      have HU := hide (u8mod q)
      generalize UInt8.ofNat q = z at *
      clear hrow hbw
      go_wp2_with (at_builtin; go_must (refine append_bytes rfl _ _ rfl w.heap.size (.slice A1 k cp1) ((sum4 s).take k) [z] k rfl (HRow.out.alloc _) _ (some ⟨wr.heap.size, 0, none⟩) 1 1 rfl rfl (one_new wr _ _ ?hy) (fun e => by cases e) (by omega) (by simp; omega) ?_))
      case hy =>
        rw [HU.out]
        omega
      intro v' w4 hown4 hgrow4 hat4
      have HB4 := hide (grow_below HBw.out HRow.out hsz _ hgrow4)
      rw [← HT1.out] at hown4
      have HO4 := hide hown4
      obtain ⟨A4, cp4, rfl, -⟩ := row_slice hown4
      clear hown4 hgrow4 hat4
      go_wp2_with fail
      go_roundw
      case rel => exact ⟨k + 1, by omega, by go_num, by rw [HQ.out]; go_num, HO4.out, HB4.out⟩
      case measure => simp [intOf]; omega
    · obtain rfl : k = 4 := by omega
      have hrow4 : wr.ownsRow w.heap.size 5 1 u3 (sum4 s).length (byC (sum4 s)) := hrow
      have HF := hide (And.intro hrow4 hbw)
      obtain ⟨A4, cp4, rfl, -⟩ := row_slice hrow4
      clear hrow hrow4 hbw
      go_wp2_with fail
      go_ret
      exact ⟨_, rfl, HF.out⟩
set_option maxHeartbeats 3200000 in
set_option maxRecDepth 100000 in
theorem frame_any (A : Option Addr) (c : Nat) (l : List UInt8) (w : World) (hB : BytesAt w.heap.size w A l) (hT : Tab w) (hl : l.length ≤ 4294960000) (hnil : A = none → c = 0) :
    Calls Tryd.prog 53 #[.slice A l.length c] w (OwnRes w (frameB l)) := by
  have HB1 := hide (fun (w' : World) o => (Below.refl w'.heap.size w').alloc (Nat.le_refl _) o)
  have HO0 := hide (out_new w)
  have HI := hide (outInt_any (l.length : Int) _ ⟨by omega, by omega⟩ HO0.out (by simp))
  have HBy := hide hB
  have HT := hide hT
  have HN := hide hnil
  have HSo := hide (fun w' (h : Below w.heap.size w w') => sumOf_any A c l w' (hB.on h) (hT.on h) (by unfold maxLen; omega))
  unfold OwnRes at HSo ⊢
  have HFr := hide (show frameB l = intB l.length ++ (l ++ sum4 (sumL l)) from rfl)
  have hi9 := (intB_len (l.length : Int)).2
  have h4 : (sum4 (sumL l)).length = 4 := rfl
  rw [List.nil_append] at HI
  clear hB hT hnil
  generalize sum4 (sumL l) = s4 at *
  generalize intB (l.length : Int) = ib at *
  have HFl := hide (show (frameB l).length = ib.length + l.length + 4 by rw [HFr.out, List.length_append, List.length_append, h4]; omega)
  generalize frameB l = fb at *
  go_enter Tryd.func53, Tryd.ntmps53
  go_wp2_with fail
  refine HI.out.mono ?_
  rintro e w1 ⟨rfl, v1, hv1, ht1⟩
  have HB2 := hide ((HB1.out w _).trans ((ht1.below HO0.out)))
  have hs2 := HB2.out.size
  have HR1 := hide hv1.row
  obtain ⟨A1, cp1, rfl, -⟩ := row_slice hv1.row
  have c0 : w1.cell? ⟨w.heap.size, 0, none⟩ = some (.slice A1 ib.length cp1) := Lib.cell_of_heap hv1.box 0
  clear hv1 ht1
  go_wp2_with (at_builtin; go_must (refine append_bytes rfl _ _ rfl w.heap.size (.slice A1 ib.length cp1) ib l ib.length rfl HR1.out _ A l.length c rfl rfl (HBy.out.on HB2.out) HN.out (by omega) hs2 ?_))
  intro v2 w2 hown2 hgrow2 hat2
  have HR2 := hide hown2
  have HB3 := hide (grow_below0 HB2.out HR1.out hs2 hgrow2)
  have hs3 := HB3.out.size
  obtain ⟨A2, cp2, rfl, -⟩ := row_slice hown2
  clear hown2 hgrow2 hat2 c0
  go_wp2_with fail
  refine (HSo.out w2 HB3.out).mono ?_
  rintro e w3 ⟨v3, rfl, hr3, hb3⟩
  have HB4 := hide (HB3.out.trans (hb3.mono hs3))
  have hs4 := HB4.out.size
  have HR4 := hide (row_keep HR2.out (w' := w3) fun b e => hb3.block b (HR2.out.lt b e).2)
  obtain ⟨A3, cp3, rfl, hBy3, _, hn3, _⟩ := bytes_of_row hr3
  rw [h4]
  clear hr3 hb3
  go_wp2_with (at_builtin; go_must (refine append_bytes rfl _ _ rfl w.heap.size (.slice A2 (ib.length + l.length) cp2) (ib ++ l) s4 (ib.length + l.length) rfl HR4.out _ A3 4 cp3 h4.symm rfl hBy3 hn3 (by omega) hs4 ?_))
  intro v5 w5 hown5 hgrow5 hat5
  have HB5 := hide (grow_below0 HB4.out HR4.out hs4 hgrow5)
  have HR5 := hide (show w5.ownsRow w.heap.size 5 1 v5 fb.length (byC fb) by rw [HFl.out, HFr.out]; first | exact hown5 | (rw [← List.append_assoc]; exact hown5))
  obtain ⟨A5, cp5, rfl, -⟩ := row_slice hown5
  clear hown5 hgrow5 hat5 hBy3 hn3
  go_wp2_with fail
  go_ret
  exact ⟨_, rfl, HR5.out, HB5.out⟩
end Go.Proofs.YtkdihekhdnnheaaDoor
