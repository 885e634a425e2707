/-
  The program's Scan.
-/
import Derived.Test.YtkdihekhdnnheaaDoorFHeads
namespace Go.Proofs.YtkdihekhdnnheaaDoor
open Go.RowKit

def ScanRes (base : Nat) (w : World) (l : List UInt8) (e : Ending) (w' : World) : Prop :=
  ∃ v' hs, e = .returned (.tuple #[v', .int .i64 ((allB (lsOf hs)).length : Nat)]) ∧ Scanned l (lsOf hs) ∧ HeadsOwn base w' v' hs ∧ Below w.heap.size w w'
set_option maxHeartbeats 6400000 in
set_option maxRecDepth 100000 in
theorem scan_any (A : Option Addr) (c : Nat) (l : List UInt8) (w : World) (hB : BytesAt w.heap.size w A l) (hT : Tab w) (hl : l.length ≤ 1073741824) (hnil : A = none → c = 0) (hcap : l.length ≤ c) (hc : c ≤ 9223372036854775807) (hA : ∀ a, A = some a → a = ⟨a.block, a.off, none⟩) :
    Calls Tryd.prog 59 #[.slice A l.length c] w (ScanRes (w.heap.size + 1) w l) := by
  have HL0 := hide ((Below.refl w.heap.size w).alloc (Nat.le_refl _) (.cells #[.slice A l.length c, .bool false] 96))
  have HI0 := hide (show InAt (fun b => b ≤ w.heap.size) w.heap.size (w.alloc (.cells #[.slice A l.length c, .bool false] 96)) l false from by
    refine ⟨Nat.le_refl _, (fun e => by cases e), A, c, heap_alloc_new w _, hcap, ⟨hc, by omega⟩, hnil, hA, fun j hj => ?_⟩
    obtain ⟨b, off, e, hlt, h0⟩ := hB j hj
    exact ⟨b, off, e, Nat.le_of_lt hlt, by omega, by simp; omega, by rw [Lib.cell?_alloc_some _ h0]⟩)
  have HTb := hide (fun (wr : World) (hbw : Below w.heap.size w wr) w' (h : OnlyG w.heap.size wr w') => hT.stays (Nat.le_refl _) (hbw.trans (h.below (Nat.le_refl _) hbw.size)))
  have HB1 := hide (fun (w' : World) o => (Below.refl w'.heap.size w').alloc (Nat.le_refl _) o)
  clear hB hT hnil hcap hc hA
  unfold ScanRes
  go_enter Tryd.func59, Tryd.ntmps59
  go_wp2_with fail
  go_loopw [2, 3] (fun lv ev wr => ∃ hs rl, l = allB (lsOf hs) ++ rl ∧ ev = .int .i64 ((allB (lsOf hs)).length : Nat) ∧ InAt (fun b => b ≤ w.heap.size) w.heap.size wr rl false ∧ HeadsOwn (w.heap.size + 1) wr lv hs ∧ Below w.heap.size w wr ∧ w.heap.size + 1 ≤ wr.heap.size ∧ hs.length ≤ (allB (lsOf hs)).length) (fun _ ev _ => l.length - (intOf ev).toNat)
  case atStart => exact ⟨[], l, rfl, rfl, HI0.out, HeadsOwn.nil _ _, HL0.out, by simp, by simp⟩
  case round =>
    obtain ⟨hs, rl, hl1, rfl, hin, hho, hbw, hsz, hhl⟩ := hrel
    clear HI0 HL0
    have hll := congrArg List.length hl1
    rw [List.length_append] at hll
    have HF := hide (inFrm_any wr hin (HTb.out wr hbw) (by omega))
    have HHo := hide hho
    have HBw := hide hbw
    have HL1 := hide hl1
    unfold FrmRes at HF
    have hrll : rl.length ≤ 1073741824 := by omega
    have hhb : hs.length ≤ 1073741824 := by omega
    have HLl := hide hll
    clear hin hho hbw hl1 hll
    by_cases ok : FrmOk rl
    · obtain ⟨hd, _, hsl⟩ := frm_dec ok
      have hfl := congrArg List.length hd
      rw [List.length_append] at hfl
      have hfb := frameB_bd (txtS rl)
      have HN := hide (show l = allB (lsOf hs ++ [txtS rl]) ++ frmR rl by rw [allB_snoc, List.append_assoc, ← hd]; exact HL1.out)
      have HE := hide (show (allB (lsOf hs ++ [txtS rl])).length = (allB (lsOf hs)).length + (frameB (txtS rl)).length by rw [allB_snoc, List.length_append])
      have HOk := hide ok
      have HFl := hide hfl
      clear hd ok HL1 hfl
      generalize frameB (txtS rl) = fb at *
      generalize txtS rl = ts at *
      generalize frmR rl = r2 at *
      go_wp2_with fail
      refine HF.out.mono ?_
      rintro e w2 ⟨h1, -, ho2⟩
      obtain ⟨A2, c2, rfl, hn2, hR2, hI2⟩ := h1 HOk.out
      have HI2 := hide hI2
      have HHo2 := hide (HHo.out.keep ho2.size fun b h1 h2 => ho2.block b h2 (by omega))
      have HB2 := hide (HBw.out.trans (ho2.below (Nat.le_refl _) (by omega)))
      have hs2 := ho2.size
      have HC := hide (clone_any A2 c2 ts w2 hR2.bytes (by omega))
      obtain ⟨_, _, Ab, cb, hbx, _⟩ := hI2
      obtain ⟨k0, k1, f0, f1⟩ := InAt.cells hbx
      clear hbx hR2 ho2 hn2 h1 HF
      go_wp2_with fail
      refine HC.out.mono ?_
      rintro e w3 ⟨v3, rfl, hr3, hb3⟩
      have HI3 := hide (HI2.out.below hb3)
      have HHo3 := hide (HHo2.out.below hb3)
      have HB3 := hide (HB2.out.trans (hb3.mono (by omega)))
      have hs3 := hb3.size
      obtain ⟨A3, c3, rfl, hBy3, hA3, hn3, _⟩ := bytes_of_row hr3
      have HH3 := hide (show HAt (w.heap.size + 1) w3 u2 ⟨A3, c3, ts⟩ from fun j hj => by
        obtain ⟨b, off, e, e1, e2⟩ := hBy3 j hj
        have h1 : w2.heap.size ≤ b := (hA3 _ e).1
        exact ⟨b, off, e, by omega, e1, fun e3 => by have := (HHo2.out.row.lt b e3).2; omega, e2⟩)
      clear hr3 hb3 hBy3 hA3 hn3 k0 k1 f0 f1
      go_wp2_with (at_builtin; go_must (refine append_head rfl _ _ rfl (w.heap.size + 1) u2 hs hs.length rfl rfl (HHo3.out.below (HB1.out w3 _)) ⟨A3, c3, ts⟩ w3.heap.size rfl (Lib.cell_of_heap (heap_alloc_new w3 _) 0) (HH3.out.keep (by simp) fun b _ h _ => Below.heap_alloc _ _ _ h) (by omega) (by simp; omega) ?_))
      intro v4 w4 hho4 hown4 hgrow4
      have HHo4 := hide hho4
      have HB4 := hide (HB3.out.trans (((HB1.out w3 _).mono (by omega)).trans ((Below.refl w.heap.size _).grown hgrow4 (by simp; omega) fun j e => by have := (HHo3.out.row.lt j e).1; omega)))
      have HI4 := hide (HI3.out.keep (w' := w4) (Nat.le_trans (HB1.out w3 (.cells #[hdr ⟨A3, c3, ts⟩] 28)).size hgrow4.size) fun b hle h => (hgrow4.block b (by simp; omega) (fun e => by
        have h1 := (HHo3.out.row.lt b e.symm).1
        have h2 : b ≤ w.heap.size := hle
        omega)).trans (Below.heap_alloc _ _ _ h))
      obtain ⟨A4, c4, rfl, -⟩ := row_slice hown4
      obtain ⟨_, _, Ab4, cb4, hbx4, _⟩ := HI4.out
      obtain ⟨m0, m1, f2, f3⟩ := InAt.cells hbx4
      have HSz := hide (Nat.le_trans (Nat.le_trans hs3 (HB1.out w3 (.cells #[hdr ⟨A3, c3, ts⟩] 28)).size) hgrow4.size)
      clear hho4 hown4 hgrow4 hbx4
      go_wp2_with fail
      go_roundw
      case rel => exact ⟨hs ++ [⟨A3, c3, ts⟩], r2, by rw [lsOf_snoc]; exact HN.out, by rw [lsOf_snoc, HE.out]; have h1 := HLl.out; have h2 := HFl.out; congr 1; omega, HI4.out, HHo4.out, HB4.out, by have := HSz.out; omega, by rw [lsOf_snoc, HE.out, List.length_append]; simp; omega⟩
      case measure => have h1 := HLl.out; have h2 := HFl.out; simp [intOf]; omega
    · have HNo := hide ok
      have HSc := hide (show Scanned l (lsOf hs) from ⟨rl, HL1.out, ok⟩)
      clear ok
      go_wp2_with fail
      refine HF.out.mono ?_
      rintro e w2 ⟨-, h1, ho2⟩
      obtain ⟨rfl, hI2⟩ := h1 HNo.out
      have HHo2 := hide (HHo.out.keep ho2.size fun b h1 h2 => ho2.block b h2 (by omega))
      have HB2 := hide (HBw.out.trans (ho2.below (Nat.le_refl _) (by omega)))
      obtain ⟨_, _, Ab, cb, hbx, _⟩ := hI2
      obtain ⟨k0, k1, f0, f1⟩ := InAt.cells hbx
      clear hbx ho2 h1 HF
      go_wp2_with fail
      go_ret2
      exact ⟨_, hs, rfl, HSc.out, HHo2.out, HB2.out⟩
end Go.Proofs.YtkdihekhdnnheaaDoor
