/-
  The law's own tableBytes.
-/
import Derived.Test.YtbjcbgomkhdmmaaDoorFRefTb
namespace Go.Proofs.YtbjcbgomkhdmmaaDoor
open Go.RowKit

set_option maxHeartbeats 6400000 in
set_option maxRecDepth 100000 in
theorem tableBytes_any (S A : Option Addr) (c cap : Nat) (cs : List (ByteArray × Int)) (hs : List RH) (w : World) (hC : ColsAt w.heap.size w S cs) (hR : RowsAt w.heap.size w A hs) (hc : ∀ x ∈ cs, Int64 x.2) (hv : ∀ x ∈ rowsOf hs, ∀ y ∈ x, okV y)
    (hw : cs.length ≤ 4096) (hhl : hs.length ≤ 4096) (hrl : ∀ x ∈ rowsOf hs, x.length ≤ 4096) (hwr : WfT (rowsOf hs)) (hl : (tabB cs (rowsOf hs)).length ≤ 4294900000) :
    Calls Tryd.prog 14 #[.agg #[.slice S cs.length c, .slice A hs.length cap]] w (OwnRes w (tabB cs (rowsOf hs))) := by
  have HA := hide ((Below.refl w.heap.size w).alloc (Nat.le_refl _) (.cells #[.slice S cs.length c, .slice A hs.length cap] 27))
  have HC := hide (hC.on HA.out); have HR := hide (hR.on HA.out); have HRl := hide hrl
  have hsz0 : (w.alloc (.cells #[.slice S cs.length c, .slice A hs.length cap] 27)).heap.size = w.heap.size + 1 := by simp
  have HBox := hide (fun w' (h : Below (w.heap.size + 1) (w.alloc (.cells #[.slice S cs.length c, .slice A hs.length cap] 27)) w') => (h.cell (p := ⟨w.heap.size, 1, none⟩) (by simp only; omega)).trans (by simp : _ = some (.slice A hs.length cap)))
  rw [hsz0] at HC HR
  have HRef := hide (fun (S' A' : Option Addr) (c' d' : Nat) (ns : List RH) (w' : World) (h1 : ColsAt w'.heap.size w' S' cs) (h2 : RowsAt w'.heap.size w' A' ns) (h3 : rowsOf ns = rowsOf hs) =>
    (show Calls Tryd.prog 32 #[.slice S' cs.length c', .slice A' ns.length d'] w' (OwnRes w' (tabB cs (rowsOf hs))) by
      have := refTable_any S' A' c' d' cs ns w' h1 h2 hc (h3 ▸ hv) (by unfold maxLen; omega) (h3 ▸ hwr) (by rw [h3]; exact hl)
      rwa [h3] at this))
  have HB1 := hide (fun (w' : World) o => (Below.refl w'.heap.size w').alloc (Nat.le_refl _) o)
  obtain ⟨i0, hi, hz0, hz1, hz2⟩ := info_parts refcol_info
  obtain ⟨i1, hj, hy0, hy1, hy2⟩ := info_parts refval_info
  clear hC hR hc hv hwr hl hsz0 hrl
  have hrfl := HA.out
  generalize hW : w.alloc (.cells #[.slice S cs.length c, .slice A hs.length cap] 27) = W at *
  have HW := hide hW
  have hWs : W.heap.size = w.heap.size + 1 := by rw [← hW]; simp
  clear hrfl hW
  unfold OwnRes
  go_enter Tryd.func14, Tryd.ntmps14
  go_wp2_with fail
  rw [HW.out]
  go_loopw [3, 15] (fun v i wr => ∃ k : Nat, k ≤ cs.length ∧ i = .int .i64 k ∧ wr.ownsRow (w.heap.size + 1) 66 2 v k (colCells (cs.take k)) ∧ Below (w.heap.size + 1) W wr) (fun _ i _ => cs.length - (intOf i).toNat)
  case atStart => exact ⟨0, Nat.zero_le _, rfl, World.ownsRow_nil _ _ _ _, Below.refl _ _⟩
  case round =>
    obtain ⟨k, hk, rfl, hrow, hbw⟩ := hrel
    have hsz := hbw.size
    rw [hWs] at hsz
    by_cases hlt : k < cs.length
    · have HLt := hide hlt
      obtain ⟨b, off, rfl, hb, h0, h1⟩ := HC.out.below hbw k hlt
      have HT := hide (take_col hlt)
      generalize hcol : cs.getD k (⟨#[]⟩, 0) = col at h0 h1 HT
      obtain ⟨nm, ty⟩ := col
      simp only at h0 h1
      have HOw := hide hrow
      have HBw := hide hbw
      clear hcol hrow hbw hk
      go_wp2_with (at_builtin; go_must (refine wpList_append_own _ rfl _ _ 65 rfl (w.heap.size + 1) 66 i0 (.agg #[.string ⟨#[]⟩, .int .i64 0]) 2 24 Tryd.underlying65 hi hz0 hz1 hz2 rfl (by decide) _ _ _ rfl ((HOw.out.alloc _).alloc _) ⟨wr.heap.size + 1, 0, none⟩ 1 1 [.string nm, .int .i64 ty] rfl rfl (col_new _ _ (nm, ty) _ (by simp)) (col_one (nm, ty)) (by unfold maxLen; omega) (by omega) (by simp; omega) ?_))
      intro v' w1 hown' hgrow _
      have HA2 := hide (show w1.ownsRow (w.heap.size + 1) 66 2 v' (k + 1) (colCells (cs.take (k + 1))) ∧ Below (w.heap.size + 1) W w1 from ⟨by rw [HT.out, colCells_snoc]; exact hown', ((HBw.out.alloc hsz _).alloc (by simp; omega) _).grown hgrow (by simp; omega) (fun j hj => (HOw.out.lt j hj).1)⟩)
      clear hown' hgrow h0 h1
      go_wp2_with fail
      go_roundw
      case rel => exact ⟨k + 1, HLt.out, by go_num, HA2.out⟩
      case measure => have := HLt.out; simp [intOf]; omega
    · obtain rfl : k = cs.length := by omega
      rw [List.take_length] at hrow
      have hbx := HBox.out wr hbw
      have HOw := hide hrow
      have HBw := hide hbw
      clear hrow hbw hk hlt
      obtain ⟨S1, c1, e1, hS1⟩ := cols_of_row HOw.out
      subst e1
      have HS1 := hide hS1
      clear hS1
      obtain ⟨wb, hwb⟩ : ∃ wb, wb = wr := ⟨_, rfl⟩
      subst hwb
      go_wp2_with fail
      go_loopw [6, 31] (fun v i wr => ∃ (k : Nat) (ns : List RH), k ≤ hs.length ∧ i = .int .i64 k ∧ ns.length = k ∧ rowsOf ns = (rowsOf hs).take k ∧ RowsG wb.heap.size 69 wr v ns ∧ Below wb.heap.size wb wr) (fun _ i _ => hs.length - (intOf i).toNat)
      case atStart => exact ⟨0, [], Nat.zero_le _, rfl, rfl, rfl, RowsG.nil _ _ _, Below.refl _ _⟩
      case round =>
        obtain ⟨k, ns, hk, rfl, hnl, hrk, hown, hbw⟩ := hrel
        have hs0 := hbw.size
        have hs0' : w.heap.size + 1 ≤ wr.heap.size := by omega
        by_cases hlt : k < hs.length
        · have HLt := hide hlt
          obtain ⟨b, off, A', c', r, rfl, hb, c0, hr, -, hg⟩ := ((HR.out.below HBw.out).below (hbw.mono hsz)).at hlt
          have hr4 : r.length ≤ 4096 := by
            have := HRl.out (hs.getD k dH).2.2 (by unfold rowsOf; exact List.mem_map.2 ⟨_, getH_mem hlt, rfl⟩)
            rw [hg] at this; exact this
          have HT := hide (take_rows hlt)
          rw [hg] at HT
          have HRr := hide hr
          have HOg := hide hown
          have HBk := hide hbw
          have HNl := hide hnl
          have HRk := hide hrk
          clear hr hg hown hbw hnl hrk hk
          obtain ⟨wa, hwa⟩ : ∃ wa, wa = wr := ⟨_, rfl⟩
          subst hwa
          go_wp2_with fail
          go_loopw [9, 37] (fun v i wr => ∃ j : Nat, j ≤ r.length ∧ i = .int .i64 j ∧ wr.ownsRow wa.heap.size 40 3 v j (valCells (r.take j)) ∧ Below wa.heap.size wa wr) (fun _ i _ => r.length - (intOf i).toNat)
          case atStart => exact ⟨0, Nat.zero_le _, rfl, World.ownsRow_nil _ _ _ _, Below.refl _ _⟩
          case round =>
            obtain ⟨j, hj, rfl, hrow, hbw⟩ := hrel
            have hsj := hbw.size
            by_cases hlt3 : j < r.length
            · have HLj := hide hlt3
              obtain ⟨b2, off2, rfl, hb2, h0, h1, h2⟩ := (HRr.out.below (hbw.mono hs0')) j hlt3
              have HT2 := hide (take_val hlt3)
              generalize hval : r.getD j (0, 0, ⟨#[]⟩) = val at h0 h1 h2 HT2
              obtain ⟨k0, n0, s0⟩ := val
              simp only at h0 h1 h2
              have HOw2 := hide hrow
              have HBw2 := hide hbw
              have HRf := hide (ref_any k0 n0 s0 (wr.alloc (.cells #[.int .i64 k0, .int .i64 n0, .string s0] 36)))
              have hA1 := HB1.out wr (.cells #[.int .i64 k0, .int .i64 n0, .string s0] 36)
              have HA1 := hide hA1
              clear hval hrow hbw hj hA1
              go_wp2_with fail
              refine HRf.out.mono ?_
              rintro e w3 ⟨rfl, hb3⟩
              have hb3' : Below wr.heap.size wr w3 := HA1.out.trans (hb3.mono (by simp))
              have HO3 := hide (row_keep HOw2.out fun b e => hb3'.block b (HOw2.out.lt b e).2)
              have HB3 := hide (HBw2.out.trans (hb3'.mono hsj))
              have hs3 := HB3.out.size
              clear hb3 hb3' h0 h1 h2
              go_wp2_with (at_builtin; go_must (refine wpList_append_own _ rfl _ _ 69 rfl wa.heap.size 40 i1 (.agg #[.int .i64 0, .int .i64 0, .string ⟨#[]⟩]) 3 32 Tryd.underlying69 hj hy0 hy1 hy2 rfl (by decide) _ _ _ rfl (HO3.out.alloc _) ⟨w3.heap.size, 0, none⟩ 1 1 [.int .i64 k0, .int .i64 n0, .string s0] rfl rfl (val_new _ _ (k0, n0, s0) _ (by simp)) (val_one (k0, n0, s0)) (by unfold maxLen; omega) (by omega) (by simp; omega) ?_))
              intro v' w4 hown' hgrow _
              have HA2 := hide (show w4.ownsRow wa.heap.size 40 3 v' (j + 1) (valCells (r.take (j + 1))) ∧ Below wa.heap.size wa w4 from ⟨by rw [HT2.out, valCells_snoc]; exact hown', (HB3.out.alloc hs3 _).grown hgrow (by simp; omega) (fun j hj => (HO3.out.lt j hj).1)⟩)
              clear hown' hgrow
              go_wp2_with fail
              go_roundw
              case rel => exact ⟨j + 1, HLj.out, by go_num, HA2.out⟩
              case measure => have := HLj.out; simp [intOf]; omega
            · obtain rfl : j = r.length := by omega
              rw [List.take_length] at hrow
              obtain ⟨A2, c2, rfl, hA2, hn2, hnew2⟩ := row_new hrow
              have HBw2 := hide hbw
              have HOg3 := hide (HOg.out.below hbw)
              have HAp := hide (show ApH u6 (A2, c2, r) from fun a e1 e2 => by
                have h1 := hnew2 a e1
                have h2 := (HOg.out.row.lt _ e2).2
                omega)
              have HH := hide (show HdrOk wr.heap.size wr (A2, c2, r) from ⟨hA2, hn2⟩)
              have HNw := hide (show ∀ a, (A2, c2, r).1 = some a → wb.heap.size ≤ a.block from fun a e1 => Nat.le_trans hs0 (hnew2 a e1))
              have hA1 := HB1.out wr (.cells #[.slice A2 r.length c2] 69)
              have HA1 := hide hA1
              have HOg4 := hide (HOg3.out.below hA1)
              have HH4 := hide (HH.out.on hA1)
              have HCe := hide (show (wr.alloc (.cells #[.slice A2 r.length c2] 69)).cell? ⟨wr.heap.size, 0, none⟩ = some (hdr (A2, c2, r)) by rw [Lib.cell_of_heap (heap_alloc_new wr _) 0]; rfl)
              clear hrow hA2 hn2 hnew2 hbw hA1 hj hlt3
              have hsw : wb.heap.size ≤ wr.heap.size := Nat.le_trans hs0 hsj
              go_wp2_with (at_builtin; go_must (refine rowsR_append rfl _ _ rfl wb.heap.size u6 ns k HNl.out.symm rfl HOg4.out (A2, c2, r) wr.heap.size rfl HCe.out HH4.out HAp.out HNw.out (by omega) (by simp; omega) ?_))
              intro v4 w4 hrg4 hown4 hgrow4
              have HA2 := hide (show RowsG wb.heap.size 69 w4 v4 (ns ++ [(A2, c2, r)]) ∧ Below wb.heap.size wb w4 from ⟨hrg4, HBk.out.trans ((HBw2.out.mono hs0).trans ((HA1.out.mono hsw).trans ((Below.refl _ _).grown hgrow4 (by simp; omega) (fun j hj => (HOg4.out.row.lt j hj).1))))⟩)
              have HRk2 := hide (show rowsOf (ns ++ [(A2, c2, r)]) = (rowsOf hs).take (k + 1) by rw [HT.out, ← HRk.out]; unfold rowsOf; rw [List.map_append]; rfl)
              clear hrg4 hown4 hgrow4
              go_wp2_with fail
              go_roundw
              case rel => exact ⟨k + 1, ns ++ [(A2, c2, r)], HLt.out, by go_num, by rw [List.length_append, HNl.out]; rfl, HRk2.out, HA2.out.1, HA2.out.2⟩
              case measure => have := HLt.out; simp [intOf]; omega
        · obtain rfl : k = hs.length := by omega
          have hid : rowsOf ns = rowsOf hs := by rw [hrk]; exact List.take_of_length_le (by rw [rowsOf_len]; exact Nat.le_refl _)
          obtain ⟨A1, d1, rfl, hA1, -⟩ := hown.rows
          have HCl := hide (HRef.out S1 A1 c1 d1 ns wr (HS1.out.on hbw) hA1 hid)
          unfold OwnRes at HCl
          have HL := hide (HA.out.trans ((HBw.out.mono (by omega)).trans (hbw.mono (by omega))))
          have hsl := HL.out.size
          clear hown hbw hid hrk hA1 hk hlt
          clear hnl
          go_wp2_with fail
          refine HCl.out.mono ?_
          rintro e w5 ⟨v5, rfl, hr5, hb5⟩
          have HF := hide (show w5.ownsRow w.heap.size 5 1 v5 (tabB cs (rowsOf hs)).length (byC (tabB cs (rowsOf hs))) ∧ Below w.heap.size w w5 from ⟨hr5.mono hsl, HL.out.trans (hb5.mono hsl)⟩)
          obtain ⟨A6, c6, rfl, -⟩ := row_slice hr5
          clear hr5 hb5
          go_wp2_with fail
          go_ret
          exact ⟨_, rfl, HF.out⟩
end Go.Proofs.YtbjcbgomkhdmmaaDoor
