/-
  The reference's fields of a spec.
-/
import Derived.Test.YtggaflihblhapaaDoorHRefM
import Derived.Test.YtggaflihblhapaaDoorHParse
import Derived.Deep.RegionHeld3
namespace Go.Proofs.YtggaflihblhapaaDoor
open Go.RowKit CM HM

abbrev tF : TypeId := 35
theorem BoxC.below {w w' : World} {b B : Nat} {c : Sp} (h : BoxC w b c) (hb : Below B w w') (hB : b < B) : BoxC w' b c := fun j hj => by
  obtain ⟨⟨a1, a2⟩, a3, a4⟩ := h j hj
  have hz := h.lt
  exact ⟨⟨(hb.cell (p := ⟨b, j, none⟩) hB).trans a1, (hb.frozen (p := ⟨b, j, none⟩) hB).trans a2⟩, (hb.cell (p := ⟨b, 5 + j, none⟩) hB).trans a3, (hb.frozen (p := ⟨b, 5 + j, none⟩) hB).trans a4⟩
theorem BoxC.box (w : World) (c : Sp) : BoxC (boxC w c) w.heap.size c := fun j hj => by
  obtain rfl | rfl | rfl | rfl | rfl : j = 0 ∨ j = 1 ∨ j = 2 ∨ j = 3 ∨ j = 4 := by omega
  all_goals simp
set_option maxRecDepth 100000 in
set_option maxHeartbeats 2000000 in
theorem ref_any (c : Sp) (w : World) (hc : c.wf) : Calls Tryd.prog 14 #[vC c] w fun e w' => e = .returned (.agg (fCells c)) ∧ Below w.heap.size w w' := by
  have hz := row_zero
  have HC := hide hc
  clear hc
  go_enter Tryd.func14, Tryd.ntmps14
  go_wp2_with fail
  obtain ⟨W, hW⟩ : ∃ W, W = ((boxC w c).alloc (.cells zCells tF)).alloc (.cells zCells tF) := ⟨_, rfl⟩
  have HB0 : Hid (Below w.heap.size w W) := hide (by rw [hW]; exact ((((Below.refl _ _).alloc (Nat.le_refl _) _).alloc (by simp) _).alloc (by simp; omega) _))
  have HN : Hid (W.heap.size = w.heap.size + 1 + 1 + 1) := hide (by rw [hW]; simp)
  have HA : Hid (BoxC W w.heap.size c) := hide (by
    rw [hW]
    exact ((BoxC.box w c).on ((Below.refl _ _).alloc (Nat.le_refl _) _)).on ((Below.refl _ _).alloc (Nat.le_refl _) _))
  have HR0 : Hid (Row W (w.heap.size + 1 + 1) c (fun _ => False)) := hide (by rw [hW]; exact Row.start _ c _ (by simp))
  have HV : Hid (W.heap[w.heap.size + 1]? = some (.cells zCells tF (0, 0))) := hide (by
    rw [hW]
    have h1 := heap_alloc_last (boxC w c) (.cells zCells tF)
    have h2 : (boxC w c).heap.size = w.heap.size + 1 := by simp
    rw [h2] at h1
    rw [← h1]
    exact ((Below.refl ((boxC w c).alloc (.cells zCells tF)).heap.size _).alloc (Nat.le_refl _) _).block _ (by simp))
  rw [show (((w.alloc _).alloc _).alloc _) = W from hW.symm]
  clear hW hz
  go_loopw [6] (fun t wr => ∃ k : Nat, k ≤ 5 ∧ t = .int .i64 (k : Nat) ∧ Row wr (w.heap.size + 1 + 1) c (fun i => i < 65 * k) ∧ Below (w.heap.size + 1 + 1) W wr) (fun t _ => 5 - (intOf t).toNat)
  case atStart => exact ⟨0, by omega, rfl, HR0.out.weak (fun i _ h => absurd h (by omega)), Below.refl _ _⟩
  case round =>
    obtain ⟨k, hk, rfl, hr, hb⟩ := hrel
    have HR := hide hr
    have HB := hide hb
    have hA := HA.out.below hb (by omega)
    by_cases hlt : k < 5
    · obtain ⟨⟨-, -⟩, q3, -⟩ := hA k hlt
      obtain ⟨v0, r1, r2⟩ := hr.cell (i := k * 65 + 64) (by omega)
      clear hA hr hb
      have HLt : Hid (w.heap.size + 1 + 1 < wr.heap.size) := hide (lt_of_cell r1)
      go_wp2_with fail
      obtain ⟨W1, hW1⟩ : ∃ W1, W1 = wr.setCell ⟨w.heap.size + 1 + 1, k * 65 + 64, none⟩ (.bool (c.A k)) := ⟨_, rfl⟩
      have HR1 : Hid (Row W1 (w.heap.size + 1 + 1) c (fun i => i < 65 * k + 0 ∨ i = 65 * k + 64)) := hide (by
        rw [hW1]
        exact (HR.out.set (i := k * 65 + 64) (by omega) (by rw [Nat.mul_comm k 65, fV_any])).weak (fun i _ h => by
          rcases h with h | h
          · exact .inl (by omega)
          · exact .inr (by omega)))
      have HB1 : Hid (Below (w.heap.size + 1 + 1) W W1) := hide (by rw [hW1]; exact HB.out.setCell (p := ⟨w.heap.size + 1 + 1, k * 65 + 64, none⟩) (Nat.le_refl _) _)
      rw [← hW1]
      clear hW1 r1 r2 q3
      go_loopw [16] (fun t wx => ∃ n : Nat, n ≤ 64 ∧ t = .int .i64 (n : Nat) ∧ Row wx (w.heap.size + 1 + 1) c (fun i => i < 65 * k + n ∨ i = 65 * k + 64) ∧ Below (w.heap.size + 1 + 1) W wx) (fun t _ => 64 - (intOf t).toNat)
      case atStart => exact ⟨0, by omega, rfl, HR1.out, HB1.out⟩
      case round =>
        obtain ⟨n, hn, rfl, hr2, hb2⟩ := hrel
        have HR2 := hide hr2
        have HB2 := hide hb2
        have hA := HA.out.below hb2 (by omega)
        by_cases hln : n < 64
        · obtain ⟨⟨q3, -⟩, -, -⟩ := hA k hlt
          obtain ⟨v0, r1, r2⟩ := hr2.cell (i := k * 65 + n) (by omega)
          have HE := hide (has_eq (c.S k) n (HC.out k hlt))
          clear hA hr2 hb2
          go_wp2_with fail
          go_region
          rw [HE.out]
          have HR3 : Hid (Row (wr.setCell ⟨w.heap.size + 1 + 1, k * 65 + n, none⟩ (.bool ((c.S k).testBit n))) (w.heap.size + 1 + 1) c (fun i => i < 65 * k + (n + 1) ∨ i = 65 * k + 64)) := hide
            ((HR2.out.set (i := k * 65 + n) (by omega) (by rw [Nat.mul_comm k 65, fV_has _ _ _ (by omega)])).weak (fun i _ h => by
              rcases h with h | h
              · by_cases e : i = k * 65 + n
                · exact .inr e
                · exact .inl (.inl (by omega))
              · exact .inl (.inr h)))
          have HB3 : Hid (Below (w.heap.size + 1 + 1) W (wr.setCell ⟨w.heap.size + 1 + 1, k * 65 + n, none⟩ (.bool ((c.S k).testBit n)))) := hide (HB2.out.setCell (p := ⟨w.heap.size + 1 + 1, k * 65 + n, none⟩) (Nat.le_refl _) _)
          go_wp2_with fail
          go_round
          case rel => exact ⟨n + 1, by omega, by simp, HR3.out.below (Below.refl _ _).drew (by have := lt_of_cell r1; simpa using this), HB3.out.drew⟩
          case measure => simp [intOf]; omega
        · clear hA hr2 hb2
          go_wp2_with fail
          go_round
          case rel => exact ⟨k + 1, by omega, by simp, HR2.out.weak (fun i _ h => by omega), HB2.out⟩
          case measure => simp [intOf]; omega
    · obtain rfl : k = 5 := by omega
      have hall : wr.heap[w.heap.size + 1 + 1]? = some (.cells (fCells c) tF (0, 0)) := (HR.out.weak (fun i h _ => by omega)).all
      have hold : wr.heap[w.heap.size + 1]? = some (.cells zCells tF (0, 0)) := (HB.out.block _ (by omega)).trans HV.out
      have hu := row_under
      have hi : (Tryd.prog.info? tF).map (·.size) = some (fCells c).size := by rw [fCells_size]; exact row_size
      have hs1 : zCells.size = (fCells c).size := by rw [fCells_size, zCells_size]
      have h1 := fCells_one c
      clear hA hr hb
      go_wp2_with fail
      refine wp_load_row _ _ rfl (w.heap.size + 1 + 1) rfl tF (fCells c) (0, 0) _ hall hu rfl hi ?_
      rename_i aK
      refine aK _ _ ?_
      refine wpList_store_row rfl tF (.tmp 2) (.tmp 34) rfl (w.heap.size + 1) (fCells c) ?_ ?_ tF zCells hold hi hs1 h1 ?_
      · rfl
      · rfl
      have hnew := setRow_heap wr (w.heap.size + 1) zCells (fCells c) tF (0, 0) hold
      have hbl : Below w.heap.size w (wr.setRow (w.heap.size + 1) (fCells c)) := by
        have := HB0.out.trans (Below.mono HB.out (by omega))
        exact ⟨this.os, this.tape, this.output, by rw [setRow_size]; exact this.size, fun i hi => (setRow_other wr (w.heap.size + 1) i _ (by omega)).trans (this.block i hi)⟩
      go_wp2_with fail
      refine bodyPost_ret (v := .agg (fCells c)) ?_ rfl ⟨rfl, hbl⟩
      exact results_cell_row rfl _ _ (w.heap.size + 1) tF (fCells c) (0, 0) _ rfl hnew hu rfl hi
end Go.Proofs.YtggaflihblhapaaDoor
