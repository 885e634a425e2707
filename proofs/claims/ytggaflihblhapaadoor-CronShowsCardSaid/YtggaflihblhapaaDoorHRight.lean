/-
  Is a spec right, as the reference asks it.
-/
import Derived.Test.YtggaflihblhapaaDoorHRef
import Derived.Test.YtggaflihblhapaaDoorHRefV
namespace Go.Proofs.YtggaflihblhapaaDoor
open Go.RowKit CM HM

theorem fld_size : (Tryd.prog.info? 34).map (·.size) = some 65 := by kernel_rfl
theorem fld_under : Tryd.prog.underlying 34 = some (.struct (Tryd.prog.fieldsOf 34)) := by kernel_rfl
theorem row_range {w : World} {b : Nat} {c : Sp} (h : Row w b c (fun i => i < 325)) {f : Nat} (hf : f < 5) : w.rangeAt b (f * 65) (fL c f) := fun j v hv => by
  have hj : j < 65 := by have := (List.getElem?_eq_some_iff.1 hv).1; rw [fL_len] at this; exact this
  rw [fL_at c f hj] at hv
  injection hv with hv
  subst hv
  rw [Nat.mul_comm f 65]
  exact h.done (by omega) (by omega)
set_option maxHeartbeats 2000000 in
set_option maxRecDepth 100000 in
theorem right_any (c : Sp) (w : World) (hc : c.wf) : Calls Tryd.prog 11 #[vC c] w fun e w' => e = .returned (.bool (validB c)) ∧ Below w.heap.size w w' := by
  have HR := hide (fun w => ref_any c w hc)
  have HV := hide (fun f w hf => rright_any c f w hc hf)
  have HI := hide (valid_iff c)
  have hz := row_zero
  have HB0 : Hid (Below w.heap.size w (boxC w c)) := hide ((Below.refl _ _).alloc (Nat.le_refl _) _)
  clear hc
  go_enter Tryd.func11, Tryd.ntmps11
  go_wp2_with fail
  refine (HR.out _).mono ?_
  rintro e w1 ⟨rfl, hb1⟩
  have hi : (Tryd.prog.info? tF).map (·.size) = some (fCells c).size := by rw [fCells_size]; exact row_size
  have hsc := run_storeCells_new (P := Tryd.prog) w1 tF zCells (fCells c) hi (by rw [fCells_size, zCells_size]) (fCells_one c)
  have hsz := fCells_size c
  have HB1 : Hid (∀ o : Obj, Below w.heap.size w (w1.alloc o)) := hide (fun o => by
    have := HB0.out.trans (Below.mono hb1 HB0.out.size)
    exact this.alloc this.size o)
  have HW : Hid (Row (w1.alloc (.cells (fCells c) tF)) w1.heap.size c (fun i => i < 325)) := hide ⟨fCells c, fCells_size c, heap_alloc_last w1 _, fun i hi _ => fCells_at c hi⟩
  clear hb1 hi
  go_wp2_with fail
  obtain ⟨W, hW⟩ : ∃ W, W = w1.alloc (.cells (fCells c) tF) := ⟨_, rfl⟩
  have HWB : Hid (Below w.heap.size w W) := hide (by rw [hW]; exact HB1.out _)
  have HWR : Hid (Row W w1.heap.size c (fun i => i < 325)) := hide (by rw [hW]; exact HW.out)
  have HN : Hid (W.heap.size = w1.heap.size + 1) := hide (by rw [hW]; simp)
  rw [← hW]
  clear hW hsc hsz hz
  go_loopw [7] (fun t wr => ∃ k : Nat, k ≤ 5 ∧ t = .int .i64 (k : Nat) ∧ (∀ f, f < k → okB f (c.S f) (c.A f) = true) ∧ Below W.heap.size W wr) (fun t _ => 5 - (intOf t).toNat)
  case atStart => exact ⟨0, by omega, rfl, fun f h => by omega, Below.refl _ _⟩
  case round =>
    obtain ⟨k, hk, rfl, hok, hb⟩ := hrel
    have HOK := hide hok
    have HB := hide hb
    have HBw : Hid (∀ w', Below wr.heap.size wr w' → Below w.heap.size w w') := hide (fun w' h => by
      have h2 := HWB.out.trans (Below.mono hb HWB.out.size)
      exact h2.trans (Below.mono h h2.size))
    have hrng := row_range (HWR.out.below hb (by rw [HN.out]; omega)) (f := k)
    clear hok hb
    by_cases hlt : k < 5
    · have hr := hrng hlt
      have HL := hide (fL_len c k)
      clear hrng
      have hsz : (Tryd.prog.info? 34).map (·.size) = some (fL c k).length := by rw [HL.out]; exact fld_size
      have hun := fld_under
      go_wp2_with (refine wpList_load_mid rfl 34 (.tmp 12) rfl w1.heap.size (k * 65) rfl (fL c k) _ hr hun rfl hsz ?_)
      refine (HV.out k _ hlt).mono ?_
      rintro e w2 ⟨rfl, hb2⟩
      have HB2 := hide (HB.out.trans (Below.mono hb2 HB.out.size))
      have HE2 := hide (HBw.out w2 hb2)
      clear hb2
      cases hq : okB k (c.S k) (c.A k)
      · have HF : Hid (validB c = false) := hide (by
          cases hv : validB c
          · rfl
          · rw [HI.out.1 hv k hlt] at hq; cases hq)
        clear hq
        go_wp2_with fail
        go_ret
        exact ⟨ret_bool (by rw [HF.out]), HE2.out⟩
      · have HF := hide hq
        clear hq
        go_wp2_with fail
        go_round
        case rel => exact ⟨k + 1, by omega, by simp, fun f h => by
          by_cases e : f = k
          · rw [e]; exact HF.out
          · exact HOK.out f (by omega), HB2.out⟩
        case measure => simp [intOf]; omega
    · obtain rfl : k = 5 := by omega
      have HT : Hid (validB c = true) := hide (HI.out.2 HOK.out)
      clear hrng
      go_wp2_with fail
      go_ret
      exact ⟨ret_bool (by rw [HT.out]), HBw.out _ (Below.refl _ _)⟩
end Go.Proofs.YtggaflihblhapaaDoor
