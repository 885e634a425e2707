/-
  Eval: the value of an expression for a row, and the error.
-/
import Derived.Test.YtpohofcfmllghaaDoorEEval
import Derived.Test.YtpohofcfmllghaaDoorETop
namespace Go.Proofs.YtpohofcfmllghaaDoor
open Go.RowKit

def evalTop (cs : List (ByteArray × Int)) (row : List (Int × Int × ByteArray)) (x : XT) : (Int × Int × ByteArray) × Int :=
  if (typeTop cs x).2 = 0 then (if fitsB cs row = true then evalX cs row x else (d3, 12)) else (d3, (typeTop cs x).2)
theorem typeTop_ok {cs : List (ByteArray × Int)} {x : XT} (h : (typeTop cs x).2 = 0) : checkC cs = 0 ∧ szX x ≤ 256 ∧ (typeX cs x 1).2 = 0 ∧ typeTop cs x = typeX cs x 1 := by
  unfold typeTop at h ⊢
  by_cases hc : checkC cs = 0
  · rw [if_pos hc] at h ⊢
    by_cases hz : 256 < szX x
    · rw [if_pos hz] at h; simp at h
    · rw [if_neg hz] at h ⊢
      exact ⟨hc, by omega, h, rfl⟩
  · rw [if_neg hc] at h; exact absurd h hc
theorem fitsB_row {cs : List (ByteArray × Int)} {row : List (Int × Int × ByteArray)} (h : fitsB cs row = true) : rowFits cs row = true := by
  unfold fitsB at h
  simp only [Bool.and_eq_true] at h
  exact h.2
set_option maxHeartbeats 3200000 in
set_option maxRecDepth 100000 in
theorem evalTop_any (S : Option Addr) (c0 : Nat) (cs : List (ByteArray × Int)) (hwf : Wf cs) (R : Option Addr) (c1 : Nat) (row : List (Int × Int × ByteArray)) (hw : WfR row) (x : XT) (w : World) (hz : szX x ≤ 1000000) (hx : LiesX w.heap.size w x) (hfx : wfX x) (hfi : wfI x)
    (hC : ColsAt w.heap.size w S cs) (hR : RowAt w.heap.size w R row) (hM : Cmps w) (hRl : Rls w) :
    Calls Tryd.prog 15 #[vX x, .slice S cs.length c0, .slice R row.length c1] w fun e w' => e = .returned (.tuple #[vOf (evalTop cs row x).1, .int .i64 (evalTop cs row x).2]) ∧ Below w.heap.size w w' := by
  have hal := evlW_below w x
  have HAt := hide (fun w' => evlW_at (w := w) (x := x) (w' := w'))
  have HL := hide hal
  have HTy := hide (type_any S c0 cs x _ hwf hz (hx.on hal) hfx (hC.on hal) (hRl.stays hal))
  have HFt := hide (fun w' (h : Below (evlW w x).heap.size (evlW w x) w') => fits_any S R c0 c1 cs row w' ((hC.on hal).on h) ((hR.on hal).on h) hwf hw)
  have HEv := hide (fun (h1 : (typeTop cs x).2 = 0) (h2 : fitsB cs row = true) w' (h : Below (evlW w x).heap.size (evlW w x) w') => eval_any S c0 cs hwf R c1 row (fitsB_row h2) hw (szX x) x 1 w' (Nat.le_refl _) (typeTop_ok h1).2.2.1 ((hx.on hal).on h) hfx hfi ((hC.on hal).on h) ((hR.on hal).on h) ((hM.stays hal).stays h))
  have HX := hide (show evalTop cs row x = if (typeTop cs x).2 = 0 then (if fitsB cs row = true then evalX cs row x else (d3, 12)) else (d3, (typeTop cs x).2) from rfl)
  obtain ⟨kd, nm, v, o, A, c, ts⟩ := x
  have HWE := hide (show evlW w (.mk kd nm v o A c ts) = (w.alloc (.cells (eCells kd nm v o A ts.length c) 29)).alloc (.cells #[.int .i64 0, .int .i64 0, .string ⟨#[]⟩] 26) from rfl)
  have hVx : vX (.mk kd nm v o A c ts) = .agg (eCells kd nm v o A ts.length c) := rfl
  rw [hVx] at HTy HEv ⊢
  simp only [XT.kind, XT.name, XT.val, XT.op, XT.adr, XT.args, XT.cap] at HAt
  generalize evalTop cs row (.mk kd nm v o A c ts) = q at *
  generalize typeTop cs (.mk kd nm v o A c ts) = ty at *
  generalize evalX cs row (.mk kd nm v o A c ts) = ev at *
  generalize fitsB cs row = fb at *
  generalize evlW w (.mk kd nm v o A c ts) = W at *
  obtain ⟨ty, te⟩ := ty
  obtain ⟨ev, ee⟩ := ev
  simp only at HX HTy HEv
  clear hx hfx hfi hC hR hM hRl hal hVx hz
  by_cases ht : te = 0
  · subst ht
    rw [if_pos rfl] at HX
    cases fb
    · have HQ := hide (show q = (d3, 12) by rw [HX.out]; rfl)
      clear HX
      go_enter Tryd.func15, Tryd.ntmps15
      obtain ⟨a0, a1, a2, a3, a4, a5, a6, r0, r1, r2, f0, f1, f2, hy, hz⟩ := HAt.out _ (Below.refl _ _)
      go_wp2_with fail
      rw [← HWE.out]
      refine HTy.out.mono ?_
      rintro e w3 ⟨rfl, hb3⟩
      have HB3 := hide hb3
      clear a0 a1 a2 a3 a4 a5 a6 r0 r1 r2 f0 f1 f2 hy hz
      obtain ⟨a0, a1, a2, a3, a4, a5, a6, r0, r1, r2, f0, f1, f2, hy, hz⟩ := HAt.out _ hb3
      clear hb3
      go_wp2_with fail
      refine (HFt.out _ HB3.out).mono ?_
      rintro e w4 ⟨rfl, hb4⟩
      have HB4 := hide (then_below HB3.out hb4)
      clear a0 a1 a2 a3 a4 a5 a6 r0 r1 r2 f0 f1 f2 hy hz
      obtain ⟨a0, a1, a2, a3, a4, a5, a6, r0, r1, r2, f0, f1, f2, hy, hz⟩ := HAt.out _ HB4.out
      clear hb4
      go_wp2_with fail
      refine bodyPost_ret (v := .tuple #[vVal 0 0 ⟨#[]⟩, .int .i64 12]) (by simp [results, Tryd.results15, go_sem, r0, r1, r2]) rfl ⟨by rw [HQ.out], ?_⟩
      have hfin := HL.out.trans (HB4.out.mono HL.out.size)
      exact ((hfin.setCell (p := ⟨w.heap.size + 1, 0, none⟩) (by simp only; omega) _).setCell (p := ⟨w.heap.size + 1, 1, none⟩) (by simp only; omega) _).setCell (p := ⟨w.heap.size + 1, 2, none⟩) (by simp only; omega) _
    · have HQ := hide (show q = (ev, ee) by rw [HX.out]; rfl)
      clear HX
      go_enter Tryd.func15, Tryd.ntmps15
      obtain ⟨a0, a1, a2, a3, a4, a5, a6, r0, r1, r2, f0, f1, f2, hy, hz⟩ := HAt.out _ (Below.refl _ _)
      go_wp2_with fail
      rw [← HWE.out]
      refine HTy.out.mono ?_
      rintro e w3 ⟨rfl, hb3⟩
      have HB3 := hide hb3
      clear a0 a1 a2 a3 a4 a5 a6 r0 r1 r2 f0 f1 f2 hy hz
      obtain ⟨a0, a1, a2, a3, a4, a5, a6, r0, r1, r2, f0, f1, f2, hy, hz⟩ := HAt.out _ hb3
      clear hb3
      go_wp2_with fail
      refine (HFt.out _ HB3.out).mono ?_
      rintro e w4 ⟨rfl, hb4⟩
      have HB4 := hide (then_below HB3.out hb4)
      clear a0 a1 a2 a3 a4 a5 a6 r0 r1 r2 f0 f1 f2 hy hz
      obtain ⟨a0, a1, a2, a3, a4, a5, a6, r0, r1, r2, f0, f1, f2, hy, hz⟩ := HAt.out _ HB4.out
      clear hb4
      go_wp2_with fail
      refine (HEv.out trivial trivial _ HB4.out).mono ?_
      rintro e w5 ⟨rfl, hb5⟩
      have HB5 := hide (then_below HB4.out hb5)
      clear a0 a1 a2 a3 a4 a5 a6 r0 r1 r2 f0 f1 f2 hy hz
      obtain ⟨a0, a1, a2, a3, a4, a5, a6, r0, r1, r2, f0, f1, f2, hy, hz⟩ := HAt.out _ HB5.out
      clear hb5
      go_wp2_with fail
      refine bodyPost_ret (v := .tuple #[vOf ev, .int .i64 ee]) (by simp [results, Tryd.results15, go_sem, r0, r1, r2]) rfl ⟨by rw [HQ.out], ?_⟩
      have hfin := HL.out.trans (HB5.out.mono HL.out.size)
      exact ((hfin.setCell (p := ⟨w.heap.size + 1, 0, none⟩) (by simp only; omega) _).setCell (p := ⟨w.heap.size + 1, 1, none⟩) (by simp only; omega) _).setCell (p := ⟨w.heap.size + 1, 2, none⟩) (by simp only; omega) _
  · have bt : (te != 0) = true := by rw [bne_iff_ne]; exact ht
    have HQ := hide (show q = (d3, te) by rw [HX.out, if_neg ht])
    clear HX ht
    go_enter Tryd.func15, Tryd.ntmps15
    obtain ⟨a0, a1, a2, a3, a4, a5, a6, r0, r1, r2, f0, f1, f2, hy, hz⟩ := HAt.out _ (Below.refl _ _)
    go_wp2_with fail
    rw [← HWE.out]
    refine HTy.out.mono ?_
    rintro e w3 ⟨rfl, hb3⟩
    have HB3 := hide hb3
    clear a0 a1 a2 a3 a4 a5 a6 r0 r1 r2 f0 f1 f2 hy hz
    obtain ⟨a0, a1, a2, a3, a4, a5, a6, r0, r1, r2, f0, f1, f2, hy, hz⟩ := HAt.out _ hb3
    clear hb3
    go_wp2_with fail
    refine bodyPost_ret (v := .tuple #[vVal 0 0 ⟨#[]⟩, .int .i64 te]) (by simp [results, Tryd.results15, go_sem, r0, r1, r2]) rfl ⟨by rw [HQ.out], ?_⟩
    have hfin := HL.out.trans (HB3.out.mono HL.out.size)
    exact ((hfin.setCell (p := ⟨w.heap.size + 1, 0, none⟩) (by simp only; omega) _).setCell (p := ⟨w.heap.size + 1, 1, none⟩) (by simp only; omega) _).setCell (p := ⟨w.heap.size + 1, 2, none⟩) (by simp only; omega) _
end Go.Proofs.YtpohofcfmllghaaDoor
