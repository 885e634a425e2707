/-
  The type of an expression for a schema: the walk of Type; and Size.
-/
import Derived.Test.YtpohofcfmllghaaDoorETypeAt
namespace Go.Proofs.YtpohofcfmllghaaDoor
open Go.RowKit

def typeTop (cs : List (ByteArray × Int)) (x : XT) : Int × Int := if checkC cs = 0 then (if 256 < szX x then (0, 31) else typeX cs x 1) else (0, checkC cs)

set_option maxHeartbeats 1600000 in
set_option maxRecDepth 100000 in
theorem size_any (x : XT) (w : World) (hz : szX x ≤ 1000000) (hx : LiesX w.heap.size w x) :
    Calls Tryd.prog 14 #[vX x] w fun e w' => e = .returned (.int .i64 (szX x)) ∧ Below w.heap.size w w' := by
  have hal := boxE_below w x
  have HBox := hide (fun w' => boxE_at (w := w) (x := x) (w' := w'))
  have HCn := hide ((count_any (szX x) x 9223372036854775807 _ (Nat.le_refl _) hz (by omega) (by omega) (hx.on hal)).mono fun e w1 hh => (⟨by rw [hh.1, (cntX_sz x 9223372036854775807).1 (by omega)], hh.2⟩ : e = .returned (.int .i64 (szX x)) ∧ Below (boxE w x).heap.size (boxE w x) w1))
  obtain ⟨kd, nm, v, o, A, c, ts⟩ := x
  have HWE := hide (show boxE w (.mk kd nm v o A c ts) = w.alloc (.cells (eCells kd nm v o A ts.length c) 29) from rfl)
  have hVx : vX (.mk kd nm v o A c ts) = .agg (eCells kd nm v o A ts.length c) := rfl
  rw [hVx] at HCn
  have HL := hide hal
  show Calls Tryd.prog 14 #[.agg (eCells kd nm v o A ts.length c)] w _
  generalize szX (.mk kd nm v o A c ts) = z at *
  generalize boxE w (.mk kd nm v o A c ts) = W at *
  clear hal hx hVx
  go_enter Tryd.func14, Tryd.ntmps14
  go_wp2_with fail
  rw [← HWE.out]
  refine HCn.out.mono ?_
  rintro e w2 ⟨rfl, hb2⟩
  have HB := hide (then_below HL.out hb2)
  go_wp2_with fail
  go_ret
  exact ⟨rfl, HB.out⟩

set_option maxHeartbeats 1600000 in
set_option maxRecDepth 100000 in
theorem type_any (S : Option Addr) (c0 : Nat) (cs : List (ByteArray × Int)) (x : XT) (w : World) (hw : Wf cs) (hz : szX x ≤ 1000000) (hx : LiesX w.heap.size w x) (hwf : wfX x) (hC : ColsAt w.heap.size w S cs) (hR : Rls w) :
    Calls Tryd.prog 20 #[vX x, .slice S cs.length c0] w fun e w' => e = .returned (.tuple #[.int .i64 (typeTop cs x).1, .int .i64 (typeTop cs x).2]) ∧ Below w.heap.size w w' := by
  have hal := boxE_below w x
  have HBox := hide (fun w' => boxE_at (w := w) (x := x) (w' := w'))
  have HCk := hide (check_any S c0 cs _ (hC.on hal) hw)
  have HCn := hide (fun w' (h : Below (boxE w x).heap.size (boxE w x) w') => count_any (szX x) x 256 w' (Nat.le_refl _) hz (by omega) (by omega) ((hx.on hal).on h))
  have HTy := hide (fun w' (h : Below (boxE w x).heap.size (boxE w x) w') => typeAt_any S c0 cs hw.1 (szX x) x 1 w' (Nat.le_refl _) (by omega) (by omega) ((hx.on hal).on h) hwf ((hC.on hal).on h) ((hR.stays hal).stays h))
  have hsz := cntX_sz x 256
  have HT := hide (show typeTop cs x = if checkC cs = 0 then (if 256 < szX x then (0, 31) else typeX cs x 1) else (0, checkC cs) from rfl)
  have HL := hide hal
  obtain ⟨kd, nm, v, o, A, c, ts⟩ := x
  have HWE := hide (show boxE w (.mk kd nm v o A c ts) = w.alloc (.cells (eCells kd nm v o A ts.length c) 29) from rfl)
  have hVx : vX (.mk kd nm v o A c ts) = .agg (eCells kd nm v o A ts.length c) := rfl
  rw [hVx] at HCn HTy
  simp only [XT.kind, XT.name, XT.val, XT.op, XT.adr, XT.args, XT.cap] at HBox
  show Calls Tryd.prog 20 #[.agg (eCells kd nm v o A ts.length c), .slice S cs.length c0] w _
  generalize typeTop cs (.mk kd nm v o A c ts) = q at HT ⊢
  generalize typeX cs (.mk kd nm v o A c ts) 1 = tx at *
  generalize szX (.mk kd nm v o A c ts) = z at *
  generalize cntX (.mk kd nm v o A c ts) 256 = n at *
  generalize boxE w (.mk kd nm v o A c ts) = W at *
  clear hal hx hVx hwf hC hR hz
  by_cases h0 : checkC cs = 0
  · have hk0 : (checkC cs != 0) = false := by rw [bne_eq_false_iff_eq]; exact h0
    rw [if_pos h0] at HT
    rw [h0] at HCk
    by_cases hn : 256 < z
    · have hn' : (256 : Int) < n := hsz.2 (by omega)
      have HQ := hide (show q = (0, 31) by rw [HT.out, if_pos hn])
      clear HT hn hsz h0 hk0
      go_enter Tryd.func20, Tryd.ntmps20
      go_wp2_with fail
      rw [← HWE.out]
      refine HCk.out.mono ?_
      rintro e w2 ⟨rfl, hb2⟩
      have HB2 := hide hb2
      obtain ⟨c0', c1, c2, c3, c4, c5, c6, cz⟩ := HBox.out _ hb2
      clear hb2
      go_wp2_with fail
      refine (HCn.out _ HB2.out).mono ?_
      rintro e w3 ⟨rfl, hb3⟩
      have HB3 := hide (then_below HL.out (then_below HB2.out hb3))
      clear hb3 c0' c1 c2 c3 c4 c5 c6 cz
      go_wp2_with fail
      go_ret2
      exact ⟨by rw [HQ.out]; rfl, HB3.out⟩
    · have hnz : n = z := hsz.1 (by omega)
      have hn' : ¬ (256 : Int) < n := by omega
      have HQ := hide (show q = tx by rw [HT.out, if_neg hn])
      clear HT hn hsz h0 hk0 hnz
      go_enter Tryd.func20, Tryd.ntmps20
      go_wp2_with fail
      rw [← HWE.out]
      refine HCk.out.mono ?_
      rintro e w2 ⟨rfl, hb2⟩
      have HB2 := hide hb2
      obtain ⟨c0', c1, c2, c3, c4, c5, c6, cz⟩ := HBox.out _ hb2
      clear hb2
      go_wp2_with fail
      refine (HCn.out _ HB2.out).mono ?_
      rintro e w3 ⟨rfl, hb3⟩
      have HB3 := hide (then_below HB2.out hb3)
      clear hb3 c0' c1 c2 c3 c4 c5 c6 cz
      obtain ⟨c0', c1, c2, c3, c4, c5, c6, cz⟩ := HBox.out _ HB3.out
      go_wp2_with fail
      refine (HTy.out _ HB3.out).mono ?_
      rintro e w4 ⟨rfl, hb4⟩
      have HB4 := hide (then_below HL.out (then_below HB3.out hb4))
      clear hb4 c0' c1 c2 c3 c4 c5 c6 cz
      go_wp2_with fail
      go_ret2
      exact ⟨by rw [HQ.out]; rfl, HB4.out⟩
  · have hk0 : (checkC cs != 0) = true := by rw [bne_iff_ne]; exact h0
    have HQ := hide (show q = (0, checkC cs) by rw [HT.out, if_neg h0])
    clear HT h0 hsz
    go_enter Tryd.func20, Tryd.ntmps20
    go_wp2_with fail
    rw [← HWE.out]
    refine HCk.out.mono ?_
    rintro e w2 ⟨rfl, hb2⟩
    have HB2 := hide (then_below HL.out hb2)
    clear hb2
    go_wp2_with fail
    go_ret2
    exact ⟨by rw [HQ.out]; rfl, HB2.out⟩
end Go.Proofs.YtpohofcfmllghaaDoor
