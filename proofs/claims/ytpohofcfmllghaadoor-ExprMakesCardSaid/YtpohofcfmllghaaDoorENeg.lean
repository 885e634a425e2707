/-
  The last way of the functions of one argument: 0 minus the value.
-/
import Derived.Test.YtpohofcfmllghaaDoorEOne
import Derived.Deep.RegionHeld3
namespace Go.Proofs.YtpohofcfmllghaaDoor
open Go.RowKit

set_option maxHeartbeats 1600000 in
set_option maxRecDepth 100000 in
theorem ofOne_neg (x : XT) (k n : Int) (s : ByteArray) (z : Int × Int × ByteArray) (ze : Int) (w : World) (h0 : ((wordX x).toList == [110, 111, 116]) = false) (h1 : ((wordX x).toList == [105, 115, 110, 117, 108, 108]) = false) (h2 : ((wordX x).toList == [108, 101, 110]) = false) (h3 : ((wordX x).toList == [97, 98, 115]) = false)
    (hA : ∀ w, Calls Tryd.prog 43 #[.int .u8 45, vVal 1 0 ⟨#[]⟩, vVal k n s] w fun e w' => e = .returned (.tuple #[vOf z, .int .i64 ze]) ∧ Below w.heap.size w w') :
    Calls Tryd.prog 27 #[vX x, vVal k n s] w fun e w' => e = .returned (.tuple #[vOf z, .int .i64 ze]) ∧ Below w.heap.size w w' := by
  have HAr := hide hA
  clear hA
  have HSz := hide (show w.heap.size + 2 ≤ (evW w x (k, n, s)).heap.size by simp [evW])
  have HW0 := hide (show (evW w x (k, n, s)).cell? ⟨w.heap.size + 1, 0, none⟩ = some (.int .i64 k) ∧ (evW w x (k, n, s)).cell? ⟨w.heap.size + 1, 1, none⟩ = some (.int .i64 n) ∧ (evW w x (k, n, s)).cell? ⟨w.heap.size + 1, 2, none⟩ = some (.string s) ∧ w.heap.size + 2 < (evW w x (k, n, s)).heap.size by
    obtain ⟨-, -, -, -, -, -, -, b0, b1, b2, -, -, -, -, -, -, hz⟩ := evW_at (w := w) (x := x) (v := (k, n, s)) (Below.refl _ _)
    exact ⟨b0, b1, b2, hz⟩)
  have hal := evW_below w x (k, n, s)
  have HAt := hide (fun w' => evW_at (w := w) (x := x) (v := (k, n, s)) (w' := w'))
  have HL := hide hal
  have HWd := hide (fun w' => word_any x w')
  obtain ⟨kd, nm, v, o, A, c, ts⟩ := x
  have HWE := hide (show evW w (.mk kd nm v o A c ts) (k, n, s) = ((w.alloc (.cells (eCells kd nm v o A ts.length c) 29)).alloc (.cells #[.int .i64 k, .int .i64 n, .string s] 26)).alloc (.cells #[.int .i64 0, .int .i64 0, .string ⟨#[]⟩] 26) from rfl)
  simp only [XT.kind, XT.name, XT.val, XT.op, XT.adr, XT.args, XT.cap] at HAt
  rw [show vX (.mk kd nm v o A c ts) = .agg (eCells kd nm v o A ts.length c) from rfl] at HWd
  show Calls Tryd.prog 27 #[.agg (eCells kd nm v o A ts.length c), vVal k n s] w _
  generalize wordX (.mk kd nm v o A c ts) = wd at *
  generalize evW w (.mk kd nm v o A c ts) (k, n, s) = W at *
  clear hal
  have HM := hide (fun w' (h : Below W.heap.size W w') => (h.mono HSz.out : Below (w.heap.size + 2) W w'))
  have HALL := hide (fun w' (h : Below (w.heap.size + 2) W w') => (⟨(h.cell (p := ⟨w.heap.size + 1, 0, none⟩) (by simp only; omega)).trans HW0.out.1, (h.cell (p := ⟨w.heap.size + 1, 1, none⟩) (by simp only; omega)).trans HW0.out.2.1, (h.cell (p := ⟨w.heap.size + 1, 2, none⟩) (by simp only; omega)).trans HW0.out.2.2.1, Nat.lt_of_lt_of_le HW0.out.2.2.2 h.size, h⟩ :
    w'.cell? ⟨w.heap.size + 1, 0, none⟩ = some (.int .i64 k) ∧ w'.cell? ⟨w.heap.size + 1, 1, none⟩ = some (.int .i64 n) ∧ w'.cell? ⟨w.heap.size + 1, 2, none⟩ = some (.string s) ∧ w.heap.size + 2 < w'.heap.size ∧ Below (w.heap.size + 2) W w'))
  go_enter Tryd.func27, Tryd.ntmps27
  obtain ⟨a0, a1, a2, a3, a4, a5, a6, b0, b1, b2, r0, r1, r2, f0, f1, f2, hz⟩ := HAt.out _ (Below.refl _ _)
  go_wp2_with fail
  rw [← HWE.out]
  refine (HWd.out _).mono ?_
  rintro e w2 ⟨rfl, hb2⟩
  have HB2 := hide hb2
  clear a0 a1 a2 a3 a4 a5 a6 b0 b1 b2 r0 r1 r2 f0 f1 f2 hz
  obtain ⟨a0, a1, a2, a3, a4, a5, a6, b0, b1, b2, r0, r1, r2, f0, f1, f2, hz⟩ := HAt.out _ hb2
  clear hb2
  go_wp2_with fail
  go_region_held3 (fun w' => w'.cell? ⟨w.heap.size + 1, 0, none⟩ = some (.int .i64 k) ∧ w'.cell? ⟨w.heap.size + 1, 1, none⟩ = some (.int .i64 n) ∧ w'.cell? ⟨w.heap.size + 1, 2, none⟩ = some (.string s) ∧ w.heap.size + 2 < w'.heap.size ∧ Below (w.heap.size + 2) W w')
    ((refine HALL.out _ ?_; first | with_reducible assumption | with_reducible exact HM.out _ HB2.out | with_reducible exact (HM.out _ HB2.out).drew | with_reducible exact HM.out _ hB5 | with_reducible exact HM.out _ hB6 | with_reducible exact (((HM.out _ hB6).setCell (p := ⟨w.heap.size + 2, 0, none⟩) (Nat.le_refl _) _).setCell (p := ⟨w.heap.size + 2, 1, none⟩) (Nat.le_refl _) _).setCell (p := ⟨w.heap.size + 2, 2, none⟩) (Nat.le_refl _) _))
    (first
      | (go_at_call 10; (try go_split_ands); refine (of_any 0 _).mono ?_; rintro e w5 ⟨rfl, hb5⟩; have hB5 : Below W.heap.size W w5 := then_below HB2.out.drew hb5)
      | (go_at_call 43; (try go_split_ands); refine (HAr.out _).mono ?_; rintro e w6 ⟨rfl, hb6⟩; have hB6 : Below W.heap.size W w6 := then_below hB5 hb6; obtain ⟨-, -, -, -, -, -, -, -, -, -, r0, r1, r2, f0, f1, f2, hzr⟩ := HAt.out _ hB6))
  all_goals
    go_split_ands
    go_wp2_with fail
    refine bodyPost_ret (v := .tuple #[vOf z, .int .i64 ze]) (by simp [results, Tryd.results27, go_sem, r0, r1, r2]) rfl ⟨rfl, ?_⟩
    have hfin := HL.out.trans (hB6.mono HL.out.size)
    exact ((hfin.setCell (p := ⟨w.heap.size + 2, 0, none⟩) (by simp only; omega) _).setCell (p := ⟨w.heap.size + 2, 1, none⟩) (by simp only; omega) _).setCell (p := ⟨w.heap.size + 2, 2, none⟩) (by simp only; omega) _

set_option maxHeartbeats 1600000 in
set_option maxRecDepth 100000 in
theorem ofOne_absNeg (x : XT) (k n : Int) (s : ByteArray) (z : Int × Int × ByteArray) (ze : Int) (w : World) (h0 : ((wordX x).toList == [110, 111, 116]) = false) (h1 : ((wordX x).toList == [105, 115, 110, 117, 108, 108]) = false) (h2 : ((wordX x).toList == [108, 101, 110]) = false) (h3 : ((wordX x).toList == [97, 98, 115]) = true) (hn : ¬ 0 ≤ n)
    (hA : ∀ w, Calls Tryd.prog 43 #[.int .u8 45, vVal 1 0 ⟨#[]⟩, vVal k n s] w fun e w' => e = .returned (.tuple #[vOf z, .int .i64 ze]) ∧ Below w.heap.size w w') :
    Calls Tryd.prog 27 #[vX x, vVal k n s] w fun e w' => e = .returned (.tuple #[vOf z, .int .i64 ze]) ∧ Below w.heap.size w w' := by
  have HAr := hide hA
  clear hA
  have HSz := hide (show w.heap.size + 2 ≤ (evW w x (k, n, s)).heap.size by simp [evW])
  have HW0 := hide (show (evW w x (k, n, s)).cell? ⟨w.heap.size + 1, 0, none⟩ = some (.int .i64 k) ∧ (evW w x (k, n, s)).cell? ⟨w.heap.size + 1, 1, none⟩ = some (.int .i64 n) ∧ (evW w x (k, n, s)).cell? ⟨w.heap.size + 1, 2, none⟩ = some (.string s) ∧ w.heap.size + 2 < (evW w x (k, n, s)).heap.size by
    obtain ⟨-, -, -, -, -, -, -, b0, b1, b2, -, -, -, -, -, -, hz⟩ := evW_at (w := w) (x := x) (v := (k, n, s)) (Below.refl _ _)
    exact ⟨b0, b1, b2, hz⟩)
  have hal := evW_below w x (k, n, s)
  have HAt := hide (fun w' => evW_at (w := w) (x := x) (v := (k, n, s)) (w' := w'))
  have HL := hide hal
  have HWd := hide (fun w' => word_any x w')
  obtain ⟨kd, nm, v, o, A, c, ts⟩ := x
  have HWE := hide (show evW w (.mk kd nm v o A c ts) (k, n, s) = ((w.alloc (.cells (eCells kd nm v o A ts.length c) 29)).alloc (.cells #[.int .i64 k, .int .i64 n, .string s] 26)).alloc (.cells #[.int .i64 0, .int .i64 0, .string ⟨#[]⟩] 26) from rfl)
  simp only [XT.kind, XT.name, XT.val, XT.op, XT.adr, XT.args, XT.cap] at HAt
  rw [show vX (.mk kd nm v o A c ts) = .agg (eCells kd nm v o A ts.length c) from rfl] at HWd
  show Calls Tryd.prog 27 #[.agg (eCells kd nm v o A ts.length c), vVal k n s] w _
  generalize wordX (.mk kd nm v o A c ts) = wd at *
  generalize evW w (.mk kd nm v o A c ts) (k, n, s) = W at *
  clear hal
  have HM := hide (fun w' (h : Below W.heap.size W w') => (h.mono HSz.out : Below (w.heap.size + 2) W w'))
  have HALL := hide (fun w' (h : Below (w.heap.size + 2) W w') => (⟨(h.cell (p := ⟨w.heap.size + 1, 0, none⟩) (by simp only; omega)).trans HW0.out.1, (h.cell (p := ⟨w.heap.size + 1, 1, none⟩) (by simp only; omega)).trans HW0.out.2.1, (h.cell (p := ⟨w.heap.size + 1, 2, none⟩) (by simp only; omega)).trans HW0.out.2.2.1, Nat.lt_of_lt_of_le HW0.out.2.2.2 h.size, h⟩ :
    w'.cell? ⟨w.heap.size + 1, 0, none⟩ = some (.int .i64 k) ∧ w'.cell? ⟨w.heap.size + 1, 1, none⟩ = some (.int .i64 n) ∧ w'.cell? ⟨w.heap.size + 1, 2, none⟩ = some (.string s) ∧ w.heap.size + 2 < w'.heap.size ∧ Below (w.heap.size + 2) W w'))
  go_enter Tryd.func27, Tryd.ntmps27
  obtain ⟨a0, a1, a2, a3, a4, a5, a6, b0, b1, b2, r0, r1, r2, f0, f1, f2, hz⟩ := HAt.out _ (Below.refl _ _)
  go_wp2_with fail
  rw [← HWE.out]
  refine (HWd.out _).mono ?_
  rintro e w2 ⟨rfl, hb2⟩
  have HB2 := hide hb2
  clear a0 a1 a2 a3 a4 a5 a6 b0 b1 b2 r0 r1 r2 f0 f1 f2 hz
  obtain ⟨a0, a1, a2, a3, a4, a5, a6, b0, b1, b2, r0, r1, r2, f0, f1, f2, hz⟩ := HAt.out _ hb2
  clear hb2
  go_wp2_with fail
  go_region_held3 (fun w' => w'.cell? ⟨w.heap.size + 1, 0, none⟩ = some (.int .i64 k) ∧ w'.cell? ⟨w.heap.size + 1, 1, none⟩ = some (.int .i64 n) ∧ w'.cell? ⟨w.heap.size + 1, 2, none⟩ = some (.string s) ∧ w.heap.size + 2 < w'.heap.size ∧ Below (w.heap.size + 2) W w')
    ((refine HALL.out _ ?_; first | with_reducible assumption | with_reducible exact HM.out _ HB2.out | with_reducible exact (HM.out _ HB2.out).drew | with_reducible exact HM.out _ hB5 | with_reducible exact HM.out _ hB6 | with_reducible exact (((HM.out _ hB6).setCell (p := ⟨w.heap.size + 2, 0, none⟩) (Nat.le_refl _) _).setCell (p := ⟨w.heap.size + 2, 1, none⟩) (Nat.le_refl _) _).setCell (p := ⟨w.heap.size + 2, 2, none⟩) (Nat.le_refl _) _))
    (first
      | (go_at_call 10; (try go_split_ands); refine (of_any 0 _).mono ?_; rintro e w5 ⟨rfl, hb5⟩; have hB5 : Below W.heap.size W w5 := then_below HB2.out.drew hb5)
      | (go_at_call 43; (try go_split_ands); refine (HAr.out _).mono ?_; rintro e w6 ⟨rfl, hb6⟩; have hB6 : Below W.heap.size W w6 := then_below hB5 hb6; obtain ⟨-, -, -, -, -, -, -, -, -, -, r0, r1, r2, f0, f1, f2, hzr⟩ := HAt.out _ hB6))
  all_goals
    go_split_ands
    go_wp2_with fail
    refine bodyPost_ret (v := .tuple #[vOf z, .int .i64 ze]) (by simp [results, Tryd.results27, go_sem, r0, r1, r2]) rfl ⟨rfl, ?_⟩
    have hfin := HL.out.trans (hB6.mono HL.out.size)
    exact ((hfin.setCell (p := ⟨w.heap.size + 2, 0, none⟩) (by simp only; omega) _).setCell (p := ⟨w.heap.size + 2, 1, none⟩) (by simp only; omega) _).setCell (p := ⟨w.heap.size + 2, 2, none⟩) (by simp only; omega) _

end Go.Proofs.YtpohofcfmllghaaDoor
