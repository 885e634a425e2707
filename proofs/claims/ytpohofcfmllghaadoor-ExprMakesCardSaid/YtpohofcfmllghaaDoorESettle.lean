/-
  settle: what the first argument alone decides.
-/
import Derived.Test.YtpohofcfmllghaaDoorENext
import Derived.Deep.RegionHeld3
namespace Go.Proofs.YtpohofcfmllghaaDoor
open Go.RowKit

def settleV (wd : ByteArray) (v : Int × Int × ByteArray) : (Int × Int × ByteArray) × Bool :=
  bif (wd.toList == [97, 110, 100]) then (truthV false, !trueV v)
  else bif (wd.toList == [111, 114]) then (truthV true, trueV v)
  else bif (wd.toList == [101, 105, 116, 104, 101, 114]) then (v, !nullV v)
  else ((0, 0, ⟨#[]⟩), false)
/-- Below B all is as it was in W, behind a call. -/
theorem onB {B : Nat} {W a b : World} (k : Below a.heap.size a b) (hB : B ≤ W.heap.size) (h : Below B W a) : Below B W b := h.trans (k.mono (Nat.le_trans hB h.size))
theorem keepQ {p q : Prop} (h : p) (k : p → q) : q := k h
theorem belD {B : Nat} {W a : World} (h : Below B W a) : Below B W a.drew := h.drew
theorem belS {B : Nat} {W a : World} {p : Addr} {v : Value} (hp : B ≤ p.block) (h : Below B W a) : Below B W (a.setCell p v) := h.setCell hp v
set_option maxHeartbeats 3200000 in
set_option maxRecDepth 100000 in
theorem settle_and (x : XT) (k n : Int) (s : ByteArray) (w : World) (h0 : ((wordX x).toList == [97, 110, 100]) = true) :
    Calls Tryd.prog 28 #[vX x, vVal k n s] w fun e w' => e = .returned (.tuple #[vOf (truthV false), .bool (!trueV (k, n, s))]) ∧ Below w.heap.size w w' := by
  have HTt := hide (show ∀ w', Calls Tryd.prog 39 #[.bool false] w' fun e w1 => e = .returned (vVal 1 0 ⟨#[]⟩) ∧ Below w'.heap.size w' w1 from fun w' => truth_any false w')
  have HTr := hide (fun w' => true_any k n s w')
  generalize trueV (k, n, s) = b at *
  have HSz := hide (show w.heap.size + 2 ≤ (evW w x (k, n, s)).heap.size by simp [evW])
  have HW0 := hide (show (evW w x (k, n, s)).cell? ⟨w.heap.size + 1, 0, none⟩ = some (.int .i64 k) ∧ (evW w x (k, n, s)).cell? ⟨w.heap.size + 1, 1, none⟩ = some (.int .i64 n) ∧ (evW w x (k, n, s)).cell? ⟨w.heap.size + 1, 2, none⟩ = some (.string s) ∧ w.heap.size + 2 < (evW w x (k, n, s)).heap.size by
    obtain ⟨-, -, -, -, -, -, -, b0, b1, b2, -, -, -, -, -, -, hz⟩ := evW_at (w := w) (x := x) (v := (k, n, s)) (Below.refl _ _)
    exact ⟨b0, b1, b2, hz⟩)
  have hal := evW_below w x (k, n, s)
  have HAt := hide (fun w' => evW_at (w := w) (x := x) (v := (k, n, s)) (w' := w'))
  have HL := hide hal
  have HWd := hide (fun w' => word_any x w')
  obtain ⟨kd, nm, v, o, A, c, ts⟩ := x
  have HWE := hide (show evW w (.mk kd nm v o A c ts) (k, n, s) = ((w.alloc (.cells (eCells kd nm v o A ts.length c) 29)).alloc (.cells #[.int .i64 k, .int .i64 n, .string s] 26)).alloc (.cells #[.int .i64 0, .int .i64 0, .string ⟨#[]⟩] 26) from rfl)
  simp only [XT.kind, XT.name, XT.val, XT.op, XT.adr, XT.args, XT.cap] at HAt
  rw [show vX (.mk kd nm v o A c ts) = .agg (eCells kd nm v o A ts.length c) from rfl] at HWd ⊢
  generalize wordX (.mk kd nm v o A c ts) = wd at *
  generalize evW w (.mk kd nm v o A c ts) (k, n, s) = W at *
  clear hal
  have HALL := hide (fun w' (h : Below (w.heap.size + 2) W w') => (⟨(h.cell (p := ⟨w.heap.size + 1, 0, none⟩) (by simp only; omega)).trans HW0.out.1, (h.cell (p := ⟨w.heap.size + 1, 1, none⟩) (by simp only; omega)).trans HW0.out.2.1, (h.cell (p := ⟨w.heap.size + 1, 2, none⟩) (by simp only; omega)).trans HW0.out.2.2.1, Nat.lt_of_lt_of_le HW0.out.2.2.2 h.size, h⟩ :
    w'.cell? ⟨w.heap.size + 1, 0, none⟩ = some (.int .i64 k) ∧ w'.cell? ⟨w.heap.size + 1, 1, none⟩ = some (.int .i64 n) ∧ w'.cell? ⟨w.heap.size + 1, 2, none⟩ = some (.string s) ∧ w.heap.size + 2 < w'.heap.size ∧ Below (w.heap.size + 2) W w'))
  go_enter Tryd.func28, Tryd.ntmps28
  obtain ⟨a0, a1, a2, a3, a4, a5, a6, b0, b1, b2, r0, r1, r2, f0, f1, f2, hz⟩ := HAt.out _ (Below.refl _ _)
  go_wp2_with fail
  rw [← HWE.out]
  refine (HWd.out _).mono ?_
  rintro e w2 ⟨rfl, hb2⟩
  have HB2 := hide hb2
  clear a0 a1 a2 a3 a4 a5 a6 b0 b1 b2 r0 r1 r2 f0 f1 f2 hz
  obtain ⟨a0, a1, a2, a3, a4, a5, a6, b0, b1, b2, r0, r1, r2, f0, f1, f2, hz⟩ := HAt.out _ hb2
  clear hb2
  have HP2 := hide (HB2.out.mono HSz.out)
  go_wp2_with fail
  go_region_held3 (fun w' => w'.cell? ⟨w.heap.size + 1, 0, none⟩ = some (.int .i64 k) ∧ w'.cell? ⟨w.heap.size + 1, 1, none⟩ = some (.int .i64 n) ∧ w'.cell? ⟨w.heap.size + 1, 2, none⟩ = some (.string s) ∧ w.heap.size + 2 < w'.heap.size ∧ Below (w.heap.size + 2) W w')
    ((refine HALL.out _ ?_; (repeat (first | with_reducible refine belD ?_ | with_reducible refine belS (Nat.le_refl _) ?_)); first | with_reducible assumption | with_reducible exact HP2.out))
    (first
      | (go_at_call 40; (try go_split_ands); refine (HTr.out _).mono ?_; rintro e w6 ⟨rfl, hb⟩; have hBw6 := onB hb HSz.out (by (repeat (first | with_reducible refine belD ?_ | with_reducible refine belS (Nat.le_refl _) ?_)); first | with_reducible assumption | with_reducible exact HP2.out); refine keepQ (p := w6.cell? ⟨w.heap.size + 2, 0, none⟩ = some (.int .i64 1) ∧ w6.cell? ⟨w.heap.size + 2, 1, none⟩ = some (.int .i64 0) ∧ w6.cell? ⟨w.heap.size + 2, 2, none⟩ = some (.string ⟨#[]⟩) ∧ w6.frozen? ⟨w.heap.size + 2, 0, none⟩ = false ∧ w6.frozen? ⟨w.heap.size + 2, 1, none⟩ = false ∧ w6.frozen? ⟨w.heap.size + 2, 2, none⟩ = false) ?_ ?_; (focus (refine ⟨Eq.trans (hb.cell (p := ⟨w.heap.size + 2, 0, none⟩) ?_) ?_, Eq.trans (hb.cell (p := ⟨w.heap.size + 2, 1, none⟩) ?_) ?_, Eq.trans (hb.cell (p := ⟨w.heap.size + 2, 2, none⟩) ?_) ?_, Eq.trans (hb.frozen (p := ⟨w.heap.size + 2, 0, none⟩) ?_) ?_, Eq.trans (hb.frozen (p := ⟨w.heap.size + 2, 1, none⟩) ?_) ?_, Eq.trans (hb.frozen (p := ⟨w.heap.size + 2, 2, none⟩) ?_) ?_⟩; (focus (simp <;> omega)); (focus (first | with_reducible exact r0 | (simp [r0]; done))); (focus (simp <;> omega)); (focus (first | with_reducible exact r1 | (simp [r1]; done))); (focus (simp <;> omega)); (focus (first | with_reducible exact r2 | (simp [r2]; done))); (focus (simp <;> omega)); (focus (first | with_reducible exact f0 | (simp [f0]; done))); (focus (simp <;> omega)); (focus (first | with_reducible exact f1 | (simp [f1]; done))); (focus (simp <;> omega)); (focus (first | with_reducible exact f2 | (simp [f2]; done))))); clear hb r0 r1 r2 f0 f1 f2; rintro ⟨r0, r1, r2, f0, f1, f2⟩)
      | (go_at_call 40; (try go_split_ands); refine (HTr.out _).mono ?_; rintro e w6 ⟨rfl, hb⟩; have hBw6 := onB hb HSz.out (by (repeat (first | with_reducible refine belD ?_ | with_reducible refine belS (Nat.le_refl _) ?_)); first | with_reducible assumption | with_reducible exact HP2.out); refine keepQ (p := w6.cell? ⟨w.heap.size + 2, 0, none⟩ = some (.int .i64 0) ∧ w6.cell? ⟨w.heap.size + 2, 1, none⟩ = some (.int .i64 0) ∧ w6.cell? ⟨w.heap.size + 2, 2, none⟩ = some (.string ⟨#[]⟩) ∧ w6.frozen? ⟨w.heap.size + 2, 0, none⟩ = false ∧ w6.frozen? ⟨w.heap.size + 2, 1, none⟩ = false ∧ w6.frozen? ⟨w.heap.size + 2, 2, none⟩ = false) ?_ ?_; (focus (refine ⟨Eq.trans (hb.cell (p := ⟨w.heap.size + 2, 0, none⟩) ?_) ?_, Eq.trans (hb.cell (p := ⟨w.heap.size + 2, 1, none⟩) ?_) ?_, Eq.trans (hb.cell (p := ⟨w.heap.size + 2, 2, none⟩) ?_) ?_, Eq.trans (hb.frozen (p := ⟨w.heap.size + 2, 0, none⟩) ?_) ?_, Eq.trans (hb.frozen (p := ⟨w.heap.size + 2, 1, none⟩) ?_) ?_, Eq.trans (hb.frozen (p := ⟨w.heap.size + 2, 2, none⟩) ?_) ?_⟩; (focus (simp <;> omega)); (focus (first | with_reducible exact r0 | (simp [r0]; done))); (focus (simp <;> omega)); (focus (first | with_reducible exact r1 | (simp [r1]; done))); (focus (simp <;> omega)); (focus (first | with_reducible exact r2 | (simp [r2]; done))); (focus (simp <;> omega)); (focus (first | with_reducible exact f0 | (simp [f0]; done))); (focus (simp <;> omega)); (focus (first | with_reducible exact f1 | (simp [f1]; done))); (focus (simp <;> omega)); (focus (first | with_reducible exact f2 | (simp [f2]; done))))); clear hb r0 r1 r2 f0 f1 f2; rintro ⟨r0, r1, r2, f0, f1, f2⟩)
      | (go_at_call 39; (try go_split_ands); refine (HTt.out _).mono ?_; rintro e w5 ⟨rfl, hb⟩; have hBw5 := onB hb HSz.out (by (repeat (first | with_reducible refine belD ?_ | with_reducible refine belS (Nat.le_refl _) ?_)); first | with_reducible assumption | with_reducible exact HP2.out); refine keepQ (p := w5.cell? ⟨w.heap.size + 2, 0, none⟩ = some (.int .i64 0) ∧ w5.cell? ⟨w.heap.size + 2, 1, none⟩ = some (.int .i64 0) ∧ w5.cell? ⟨w.heap.size + 2, 2, none⟩ = some (.string ⟨#[]⟩) ∧ w5.frozen? ⟨w.heap.size + 2, 0, none⟩ = false ∧ w5.frozen? ⟨w.heap.size + 2, 1, none⟩ = false ∧ w5.frozen? ⟨w.heap.size + 2, 2, none⟩ = false) ?_ ?_; (focus (refine ⟨Eq.trans (hb.cell (p := ⟨w.heap.size + 2, 0, none⟩) ?_) ?_, Eq.trans (hb.cell (p := ⟨w.heap.size + 2, 1, none⟩) ?_) ?_, Eq.trans (hb.cell (p := ⟨w.heap.size + 2, 2, none⟩) ?_) ?_, Eq.trans (hb.frozen (p := ⟨w.heap.size + 2, 0, none⟩) ?_) ?_, Eq.trans (hb.frozen (p := ⟨w.heap.size + 2, 1, none⟩) ?_) ?_, Eq.trans (hb.frozen (p := ⟨w.heap.size + 2, 2, none⟩) ?_) ?_⟩; (focus (simp <;> omega)); (focus (first | with_reducible exact r0 | (simp [r0]; done))); (focus (simp <;> omega)); (focus (first | with_reducible exact r1 | (simp [r1]; done))); (focus (simp <;> omega)); (focus (first | with_reducible exact r2 | (simp [r2]; done))); (focus (simp <;> omega)); (focus (first | with_reducible exact f0 | (simp [f0]; done))); (focus (simp <;> omega)); (focus (first | with_reducible exact f1 | (simp [f1]; done))); (focus (simp <;> omega)); (focus (first | with_reducible exact f2 | (simp [f2]; done))))); clear hb r0 r1 r2 f0 f1 f2; rintro ⟨r0, r1, r2, f0, f1, f2⟩))
  all_goals
    go_split_ands
    go_wp2_with fail
    refine bodyPost_ret (v := .tuple #[vVal 1 0 ⟨#[]⟩, .bool (!b)]) (by simp [results, Tryd.results28, go_sem, r0, r1, r2]) rfl ⟨rfl, ?_⟩
    refine HL.out.trans (Below.mono ?_ (Nat.le_add_right w.heap.size 2))
    (repeat (first | with_reducible refine belD ?_ | with_reducible refine belS (Nat.le_refl _) ?_))
    first | with_reducible assumption | with_reducible exact HP2.out

set_option maxHeartbeats 3200000 in
set_option maxRecDepth 100000 in
theorem settle_or (x : XT) (k n : Int) (s : ByteArray) (w : World) (h0 : ((wordX x).toList == [97, 110, 100]) = false) (h1 : ((wordX x).toList == [111, 114]) = true) :
    Calls Tryd.prog 28 #[vX x, vVal k n s] w fun e w' => e = .returned (.tuple #[vOf (truthV true), .bool (trueV (k, n, s))]) ∧ Below w.heap.size w w' := by
  have HTt := hide (show ∀ w', Calls Tryd.prog 39 #[.bool true] w' fun e w1 => e = .returned (vVal 1 1 ⟨#[]⟩) ∧ Below w'.heap.size w' w1 from fun w' => truth_any true w')
  have HTr := hide (fun w' => true_any k n s w')
  generalize trueV (k, n, s) = b at *
  have HSz := hide (show w.heap.size + 2 ≤ (evW w x (k, n, s)).heap.size by simp [evW])
  have HW0 := hide (show (evW w x (k, n, s)).cell? ⟨w.heap.size + 1, 0, none⟩ = some (.int .i64 k) ∧ (evW w x (k, n, s)).cell? ⟨w.heap.size + 1, 1, none⟩ = some (.int .i64 n) ∧ (evW w x (k, n, s)).cell? ⟨w.heap.size + 1, 2, none⟩ = some (.string s) ∧ w.heap.size + 2 < (evW w x (k, n, s)).heap.size by
    obtain ⟨-, -, -, -, -, -, -, b0, b1, b2, -, -, -, -, -, -, hz⟩ := evW_at (w := w) (x := x) (v := (k, n, s)) (Below.refl _ _)
    exact ⟨b0, b1, b2, hz⟩)
  have hal := evW_below w x (k, n, s)
  have HAt := hide (fun w' => evW_at (w := w) (x := x) (v := (k, n, s)) (w' := w'))
  have HL := hide hal
  have HWd := hide (fun w' => word_any x w')
  obtain ⟨kd, nm, v, o, A, c, ts⟩ := x
  have HWE := hide (show evW w (.mk kd nm v o A c ts) (k, n, s) = ((w.alloc (.cells (eCells kd nm v o A ts.length c) 29)).alloc (.cells #[.int .i64 k, .int .i64 n, .string s] 26)).alloc (.cells #[.int .i64 0, .int .i64 0, .string ⟨#[]⟩] 26) from rfl)
  simp only [XT.kind, XT.name, XT.val, XT.op, XT.adr, XT.args, XT.cap] at HAt
  rw [show vX (.mk kd nm v o A c ts) = .agg (eCells kd nm v o A ts.length c) from rfl] at HWd ⊢
  generalize wordX (.mk kd nm v o A c ts) = wd at *
  generalize evW w (.mk kd nm v o A c ts) (k, n, s) = W at *
  clear hal
  have HALL := hide (fun w' (h : Below (w.heap.size + 2) W w') => (⟨(h.cell (p := ⟨w.heap.size + 1, 0, none⟩) (by simp only; omega)).trans HW0.out.1, (h.cell (p := ⟨w.heap.size + 1, 1, none⟩) (by simp only; omega)).trans HW0.out.2.1, (h.cell (p := ⟨w.heap.size + 1, 2, none⟩) (by simp only; omega)).trans HW0.out.2.2.1, Nat.lt_of_lt_of_le HW0.out.2.2.2 h.size, h⟩ :
    w'.cell? ⟨w.heap.size + 1, 0, none⟩ = some (.int .i64 k) ∧ w'.cell? ⟨w.heap.size + 1, 1, none⟩ = some (.int .i64 n) ∧ w'.cell? ⟨w.heap.size + 1, 2, none⟩ = some (.string s) ∧ w.heap.size + 2 < w'.heap.size ∧ Below (w.heap.size + 2) W w'))
  go_enter Tryd.func28, Tryd.ntmps28
  obtain ⟨a0, a1, a2, a3, a4, a5, a6, b0, b1, b2, r0, r1, r2, f0, f1, f2, hz⟩ := HAt.out _ (Below.refl _ _)
  go_wp2_with fail
  rw [← HWE.out]
  refine (HWd.out _).mono ?_
  rintro e w2 ⟨rfl, hb2⟩
  have HB2 := hide hb2
  clear a0 a1 a2 a3 a4 a5 a6 b0 b1 b2 r0 r1 r2 f0 f1 f2 hz
  obtain ⟨a0, a1, a2, a3, a4, a5, a6, b0, b1, b2, r0, r1, r2, f0, f1, f2, hz⟩ := HAt.out _ hb2
  clear hb2
  have HP2 := hide (HB2.out.mono HSz.out)
  go_wp2_with fail
  go_region_held3 (fun w' => w'.cell? ⟨w.heap.size + 1, 0, none⟩ = some (.int .i64 k) ∧ w'.cell? ⟨w.heap.size + 1, 1, none⟩ = some (.int .i64 n) ∧ w'.cell? ⟨w.heap.size + 1, 2, none⟩ = some (.string s) ∧ w.heap.size + 2 < w'.heap.size ∧ Below (w.heap.size + 2) W w')
    ((refine HALL.out _ ?_; (repeat (first | with_reducible refine belD ?_ | with_reducible refine belS (Nat.le_refl _) ?_)); first | with_reducible assumption | with_reducible exact HP2.out))
    (first
      | (go_at_call 40; (try go_split_ands); refine (HTr.out _).mono ?_; rintro e w6 ⟨rfl, hb⟩; have hBw6 := onB hb HSz.out (by (repeat (first | with_reducible refine belD ?_ | with_reducible refine belS (Nat.le_refl _) ?_)); first | with_reducible assumption | with_reducible exact HP2.out); refine keepQ (p := w6.cell? ⟨w.heap.size + 2, 0, none⟩ = some (.int .i64 1) ∧ w6.cell? ⟨w.heap.size + 2, 1, none⟩ = some (.int .i64 1) ∧ w6.cell? ⟨w.heap.size + 2, 2, none⟩ = some (.string ⟨#[]⟩) ∧ w6.frozen? ⟨w.heap.size + 2, 0, none⟩ = false ∧ w6.frozen? ⟨w.heap.size + 2, 1, none⟩ = false ∧ w6.frozen? ⟨w.heap.size + 2, 2, none⟩ = false) ?_ ?_; (focus (refine ⟨Eq.trans (hb.cell (p := ⟨w.heap.size + 2, 0, none⟩) ?_) ?_, Eq.trans (hb.cell (p := ⟨w.heap.size + 2, 1, none⟩) ?_) ?_, Eq.trans (hb.cell (p := ⟨w.heap.size + 2, 2, none⟩) ?_) ?_, Eq.trans (hb.frozen (p := ⟨w.heap.size + 2, 0, none⟩) ?_) ?_, Eq.trans (hb.frozen (p := ⟨w.heap.size + 2, 1, none⟩) ?_) ?_, Eq.trans (hb.frozen (p := ⟨w.heap.size + 2, 2, none⟩) ?_) ?_⟩; (focus (simp <;> omega)); (focus (first | with_reducible exact r0 | (simp [r0]; done))); (focus (simp <;> omega)); (focus (first | with_reducible exact r1 | (simp [r1]; done))); (focus (simp <;> omega)); (focus (first | with_reducible exact r2 | (simp [r2]; done))); (focus (simp <;> omega)); (focus (first | with_reducible exact f0 | (simp [f0]; done))); (focus (simp <;> omega)); (focus (first | with_reducible exact f1 | (simp [f1]; done))); (focus (simp <;> omega)); (focus (first | with_reducible exact f2 | (simp [f2]; done))))); clear hb r0 r1 r2 f0 f1 f2; rintro ⟨r0, r1, r2, f0, f1, f2⟩)
      | (go_at_call 40; (try go_split_ands); refine (HTr.out _).mono ?_; rintro e w6 ⟨rfl, hb⟩; have hBw6 := onB hb HSz.out (by (repeat (first | with_reducible refine belD ?_ | with_reducible refine belS (Nat.le_refl _) ?_)); first | with_reducible assumption | with_reducible exact HP2.out); refine keepQ (p := w6.cell? ⟨w.heap.size + 2, 0, none⟩ = some (.int .i64 0) ∧ w6.cell? ⟨w.heap.size + 2, 1, none⟩ = some (.int .i64 0) ∧ w6.cell? ⟨w.heap.size + 2, 2, none⟩ = some (.string ⟨#[]⟩) ∧ w6.frozen? ⟨w.heap.size + 2, 0, none⟩ = false ∧ w6.frozen? ⟨w.heap.size + 2, 1, none⟩ = false ∧ w6.frozen? ⟨w.heap.size + 2, 2, none⟩ = false) ?_ ?_; (focus (refine ⟨Eq.trans (hb.cell (p := ⟨w.heap.size + 2, 0, none⟩) ?_) ?_, Eq.trans (hb.cell (p := ⟨w.heap.size + 2, 1, none⟩) ?_) ?_, Eq.trans (hb.cell (p := ⟨w.heap.size + 2, 2, none⟩) ?_) ?_, Eq.trans (hb.frozen (p := ⟨w.heap.size + 2, 0, none⟩) ?_) ?_, Eq.trans (hb.frozen (p := ⟨w.heap.size + 2, 1, none⟩) ?_) ?_, Eq.trans (hb.frozen (p := ⟨w.heap.size + 2, 2, none⟩) ?_) ?_⟩; (focus (simp <;> omega)); (focus (first | with_reducible exact r0 | (simp [r0]; done))); (focus (simp <;> omega)); (focus (first | with_reducible exact r1 | (simp [r1]; done))); (focus (simp <;> omega)); (focus (first | with_reducible exact r2 | (simp [r2]; done))); (focus (simp <;> omega)); (focus (first | with_reducible exact f0 | (simp [f0]; done))); (focus (simp <;> omega)); (focus (first | with_reducible exact f1 | (simp [f1]; done))); (focus (simp <;> omega)); (focus (first | with_reducible exact f2 | (simp [f2]; done))))); clear hb r0 r1 r2 f0 f1 f2; rintro ⟨r0, r1, r2, f0, f1, f2⟩)
      | (go_at_call 39; (try go_split_ands); refine (HTt.out _).mono ?_; rintro e w5 ⟨rfl, hb⟩; have hBw5 := onB hb HSz.out (by (repeat (first | with_reducible refine belD ?_ | with_reducible refine belS (Nat.le_refl _) ?_)); first | with_reducible assumption | with_reducible exact HP2.out); refine keepQ (p := w5.cell? ⟨w.heap.size + 2, 0, none⟩ = some (.int .i64 0) ∧ w5.cell? ⟨w.heap.size + 2, 1, none⟩ = some (.int .i64 0) ∧ w5.cell? ⟨w.heap.size + 2, 2, none⟩ = some (.string ⟨#[]⟩) ∧ w5.frozen? ⟨w.heap.size + 2, 0, none⟩ = false ∧ w5.frozen? ⟨w.heap.size + 2, 1, none⟩ = false ∧ w5.frozen? ⟨w.heap.size + 2, 2, none⟩ = false) ?_ ?_; (focus (refine ⟨Eq.trans (hb.cell (p := ⟨w.heap.size + 2, 0, none⟩) ?_) ?_, Eq.trans (hb.cell (p := ⟨w.heap.size + 2, 1, none⟩) ?_) ?_, Eq.trans (hb.cell (p := ⟨w.heap.size + 2, 2, none⟩) ?_) ?_, Eq.trans (hb.frozen (p := ⟨w.heap.size + 2, 0, none⟩) ?_) ?_, Eq.trans (hb.frozen (p := ⟨w.heap.size + 2, 1, none⟩) ?_) ?_, Eq.trans (hb.frozen (p := ⟨w.heap.size + 2, 2, none⟩) ?_) ?_⟩; (focus (simp <;> omega)); (focus (first | with_reducible exact r0 | (simp [r0]; done))); (focus (simp <;> omega)); (focus (first | with_reducible exact r1 | (simp [r1]; done))); (focus (simp <;> omega)); (focus (first | with_reducible exact r2 | (simp [r2]; done))); (focus (simp <;> omega)); (focus (first | with_reducible exact f0 | (simp [f0]; done))); (focus (simp <;> omega)); (focus (first | with_reducible exact f1 | (simp [f1]; done))); (focus (simp <;> omega)); (focus (first | with_reducible exact f2 | (simp [f2]; done))))); clear hb r0 r1 r2 f0 f1 f2; rintro ⟨r0, r1, r2, f0, f1, f2⟩))
  all_goals
    go_split_ands
    go_wp2_with fail
    refine bodyPost_ret (v := .tuple #[vVal 1 1 ⟨#[]⟩, .bool b]) (by simp [results, Tryd.results28, go_sem, r0, r1, r2]) rfl ⟨rfl, ?_⟩
    refine HL.out.trans (Below.mono ?_ (Nat.le_add_right w.heap.size 2))
    (repeat (first | with_reducible refine belD ?_ | with_reducible refine belS (Nat.le_refl _) ?_))
    first | with_reducible assumption | with_reducible exact HP2.out

set_option maxHeartbeats 3200000 in
set_option maxRecDepth 100000 in
theorem settle_either (x : XT) (k n : Int) (s : ByteArray) (w : World) (h0 : ((wordX x).toList == [97, 110, 100]) = false) (h1 : ((wordX x).toList == [111, 114]) = false) (h2 : ((wordX x).toList == [101, 105, 116, 104, 101, 114]) = true) :
    Calls Tryd.prog 28 #[vX x, vVal k n s] w fun e w' => e = .returned (.tuple #[vVal k n s, .bool (!nullV (k, n, s))]) ∧ Below w.heap.size w w' := by
  have HNu := hide (fun w' => isNull_any k n s w')
  generalize nullV (k, n, s) = b at *
  have HSz := hide (show w.heap.size + 2 ≤ (evW w x (k, n, s)).heap.size by simp [evW])
  have HW0 := hide (show (evW w x (k, n, s)).cell? ⟨w.heap.size + 1, 0, none⟩ = some (.int .i64 k) ∧ (evW w x (k, n, s)).cell? ⟨w.heap.size + 1, 1, none⟩ = some (.int .i64 n) ∧ (evW w x (k, n, s)).cell? ⟨w.heap.size + 1, 2, none⟩ = some (.string s) ∧ w.heap.size + 2 < (evW w x (k, n, s)).heap.size by
    obtain ⟨-, -, -, -, -, -, -, b0, b1, b2, -, -, -, -, -, -, hz⟩ := evW_at (w := w) (x := x) (v := (k, n, s)) (Below.refl _ _)
    exact ⟨b0, b1, b2, hz⟩)
  have hal := evW_below w x (k, n, s)
  have HAt := hide (fun w' => evW_at (w := w) (x := x) (v := (k, n, s)) (w' := w'))
  have HL := hide hal
  have HWd := hide (fun w' => word_any x w')
  obtain ⟨kd, nm, v, o, A, c, ts⟩ := x
  have HWE := hide (show evW w (.mk kd nm v o A c ts) (k, n, s) = ((w.alloc (.cells (eCells kd nm v o A ts.length c) 29)).alloc (.cells #[.int .i64 k, .int .i64 n, .string s] 26)).alloc (.cells #[.int .i64 0, .int .i64 0, .string ⟨#[]⟩] 26) from rfl)
  simp only [XT.kind, XT.name, XT.val, XT.op, XT.adr, XT.args, XT.cap] at HAt
  rw [show vX (.mk kd nm v o A c ts) = .agg (eCells kd nm v o A ts.length c) from rfl] at HWd ⊢
  generalize wordX (.mk kd nm v o A c ts) = wd at *
  generalize evW w (.mk kd nm v o A c ts) (k, n, s) = W at *
  clear hal
  have HALL := hide (fun w' (h : Below (w.heap.size + 2) W w') => (⟨(h.cell (p := ⟨w.heap.size + 1, 0, none⟩) (by simp only; omega)).trans HW0.out.1, (h.cell (p := ⟨w.heap.size + 1, 1, none⟩) (by simp only; omega)).trans HW0.out.2.1, (h.cell (p := ⟨w.heap.size + 1, 2, none⟩) (by simp only; omega)).trans HW0.out.2.2.1, Nat.lt_of_lt_of_le HW0.out.2.2.2 h.size, h⟩ :
    w'.cell? ⟨w.heap.size + 1, 0, none⟩ = some (.int .i64 k) ∧ w'.cell? ⟨w.heap.size + 1, 1, none⟩ = some (.int .i64 n) ∧ w'.cell? ⟨w.heap.size + 1, 2, none⟩ = some (.string s) ∧ w.heap.size + 2 < w'.heap.size ∧ Below (w.heap.size + 2) W w'))
  go_enter Tryd.func28, Tryd.ntmps28
  obtain ⟨a0, a1, a2, a3, a4, a5, a6, b0, b1, b2, r0, r1, r2, f0, f1, f2, hz⟩ := HAt.out _ (Below.refl _ _)
  go_wp2_with fail
  rw [← HWE.out]
  refine (HWd.out _).mono ?_
  rintro e w2 ⟨rfl, hb2⟩
  have HB2 := hide hb2
  clear a0 a1 a2 a3 a4 a5 a6 b0 b1 b2 r0 r1 r2 f0 f1 f2 hz
  obtain ⟨a0, a1, a2, a3, a4, a5, a6, b0, b1, b2, r0, r1, r2, f0, f1, f2, hz⟩ := HAt.out _ hb2
  clear hb2
  have HP2 := hide (HB2.out.mono HSz.out)
  go_wp2_with fail
  go_region_held3 (fun w' => w'.cell? ⟨w.heap.size + 1, 0, none⟩ = some (.int .i64 k) ∧ w'.cell? ⟨w.heap.size + 1, 1, none⟩ = some (.int .i64 n) ∧ w'.cell? ⟨w.heap.size + 1, 2, none⟩ = some (.string s) ∧ w.heap.size + 2 < w'.heap.size ∧ Below (w.heap.size + 2) W w')
    ((refine HALL.out _ ?_; (repeat (first | with_reducible refine belD ?_ | with_reducible refine belS (Nat.le_refl _) ?_)); first | with_reducible assumption | with_reducible exact HP2.out))
    (first
      | (go_at_call 41; (try go_split_ands); refine (HNu.out _).mono ?_; rintro e w6 ⟨rfl, hb⟩; have hBw6 := onB hb HSz.out (by (repeat (first | with_reducible refine belD ?_ | with_reducible refine belS (Nat.le_refl _) ?_)); first | with_reducible assumption | with_reducible exact HP2.out); refine keepQ (p := w6.cell? ⟨w.heap.size + 2, 0, none⟩ = some (.int .i64 k) ∧ w6.cell? ⟨w.heap.size + 2, 1, none⟩ = some (.int .i64 n) ∧ w6.cell? ⟨w.heap.size + 2, 2, none⟩ = some (.string s) ∧ w6.frozen? ⟨w.heap.size + 2, 0, none⟩ = false ∧ w6.frozen? ⟨w.heap.size + 2, 1, none⟩ = false ∧ w6.frozen? ⟨w.heap.size + 2, 2, none⟩ = false) ?_ ?_; (focus (refine ⟨Eq.trans (hb.cell (p := ⟨w.heap.size + 2, 0, none⟩) ?_) ?_, Eq.trans (hb.cell (p := ⟨w.heap.size + 2, 1, none⟩) ?_) ?_, Eq.trans (hb.cell (p := ⟨w.heap.size + 2, 2, none⟩) ?_) ?_, Eq.trans (hb.frozen (p := ⟨w.heap.size + 2, 0, none⟩) ?_) ?_, Eq.trans (hb.frozen (p := ⟨w.heap.size + 2, 1, none⟩) ?_) ?_, Eq.trans (hb.frozen (p := ⟨w.heap.size + 2, 2, none⟩) ?_) ?_⟩; (focus (simp <;> omega)); (focus (first | with_reducible exact r0 | (simp [r0]; done))); (focus (simp <;> omega)); (focus (first | with_reducible exact r1 | (simp [r1]; done))); (focus (simp <;> omega)); (focus (first | with_reducible exact r2 | (simp [r2]; done))); (focus (simp <;> omega)); (focus (first | with_reducible exact f0 | (simp [f0]; done))); (focus (simp <;> omega)); (focus (first | with_reducible exact f1 | (simp [f1]; done))); (focus (simp <;> omega)); (focus (first | with_reducible exact f2 | (simp [f2]; done))))); clear hb r0 r1 r2 f0 f1 f2; rintro ⟨r0, r1, r2, f0, f1, f2⟩)
      | (go_at_call 41; (try go_split_ands); refine (HNu.out _).mono ?_; rintro e w6 ⟨rfl, hb⟩; have hBw6 := onB hb HSz.out (by (repeat (first | with_reducible refine belD ?_ | with_reducible refine belS (Nat.le_refl _) ?_)); first | with_reducible assumption | with_reducible exact HP2.out); refine keepQ (p := w6.cell? ⟨w.heap.size + 2, 0, none⟩ = some (.int .i64 0) ∧ w6.cell? ⟨w.heap.size + 2, 1, none⟩ = some (.int .i64 0) ∧ w6.cell? ⟨w.heap.size + 2, 2, none⟩ = some (.string ⟨#[]⟩) ∧ w6.frozen? ⟨w.heap.size + 2, 0, none⟩ = false ∧ w6.frozen? ⟨w.heap.size + 2, 1, none⟩ = false ∧ w6.frozen? ⟨w.heap.size + 2, 2, none⟩ = false) ?_ ?_; (focus (refine ⟨Eq.trans (hb.cell (p := ⟨w.heap.size + 2, 0, none⟩) ?_) ?_, Eq.trans (hb.cell (p := ⟨w.heap.size + 2, 1, none⟩) ?_) ?_, Eq.trans (hb.cell (p := ⟨w.heap.size + 2, 2, none⟩) ?_) ?_, Eq.trans (hb.frozen (p := ⟨w.heap.size + 2, 0, none⟩) ?_) ?_, Eq.trans (hb.frozen (p := ⟨w.heap.size + 2, 1, none⟩) ?_) ?_, Eq.trans (hb.frozen (p := ⟨w.heap.size + 2, 2, none⟩) ?_) ?_⟩; (focus (simp <;> omega)); (focus (first | with_reducible exact r0 | (simp [r0]; done))); (focus (simp <;> omega)); (focus (first | with_reducible exact r1 | (simp [r1]; done))); (focus (simp <;> omega)); (focus (first | with_reducible exact r2 | (simp [r2]; done))); (focus (simp <;> omega)); (focus (first | with_reducible exact f0 | (simp [f0]; done))); (focus (simp <;> omega)); (focus (first | with_reducible exact f1 | (simp [f1]; done))); (focus (simp <;> omega)); (focus (first | with_reducible exact f2 | (simp [f2]; done))))); clear hb r0 r1 r2 f0 f1 f2; rintro ⟨r0, r1, r2, f0, f1, f2⟩))
  all_goals
    go_split_ands
    go_wp2_with fail
    refine bodyPost_ret (v := .tuple #[vVal k n s, .bool (!b)]) (by simp [results, Tryd.results28, go_sem, r0, r1, r2]) rfl ⟨rfl, ?_⟩
    refine HL.out.trans (Below.mono ?_ (Nat.le_add_right w.heap.size 2))
    (repeat (first | with_reducible refine belD ?_ | with_reducible refine belS (Nat.le_refl _) ?_))
    first | with_reducible assumption | with_reducible exact HP2.out

set_option maxHeartbeats 3200000 in
set_option maxRecDepth 100000 in
theorem settle_none (x : XT) (k n : Int) (s : ByteArray) (w : World) (h0 : ((wordX x).toList == [97, 110, 100]) = false) (h1 : ((wordX x).toList == [111, 114]) = false) (h2 : ((wordX x).toList == [101, 105, 116, 104, 101, 114]) = false) :
    Calls Tryd.prog 28 #[vX x, vVal k n s] w fun e w' => e = .returned (.tuple #[vVal 0 0 ⟨#[]⟩, .bool false]) ∧ Below w.heap.size w w' := by
  have HSz := hide (show w.heap.size + 2 ≤ (evW w x (k, n, s)).heap.size by simp [evW])
  have HW0 := hide (show (evW w x (k, n, s)).cell? ⟨w.heap.size + 1, 0, none⟩ = some (.int .i64 k) ∧ (evW w x (k, n, s)).cell? ⟨w.heap.size + 1, 1, none⟩ = some (.int .i64 n) ∧ (evW w x (k, n, s)).cell? ⟨w.heap.size + 1, 2, none⟩ = some (.string s) ∧ w.heap.size + 2 < (evW w x (k, n, s)).heap.size by
    obtain ⟨-, -, -, -, -, -, -, b0, b1, b2, -, -, -, -, -, -, hz⟩ := evW_at (w := w) (x := x) (v := (k, n, s)) (Below.refl _ _)
    exact ⟨b0, b1, b2, hz⟩)
  have hal := evW_below w x (k, n, s)
  have HAt := hide (fun w' => evW_at (w := w) (x := x) (v := (k, n, s)) (w' := w'))
  have HL := hide hal
  have HWd := hide (fun w' => word_any x w')
  obtain ⟨kd, nm, v, o, A, c, ts⟩ := x
  have HWE := hide (show evW w (.mk kd nm v o A c ts) (k, n, s) = ((w.alloc (.cells (eCells kd nm v o A ts.length c) 29)).alloc (.cells #[.int .i64 k, .int .i64 n, .string s] 26)).alloc (.cells #[.int .i64 0, .int .i64 0, .string ⟨#[]⟩] 26) from rfl)
  simp only [XT.kind, XT.name, XT.val, XT.op, XT.adr, XT.args, XT.cap] at HAt
  rw [show vX (.mk kd nm v o A c ts) = .agg (eCells kd nm v o A ts.length c) from rfl] at HWd ⊢
  generalize wordX (.mk kd nm v o A c ts) = wd at *
  generalize evW w (.mk kd nm v o A c ts) (k, n, s) = W at *
  clear hal
  have HALL := hide (fun w' (h : Below (w.heap.size + 2) W w') => (⟨(h.cell (p := ⟨w.heap.size + 1, 0, none⟩) (by simp only; omega)).trans HW0.out.1, (h.cell (p := ⟨w.heap.size + 1, 1, none⟩) (by simp only; omega)).trans HW0.out.2.1, (h.cell (p := ⟨w.heap.size + 1, 2, none⟩) (by simp only; omega)).trans HW0.out.2.2.1, Nat.lt_of_lt_of_le HW0.out.2.2.2 h.size, h⟩ :
    w'.cell? ⟨w.heap.size + 1, 0, none⟩ = some (.int .i64 k) ∧ w'.cell? ⟨w.heap.size + 1, 1, none⟩ = some (.int .i64 n) ∧ w'.cell? ⟨w.heap.size + 1, 2, none⟩ = some (.string s) ∧ w.heap.size + 2 < w'.heap.size ∧ Below (w.heap.size + 2) W w'))
  go_enter Tryd.func28, Tryd.ntmps28
  obtain ⟨a0, a1, a2, a3, a4, a5, a6, b0, b1, b2, r0, r1, r2, f0, f1, f2, hz⟩ := HAt.out _ (Below.refl _ _)
  go_wp2_with fail
  rw [← HWE.out]
  refine (HWd.out _).mono ?_
  rintro e w2 ⟨rfl, hb2⟩
  have HB2 := hide hb2
  clear a0 a1 a2 a3 a4 a5 a6 b0 b1 b2 r0 r1 r2 f0 f1 f2 hz
  obtain ⟨a0, a1, a2, a3, a4, a5, a6, b0, b1, b2, r0, r1, r2, f0, f1, f2, hz⟩ := HAt.out _ hb2
  clear hb2
  have HP2 := hide (HB2.out.mono HSz.out)
  go_wp2_with fail
  refine bodyPost_ret (v := .tuple #[vVal 0 0 ⟨#[]⟩, .bool false]) (by simp [results, Tryd.results28, go_sem, r0, r1, r2]) rfl ⟨rfl, ?_⟩
  refine HL.out.trans (Below.mono ?_ (Nat.le_add_right w.heap.size 2))
  (repeat (first | with_reducible refine belD ?_ | with_reducible refine belS (Nat.le_refl _) ?_))
  first | with_reducible assumption | with_reducible exact HP2.out

theorem settle_any (x : XT) (v : Int × Int × ByteArray) (w : World) :
    Calls Tryd.prog 28 #[vX x, vOf v] w fun e w' => e = .returned (.tuple #[vOf (settleV (wordX x) v).1, .bool (settleV (wordX x) v).2]) ∧ Below w.heap.size w w' := by
  obtain ⟨k, n, s⟩ := v
  cases h0 : ((wordX x).toList == [97, 110, 100])
  · cases h1 : ((wordX x).toList == [111, 114])
    · cases h2 : ((wordX x).toList == [101, 105, 116, 104, 101, 114])
      · have e : settleV (wordX x) (k, n, s) = ((0, 0, ⟨#[]⟩), false) := by unfold settleV; rw [h0, h1, h2]; rfl
        rw [e]
        exact settle_none x k n s w h0 h1 h2
      · have e : settleV (wordX x) (k, n, s) = ((k, n, s), !nullV (k, n, s)) := by unfold settleV; rw [h0, h1, h2]; rfl
        rw [e]
        exact settle_either x k n s w h0 h1 h2
    · have e : settleV (wordX x) (k, n, s) = (truthV true, trueV (k, n, s)) := by unfold settleV; rw [h0, h1]; rfl
      rw [e]
      exact settle_or x k n s w h0 h1
  · have e : settleV (wordX x) (k, n, s) = (truthV false, !trueV (k, n, s)) := by unfold settleV; rw [h0]; rfl
    rw [e]
    exact settle_and x k n s w h0
end Go.Proofs.YtpohofcfmllghaaDoor
