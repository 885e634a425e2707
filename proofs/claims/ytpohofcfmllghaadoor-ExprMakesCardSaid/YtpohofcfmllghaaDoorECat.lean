/-
  cat: two texts as one.
-/
import Derived.Test.YtpohofcfmllghaaDoorEOps
namespace Go.Proofs.YtpohofcfmllghaaDoor
open Go.RowKit

/-- The world of a function of two values, ahead of its calls: both boxes, and the result's. -/
def twoW (w : World) (a b : Int × Int × ByteArray) : World := ((w.alloc (.cells #[.int .i64 a.1, .int .i64 a.2.1, .string a.2.2] 26)).alloc (.cells #[.int .i64 b.1, .int .i64 b.2.1, .string b.2.2] 26)).alloc (.cells #[.int .i64 0, .int .i64 0, .string ⟨#[]⟩] 26)
theorem twoW_below (w : World) (a b : Int × Int × ByteArray) : Below w.heap.size w (twoW w a b) := (Joins.below_alloc2 w _ _).alloc (Joins.below_alloc2 w _ _).size _
theorem twoW_at {w : World} {a b : Int × Int × ByteArray} {w' : World} (h : Below (twoW w a b).heap.size (twoW w a b) w') :
    w'.cell? ⟨w.heap.size, 0, none⟩ = some (.int .i64 a.1) ∧ w'.cell? ⟨w.heap.size, 1, none⟩ = some (.int .i64 a.2.1) ∧ w'.cell? ⟨w.heap.size, 2, none⟩ = some (.string a.2.2) ∧
    w'.cell? ⟨w.heap.size + 1, 0, none⟩ = some (.int .i64 b.1) ∧ w'.cell? ⟨w.heap.size + 1, 1, none⟩ = some (.int .i64 b.2.1) ∧ w'.cell? ⟨w.heap.size + 1, 2, none⟩ = some (.string b.2.2) ∧
    w'.cell? ⟨w.heap.size + 2, 0, none⟩ = some (.int .i64 0) ∧ w'.cell? ⟨w.heap.size + 2, 1, none⟩ = some (.int .i64 0) ∧ w'.cell? ⟨w.heap.size + 2, 2, none⟩ = some (.string ⟨#[]⟩) ∧
    w'.frozen? ⟨w.heap.size + 2, 0, none⟩ = false ∧ w'.frozen? ⟨w.heap.size + 2, 1, none⟩ = false ∧ w'.frozen? ⟨w.heap.size + 2, 2, none⟩ = false ∧ w.heap.size + 2 < w'.heap.size := by
  have s1 : (w.alloc (.cells #[.int .i64 a.1, .int .i64 a.2.1, .string a.2.2] 26)).heap.size = w.heap.size + 1 := by simp
  have s2 : ((w.alloc (.cells #[.int .i64 a.1, .int .i64 a.2.1, .string a.2.2] 26)).alloc (.cells #[.int .i64 b.1, .int .i64 b.2.1, .string b.2.2] 26)).heap.size = w.heap.size + 2 := by simp
  have s3 : (twoW w a b).heap.size = w.heap.size + 3 := by simp [twoW]
  have h0 : (twoW w a b).heap[w.heap.size]? = some (.cells #[.int .i64 a.1, .int .i64 a.2.1, .string a.2.2] 26 (0, 0)) := by
    unfold twoW
    rw [Below.heap_alloc _ _ _ (by rw [s2]; omega), Below.heap_alloc _ _ _ (by rw [s1]; omega)]
    exact heap_alloc_new w _
  have h1 : (twoW w a b).heap[w.heap.size + 1]? = some (.cells #[.int .i64 b.1, .int .i64 b.2.1, .string b.2.2] 26 (0, 0)) := by
    unfold twoW
    rw [Below.heap_alloc _ _ _ (by rw [s2]; omega), ← s1]
    exact heap_alloc_new _ _
  have h2 : (twoW w a b).heap[w.heap.size + 2]? = some (.cells #[.int .i64 0, .int .i64 0, .string ⟨#[]⟩] 26 (0, 0)) := by
    unfold twoW
    rw [← s2]
    exact heap_alloc_new _ _
  have k0 := (h.block w.heap.size (by omega)).trans h0
  have k1 := (h.block (w.heap.size + 1) (by omega)).trans h1
  have k2 := (h.block (w.heap.size + 2) (by omega)).trans h2
  have := h.size
  exact ⟨Lib.cell_of_heap k0 0, Lib.cell_of_heap k0 1, Lib.cell_of_heap k0 2, Lib.cell_of_heap k1 0, Lib.cell_of_heap k1 1, Lib.cell_of_heap k1 2, Lib.cell_of_heap k2 0, Lib.cell_of_heap k2 1, Lib.cell_of_heap k2 2,
    Lib.frozen_of_heap k2 0, Lib.frozen_of_heap k2 1, Lib.frozen_of_heap k2 2, by omega⟩

set_option maxHeartbeats 3200000 in
set_option maxRecDepth 100000 in
theorem cat_any (a b : Int × Int × ByteArray) (w : World) (ha : a.2.2.size ≤ 1000000) (hb : b.2.2.size ≤ 1000000) :
    Calls Tryd.prog 44 #[vOf a, vOf b] w fun e w' => e = .returned (.tuple #[vOf (catV a b).1, .int .i64 (catV a b).2]) ∧ Below w.heap.size w w' := by
  have hal := twoW_below w a b
  have HAt := hide (fun w' => twoW_at (w := w) (a := a) (b := b) (w' := w'))
  obtain ⟨k, n, s⟩ := a
  obtain ⟨l, m, t⟩ := b
  simp only at ha hb HAt
  have HWE := hide (show twoW w (k, n, s) (l, m, t) = ((w.alloc (.cells #[.int .i64 k, .int .i64 n, .string s] 26)).alloc (.cells #[.int .i64 l, .int .i64 m, .string t] 26)).alloc (.cells #[.int .i64 0, .int .i64 0, .string ⟨#[]⟩] 26) from rfl)
  have HL := hide hal
  have HNa := hide (fun w' => isNull_any k n s w')
  have HNb := hide (fun w' => isNull_any l m t w')
  have HX := hide (show catV (k, n, s) (l, m, t) = if nullV (k, n, s) = true ∨ nullV (l, m, t) = true then ((0, 0, ⟨#[]⟩), 0) else if 64 < s.size + t.size then ((0, 0, ⟨#[]⟩), 10) else ((2, 0, s ++ t), 0) from rfl)
  generalize catV (k, n, s) (l, m, t) = q at HX ⊢
  generalize nullV (k, n, s) = na at *
  generalize nullV (l, m, t) = nb at *
  generalize twoW w (k, n, s) (l, m, t) = W at *
  have hs0 : s.size ≤ 9223372036854775807 := by omega
  have ht0 : t.size ≤ 9223372036854775807 := by omega
  clear hal
  cases na
  · cases nb
    · by_cases hl : 64 < s.size + t.size
      · have hl' : (64 : Int) < (s.size : Int) + (t.size : Int) := by omega
        have HQ := hide (show q = ((0, 0, ⟨#[]⟩), 10) by rw [HX.out, if_neg (by simp), if_pos hl])
        clear HX hl
        go_enter Tryd.func44, Tryd.ntmps44
        obtain ⟨a0, a1, a2, b0, b1, b2, r0, r1, r2, f0, f1, f2, hz⟩ := HAt.out _ (Below.refl _ _)
        go_wp2_with fail
        rw [← HWE.out]
        refine (HNa.out _).mono ?_
        rintro e w2 ⟨rfl, hb2⟩
        have HB2 := hide hb2
        clear a0 a1 a2 b0 b1 b2 r0 r1 r2 f0 f1 f2 hz
        obtain ⟨a0, a1, a2, b0, b1, b2, r0, r1, r2, f0, f1, f2, hz⟩ := HAt.out _ hb2
        clear hb2
        go_wp2_with fail
        refine (HNb.out _).mono ?_
        rintro e w4 ⟨rfl, hb3⟩
        have HB4 := hide (then_below HB2.out hb3)
        clear hb3
        clear a0 a1 a2 b0 b1 b2 r0 r1 r2 f0 f1 f2 hz
        obtain ⟨a0, a1, a2, b0, b1, b2, r0, r1, r2, f0, f1, f2, hz⟩ := HAt.out _ HB4.out
        go_wp2_with fail
        refine bodyPost_ret (v := .tuple #[vVal 0 0 ⟨#[]⟩, .int .i64 10]) (by simp [results, Tryd.results44, go_sem, r0, r1, r2]) rfl ⟨by rw [HQ.out], ?_⟩
        have hfin := HL.out.trans (HB4.out.mono HL.out.size)
        exact ((hfin.setCell (p := ⟨w.heap.size + 2, 0, none⟩) (by simp only; omega) _).setCell (p := ⟨w.heap.size + 2, 1, none⟩) (by simp only; omega) _).setCell (p := ⟨w.heap.size + 2, 2, none⟩) (by simp only; omega) _
      · have hl' : ¬ (64 : Int) < (s.size : Int) + (t.size : Int) := by omega
        have HQ := hide (show q = ((2, 0, s ++ t), 0) by rw [HX.out, if_neg (by simp), if_neg hl])
        clear HX hl
        go_enter Tryd.func44, Tryd.ntmps44
        obtain ⟨a0, a1, a2, b0, b1, b2, r0, r1, r2, f0, f1, f2, hz⟩ := HAt.out _ (Below.refl _ _)
        go_wp2_with fail
        rw [← HWE.out]
        refine (HNa.out _).mono ?_
        rintro e w2 ⟨rfl, hb2⟩
        have HB2 := hide hb2
        clear a0 a1 a2 b0 b1 b2 r0 r1 r2 f0 f1 f2 hz
        obtain ⟨a0, a1, a2, b0, b1, b2, r0, r1, r2, f0, f1, f2, hz⟩ := HAt.out _ hb2
        clear hb2
        go_wp2_with fail
        refine (HNb.out _).mono ?_
        rintro e w4 ⟨rfl, hb3⟩
        have HB4 := hide (then_below HB2.out hb3)
        clear hb3
        clear a0 a1 a2 b0 b1 b2 r0 r1 r2 f0 f1 f2 hz
        obtain ⟨a0, a1, a2, b0, b1, b2, r0, r1, r2, f0, f1, f2, hz⟩ := HAt.out _ HB4.out
        go_wp2_with fail
        refine (textV_any _ _).mono ?_
        rintro e w5 ⟨rfl, hb3⟩
        have HB5 := hide (then_below HB4.out hb3)
        clear hb3
        clear a0 a1 a2 b0 b1 b2 r0 r1 r2 f0 f1 f2 hz
        obtain ⟨a0, a1, a2, b0, b1, b2, r0, r1, r2, f0, f1, f2, hz⟩ := HAt.out _ HB5.out
        go_wp2_with fail
        refine bodyPost_ret (v := .tuple #[vVal 2 0 (s ++ t), .int .i64 0]) (by simp [results, Tryd.results44, go_sem, r0, r1, r2]) rfl ⟨by rw [HQ.out], ?_⟩
        have hfin := HL.out.trans (HB5.out.mono HL.out.size)
        exact ((hfin.setCell (p := ⟨w.heap.size + 2, 0, none⟩) (by simp only; omega) _).setCell (p := ⟨w.heap.size + 2, 1, none⟩) (by simp only; omega) _).setCell (p := ⟨w.heap.size + 2, 2, none⟩) (by simp only; omega) _
    · have HQ := hide (show q = ((0, 0, ⟨#[]⟩), 0) by rw [HX.out, if_pos (.inr rfl)])
      clear HX
      go_enter Tryd.func44, Tryd.ntmps44
      obtain ⟨a0, a1, a2, b0, b1, b2, r0, r1, r2, f0, f1, f2, hz⟩ := HAt.out _ (Below.refl _ _)
      go_wp2_with fail
      rw [← HWE.out]
      refine (HNa.out _).mono ?_
      rintro e w2 ⟨rfl, hb2⟩
      have HB2 := hide hb2
      clear a0 a1 a2 b0 b1 b2 r0 r1 r2 f0 f1 f2 hz
      obtain ⟨a0, a1, a2, b0, b1, b2, r0, r1, r2, f0, f1, f2, hz⟩ := HAt.out _ hb2
      clear hb2
      go_wp2_with fail
      refine (HNb.out _).mono ?_
      rintro e w4 ⟨rfl, hb3⟩
      have HB4 := hide (then_below HB2.out hb3)
      clear hb3
      clear a0 a1 a2 b0 b1 b2 r0 r1 r2 f0 f1 f2 hz
      obtain ⟨a0, a1, a2, b0, b1, b2, r0, r1, r2, f0, f1, f2, hz⟩ := HAt.out _ HB4.out
      go_wp2_with fail
      refine (null_any _).mono ?_
      rintro e w5 ⟨rfl, hb3⟩
      have HB5 := hide (then_below HB4.out hb3)
      clear hb3
      clear a0 a1 a2 b0 b1 b2 r0 r1 r2 f0 f1 f2 hz
      obtain ⟨a0, a1, a2, b0, b1, b2, r0, r1, r2, f0, f1, f2, hz⟩ := HAt.out _ HB5.out
      go_wp2_with fail
      refine bodyPost_ret (v := .tuple #[vVal 0 0 ⟨#[]⟩, .int .i64 0]) (by simp [results, Tryd.results44, go_sem, r0, r1, r2]) rfl ⟨by rw [HQ.out], ?_⟩
      have hfin := HL.out.trans (HB5.out.mono HL.out.size)
      exact ((hfin.setCell (p := ⟨w.heap.size + 2, 0, none⟩) (by simp only; omega) _).setCell (p := ⟨w.heap.size + 2, 1, none⟩) (by simp only; omega) _).setCell (p := ⟨w.heap.size + 2, 2, none⟩) (by simp only; omega) _
  · have HQ := hide (show q = ((0, 0, ⟨#[]⟩), 0) by rw [HX.out, if_pos (.inl rfl)])
    clear HX
    go_enter Tryd.func44, Tryd.ntmps44
    obtain ⟨a0, a1, a2, b0, b1, b2, r0, r1, r2, f0, f1, f2, hz⟩ := HAt.out _ (Below.refl _ _)
    go_wp2_with fail
    rw [← HWE.out]
    refine (HNa.out _).mono ?_
    rintro e w2 ⟨rfl, hb2⟩
    have HB2 := hide hb2
    clear a0 a1 a2 b0 b1 b2 r0 r1 r2 f0 f1 f2 hz
    obtain ⟨a0, a1, a2, b0, b1, b2, r0, r1, r2, f0, f1, f2, hz⟩ := HAt.out _ hb2
    clear hb2
    go_wp2_with fail
    refine (null_any _).mono ?_
    rintro e w4 ⟨rfl, hb3⟩
    have HB4 := hide (then_below HB2.out hb3)
    clear hb3
    clear a0 a1 a2 b0 b1 b2 r0 r1 r2 f0 f1 f2 hz
    obtain ⟨a0, a1, a2, b0, b1, b2, r0, r1, r2, f0, f1, f2, hz⟩ := HAt.out _ HB4.out
    go_wp2_with fail
    refine bodyPost_ret (v := .tuple #[vVal 0 0 ⟨#[]⟩, .int .i64 0]) (by simp [results, Tryd.results44, go_sem, r0, r1, r2]) rfl ⟨by rw [HQ.out], ?_⟩
    have hfin := HL.out.trans (HB4.out.mono HL.out.size)
    exact ((hfin.setCell (p := ⟨w.heap.size + 2, 0, none⟩) (by simp only; omega) _).setCell (p := ⟨w.heap.size + 2, 1, none⟩) (by simp only; omega) _).setCell (p := ⟨w.heap.size + 2, 2, none⟩) (by simp only; omega) _
end Go.Proofs.YtpohofcfmllghaaDoor
