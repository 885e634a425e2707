/-
  length and cat, and which argument comes next.
-/
import Derived.Test.YtpohofcfmllghaaDoorEVal
import Derived.Test.YtpohofcfmllghaaDoorERule
namespace Go.Proofs.YtpohofcfmllghaaDoor
open Go.RowKit

/-- What len tells of a value. -/
def lenV (v : Int × Int × ByteArray) : Int × Int × ByteArray := if nullV v = true then v else (1, (v.2.2.size : Int), ⟨#[]⟩)
/-- What cat tells of two values, and the error. -/
def catV (a b : Int × Int × ByteArray) : (Int × Int × ByteArray) × Int :=
  if nullV a = true ∨ nullV b = true then ((0, 0, ⟨#[]⟩), 0) else if 64 < a.2.2.size + b.2.2.size then ((0, 0, ⟨#[]⟩), 10) else ((2, 0, a.2.2 ++ b.2.2), 0)
abbrev vOf (v : Int × Int × ByteArray) : Value := vVal v.1 v.2.1 v.2.2

set_option maxHeartbeats 1600000 in
set_option maxRecDepth 100000 in
theorem length_any (v : Int × Int × ByteArray) (w : World) (hs : v.2.2.size ≤ maxLen) : Calls Tryd.prog 42 #[vOf v] w fun e w' => e = .returned (vOf (lenV v)) ∧ Below w.heap.size w w' := by
  obtain ⟨k, n, s⟩ := v
  simp only at hs
  unfold maxLen at hs
  have HN := hide (fun w' => isNull_any k n s w')
  have HX := hide (show lenV (k, n, s) = if nullV (k, n, s) = true then (k, n, s) else (1, (s.size : Int), ⟨#[]⟩) from rfl)
  generalize lenV (k, n, s) = q at HX ⊢
  generalize nullV (k, n, s) = b at *
  cases b
  · have HQ := hide (show q = (1, (s.size : Int), ⟨#[]⟩) from HX.out)
    clear HX
    go_enter Tryd.func42, Tryd.ntmps42
    go_wp2_with fail
    refine (HN.out _).mono ?_
    rintro e w2 ⟨rfl, hb⟩
    obtain ⟨hc, hf⟩ := bcell hb
    have hb0 : Below w.heap.size w w2 := (Joins.below_alloc2 w _ _).trans (hb.mono (by simp <;> omega))
    have hz : w.heap.size + 1 < w2.heap.size := by have := hb.size; simp at this; omega
    have c2 := hc w.heap.size 2 (by simp <;> omega); have r0 := hc (w.heap.size + 1) 0 (by simp <;> omega); have r1 := hc (w.heap.size + 1) 1 (by simp <;> omega); have r2 := hc (w.heap.size + 1) 2 (by simp <;> omega)
    have f0 := hf (w.heap.size + 1) 0 (by simp <;> omega); have f1 := hf (w.heap.size + 1) 1 (by simp <;> omega); have f2 := hf (w.heap.size + 1) 2 (by simp <;> omega)
    simp at c2 r0 r1 r2 f0 f1 f2
    clear hb hc hf
    go_wp2_with fail
    refine (of_any _ _).mono ?_
    rintro e w3 ⟨rfl, hb3⟩
    obtain ⟨hc, hf⟩ := bcell hb3
    have hb1 : Below w.heap.size w w3 := hb0.trans (hb3.mono hb0.size)
    have hz3 : w.heap.size + 1 < w3.heap.size := by have := hb3.size; omega
    have r0' := (hc (w.heap.size + 1) 0 hz).trans r0; have r1' := (hc (w.heap.size + 1) 1 hz).trans r1; have r2' := (hc (w.heap.size + 1) 2 hz).trans r2
    have f0' := (hf (w.heap.size + 1) 0 hz).trans f0; have f1' := (hf (w.heap.size + 1) 1 hz).trans f1; have f2' := (hf (w.heap.size + 1) 2 hz).trans f2
    clear hb3 hc hf c2 r0 r1 r2 f0 f1 f2 hb0
    go_wp2_with fail
    refine bodyPost_ret (v := vVal 1 (s.size : Int) ⟨#[]⟩) (by simp [results, Tryd.results42, go_sem, r0', r1', r2']) rfl ⟨by rw [HQ.out], ?_⟩
    exact ((hb1.setCell (p := ⟨w.heap.size + 1, 0, none⟩) (by simp only; omega) _).setCell (p := ⟨w.heap.size + 1, 1, none⟩) (by simp only; omega) _).setCell (p := ⟨w.heap.size + 1, 2, none⟩) (by simp only; omega) _
  · have HQ := hide (show q = (k, n, s) from HX.out)
    clear HX
    go_enter Tryd.func42, Tryd.ntmps42
    go_wp2_with fail
    refine (HN.out _).mono ?_
    rintro e w2 ⟨rfl, hb⟩
    obtain ⟨hc, hf⟩ := bcell hb
    have hb0 : Below w.heap.size w w2 := (Joins.below_alloc2 w _ _).trans (hb.mono (by simp <;> omega))
    have hz : w.heap.size + 1 < w2.heap.size := by have := hb.size; simp at this; omega
    have c0 := hc w.heap.size 0 (by simp <;> omega); have c1 := hc w.heap.size 1 (by simp <;> omega); have c2 := hc w.heap.size 2 (by simp <;> omega)
    have r0 := hc (w.heap.size + 1) 0 (by simp <;> omega); have r1 := hc (w.heap.size + 1) 1 (by simp <;> omega); have r2 := hc (w.heap.size + 1) 2 (by simp <;> omega)
    have f0 := hf (w.heap.size + 1) 0 (by simp <;> omega); have f1 := hf (w.heap.size + 1) 1 (by simp <;> omega); have f2 := hf (w.heap.size + 1) 2 (by simp <;> omega)
    simp at c0 c1 c2 r0 r1 r2 f0 f1 f2
    clear hb hc hf
    go_wp2_with fail
    refine bodyPost_ret (v := vVal k n s) (by simp [results, Tryd.results42, go_sem, r0, r1, r2]) rfl ⟨by rw [HQ.out], ?_⟩
    exact ((hb0.setCell (p := ⟨w.heap.size + 1, 0, none⟩) (by simp only; omega) _).setCell (p := ⟨w.heap.size + 1, 1, none⟩) (by simp only; omega) _).setCell (p := ⟨w.heap.size + 1, 2, none⟩) (by simp only; omega) _
end Go.Proofs.YtpohofcfmllghaaDoor
