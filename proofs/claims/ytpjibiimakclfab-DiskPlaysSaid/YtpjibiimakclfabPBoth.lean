/-
  The quiet calls over both disks.
-/
import Derived.Test.YtpjibiimakclfabPStepE
namespace Go.Proofs.Ytpjibiimakclfab
open Go.RowKit

theorem Both.nums {base g gx : Nat} {n : Int} {w : World} {D : DS} {R : RS} (h : Both base g gx n w D R) : w.cell? ⟨gx, 8, none⟩ = some (.int .i64 D.p.cap) ∧ w.cell? ⟨gx, 10, none⟩ = some (.int .i64 D.p.done) ∧ w.cell? ⟨gx, 12, none⟩ = some (.bool D.p.down) := by
  obtain ⟨h8, _, h10, _, h12⟩ := h.two.x.nums
  rw [h.rel.cap] at h8
  rw [h.rel.done] at h10
  rw [h.rel.down] at h12
  exact ⟨h8, h10, h12⟩
theorem Both.le {base g gx : Nat} {n : Int} {w : World} {D : DS} {R : RS} (h : Both base g gx n w D R) : base ≤ w.heap.size := by have := h.two.d.hg; have := h.two.d.lt; omega
theorem done_b {base g gx : Nat} {n : Int} {w : World} {D : DS} {R : RS} (h : Both base g gx n w D R) : Calls Try.prog 8 #[vD g] w fun e w' => e = .returned (.int .i64 D.p.done) ∧ Both base g gx n w' D R ∧ Below base w w' :=
  (done_any w h.two.d).mono fun _ _ hh => ⟨hh.1, h.below hh.2, hh.2.mono h.le⟩
theorem down_b {base g gx : Nat} {n : Int} {w : World} {D : DS} {R : RS} (h : Both base g gx n w D R) : Calls Try.prog 9 #[vD g] w fun e w' => e = .returned (.bool D.p.down) ∧ Both base g gx n w' D R ∧ Below base w w' :=
  (down_any w h.two.d).mono fun _ _ hh => ⟨hh.1, h.below hh.2, hh.2.mono h.le⟩
theorem used_b {base g gx : Nat} {n : Int} {w : World} {D : DS} {R : RS} (h : Both base g gx n w D R) : Calls Try.prog 10 #[vD g] w fun e w' => e = .returned (.int .i64 (D.p.used : Nat)) ∧ Both base g gx n w' D R ∧ Below base w w' :=
  (used_any w h.two.d h.ok).mono fun _ _ hh => ⟨hh.1, h.below hh.2, hh.2.mono h.le⟩
theorem cap_b {base g gx : Nat} {n : Int} {w : World} {D : DS} {R : RS} (h : Both base g gx n w D R) : Calls Try.prog 12 #[vD g] w fun e w' => e = .returned (.int .i64 D.p.cap) ∧ Both base g gx n w' D R ∧ Below base w w' :=
  (capacity_any w h.two.d).mono fun _ _ hh => ⟨hh.1, h.below hh.2, hh.2.mono h.le⟩
theorem size_b {base g gx : Nat} {n : Int} {w : World} {D : DS} {R : RS} (m : Int) (h : Both base g gx n w D R) : Calls Try.prog 13 #[vD g, .int .i64 m] w fun e w' => e = .returned (.int .i64 (sizeD D.p m)) ∧ Both base g gx n w' D R ∧ Below base w w' :=
  (size_any m w h.two.d).mono fun _ _ hh => ⟨hh.1, h.below hh.2, hh.2.mono h.le⟩
theorem safe_b {base g gx : Nat} {n : Int} {w : World} {D : DS} {R : RS} (m : Int) (h : Both base g gx n w D R) : Calls Try.prog 14 #[vD g, .int .i64 m] w fun e w' => e = .returned (.int .i64 (safeD D.p m)) ∧ Both base g gx n w' D R ∧ Below base w w' :=
  (safe_any m w h.two.d).mono fun _ _ hh => ⟨hh.1, h.below hh.2, hh.2.mono h.le⟩
theorem rused_b {base g gx : Nat} {n : Int} {w : World} {D : DS} {R : RS} (h : Both base g gx n w D R) : Calls Try.prog 11 #[vD gx] w fun e w' => e = .returned (.int .i64 (D.p.used : Nat)) ∧ Both base g gx n w' D R ∧ Below base w w' :=
  (rused_any w h.two.x (by rw [h.rel.used]; exact h.ok.used)).mono fun _ _ hh => ⟨by rw [hh.1, h.rel.used], h.below hh.2, hh.2.mono h.le⟩
/-- Both disks are new. -/
theorem both_new {base g : Nat} {cap : Int} {w : World} (hD : DiskAt base g w (newD cap)) (hc : capB cap = true) : Both base g w.heap.size 0 (w.alloc (.cells (rCells ⟨rnewP cap, fun _ => .slice none 0 0⟩) 34)) (newD cap) ⟨rnewP cap, fun _ => .slice none 0 0⟩ := by
  have hb := Joins.below_alloc1 w (.cells (rCells ⟨rnewP cap, fun _ => .slice none 0 0⟩) 34)
  have h1 := hD.lt
  have hg := hD.hg
  refine ⟨⟨hD.below hb, ⟨by omega, heap_alloc_new w _, fun j _ => ?_, fun j _ b e => (by cases e), fun j k _ _ _ b e => (by cases e)⟩, by omega, fun i j _ _ b e => (by cases e), fun i _ e => (by cases e), fun j _ e => (by cases e)⟩, new_ok hc, Rel.new cap, Int.le_refl _⟩
  have : rowC (rnewP cap) j = [] := by unfold rowC; split <;> rfl
  show World.ownsRow _ base (rowT j) 1 (.slice none 0 0) (rowC (rnewP cap) j).length (rowC (rnewP cap) j)
  rw [this]
  exact World.ownsRow_nil _ _ _ _
end Go.Proofs.Ytpjibiimakclfab
