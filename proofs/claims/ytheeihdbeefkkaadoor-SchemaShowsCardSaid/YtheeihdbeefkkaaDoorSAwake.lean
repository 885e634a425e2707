/-
  The laws' fixed answer: the text of a schema is read, and one column picked.
-/
import Derived.Test.YtheeihdbeefkkaaDoorSParseW
import Derived.Test.YtheeihdbeefkkaaDoorSPick
import Derived.KernelRfl
namespace Go.Proofs.YtheeihdbeefkkaaDoor
open Go.RowKit

def awakeT : ByteArray := ⟨#[40, 105, 100, 32, 105, 110, 116, 44, 32, 110, 97, 109, 101, 32, 116, 101, 120, 116, 41]⟩
def awakeC : List (ByteArray × Int) := [(⟨#[105, 100]⟩, 1), (⟨#[110, 97, 109, 101]⟩, 2)]
theorem awake_parsed : parsedC awakeT = some awakeC := by kernel_rfl
theorem awake_pickE : pickE awakeC [⟨#[110, 97, 109, 101]⟩] = 0 := by kernel_rfl
theorem awake_pickL : pickL awakeC [⟨#[110, 97, 109, 101]⟩] = [(⟨#[110, 97, 109, 101]⟩, 2)] := by kernel_rfl
theorem awake_pickI : pickI awakeC [⟨#[110, 97, 109, 101]⟩] = [1] := by kernel_rfl
theorem awake_wf : Wf awakeC := by
  refine ⟨by decide, fun c hc => ?_⟩
  simp [awakeC] at hc
  rcases hc with rfl | rfl <;> refine ⟨by decide, by decide, by decide⟩

theorem awake_parse (w : World) (hm : Mx w) : Calls Tryd.prog 25 #[.string ⟨#[40, 105, 100, 32, 105, 110, 116, 44, 32, 110, 97, 109, 101, 32, 116, 101, 120, 116, 41]⟩] w fun e w' =>
    (∃ A cap, e = .returned (.tuple #[.slice A 2 cap, .int .i64 0]) ∧ ColsAt w'.heap.size w' A awakeC) ∧ Below w.heap.size w w' := by
  refine (parse_any awakeT w (by decide) hm).mono fun e w' ⟨he, hb⟩ => ⟨?_, hb⟩
  rw [awake_parsed] at he
  exact he
theorem awake_pick (A B : Option Addr) (cap cap' : Nat) (w : World) (hC : ColsAt w.heap.size w A awakeC) (hS : StrsAt w.heap.size w B [⟨#[110, 97, 109, 101]⟩]) :
    Calls Tryd.prog 28 #[.slice A 2 cap, .slice B 1 cap'] w fun e w' =>
      (∃ A' c B' c', e = .returned (.tuple #[.slice A' 1 c, .slice B' 1 c', .int .i64 0]) ∧ ColsAt w'.heap.size w' A' [(⟨#[110, 97, 109, 101]⟩, 2)] ∧ IntsAt w'.heap.size w' B' [1]) ∧ Below w.heap.size w w' := by
  refine (pick_any A B cap cap' awakeC [⟨#[110, 97, 109, 101]⟩] w hC hS awake_wf (by decide) (by decide)).mono fun e w' ⟨he, hb⟩ => ⟨?_, hb⟩
  rw [if_pos awake_pickE, awake_pickL, awake_pickI] at he
  exact he

set_option maxHeartbeats 1600000 in
set_option maxRecDepth 100000 in
theorem awake_any (w : World) (hm : Mx w) : Calls Tryd.prog 11 #[] w fun e w' => e = .returned (.bool true) ∧ Below w.heap.size w w' := by
  have HM := hide hm; clear hm
  go_enter Tryd.func11, Tryd.ntmps11
  go_wp2_with fail
  refine (awake_parse _ HM.out).mono ?_
  rintro e w1 ⟨⟨A, cap, rfl, hA⟩, hb1⟩
  have HA := hide hA; clear hA
  go_wp2_with fail
  have hs1 := hb1.size
  have ha := HA.out.below (Joins.below_alloc1 w1 (.cells #[.string ⟨#[110, 97, 109, 101]⟩] 9))
  refine (awake_pick _ _ _ _ _ (ha.mono (by simp)) ?_).mono ?_
  · intro j hj
    obtain rfl : j = 0 := by simp at hj; omega
    exact ⟨w1.heap.size, 0, rfl, by simp, by simp⟩
  rintro e w2 ⟨⟨A2, c, B2, c', rfl, hA2, hI2⟩, hb2⟩
  obtain ⟨b, off, rfl, hb, -, c1⟩ := hA2 0 (by simp)
  obtain ⟨b', off', rfl, hb', d0⟩ := hI2 0 (by simp)
  simp at c1 d0
  have hq : Below w.heap.size w w2 := (hb1.alloc hs1 _).trans (hb2.mono (by simp; omega))
  clear hb1 hb2 hA2 hI2 ha
  go_wp2
  go_ret
  exact ⟨rfl, hq⟩
end Go.Proofs.YtheeihdbeefkkaaDoor
