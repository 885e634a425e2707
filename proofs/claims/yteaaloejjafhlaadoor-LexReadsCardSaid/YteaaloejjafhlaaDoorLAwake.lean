/-
  awake: the fixed answer.
-/
import Derived.Test.YteaaloejjafhlaaDoorLShow
namespace Go.Proofs.YteaaloejjafhlaaDoor
open Go.RowKit Go.Sort LM

theorem awake_lex : lexA [97, 60, 61, 49, 48, 35, 120] = ([⟨1, [97], 0, 0⟩, ⟨4, [60, 61], 0, 1⟩, ⟨2, [], 10, 3⟩], 7, 0) := by rfl
set_option maxHeartbeats 4000000 in
theorem awake_any (w : World) (hL : Lw w) : Calls Tryd.prog 8 #[] w fun e w' => e = .returned (.bool true) ∧ Below w.heap.size w w' := by
  have HX := hide (lex_any ⟨#[97, 60, 61, 49, 48, 35, 120]⟩ w hL (by decide))
  rw [show (⟨#[97, 60, 61, 49, 48, 35, 120]⟩ : ByteArray).data.toList = [97, 60, 61, 49, 48, 35, 120] from rfl, awake_lex] at HX
  clear hL
  go_enter Tryd.func8, Tryd.ntmps8
  go_wp2_with fail
  refine HX.out.mono ?_
  rintro e w1 ⟨⟨A, c, rfl, hA⟩, hb⟩
  obtain ⟨b, off, rfl, hlt, -, c1, -, -⟩ := hA 1 (by decide)
  obtain ⟨b', off', e', -, -, -, d2, d3⟩ := hA 2 (by decide)
  injection e' with e'
  injection e' with e1 e2
  subst e1; subst e2
  have HB := hide hb
  simp only [List.getElem_cons_succ, List.getElem_cons_zero, Nat.reduceMul, List.length_cons, List.length_nil] at c1 d2 d3 ⊢
  clear hA hb HX
  go_wp2_with fail
  go_ret
  exact ⟨rfl, HB.out⟩
end Go.Proofs.YteaaloejjafhlaaDoor
