/-
  Of where there is no minute; Month and MonthStart.
-/
import Derived.Test.YtldbmkmicaihhaaDoorCOf
import Derived.Lib.QuietBelow
namespace Go.Proofs.YtldbmkmicaihhaaDoor
open Go.RowKit CM

theorem of_no (n : Int) (w : World) (h : n < 0 ∨ 2147483648 ≤ n) : Calls Tryd.prog 32 #[.int .i64 n] w fun e w' => e = .returned (.tuple #[vD 0 0 0 0 0 0, .int .i64 30]) ∧ Below w.heap.size w w' := by
  have H := hide (fun w => isM_no n w h)
  clear h
  go_enter Tryd.func32, Tryd.ntmps32
  go_wp2_with (go_at_call 49; refine (H.out _).mono ?_; rintro e w' ⟨rfl, rfl⟩)
  go_returns
  exact ⟨rfl, by go_grown⟩
end Go.Proofs.YtldbmkmicaihhaaDoor
