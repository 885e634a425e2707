/-
  The reference's date of a minute.
-/
import Derived.Test.YtggaflihblhapaaDoorCMonth
namespace Go.Proofs.YtggaflihblhapaaDoor
open Go.RowKit CM

theorem Y_next {n y : Int} (h0 : 2000 ≤ y) (h1 : ys y ≤ n / 1440) (h2 : n / 1440 - ys y < 365 + lp y) : Y n = y :=
  yF_eq h0 h1 (by rw [ys_succ y h0]; omega)
theorem Y_ge {n z : Int} (h0 : 0 ≤ n) (h1 : n < 2147483648) (h : ys z ≤ n / 1440) : z ≤ 6083 := by
  have a := Y_lo h0
  have b := Y_hi h0 h1
  obtain ⟨_, _, c⟩ := yF_spec (n / 1440) (by omega)
  by_cases h' : Y n < z
  · have := ys_mono (Y n + 1) z (by omega) (by omega)
    unfold Y at *
    omega
  · omega
end Go.Proofs.YtggaflihblhapaaDoor
