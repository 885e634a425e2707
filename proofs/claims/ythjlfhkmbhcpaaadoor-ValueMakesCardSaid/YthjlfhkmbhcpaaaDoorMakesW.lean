/-
  The walk of ValueMakes.
-/
import Derived.Test.YthjlfhkmbhcpaaaDoorOps
namespace Go.Proofs.YthjlfhkmbhcpaaaDoor.valueMakes
open Go.RowKit

set_option maxHeartbeats 1000000 in
theorem valueMakes_walk (n : Int) (s : ByteArray) (w : World) (_ : I64 n) (hs : s.size ≤ maxLen) (ht : Tab w) :
    Calls Tryd.prog 6 #[.int .i64 n, .string s] w fun e w' => e = .returned (.bool true) ∧ Below w.heap.size w w' := by
  have HS := Lib.hid hs; clear hs
  go_enter Tryd.func6, Tryd.ntmps6
  go_wp2_with fail
  refine (null_any _).mono ?_
  rintro e w1 ⟨rfl, hb1⟩
  go_wp2_with fail
  refine (of_any n _).mono ?_
  rintro e w2 ⟨rfl, hb2⟩
  have hb3 : Below w.heap.size w w2 := hb1.trans (hb2.mono hb1.size)
  clear hb1 hb2
  go_wp2_with fail
  refine (text_any s _).mono ?_
  rintro e w4 ⟨rfl, hb4⟩
  have hb5 : Below w.heap.size w w4 := hb3.trans (hb4.mono hb3.size)
  clear hb3 hb4
  go_wp2_with fail
  refine (of_any n _).mono ?_
  rintro e w6 ⟨rfl, hb6⟩
  have hb7 : Below w.heap.size w w6 := hb5.trans (hb6.mono hb5.size)
  clear hb5 hb6
  go_wp2_with fail
  refine (right_any 1 n ⟨#[]⟩ _ (by decide)).mono ?_
  rintro e w8 ⟨rfl, hb8⟩
  have hb9 : Below w.heap.size w w8 := hb7.trans (hb8.mono hb7.size)
  clear hb7 hb8
  rw [rightV_int]
  go_wp2_with fail
  refine (awake_any _ (ht.stays hb9 (Nat.le_refl _))).mono ?_
  rintro e wa ⟨rfl, hba⟩
  have hbb : Below w.heap.size w wa := hb9.trans (hba.mono hb9.size)
  clear hb9 hba
  go_wp2_with fail
  go_ret
  exact ⟨rfl, hbb⟩
end Go.Proofs.YthjlfhkmbhcpaaaDoor.valueMakes
