/-
  The walk of ValueParses.
-/
import Derived.Test.YthjlfhkmbhcpaaaDoorOps
import Derived.Test.YthjlfhkmbhcpaaaDoorParse
namespace Go.Proofs.YthjlfhkmbhcpaaaDoor.valueParses
open Go.RowKit

abbrev Done (s : ByteArray) (w : World) : Prop := Calls Tryd.prog 5 #[.string s] w fun e w' => e = .returned (.bool true) ∧ Below w.heap.size w w'

theorem long (s : ByteArray) (w : World) (ht : Tab w) (h : 300 < (s.size : Int)) : Done s w := by
  have HT := Lib.hid ht; clear ht
  go_enter Tryd.func5, Tryd.ntmps5
  go_wp2_with fail
  refine (awake_any _ (HT.out.stays (Below.refl w.heap.size w) (Nat.le_refl _))).mono ?_
  rintro e wa ⟨rfl, hba⟩
  have qa : Below w.heap.size w wa := (Below.refl w.heap.size w).trans (hba.mono (Below.refl w.heap.size w).size)
  clear hba
  go_wp2_with fail
  go_ret
  exact ⟨rfl, qa⟩

set_option maxRecDepth 100000 in
set_option maxHeartbeats 4000000 in
theorem short (s : ByteArray) (w : World) (ht : Tab w) (he : Errs w) (h : ¬ 300 < (s.size : Int)) : Done s w := by
  have HP := Lib.hid (parse_any s w (by omega) ht he)
  have HT := Lib.hid ht
  clear ht he
  go_enter Tryd.func5, Tryd.ntmps5
  go_wp2_with fail
  refine HP.out.mono ?_
  rintro e w1 ⟨(⟨k, n, t, hr, hk, hn, hsh, rfl⟩ | rfl), hb1⟩
  · have HR := Lib.hid hr
    have HRs : Hid (∀ w, Calls Tryd.prog 22 #[vVal k n t] w fun e w' => e = .returned (.string s) ∧ Below w.heap.size w w') := Lib.hid fun w => by
      have h := refShow_any k n t w hn hr
      rw [hsh, ← of_data (b := s) rfl] at h; exact h
    have HS := Lib.hid (show t.size ≤ maxLen by have := rightV_size hr; unfold maxLen; omega)
    clear hr hk hn hsh
    go_wp2_with fail
    refine (lawRight_any k n t _ HS.out).mono ?_
    rintro e w2 ⟨rfl, hb2⟩
    rw [HR.out]
    obtain ⟨hc2, hf2⟩ := bcell hb2
    have q2 : Below w.heap.size w w2 := (hb1.alloc hb1.size _).trans (hb2.mono (hb1.alloc hb1.size _).size)
    have z2 : w1.heap.size < w2.heap.size := by have := hb2.size; simp at this; omega
    clear hb2
    go_wp2_with fail
    refine (ref_any k n t _).mono ?_
    rintro e w3 ⟨rfl, hb3⟩
    have q3 : Below w.heap.size w w3 := q2.trans (hb3.mono q2.size)
    clear hb3
    go_wp2_with fail
    refine (HRs.out _).mono ?_
    rintro e w4 ⟨rfl, hb4⟩
    have q4 : Below w.heap.size w w4 := q3.trans (hb4.mono q3.size)
    clear hb4
    go_wp2_with fail
    refine (awake_any _ (HT.out.stays q4 (Nat.le_refl _))).mono ?_
    rintro e wa ⟨rfl, hba⟩
    have qa : Below w.heap.size w wa := q4.trans (hba.mono q4.size)
    clear hba
    go_wp2_with fail
    go_ret
    exact ⟨rfl, qa⟩

  · go_wp2_with fail
    refine (awake_any _ (HT.out.stays (hb1.alloc hb1.size _) (Nat.le_refl _))).mono ?_
    rintro e wa ⟨rfl, hba⟩
    have qa : Below w.heap.size w wa := (hb1.alloc hb1.size _).trans (hba.mono (hb1.alloc hb1.size _).size)
    clear hba
    go_wp2_with fail
    go_ret
    exact ⟨rfl, qa⟩

theorem valueParses_walk (s : ByteArray) (w : World) (_ : s.size ≤ maxLen) (ht : Tab w) (he : Errs w) : Done s w := by
  by_cases h : 300 < (s.size : Int)
  · exact long s w ht h
  · exact short s w ht he h
end Go.Proofs.YthjlfhkmbhcpaaaDoor.valueParses
