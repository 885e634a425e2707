/-
  Days that match; Match.
-/
import Derived.Test.YtggaflihblhapaaDoorHCheck
namespace Go.Proofs.YtggaflihblhapaaDoor
open Go.RowKit CM HM

theorem has_anyR (S : Nat) (n : Int) (w : World) (hS : S < 18446744073709551616) (h0 : 0 ≤ n) (h1 : n ≤ 63) : Calls Tryd.prog 51 #[.int .u64 (S : Nat), .int .i64 n] w fun e w' => e = .returned (.bool (S.testBit n.toNat)) ∧ w' = w :=
  (has_any S n w hS h0 h1).mono fun _ _ h => ⟨h.1, h.2.symm⟩
set_option maxHeartbeats 1000000 in
theorem md_any (c : Sp) (d wd : Int) (w : World) (hc : c.wf) (h0 : 0 ≤ d) (h1 : d ≤ 63) (h2 : 0 ≤ wd) (h3 : wd ≤ 63) : Calls Tryd.prog 61 #[vC c, .int .i64 d, .int .i64 wd] w fun e w' => e = .returned (.bool (mdB c d wd)) ∧ Below w.heap.size w w' := by
  have HE : Hid (mdB c d wd = if (c.A 2 || c.A 4) = true then (c.S 2).testBit d.toNat && (c.S 4).testBit wd.toNat else (c.S 2).testBit d.toNat || (c.S 4).testBit wd.toNat) := hide rfl
  have H2 := hide (fun w => has_anyR (c.S 2) d w (hc 2 (by omega)) h0 h1)
  have H4 := hide (fun w => has_anyR (c.S 4) wd w (hc 4 (by omega)) h2 h3)
  generalize (c.S 2).testBit d.toNat = b2 at *
  generalize (c.S 4).testBit wd.toNat = b4 at *
  generalize mdB c d wd = r at *
  cases hA2 : c.A 2
  · cases hA4 : c.A 4
    · rw [hA2, hA4] at HE
      cases b2
      all_goals
        go_enter Tryd.func61, Tryd.ntmps61
        go_wp2_with fail
        go_quiet ((go_at_call 51; first | (with_reducible exact Calls.quiet_of_same (H2.out _)) | (with_reducible exact Calls.quiet_of_same (H4.out _))))
        go_wp2_with fail
        go_ret
        exact ⟨ret_bool (by rw [HE.out]; simp), then_below ((Below.refl _ _).alloc (Nat.le_refl _) _) (Joins.below_draws _ _ _)⟩
    · rw [hA2, hA4] at HE
      cases b2
      all_goals
        go_enter Tryd.func61, Tryd.ntmps61
        go_wp2_with fail
        go_quiet ((go_at_call 51; first | (with_reducible exact Calls.quiet_of_same (H2.out _)) | (with_reducible exact Calls.quiet_of_same (H4.out _))))
        go_wp2_with fail
        go_ret
        exact ⟨ret_bool (by rw [HE.out]; simp), then_below ((Below.refl _ _).alloc (Nat.le_refl _) _) (Joins.below_draws _ _ _)⟩
  · rw [hA2] at HE
    cases b2
    all_goals
      go_enter Tryd.func61, Tryd.ntmps61
      go_wp2_with fail
      go_quiet ((go_at_call 51; first | (with_reducible exact Calls.quiet_of_same (H2.out _)) | (with_reducible exact Calls.quiet_of_same (H4.out _))))
      go_wp2_with fail
      go_ret
      exact ⟨ret_bool (by rw [HE.out]; simp), then_below ((Below.refl _ _).alloc (Nat.le_refl _) _) (Joins.below_draws _ _ _)⟩
end Go.Proofs.YtggaflihblhapaaDoor
