/-
  CronMatches, walked.
-/
import Derived.Test.YtldbmkmicaihhaaDoorHAwake
import Derived.Test.YtldbmkmicaihhaaDoorHRight
import Derived.Test.YtldbmkmicaihhaaDoorHRefT
import Derived.Test.YtldbmkmicaihhaaDoorHMatchN
namespace Go.Proofs.YtldbmkmicaihhaaDoor
open Go.RowKit CM HM

set_option maxRecDepth 100000 in
set_option maxHeartbeats 4000000 in
theorem cronMatches_walk (c : Sp) (n : Int) (w : World) (hc : c.wf) (_ : -9223372036854775808 ≤ n) (_ : n ≤ 9223372036854775807) (hR : Rd w) : Calls Tryd.prog 5 #[vC c, .int .i64 n] w fun e w' => e = .returned (.bool true) ∧ Below w.heap.size w w' := by
  have HMt := hide (fun w hM hB => match_any c n w hc hM hB)
  have HRt := hide (fun w => right_any c w hc)
  have HRf := hide (fun w => ref_any c w hc)
  have HRm := hide (fun w h0 h1 => rmatch_any c n w h0 h1)
  have HAw := hide awake_any
  have HR := hide hR
  have HMB : Hid (∀ b, mchB c n = b → b = (validB c && (decide (0 ≤ n) && (decide (n < 2147483648) && matB c n)))) := hide (fun b h => by rw [← h]; rfl)
  have HB0 : Hid (Below w.heap.size w (boxC w c)) := hide ((Below.refl _ _).alloc (Nat.le_refl _) _)
  have HA0 := hide (AtC.box w c)
  clear hR hc
  go_enter Tryd.func5, Tryd.ntmps5
  go_wp2_with fail
  refine (HMt.out _ (HR.out.on HB0.out).1 (HR.out.on HB0.out).2.1).mono ?_
  rintro e w1 ⟨rfl, hb1⟩
  have HB1 := hide (HB0.out.trans (Below.mono hb1 HB0.out.size))
  have HA1 := hide (HA0.out.on hb1)
  clear hb1
  cases hm : mchB c n
  all_goals
    have HM0 := hide (HMB.out _ hm)
    clear hm
    obtain ⟨z9, d0, d1, d2, d3, d4, d5, d6, d7, d8, d9⟩ := HA1.out
    go_wp2_with fail
    refine (HRt.out _).mono ?_
    rintro e w2 ⟨rfl, hb2⟩
    have HB2 := hide (HB1.out.trans (Below.mono hb2 HB1.out.size))
    have HA2 := hide (HA1.out.on hb2)
    clear z9 d0 d1 d2 d3 d4 d5 d6 d7 d8 d9 hb2
    cases hv : validB c
    · rw [hv] at HM0
      clear hv
      first
      | (exfalso; have := HM0.out; simp at this; done)
      | (go_wp2_with fail
         refine (HAw.out _ (HR.out.on HB2.out)).mono ?_
         rintro e w3 ⟨rfl, hb3⟩
         have HB3 := hide (HB2.out.trans (Below.mono hb3 HB2.out.size))
         clear hb3
         go_wp2_with fail
         go_ret
         exact ⟨rfl, HB3.out⟩)
    · rw [hv] at HM0
      clear hv
      by_cases h0 : 0 ≤ n
      · by_cases h1 : n < 2147483648
        · rw [decide_eq_true h0, decide_eq_true h1, Bool.true_and, Bool.true_and, Bool.true_and] at HM0
          obtain ⟨z9, d0, d1, d2, d3, d4, d5, d6, d7, d8, d9⟩ := HA2.out
          go_wp2_with fail
          refine (HRf.out _).mono ?_
          rintro e w3 ⟨rfl, hb3⟩
          have HB3 := hide (HB2.out.trans (Below.mono hb3 HB2.out.size))
          clear z9 d0 d1 d2 d3 d4 d5 d6 d7 d8 d9 hb3
          go_wp2_with fail
          refine (HRm.out _ h0 h1).mono ?_
          rintro e w4 ⟨rfl, hb4⟩
          rw [← HM0.out]
          have HB4 := hide (HB3.out.trans (Below.mono hb4 HB3.out.size))
          clear hb4
          go_wp2_with fail
          refine (HAw.out _ (HR.out.on HB4.out)).mono ?_
          rintro e w5 ⟨rfl, hb5⟩
          have HB5 := hide (HB4.out.trans (Below.mono hb5 HB4.out.size))
          clear hb5
          go_wp2_with fail
          go_ret
          exact ⟨rfl, HB5.out⟩
        · rw [decide_eq_false h1, Bool.false_and, Bool.and_false, Bool.and_false] at HM0
          first
          | (exfalso; have := HM0.out; simp at this; done)
          | (go_wp2_with fail
             refine (HAw.out _ (HR.out.on HB2.out)).mono ?_
             rintro e w3 ⟨rfl, hb3⟩
             have HB3 := hide (HB2.out.trans (Below.mono hb3 HB2.out.size))
             clear hb3
             go_wp2_with fail
             go_ret
             exact ⟨rfl, HB3.out⟩)
      · rw [decide_eq_false h0, Bool.false_and, Bool.and_false] at HM0
        first
        | (exfalso; have := HM0.out; simp at this; done)
        | (go_wp2_with fail
           refine (HAw.out _ (HR.out.on HB2.out)).mono ?_
           rintro e w3 ⟨rfl, hb3⟩
           have HB3 := hide (HB2.out.trans (Below.mono hb3 HB2.out.size))
           clear hb3
           go_wp2_with fail
           go_ret
           exact ⟨rfl, HB3.out⟩)
end Go.Proofs.YtldbmkmicaihhaaDoor
