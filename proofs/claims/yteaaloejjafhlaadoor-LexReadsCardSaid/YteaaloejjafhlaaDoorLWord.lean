/-
  skip, literalEnd, and the tests of bytes.
-/
import Derived.Test.YteaaloejjafhlaaDoorLRun
import Derived.Test.YteaaloejjafhlaaDoorLTok
namespace Go.Proofs.YteaaloejjafhlaaDoor
open Go.RowKit Go.Sort LM

theorem ef_sk : ∀ args w, (callFunc 26 args).run Tryd.prog w = .ok (.enter 26 args) w := enters_of Tryd.func26 (by kernel_rfl) rfl
theorem ef_qt : ∀ args w, (callFunc 54 args).run Tryd.prog w = .ok (.enter 54 args) w := enters_of Tryd.func54 (by kernel_rfl) rfl
theorem ef_wo : ∀ args w, (callFunc 40 args).run Tryd.prog w = .ok (.enter 40 args) w := enters_of Tryd.func40 (by kernel_rfl) rfl
theorem ef_di : ∀ args w, (callFunc 29 args).run Tryd.prog w = .ok (.enter 29 args) w := enters_of Tryd.func29 (by kernel_rfl) rfl

set_option maxHeartbeats 2000000 in
theorem skip_any (s : ByteArray) (at' : Nat) (w : World) (hs : s.size ≤ 140737488355328) (ha : at' ≤ s.size) :
    Calls Tryd.prog 14 #[.string s, .int .i64 at'] w fun e w' => e = .returned (.int .i64 ((at' + gap (rest s at') : Nat) : Int)) ∧ Below w.heap.size w w' := by
  have HR := hide (run_any 26 #[.pointer (some ⟨w.heap.size, 0, none⟩)] s at' skF false (BitAt w w.heap.size) (w.alloc (.cells #[.bool false] 4)) ef_sk hs ha (BitAt.new w false _)
    (fun b c w' h => skClos_any w.heap.size b c w w' (Nat.le_refl _) h))
  clear hs ha
  generalize at' + preS skF false (rest s at') = T at *
  go_enter Tryd.func14, Tryd.ntmps14
  go_wp2_with fail
  refine HR.out.mono ?_
  rintro e w1 ⟨rfl, v, hb⟩
  have HB := hide hb
  clear hb
  go_wp2_with fail
  go_ret
  exact ⟨rfl, HB.out.2.2⟩
/-- Where a text between quotes ends. -/
abbrev endL (s : ByteArray) (at' : Nat) : Nat := min (at' + 1 + preS qtF false (rest s (at' + 1)) + 1) s.size
set_option maxHeartbeats 2000000 in
theorem litEnd_any (s : ByteArray) (at' : Nat) (w : World) (hs : s.size ≤ 140737488355328) (ha : at' < s.size) :
    Calls Tryd.prog 43 #[.string s, .int .i64 at'] w fun e w' => e = .returned (.int .i64 (endL s at' : Int)) ∧ Below w.heap.size w w' := by
  have HR := hide (run_any 54 #[.pointer (some ⟨w.heap.size, 0, none⟩)] s (at' + 1) qtF false (BitAt w w.heap.size) (w.alloc (.cells #[.bool false] 4)) ef_qt hs ha (BitAt.new w false _)
    (fun b c w' h => qtClos_any w.heap.size b c w w' (Nat.le_refl _) h))
  have hl := preS_le qtF false (rest s (at' + 1))
  rw [rest_len] at hl
  unfold endL
  rw [show ((at' + 1 + preS qtF false (rest s (at' + 1)) : Nat) : Int) = (at' : Int) + 1 + (preS qtF false (rest s (at' + 1)) : Nat) by omega, show ((at' + 1 : Nat) : Int) = (at' : Int) + 1 by omega] at HR
  generalize preS qtF false (rest s (at' + 1)) = T at *
  have HM : Hid ((min (at' + 1 + T + 1) s.size : Nat) = ((min ((at' : Int) + 1 + (T : Int) + 1) (s.size : Int) : Int))) := hide (by omega)
  rw [HM.out]
  go_enter Tryd.func43, Tryd.ntmps43
  go_wp2_with fail
  refine HR.out.mono ?_
  rintro e w1 ⟨rfl, v, hb⟩
  have HB := hide hb
  clear hb HM
  go_wp2_with fail
  go_ret
  exact ⟨rfl, HB.out.2.2⟩
theorem letter_any (c : UInt8) (w : World) : Calls Tryd.prog 27 #[.int .u8 (c.toNat : Nat)] w fun e w' => e = .returned (.bool (lowP c)) ∧ w = w' := by
  have HL : Hid (lowP c = (decide ((97 : Int) ≤ (c.toNat : Int)) && decide ((c.toNat : Int) ≤ 122))) := hide (by
    unfold lowP
    rw [show decide (97 ≤ c.toNat) = decide ((97 : Int) ≤ (c.toNat : Int)) from decide_eq_decide.2 (by omega), show decide (c.toNat ≤ 122) = decide ((c.toNat : Int) ≤ 122) from decide_eq_decide.2 (by omega)])
  cases h1 : decide ((97 : Int) ≤ (c.toNat : Int)) <;> cases h2 : decide ((c.toNat : Int) ≤ 122)
  all_goals
    go_enter Tryd.func27, Tryd.ntmps27
    go_wp2
    go_ret
    exact ⟨ret_bool (by rw [HL.out, h1, h2]; rfl), rfl⟩
theorem digit_any (c : UInt8) (w : World) : Calls Tryd.prog 29 #[.int .u8 (c.toNat : Nat)] w fun e w' => e = .returned (.bool (digP c)) ∧ w = w' := by
  have HL : Hid (digP c = (decide ((48 : Int) ≤ (c.toNat : Int)) && decide ((c.toNat : Int) ≤ 57))) := hide (by
    unfold digP
    rw [show decide (48 ≤ c.toNat) = decide ((48 : Int) ≤ (c.toNat : Int)) from decide_eq_decide.2 (by omega), show decide (c.toNat ≤ 57) = decide ((c.toNat : Int) ≤ 57) from decide_eq_decide.2 (by omega)])
  cases h1 : decide ((48 : Int) ≤ (c.toNat : Int)) <;> cases h2 : decide ((c.toNat : Int) ≤ 57)
  all_goals
    go_enter Tryd.func29, Tryd.ntmps29
    go_wp2
    go_ret
    exact ⟨ret_bool (by rw [HL.out, h1, h2]; rfl), rfl⟩
set_option maxHeartbeats 2000000 in
theorem woClos_any (c : UInt8) (w : World) : Calls Tryd.prog 40 #[.int .u8 (c.toNat : Nat)] w fun e w' => e = .returned (.bool (worP c)) ∧ w = w' := by
  have HL := hide (letter_any c)
  have HD := hide (digit_any c)
  have HW : Hid (worP c = (lowP c || digP c || c == 95)) := hide rfl
  by_cases h95 : c = 95
  · have t1 : ((c.toNat : Int) == 95) = true := byte_is c 95 (by decide) h95
    have h95' : (c == 95) = true := by simpa using h95
    rw [h95'] at HW
    clear h95 h95'
    generalize worP c = W at *
    cases h1 : lowP c <;> cases h2 : digP c
    all_goals
      rw [h1] at HL; rw [h2] at HD
      go_enter Tryd.func40, Tryd.ntmps40
      go_wp2_with (first | (go_at_call 27; refine (HL.out _).mono ?_; rintro e w1 ⟨rfl, rfl⟩) | (go_at_call 29; refine (HD.out _).mono ?_; rintro e w1 ⟨rfl, rfl⟩))
      go_ret
      exact ⟨ret_bool (by rw [HW.out, h1, h2]; rfl), rfl⟩
  · have t1 : ((c.toNat : Int) == 95) = false := byte_not c 95 (by decide) h95
    have h95' : (c == 95) = false := by simpa using h95
    rw [h95'] at HW
    clear h95 h95'
    generalize worP c = W at *
    cases h1 : lowP c <;> cases h2 : digP c
    all_goals
      rw [h1] at HL; rw [h2] at HD
      go_enter Tryd.func40, Tryd.ntmps40
      go_wp2_with (first | (go_at_call 27; refine (HL.out _).mono ?_; rintro e w1 ⟨rfl, rfl⟩) | (go_at_call 29; refine (HD.out _).mono ?_; rintro e w1 ⟨rfl, rfl⟩))
      go_ret
      exact ⟨ret_bool (by rw [HW.out, h1, h2]; rfl), rfl⟩
theorem runPlain_any (g : FuncId) (p : UInt8 → Bool) (s : ByteArray) (at' : Nat) (w : World) (eg : ∀ args w, (callFunc g args).run Tryd.prog w = .ok (.enter g args) w) (hs : s.size ≤ 140737488355328) (ha : at' ≤ s.size)
    (hf : ∀ (c : UInt8) (w' : World), Calls Tryd.prog g #[.int .u8 (c.toNat : Nat)] w' fun e w2 => e = .returned (.bool (p c)) ∧ w' = w2) :
    Calls Tryd.prog 25 #[.string s, .int .i64 at', .func (.func g) #[] #[]] w fun e w' => e = .returned (.int .i64 ((at' + pre p (rest s at') : Nat) : Int)) ∧ w = w' := by
  refine (run_any g #[] s at' (plain p) false (fun _ w' => w = w') w eg hs ha rfl (fun b c w' h => (hf c w').mono ?_)).mono ?_
  · rintro e w2 ⟨rfl, rfl⟩
    exact ⟨rfl, h⟩
  · rintro e w2 ⟨rfl, _, h⟩
    exact ⟨by rw [pre_plain], h⟩
theorem wordRun_any (s : ByteArray) (at' : Nat) (w : World) (hs : s.size ≤ 140737488355328) (ha : at' ≤ s.size) :
    Calls Tryd.prog 25 #[.string s, .int .i64 at', .func (.func 40) #[] #[]] w fun e w' => e = .returned (.int .i64 ((at' + pre worP (rest s at') : Nat) : Int)) ∧ w = w' :=
  runPlain_any _ worP s at' w ef_wo hs ha woClos_any
theorem digRun_any (s : ByteArray) (at' : Nat) (w : World) (hs : s.size ≤ 140737488355328) (ha : at' ≤ s.size) :
    Calls Tryd.prog 25 #[.string s, .int .i64 at', .func (.func 29) #[] #[]] w fun e w' => e = .returned (.int .i64 ((at' + pre digP (rest s at') : Nat) : Int)) ∧ w = w' :=
  runPlain_any _ digP s at' w ef_di hs ha digit_any
end Go.Proofs.YteaaloejjafhlaaDoor
