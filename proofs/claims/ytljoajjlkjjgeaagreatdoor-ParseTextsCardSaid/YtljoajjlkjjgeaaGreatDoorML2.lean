/-
  Words that the walks of the lexer share.
  run: how far a test passes; skip, literalEnd and the tests of words and numbers.
  skip, literalEnd, and the tests of bytes.
  readWord and readNumber.
-/
import Derived.Test.YtljoajjlkjjgeaaGreatDoorML1
import Derived.LoopTactic
import Derived.OwnWalk
import Derived.KernelRfl
import Derived.Lib.QuietBelow
import Derived.Shelf.Abstract
import Derived.Deep.LoopGhost
import Derived.Deep.RegionHeld
namespace Go.Proofs.YtljoajjlkjjgeaaGreatDoor
open Go.RowKit Go.Sort

theorem ret_str {a b : ByteArray} (h : a = b) : Ending.returned (.string a) = .returned (.string b) := by rw [h]
theorem lt_of_cell {w : World} {a o : Nat} {v : Value} (h0 : w.cell? ⟨a, o, none⟩ = some v) : a < w.heap.size := by
 rcases Nat.lt_or_ge a w.heap.size with h | h
 ·exact h
 ·exfalso
  have : w.heap[a]? = none := Array.getElem?_eq_none h
  simp [World.cell?, this] at h0
end Go.Proofs.YtljoajjlkjjgeaaGreatDoor
namespace Go.Proofs.YtljoajjlkjjgeaaGreatDoor
open Go.RowKit Go.Sort LM

/-- The bytes behind a place. -/
abbrev rest (s : ByteArray) (k : Nat) : List UInt8 := s.data.toList.drop k
theorem rest_at {s : ByteArray} {k : Nat} (h : k < s.size) : rest s k = s[k] :: rest s (k + 1) := drop_at h
theorem rest_end {s : ByteArray} {k : Nat} (h : s.size ≤ k) : rest s k = [] := List.drop_eq_nil_of_le (by simpa using h)
theorem rest_len (s : ByteArray) (k : Nat) : (rest s k).length = s.size - k := by unfold rest; rw [List.length_drop]; simp
theorem preS_yes {f : Bool → UInt8 → Bool × Bool} {b : Bool} {c : UInt8} {r : List UInt8} (h : (f b c).1 = true) : preS f b (c :: r) = preS f (f b c).2 r + 1 := by rw [preS, if_pos h]
theorem preS_no {f : Bool → UInt8 → Bool × Bool} {b : Bool} {c : UInt8} {r : List UInt8} (h : (f b c).1 = false) : preS f b (c :: r) = 0 := by rw [preS, if_neg (by rw [h]; simp)]

set_option maxHeartbeats 4000000 in
theorem run_any (g : FuncId) (cb : Array Value) (s : ByteArray) (at' : Nat) (f : Bool → UInt8 → Bool × Bool) (b0 : Bool) (St : Bool → World → Prop) (w : World) (eg : ∀ args w, (callFunc g args).run Tryz.prog w = .ok (.enter g args) w)
  (hs : s.size ≤ 140737488355328) (ha : at' ≤ s.size) (h0 : St b0 w)
  (hf : ∀ (b : Bool) (c : UInt8) (w' : World), St b w' → Calls Tryz.prog g (#[.int .u8 (c.toNat : Nat)] ++ cb) w' fun e w2 => e = .returned (.bool (f b c).1) ∧ St (f b c).2 w2) :
  Calls Tryz.prog 96 #[.string s, .int .i64 at', .func (.func g) #[] cb] w fun e w' => e = .returned (.int .i64 ((at' + preS f b0 (rest s at') : Nat) : Int)) ∧ ∃ b, St b w' := by
 have HF := hide hf
 clear hf
 obtain ⟨T, hT⟩ : ∃ T, T = at' + preS f b0 (rest s at') := ⟨_, rfl⟩
 rw [← hT]
 have HS := hide h0
 have HT := hide hT
 clear h0 hT
 go_enter Tryz.func96, Tryz.ntmps96
 go_wp2_with fail
 go_loopw [1] (fun i wr => ∃ (k : Nat) (b : Bool), i = .int .i64 k ∧ k ≤ s.size ∧ Hid (T = k + preS f b (rest s k)) ∧ Hid (St b wr)) (fun i _ => s.size - (intOf i).toNat)
 case atStart => exact ⟨at', b0, rfl, ha, HT, HS⟩
 case round =>
  obtain ⟨k, b, rfl, hk, HK, HB⟩ := hrel
  clear HT HS
  by_cases hlt : k < s.size
  ·have HC := hide (HF.out b s[k] wr HB.out)
   cases hp : (f b s[k]).1
   ·have HE : Hid (T = k) := hide (by have := HK.out; rw [rest_at hlt, preS_no hp] at this; exact this)
    rw [hp] at HC
    clear hp HK
    go_wp2_with (go_at_fn g; refine HC.out.mono ?_; rintro e w2 ⟨rfl, hb2⟩)
    have HB2 := hide hb2
    clear hb2
    go_wp2_with fail
    go_ret
    exact ⟨by rw [HE.out]; rfl, _, HB2.out⟩
   ·have HE : Hid (T = (k + 1) + preS f (f b s[k]).2 (rest s (k + 1))) := hide (by have := HK.out; rw [rest_at hlt, preS_yes hp] at this; omega)
    rw [hp] at HC
    clear hp HK
    generalize (f b s[k]).2 = b' at HC HE
    go_wp2_with (go_at_fn g; refine HC.out.mono ?_; rintro e w2 ⟨rfl, hb2⟩)
    have HB2 := hide hb2
    clear hb2
    go_wp2_with fail
    go_roundw
    case rel => exact ⟨k + 1, b', by go_num, by omega, HE, HB2⟩
    case measure => simp [intOf]; omega
  ·have HE : Hid (T = k) := hide (by have := HK.out; rw [rest_end (by omega)] at this; exact this)
   clear HK
   go_wp2_with fail
   go_ret
   exact ⟨by rw [HE.out]; rfl, b, HB.out⟩

/-- A box of one bit. -/
def BitAt (w : World) (b : Nat) (v : Bool) (w' : World) : Prop := w'.cell? ⟨b, 0, none⟩ = some (.bool v) ∧ w'.frozen? ⟨b, 0, none⟩ = false ∧ Below w.heap.size w w'
theorem BitAt.new (w : World) (v : Bool) (t : TypeId) : BitAt w w.heap.size v (w.alloc (.cells #[.bool v] t)) := ⟨by simp, by simp, (Below.refl _ _).alloc (Nat.le_refl _) _⟩
theorem BitAt.set {w w' : World} {b : Nat} {v : Bool} (h : BitAt w b v w') (hb : w.heap.size ≤ b) (u : Bool) : BitAt w b u (w'.setCell ⟨b, 0, none⟩ (.bool u)) :=
 ⟨World.cell?_setCell_same' _ _ _ (by rw [h.1]; rfl), by rw [World.frozen?_setCell]; exact h.2.1, h.2.2.setCell hb _⟩

theorem byte_is (c : UInt8) (n : Nat) (hn : n < 256) (h : c = UInt8.ofNat n) : ((c.toNat : Int) == (n : Int)) = true := by rw [byte_eq c n hn]; simpa using h
theorem byte_not (c : UInt8) (n : Nat) (hn : n < 256) (h : c ≠ UInt8.ofNat n) : ((c.toNat : Int) == (n : Int)) = false := by rw [byte_eq c n hn]; simpa using h
theorem byte_bne_no (c : UInt8) (n : Nat) (hn : n < 256) (h : c = UInt8.ofNat n) : ((c.toNat : Int) != (n : Int)) = false := by unfold bne; rw [byte_is c n hn h]; rfl
theorem byte_bne_yes (c : UInt8) (n : Nat) (hn : n < 256) (h : c ≠ UInt8.ofNat n) : ((c.toNat : Int) != (n : Int)) = true := by unfold bne; rw [byte_not c n hn h]; rfl
set_option maxHeartbeats 4000000 in
theorem skClos_any (b : Nat) (v : Bool) (c : UInt8) (w0 w : World) (hb : w0.heap.size ≤ b) (h : BitAt w0 b v w) :
  Calls Tryz.prog 97 #[.int .u8 (c.toNat : Nat), .pointer (some ⟨b, 0, none⟩)] w fun e w' => e = .returned (.bool (skF v c).1) ∧ BitAt w0 b (skF v c).2 w' := by
 have H := hide h
 have HS := hide (fun u => h.set hb u)
 obtain ⟨c0, f0, -⟩ := h
 have hlt : b < w.heap.size := lt_of_cell c0
 by_cases h35 : c = 35
 ·have q : skF v c = (true, true) := by subst h35; rfl
  rw [q]
  have t1 : ((c.toNat : Int) == 35) = true := byte_is c 35 (by decide) h35
  clear q h35
  go_enter Tryz.func97, Tryz.ntmps97
  go_wp2_with fail
  go_ret
  exact ⟨rfl, HS.out true⟩
 have t1 : ((c.toNat : Int) == 35) = false := byte_not c 35 (by decide) h35
 by_cases h10 : c = 10
 ·have q : skF v c = (true, false) := by subst h10; rfl
  rw [q]
  have t2 : ((c.toNat : Int) == 10) = true := byte_is c 10 (by decide) h10
  have t3 : ((c.toNat : Int) == 32) = false := byte_not c 32 (by decide) (by subst h10; decide)
  have t4 : ((c.toNat : Int) == 9) = false := byte_not c 9 (by decide) (by subst h10; decide)
  clear q h35 h10
  go_enter Tryz.func97, Tryz.ntmps97
  go_wp2_with fail
  go_ret
  exact ⟨rfl, HS.out false⟩
 have t2 : ((c.toNat : Int) == 10) = false := byte_not c 10 (by decide) h10
 have q : skF v c = (v || c == 32 || c == 9, v) := by unfold skF skB; rw [if_neg h35, if_neg h10]; simp [h10]
 rw [q]
 clear q
 cases v
 ·by_cases h32 : c = 32
  ·have t3 : ((c.toNat : Int) == 32) = true := byte_is c 32 (by decide) h32
   have e : (false || c == 32 || c == 9) = true := by subst h32; rfl
   rw [e]
   clear e h32 h35 h10
   go_enter Tryz.func97, Tryz.ntmps97
   go_wp2_with fail
   go_ret
   exact ⟨rfl, H.out⟩
  have t3 : ((c.toNat : Int) == 32) = false := byte_not c 32 (by decide) h32
  by_cases h9 : c = 9
  ·have t4 : ((c.toNat : Int) == 9) = true := byte_is c 9 (by decide) h9
   have e : (false || c == 32 || c == 9) = true := by subst h9; rfl
   rw [e]
   clear e h32 h35 h10 h9
   go_enter Tryz.func97, Tryz.ntmps97
   go_wp2_with fail
   go_ret
   exact ⟨rfl, H.out⟩
  have t4 : ((c.toNat : Int) == 9) = false := byte_not c 9 (by decide) h9
  have e : (false || c == 32 || c == 9) = false := by simp [h32, h9]
  rw [e]
  clear e h32 h35 h10 h9
  go_enter Tryz.func97, Tryz.ntmps97
  go_wp2_with fail
  go_ret
  exact ⟨rfl, H.out⟩
 ·rw [show (true || c == 32 || c == 9) = true from rfl]
  clear h35 h10
  go_enter Tryz.func97, Tryz.ntmps97
  go_wp2_with fail
  go_ret
  exact ⟨rfl, H.out⟩
set_option maxHeartbeats 4000000 in
theorem qtClos_any (b : Nat) (v : Bool) (c : UInt8) (w0 w : World) (hb : w0.heap.size ≤ b) (h : BitAt w0 b v w) :
  Calls Tryz.prog 136 #[.int .u8 (c.toNat : Nat), .pointer (some ⟨b, 0, none⟩)] w fun e w' => e = .returned (.bool (qtF v c).1) ∧ BitAt w0 b (qtF v c).2 w' := by
 have HS := hide (fun u => h.set hb u)
 obtain ⟨c0, f0, -⟩ := h
 have hlt : b < w.heap.size := lt_of_cell c0
 cases v
 ·by_cases h34 : c = 34
  ·have q : qtF false c = (false, false) := by subst h34; rfl
   rw [q]
   have t1 : ((c.toNat : Int) != 34) = false := byte_bne_no c 34 (by decide) h34
   have t2 : ((c.toNat : Int) == 92) = false := byte_not c 92 (by decide) (by subst h34; decide)
   clear q h34
   go_enter Tryz.func136, Tryz.ntmps136
   go_wp2_with fail
   go_ret
   exact ⟨rfl, HS.out false⟩
  have t1 : ((c.toNat : Int) != 34) = true := byte_bne_yes c 34 (by decide) h34
  by_cases h92 : c = 92
  ·have q : qtF false c = (true, true) := by subst h92; rfl
   rw [q]
   have t2 : ((c.toNat : Int) == 92) = true := byte_is c 92 (by decide) h92
   clear q h34 h92
   go_enter Tryz.func136, Tryz.ntmps136
   go_wp2_with fail
   go_ret
   exact ⟨rfl, HS.out true⟩
  ·have q : qtF false c = (true, false) := by unfold qtF; simp [h34, h92]
   rw [q]
   have t2 : ((c.toNat : Int) == 92) = false := byte_not c 92 (by decide) h92
   clear q h34 h92
   go_enter Tryz.func136, Tryz.ntmps136
   go_wp2_with fail
   go_ret
   exact ⟨rfl, HS.out false⟩
 ·have q : qtF true c = (true, false) := by unfold qtF; simp
  rw [q]
  clear q
  by_cases h92 : c = 92
  ·have t2 : ((c.toNat : Int) == 92) = true := byte_is c 92 (by decide) h92
   clear h92
   go_enter Tryz.func136, Tryz.ntmps136
   go_wp2_with fail
   go_ret
   exact ⟨rfl, HS.out false⟩
  ·have t2 : ((c.toNat : Int) == 92) = false := byte_not c 92 (by decide) h92
   clear h92
   go_enter Tryz.func136, Tryz.ntmps136
   go_wp2_with fail
   go_ret
   exact ⟨rfl, HS.out false⟩
end Go.Proofs.YtljoajjlkjjgeaaGreatDoor
namespace Go.Proofs.YtljoajjlkjjgeaaGreatDoor
open Go.RowKit Go.Sort LM

theorem ef_sk : ∀ args w, (callFunc 97 args).run Tryz.prog w = .ok (.enter 97 args) w := enters_of Tryz.func97 (by kernel_rfl) rfl
theorem ef_qt : ∀ args w, (callFunc 136 args).run Tryz.prog w = .ok (.enter 136 args) w := enters_of Tryz.func136 (by kernel_rfl) rfl
theorem ef_wo : ∀ args w, (callFunc 121 args).run Tryz.prog w = .ok (.enter 121 args) w := enters_of Tryz.func121 (by kernel_rfl) rfl
theorem ef_di : ∀ args w, (callFunc 100 args).run Tryz.prog w = .ok (.enter 100 args) w := enters_of Tryz.func100 (by kernel_rfl) rfl

set_option maxHeartbeats 2000000 in
theorem skip_any (s : ByteArray) (at' : Nat) (w : World) (hs : s.size ≤ 140737488355328) (ha : at' ≤ s.size) :
  Calls Tryz.prog 64 #[.string s, .int .i64 at'] w fun e w' => e = .returned (.int .i64 ((at' + gap (rest s at') : Nat) : Int)) ∧ Below w.heap.size w w' := by
 have HR := hide (run_any 97 #[.pointer (some ⟨w.heap.size, 0, none⟩)] s at' skF false (BitAt w w.heap.size) (w.alloc (.cells #[.bool false] 4)) ef_sk hs ha (BitAt.new w false _)
  (fun b c w' h => skClos_any w.heap.size b c w w' (Nat.le_refl _) h))
 clear hs ha
 generalize at' + preS skF false (rest s at') = T at *
 go_enter Tryz.func64, Tryz.ntmps64
 go_wp2_with fail
 refine HR.out.mono ?_
 rintro e w1 ⟨rfl, v, hb⟩
 have HB := hide hb
 clear hb
 go_wp2_with fail
 go_ret
 exact ⟨rfl, HB.out.2.2⟩
/-- Where a text between quotes ends. -/
abbrev endL (s : ByteArray) (at' : Nat) : Nat := min (at' + 1 + preS qtF false (rest s (at' + 1)) + 1) s.size
set_option maxHeartbeats 2000000 in
theorem litEnd_any (s : ByteArray) (at' : Nat) (w : World) (hs : s.size ≤ 140737488355328) (ha : at' < s.size) :
  Calls Tryz.prog 124 #[.string s, .int .i64 at'] w fun e w' => e = .returned (.int .i64 (endL s at' : Int)) ∧ Below w.heap.size w w' := by
 have HR := hide (run_any 136 #[.pointer (some ⟨w.heap.size, 0, none⟩)] s (at' + 1) qtF false (BitAt w w.heap.size) (w.alloc (.cells #[.bool false] 4)) ef_qt hs ha (BitAt.new w false _)
  (fun b c w' h => qtClos_any w.heap.size b c w w' (Nat.le_refl _) h))
 have hl := preS_le qtF false (rest s (at' + 1))
 rw [rest_len] at hl
 unfold endL
 rw [show ((at' + 1 + preS qtF false (rest s (at' + 1)) : Nat) : Int) = (at' : Int) + 1 + (preS qtF false (rest s (at' + 1)) : Nat) by omega, show ((at' + 1 : Nat) : Int) = (at' : Int) + 1 by omega] at HR
 generalize preS qtF false (rest s (at' + 1)) = T at *
 have HM : Hid ((min (at' + 1 + T + 1) s.size : Nat) = ((min ((at' : Int) + 1 + (T : Int) + 1) (s.size : Int) : Int))) := hide (by omega)
 rw [HM.out]
 go_enter Tryz.func124, Tryz.ntmps124
 go_wp2_with fail
 refine HR.out.mono ?_
 rintro e w1 ⟨rfl, v, hb⟩
 have HB := hide hb
 clear hb HM
 go_wp2_with fail
 go_ret
 exact ⟨rfl, HB.out.2.2⟩
theorem letter_any (c : UInt8) (w : World) : Calls Tryz.prog 98 #[.int .u8 (c.toNat : Nat)] w fun e w' => e = .returned (.bool (lowP c)) ∧ w = w' := by
 have HL : Hid (lowP c = (decide ((97 : Int) ≤ (c.toNat : Int)) && decide ((c.toNat : Int) ≤ 122))) := hide (by
  unfold lowP
  rw [show decide (97 ≤ c.toNat) = decide ((97 : Int) ≤ (c.toNat : Int)) from decide_eq_decide.2 (by omega), show decide (c.toNat ≤ 122) = decide ((c.toNat : Int) ≤ 122) from decide_eq_decide.2 (by omega)])
 cases h1 : decide ((97 : Int) ≤ (c.toNat : Int)) <;> cases h2 : decide ((c.toNat : Int) ≤ 122)
 all_goals
  go_enter Tryz.func98, Tryz.ntmps98
  go_wp2
  go_ret
  exact ⟨ret_bool (by rw [HL.out, h1, h2]; rfl), rfl⟩
theorem digit_any (c : UInt8) (w : World) : Calls Tryz.prog 100 #[.int .u8 (c.toNat : Nat)] w fun e w' => e = .returned (.bool (digP c)) ∧ w = w' := by
 have HL : Hid (digP c = (decide ((48 : Int) ≤ (c.toNat : Int)) && decide ((c.toNat : Int) ≤ 57))) := hide (by
  unfold digP
  rw [show decide (48 ≤ c.toNat) = decide ((48 : Int) ≤ (c.toNat : Int)) from decide_eq_decide.2 (by omega), show decide (c.toNat ≤ 57) = decide ((c.toNat : Int) ≤ 57) from decide_eq_decide.2 (by omega)])
 cases h1 : decide ((48 : Int) ≤ (c.toNat : Int)) <;> cases h2 : decide ((c.toNat : Int) ≤ 57)
 all_goals
  go_enter Tryz.func100, Tryz.ntmps100
  go_wp2
  go_ret
  exact ⟨ret_bool (by rw [HL.out, h1, h2]; rfl), rfl⟩
set_option maxHeartbeats 2000000 in
theorem woClos_any (c : UInt8) (w : World) : Calls Tryz.prog 121 #[.int .u8 (c.toNat : Nat)] w fun e w' => e = .returned (.bool (worP c)) ∧ w = w' := by
 have HL := hide (letter_any c)
 have HD := hide (digit_any c)
 have HW : Hid (worP c = (lowP c || digP c || c == 95)) := hide rfl
 by_cases h95 : c = 95
 ·have t1 : ((c.toNat : Int) == 95) = true := byte_is c 95 (by decide) h95
  have h95' : (c == 95) = true := by simpa using h95
  rw [h95'] at HW
  clear h95 h95'
  generalize worP c = W at *
  cases h1 : lowP c <;> cases h2 : digP c
  all_goals
   rw [h1] at HL; rw [h2] at HD
   go_enter Tryz.func121, Tryz.ntmps121
   go_wp2_with (first | (go_at_call 98; refine (HL.out _).mono ?_; rintro e w1 ⟨rfl, rfl⟩) | (go_at_call 100; refine (HD.out _).mono ?_; rintro e w1 ⟨rfl, rfl⟩))
   go_ret
   exact ⟨ret_bool (by rw [HW.out, h1, h2]; rfl), rfl⟩
 ·have t1 : ((c.toNat : Int) == 95) = false := byte_not c 95 (by decide) h95
  have h95' : (c == 95) = false := by simpa using h95
  rw [h95'] at HW
  clear h95 h95'
  generalize worP c = W at *
  cases h1 : lowP c <;> cases h2 : digP c
  all_goals
   rw [h1] at HL; rw [h2] at HD
   go_enter Tryz.func121, Tryz.ntmps121
   go_wp2_with (first | (go_at_call 98; refine (HL.out _).mono ?_; rintro e w1 ⟨rfl, rfl⟩) | (go_at_call 100; refine (HD.out _).mono ?_; rintro e w1 ⟨rfl, rfl⟩))
   go_ret
   exact ⟨ret_bool (by rw [HW.out, h1, h2]; rfl), rfl⟩
theorem runPlain_any (g : FuncId) (p : UInt8 → Bool) (s : ByteArray) (at' : Nat) (w : World) (eg : ∀ args w, (callFunc g args).run Tryz.prog w = .ok (.enter g args) w) (hs : s.size ≤ 140737488355328) (ha : at' ≤ s.size)
  (hf : ∀ (c : UInt8) (w' : World), Calls Tryz.prog g #[.int .u8 (c.toNat : Nat)] w' fun e w2 => e = .returned (.bool (p c)) ∧ w' = w2) :
  Calls Tryz.prog 96 #[.string s, .int .i64 at', .func (.func g) #[] #[]] w fun e w' => e = .returned (.int .i64 ((at' + pre p (rest s at') : Nat) : Int)) ∧ w = w' := by
 refine (run_any g #[] s at' (plain p) false (fun _ w' => w = w') w eg hs ha rfl (fun b c w' h => (hf c w').mono ?_)).mono ?_
 ·rintro e w2 ⟨rfl, rfl⟩
  exact ⟨rfl, h⟩
 ·rintro e w2 ⟨rfl, _, h⟩
  exact ⟨by rw [pre_plain], h⟩
theorem wordRun_any (s : ByteArray) (at' : Nat) (w : World) (hs : s.size ≤ 140737488355328) (ha : at' ≤ s.size) :
  Calls Tryz.prog 96 #[.string s, .int .i64 at', .func (.func 121) #[] #[]] w fun e w' => e = .returned (.int .i64 ((at' + pre worP (rest s at') : Nat) : Int)) ∧ w = w' :=
 runPlain_any _ worP s at' w ef_wo hs ha woClos_any
theorem digRun_any (s : ByteArray) (at' : Nat) (w : World) (hs : s.size ≤ 140737488355328) (ha : at' ≤ s.size) :
  Calls Tryz.prog 96 #[.string s, .int .i64 at', .func (.func 100) #[] #[]] w fun e w' => e = .returned (.int .i64 ((at' + pre digP (rest s at') : Nat) : Int)) ∧ w = w' :=
 runPlain_any _ digP s at' w ef_di hs ha digit_any
end Go.Proofs.YtljoajjlkjjgeaaGreatDoor
namespace Go.Proofs.YtljoajjlkjjgeaaGreatDoor
open Go.RowKit Go.Sort LM

abbrev txt (l : List UInt8) : Value := .string ⟨l.toArray⟩
/-- A token as a value. -/
abbrev vT (k : Int) (t : List UInt8) (n a : Int) : Value := .agg #[.int .i64 k, txt t, .int .i64 n, .int .i64 a]
/-- What a read tells. -/
def outR (at' : Nat) : Rd → Ending
 | .ok k t n m => .returned (.tuple #[vT k t n 0, .int .i64 ((at' + m : Nat) : Int), .int .i64 0])
 | .no z => .returned (.tuple #[vT 0 [] 0 0, .int .i64 0, .int .i64 z])
theorem ext_rest (s : ByteArray) (a m : Nat) : s.extract a (a + m) = ⟨((rest s a).take m).toArray⟩ := by
 refine of_dataK ?_
 rw [Lib.extract_data]
 unfold rest
 congr 1
 omega
theorem pre_in (p : UInt8 → Bool) (s : ByteArray) (a : Nat) (h : a ≤ s.size) : a + pre p (rest s a) ≤ s.size := by
 have := pre_le p (rest s a)
 rw [rest_len] at this; omega
abbrev boxT (w : World) : World := w.alloc (.cells #[.int .i64 0, .string ⟨#[]⟩, .int .i64 0, .int .i64 0] 134)
theorem boxT_below (w : World) : Below w.heap.size w (boxT w) := (Below.refl _ _).alloc (Nat.le_refl _) _
theorem boxT_cells {w w1 : World} (hb : Below (boxT w).heap.size (boxT w) w1) : (w1.cell? ⟨w.heap.size, 0, none⟩ = some (.int .i64 0) ∧ w1.cell? ⟨w.heap.size, 1, none⟩ = some (.string ⟨#[]⟩) ∧ w1.cell? ⟨w.heap.size, 2, none⟩ = some (.int .i64 0) ∧ w1.cell? ⟨w.heap.size, 3, none⟩ = some (.int .i64 0)) ∧ (∀ o, w1.frozen? ⟨w.heap.size, o, none⟩ = false) ∧ w.heap.size < w1.heap.size := by
 have hs : w.heap.size < (boxT w).heap.size := by simp
 exact ⟨⟨(hb.cell (p := ⟨w.heap.size, 0, none⟩) hs).trans (by simp), (hb.cell (p := ⟨w.heap.size, 1, none⟩) hs).trans (by simp), (hb.cell (p := ⟨w.heap.size, 2, none⟩) hs).trans (by simp), (hb.cell (p := ⟨w.heap.size, 3, none⟩) hs).trans (by simp)⟩, fun o => (hb.frozen (p := ⟨w.heap.size, o, none⟩) hs).trans (by simp), Nat.lt_of_lt_of_le hs hb.size⟩
theorem clone_any (s : ByteArray) (w : World) (hs : s.size ≤ 140737488355328) : Calls Tryz.prog 122 #[.string s] w fun e w' => e = .returned (.string s) ∧ Below w.heap.size w w' := by
 have HC := hide (fun w => Tryz.stringslite_Clone s w (by omega))
 go_enter Tryz.func122, Tryz.ntmps122
 go_wp2_with fail
 refine (HC.out _).mono ?_
 rintro e w1 ⟨rfl, hb⟩
 have HB := hide hb
 clear hb
 go_wp2_with fail
 go_ret
 exact ⟨rfl, HB.out⟩
set_option maxHeartbeats 2000000 in
theorem word_any (s : ByteArray) (at' : Nat) (w : World) (hs : s.size ≤ 140737488355328) (ha : at' < s.size) :
  Calls Tryz.prog 99 #[.string s, .int .i64 at'] w fun e w' => e = outR at' (wordR (rest s at')) ∧ Below w.heap.size w w' := by
 have HR := hide (fun w1 => wordRun_any s at' w1 hs (by omega))
 have hi := pre_in worP s at' (by omega)
 have HX := hide (ext_rest s at' (pre worP (rest s at')))
 have HW : Hid (wordR (rest s at') = if 16 < pre worP (rest s at') then .no 50 else .ok 1 ((rest s at').take (pre worP (rest s at'))) 0 (pre worP (rest s at'))) := hide rfl
 generalize wordR (rest s at') = W at *
 generalize pre worP (rest s at') = m at *
 generalize (rest s at').take m = t at *
 have HB0 := hide (boxT_below w)
 by_cases hm : 16 < m
 ·rw [if_pos hm] at HW
  obtain rfl := HW.out
  clear HW HX
  go_enter Tryz.func99, Tryz.ntmps99
  go_wp2_with fail
  refine (HR.out _).mono ?_
  rintro e w1 ⟨rfl, rfl⟩
  go_wp2_with fail
  refine bodyPost_ret (v := .tuple #[vT 0 [] 0 0, .int .i64 0, .int .i64 50]) (by simp [results, Tryz.results99, go_sem]) rfl ⟨rfl, ?_⟩
  go_grown
 ·rw [if_neg hm] at HW
  obtain rfl := HW.out
  clear HW
  have HC := hide (fun w1 => clone_any ⟨t.toArray⟩ w1 (by rw [← HX.out]; simp; omega))
  rw [← HX.out] at HC
  go_enter Tryz.func99, Tryz.ntmps99
  go_wp2_with fail
  refine (HR.out _).mono ?_
  rintro e w1 ⟨rfl, rfl⟩
  go_wp2_with fail
  refine (HC.out _).mono ?_
  rintro e w2 ⟨rfl, hb⟩
  obtain ⟨⟨c0, c1, c2, c3⟩, ff, hz⟩ := boxT_cells hb
  have HB := hide (HB0.out.trans (hb.mono HB0.out.size))
  rw [HX.out]
  clear hb HX
  have f0 := ff 0; have f1 := ff 1; have f2 := ff 2; have f3 := ff 3
  clear ff
  go_wp2_with fail
  refine bodyPost_ret (v := .tuple #[vT 1 t 0 0, .int .i64 ((at' + m : Nat) : Int), .int .i64 0]) (by simp [results, Tryz.results99, go_sem, c0, c1, c2, c3]) rfl ⟨rfl, ?_⟩
  have := HB.out
  go_grown
set_option maxHeartbeats 2000000 in
theorem num_any (s : ByteArray) (at' : Nat) (w : World) (hE : Errs w) (hs : s.size ≤ 140737488355328) (ha : at' < s.size) (hd : digP s[at'] = true) :
  Calls Tryz.prog 101 #[.string s, .int .i64 at'] w fun e w' => e = outR at' (numR (rest s at')) ∧ Below w.heap.size w w' := by
 have HR := hide (fun w1 => digRun_any s at' w1 hs (by omega))
 have hi := pre_in digP s at' (by omega)
 have HX := hide (ext_rest s at' (pre digP (rest s at')))
 have hne : (rest s at').take (pre digP (rest s at')) ≠ [] := by rw [rest_at ha]; exact take_pre_ne hd
 have hp : 0 < pre digP (rest s at') := by rw [rest_at ha]; exact pre_pos hd
 have HA := hide (atoi_dig hne (pre_all digP (rest s at')))
 have HB0 := hide (boxT_below w)
 have HEs := hide hE
 have HW : Hid (numR (rest s at') = if s[at'] = 48 ∧ 1 < pre digP (rest s at') then .no 50 else if valN ((rest s at').take (pre digP (rest s at'))) < 9223372036854775808 then .ok 2 [] (valN ((rest s at').take (pre digP (rest s at'))) : Nat) (pre digP (rest s at')) else .no 10) := hide (by
  unfold numR
  have : ((rest s at').head? = some 48) = (s[at'] = 48) := by rw [rest_at ha]; simp
  simp only [this])
 clear hne hE hd
 generalize numR (rest s at') = W at *
 generalize pre digP (rest s at') = m at *
 generalize (rest s at').take m = t at *
 by_cases hz : s[at'] = 48 ∧ 1 < m
 ·rw [if_pos hz] at HW
  obtain rfl := HW.out
  have t1 : ((s[at'].toNat : Int) == 48) = true := byte_is s[at'] 48 (by decide) hz.1
  have hm := hz.2
  clear HW HX HA hz
  go_enter Tryz.func101, Tryz.ntmps101
  go_wp2_with fail
  refine (HR.out _).mono ?_
  rintro e w1 ⟨rfl, rfl⟩
  go_wp2_with fail
  refine bodyPost_ret (v := .tuple #[vT 0 [] 0 0, .int .i64 0, .int .i64 50]) (by simp [results, Tryz.results101, go_sem]) rfl ⟨rfl, ?_⟩
  go_grown
 rw [if_neg hz] at HW
 have hz' : ((s[at'].toNat : Int) == 48) = false ∨ ((s[at'].toNat : Int) == 48) = true ∧ ¬ 1 < m := by
  by_cases h : s[at'] = 48
  ·exact Or.inr ⟨byte_is s[at'] 48 (by decide) h, fun h2 => hz ⟨h, h2⟩⟩
  ·exact Or.inl (byte_not s[at'] 48 (by decide) h)
 clear hz
 by_cases hv : valN t < 9223372036854775808
 ·rw [if_pos hv] at HW HA
  obtain rfl := HW.out
  have HC := hide (fun w1 => atoi_ok ⟨t.toArray⟩ (valN t : Nat) w1 (by rw [← HX.out]; simp; omega) (by rw [list_of]; exact HA.out))
  rw [← HX.out] at HC
  clear HW HX HA
  generalize valN t = v at *
  rcases hz' with t1 | ⟨t1, hm⟩
  all_goals
   go_enter Tryz.func101, Tryz.ntmps101
   go_wp2_with fail
   refine (HR.out _).mono ?_
   rintro e w1 ⟨rfl, rfl⟩
   go_wp2_with fail
   refine (HC.out _).mono ?_
   rintro e w2 ⟨rfl, hb⟩
   obtain ⟨⟨c0, c1, c2, c3⟩, ff, hz⟩ := boxT_cells hb
   have HB := hide (HB0.out.trans (hb.mono HB0.out.size))
   clear hb
   have f0 := ff 0; have f1 := ff 1; have f2 := ff 2; have f3 := ff 3
   clear ff
   go_wp2_with fail
   refine bodyPost_ret (v := .tuple #[vT 2 [] (v : Nat) 0, .int .i64 ((at' + m : Nat) : Int), .int .i64 0]) (by simp [results, Tryz.results101, go_sem, c0, c1, c2, c3]) rfl ⟨rfl, ?_⟩
   have := HB.out
   go_grown
 ·rw [if_neg hv] at HW HA
  obtain rfl := HW.out
  have HC := hide (fun w1 (hE : Errs w1) => atoi_no ⟨t.toArray⟩ w1 (by rw [← HX.out]; simp; omega) hE (by rw [list_of, HA.out]; intro v h; cases h))
  rw [← HX.out] at HC
  have HE1 := hide (HEs.out.stays HB0.out (Nat.le_refl _))
  clear HW HX HA hv
  rcases hz' with t1 | ⟨t1, hm⟩
  all_goals
   go_enter Tryz.func101, Tryz.ntmps101
   go_wp2_with fail
   refine (HR.out _).mono ?_
   rintro e w1 ⟨rfl, rfl⟩
   go_wp2_with fail
   refine (HC.out _ HE1.out).mono ?_
   rintro e w2 ⟨z, ty, a, rfl, hb⟩
   obtain ⟨⟨c0, c1, c2, c3⟩, ff, hz⟩ := boxT_cells hb
   have HB := hide (HB0.out.trans (hb.mono HB0.out.size))
   clear hb
   have f0 := ff 0; have f1 := ff 1; have f2 := ff 2; have f3 := ff 3
   clear ff
   go_wp2_with fail
   refine bodyPost_ret (v := .tuple #[vT 0 [] 0 0, .int .i64 0, .int .i64 10]) (by simp [results, Tryz.results101, go_sem, c0, c1, c2, c3]) rfl ⟨rfl, ?_⟩
   have := HB.out
   go_grown
end Go.Proofs.YtljoajjlkjjgeaaGreatDoor
