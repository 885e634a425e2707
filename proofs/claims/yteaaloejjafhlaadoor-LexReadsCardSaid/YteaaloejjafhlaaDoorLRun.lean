/-
  run: how far a test passes; skip, literalEnd and the tests of words and numbers.
-/
import Derived.Test.YteaaloejjafhlaaDoorLBase
namespace Go.Proofs.YteaaloejjafhlaaDoor
open Go.RowKit Go.Sort LM

/-- The bytes behind a place. -/
abbrev rest (s : ByteArray) (k : Nat) : List UInt8 := s.data.toList.drop k
theorem rest_at {s : ByteArray} {k : Nat} (h : k < s.size) : rest s k = s[k] :: rest s (k + 1) := drop_at h
theorem rest_end {s : ByteArray} {k : Nat} (h : s.size ≤ k) : rest s k = [] := List.drop_eq_nil_of_le (by simpa using h)
theorem rest_len (s : ByteArray) (k : Nat) : (rest s k).length = s.size - k := by unfold rest; rw [List.length_drop]; simp
theorem preS_yes {f : Bool → UInt8 → Bool × Bool} {b : Bool} {c : UInt8} {r : List UInt8} (h : (f b c).1 = true) : preS f b (c :: r) = preS f (f b c).2 r + 1 := by rw [preS, if_pos h]
theorem preS_no {f : Bool → UInt8 → Bool × Bool} {b : Bool} {c : UInt8} {r : List UInt8} (h : (f b c).1 = false) : preS f b (c :: r) = 0 := by rw [preS, if_neg (by rw [h]; simp)]

set_option maxHeartbeats 4000000 in
theorem run_any (g : FuncId) (cb : Array Value) (s : ByteArray) (at' : Nat) (f : Bool → UInt8 → Bool × Bool) (b0 : Bool) (St : Bool → World → Prop) (w : World) (eg : ∀ args w, (callFunc g args).run Tryd.prog w = .ok (.enter g args) w)
    (hs : s.size ≤ 140737488355328) (ha : at' ≤ s.size) (h0 : St b0 w)
    (hf : ∀ (b : Bool) (c : UInt8) (w' : World), St b w' → Calls Tryd.prog g (#[.int .u8 (c.toNat : Nat)] ++ cb) w' fun e w2 => e = .returned (.bool (f b c).1) ∧ St (f b c).2 w2) :
    Calls Tryd.prog 25 #[.string s, .int .i64 at', .func (.func g) #[] cb] w fun e w' => e = .returned (.int .i64 ((at' + preS f b0 (rest s at') : Nat) : Int)) ∧ ∃ b, St b w' := by
  have HF := hide hf
  clear hf
  obtain ⟨T, hT⟩ : ∃ T, T = at' + preS f b0 (rest s at') := ⟨_, rfl⟩
  rw [← hT]
  have HS := hide h0
  have HT := hide hT
  clear h0 hT
  go_enter Tryd.func25, Tryd.ntmps25
  go_wp2_with fail
  go_loopw [1] (fun i wr => ∃ (k : Nat) (b : Bool), i = .int .i64 k ∧ k ≤ s.size ∧ Hid (T = k + preS f b (rest s k)) ∧ Hid (St b wr)) (fun i _ => s.size - (intOf i).toNat)
  case atStart => exact ⟨at', b0, rfl, ha, HT, HS⟩
  case round =>
    obtain ⟨k, b, rfl, hk, HK, HB⟩ := hrel
    clear HT HS
    by_cases hlt : k < s.size
    · have HC := hide (HF.out b s[k] wr HB.out)
      cases hp : (f b s[k]).1
      · have HE : Hid (T = k) := hide (by have := HK.out; rw [rest_at hlt, preS_no hp] at this; exact this)
        rw [hp] at HC
        clear hp HK
        go_wp2_with (go_at_fn g; refine HC.out.mono ?_; rintro e w2 ⟨rfl, hb2⟩)
        have HB2 := hide hb2
        clear hb2
        go_wp2_with fail
        go_ret
        exact ⟨by rw [HE.out]; rfl, _, HB2.out⟩
      · have HE : Hid (T = (k + 1) + preS f (f b s[k]).2 (rest s (k + 1))) := hide (by have := HK.out; rw [rest_at hlt, preS_yes hp] at this; omega)
        rw [hp] at HC
        clear hp HK
        generalize (f b s[k]).2 = b' at HC HE
        go_wp2_with (go_at_fn g; refine HC.out.mono ?_; rintro e w2 ⟨rfl, hb2⟩)
        have HB2 := hide hb2
        clear hb2
        go_wp2_with fail
        go_roundw
        case rel => exact ⟨k + 1, b', by go_num, by omega, HE, HB2⟩
        case measure => simp [intOf]; omega
    · have HE : Hid (T = k) := hide (by have := HK.out; rw [rest_end (by omega)] at this; exact this)
      clear HK
      go_wp2_with fail
      go_ret
      exact ⟨by rw [HE.out]; rfl, b, HB.out⟩

/-- A box of one bit. -/
def BitAt (w : World) (b : Nat) (v : Bool) (w' : World) : Prop := w'.cell? ⟨b, 0, none⟩ = some (.bool v) ∧ w'.frozen? ⟨b, 0, none⟩ = false ∧ Below w.heap.size w w'
theorem BitAt.new (w : World) (v : Bool) (t : TypeId) : BitAt w w.heap.size v (w.alloc (.cells #[.bool v] t)) := ⟨by simp, by simp, (Below.refl _ _).alloc (Nat.le_refl _) _⟩
theorem BitAt.set {w w' : World} {b : Nat} {v : Bool} (h : BitAt w b v w') (hb : w.heap.size ≤ b) (u : Bool) : BitAt w b u (w'.setCell ⟨b, 0, none⟩ (.bool u)) :=
  ⟨World.cell?_setCell_same' _ _ _ (by rw [h.1]; rfl), by rw [World.frozen?_setCell]; exact h.2.1, h.2.2.setCell hb _⟩

theorem byte_is (c : UInt8) (n : Nat) (hn : n < 256) (h : c = UInt8.ofNat n) : ((c.toNat : Int) == (n : Int)) = true := by rw [byte_eq c n hn]; simpa using h
theorem byte_not (c : UInt8) (n : Nat) (hn : n < 256) (h : c ≠ UInt8.ofNat n) : ((c.toNat : Int) == (n : Int)) = false := by rw [byte_eq c n hn]; simpa using h
theorem byte_bne_no (c : UInt8) (n : Nat) (hn : n < 256) (h : c = UInt8.ofNat n) : ((c.toNat : Int) != (n : Int)) = false := by unfold bne; rw [byte_is c n hn h]; rfl
theorem byte_bne_yes (c : UInt8) (n : Nat) (hn : n < 256) (h : c ≠ UInt8.ofNat n) : ((c.toNat : Int) != (n : Int)) = true := by unfold bne; rw [byte_not c n hn h]; rfl
set_option maxHeartbeats 4000000 in
theorem skClos_any (b : Nat) (v : Bool) (c : UInt8) (w0 w : World) (hb : w0.heap.size ≤ b) (h : BitAt w0 b v w) :
    Calls Tryd.prog 26 #[.int .u8 (c.toNat : Nat), .pointer (some ⟨b, 0, none⟩)] w fun e w' => e = .returned (.bool (skF v c).1) ∧ BitAt w0 b (skF v c).2 w' := by
  have H := hide h
  have HS := hide (fun u => h.set hb u)
  obtain ⟨c0, f0, -⟩ := h
  have hlt : b < w.heap.size := lt_of_cell c0
  by_cases h35 : c = 35
  · have q : skF v c = (true, true) := by subst h35; rfl
    rw [q]
    have t1 : ((c.toNat : Int) == 35) = true := byte_is c 35 (by decide) h35
    clear q h35
    go_enter Tryd.func26, Tryd.ntmps26
    go_wp2_with fail
    go_ret
    exact ⟨rfl, HS.out true⟩
  have t1 : ((c.toNat : Int) == 35) = false := byte_not c 35 (by decide) h35
  by_cases h10 : c = 10
  · have q : skF v c = (true, false) := by subst h10; rfl
    rw [q]
    have t2 : ((c.toNat : Int) == 10) = true := byte_is c 10 (by decide) h10
    have t3 : ((c.toNat : Int) == 32) = false := byte_not c 32 (by decide) (by subst h10; decide)
    have t4 : ((c.toNat : Int) == 9) = false := byte_not c 9 (by decide) (by subst h10; decide)
    clear q h35 h10
    go_enter Tryd.func26, Tryd.ntmps26
    go_wp2_with fail
    go_ret
    exact ⟨rfl, HS.out false⟩
  have t2 : ((c.toNat : Int) == 10) = false := byte_not c 10 (by decide) h10
  have q : skF v c = (v || c == 32 || c == 9, v) := by unfold skF skB; rw [if_neg h35, if_neg h10]; simp [h10]
  rw [q]
  clear q
  cases v
  · by_cases h32 : c = 32
    · have t3 : ((c.toNat : Int) == 32) = true := byte_is c 32 (by decide) h32
      have e : (false || c == 32 || c == 9) = true := by subst h32; rfl
      rw [e]
      clear e h32 h35 h10
      go_enter Tryd.func26, Tryd.ntmps26
      go_wp2_with fail
      go_ret
      exact ⟨rfl, H.out⟩
    have t3 : ((c.toNat : Int) == 32) = false := byte_not c 32 (by decide) h32
    by_cases h9 : c = 9
    · have t4 : ((c.toNat : Int) == 9) = true := byte_is c 9 (by decide) h9
      have e : (false || c == 32 || c == 9) = true := by subst h9; rfl
      rw [e]
      clear e h32 h35 h10 h9
      go_enter Tryd.func26, Tryd.ntmps26
      go_wp2_with fail
      go_ret
      exact ⟨rfl, H.out⟩
    have t4 : ((c.toNat : Int) == 9) = false := byte_not c 9 (by decide) h9
    have e : (false || c == 32 || c == 9) = false := by simp [h32, h9]
    rw [e]
    clear e h32 h35 h10 h9
    go_enter Tryd.func26, Tryd.ntmps26
    go_wp2_with fail
    go_ret
    exact ⟨rfl, H.out⟩
  · rw [show (true || c == 32 || c == 9) = true from rfl]
    clear h35 h10
    go_enter Tryd.func26, Tryd.ntmps26
    go_wp2_with fail
    go_ret
    exact ⟨rfl, H.out⟩
set_option maxHeartbeats 4000000 in
theorem qtClos_any (b : Nat) (v : Bool) (c : UInt8) (w0 w : World) (hb : w0.heap.size ≤ b) (h : BitAt w0 b v w) :
    Calls Tryd.prog 54 #[.int .u8 (c.toNat : Nat), .pointer (some ⟨b, 0, none⟩)] w fun e w' => e = .returned (.bool (qtF v c).1) ∧ BitAt w0 b (qtF v c).2 w' := by
  have HS := hide (fun u => h.set hb u)
  obtain ⟨c0, f0, -⟩ := h
  have hlt : b < w.heap.size := lt_of_cell c0
  cases v
  · by_cases h34 : c = 34
    · have q : qtF false c = (false, false) := by subst h34; rfl
      rw [q]
      have t1 : ((c.toNat : Int) != 34) = false := byte_bne_no c 34 (by decide) h34
      have t2 : ((c.toNat : Int) == 92) = false := byte_not c 92 (by decide) (by subst h34; decide)
      clear q h34
      go_enter Tryd.func54, Tryd.ntmps54
      go_wp2_with fail
      go_ret
      exact ⟨rfl, HS.out false⟩
    have t1 : ((c.toNat : Int) != 34) = true := byte_bne_yes c 34 (by decide) h34
    by_cases h92 : c = 92
    · have q : qtF false c = (true, true) := by subst h92; rfl
      rw [q]
      have t2 : ((c.toNat : Int) == 92) = true := byte_is c 92 (by decide) h92
      clear q h34 h92
      go_enter Tryd.func54, Tryd.ntmps54
      go_wp2_with fail
      go_ret
      exact ⟨rfl, HS.out true⟩
    · have q : qtF false c = (true, false) := by unfold qtF; simp [h34, h92]
      rw [q]
      have t2 : ((c.toNat : Int) == 92) = false := byte_not c 92 (by decide) h92
      clear q h34 h92
      go_enter Tryd.func54, Tryd.ntmps54
      go_wp2_with fail
      go_ret
      exact ⟨rfl, HS.out false⟩
  · have q : qtF true c = (true, false) := by unfold qtF; simp
    rw [q]
    clear q
    by_cases h92 : c = 92
    · have t2 : ((c.toNat : Int) == 92) = true := byte_is c 92 (by decide) h92
      clear h92
      go_enter Tryd.func54, Tryd.ntmps54
      go_wp2_with fail
      go_ret
      exact ⟨rfl, HS.out false⟩
    · have t2 : ((c.toNat : Int) == 92) = false := byte_not c 92 (by decide) h92
      clear h92
      go_enter Tryd.func54, Tryd.ntmps54
      go_wp2_with fail
      go_ret
      exact ⟨rfl, HS.out false⟩
end Go.Proofs.YteaaloejjafhlaaDoor
