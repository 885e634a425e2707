/-
  The order of two rows: the program's way (slices.CompareFunc with a method expression) and the document's.
-/
import Derived.Test.YtbjcbgomkhdmmaaDoorSRow
import Derived.Test.YtbjcbgomkhdmmaaDoorSCmp
import Derived.Lib.QuietBelow
namespace Go.Proofs.YtbjcbgomkhdmmaaDoor
open Go.RowKit

def cmp3 (a b : Int × Int × ByteArray) : Int := cmpV a.1 a.2.1 a.2.2 b.1 b.2.1 b.2.2
def cmpR : List (Int × Int × ByteArray) → List (Int × Int × ByteArray) → Int
  | [], [] => 0
  | [], _ :: _ => -1
  | _ :: _, [] => 1
  | a :: x, b :: y => if cmp3 a b = 0 then cmpR x y else cmp3 a b
theorem cmp3_turn (a b : Int × Int × ByteArray) : cmp3 b a = -cmp3 a b := cmpV_turn _ _ _ _ _ _
theorem cmp3_range (a b : Int × Int × ByteArray) : cmp3 a b = -1 ∨ cmp3 a b = 0 ∨ cmp3 a b = 1 := cmpV_range _ _ _ _ _ _
theorem cmpR_turn : ∀ x y : List (Int × Int × ByteArray), cmpR y x = -cmpR x y
  | [], [] => rfl
  | [], _ :: _ => rfl
  | _ :: _, [] => rfl
  | a :: x, b :: y => by
    unfold cmpR
    rw [cmp3_turn a b]
    by_cases h : cmp3 a b = 0
    · rw [if_pos (by omega), if_pos h]; exact cmpR_turn x y
    · rw [if_neg (by omega), if_neg h]
theorem cmpR_range : ∀ x y : List (Int × Int × ByteArray), cmpR x y = -1 ∨ cmpR x y = 0 ∨ cmpR x y = 1
  | [], [] => by simp [cmpR]
  | [], _ :: _ => by simp [cmpR]
  | _ :: _, [] => by simp [cmpR]
  | a :: x, b :: y => by
    unfold cmpR
    split
    · exact cmpR_range x y
    · exact cmp3_range a b
def preZ (xs ys : List (Int × Int × ByteArray)) (k : Nat) : Prop := ∀ j, j < k → cmp3 (xs.getD j (0, 0, ⟨#[]⟩)) (ys.getD j (0, 0, ⟨#[]⟩)) = 0
theorem preZ_succ {xs ys : List (Int × Int × ByteArray)} {k : Nat} (h : preZ xs ys k) (hc : cmp3 (xs.getD k (0, 0, ⟨#[]⟩)) (ys.getD k (0, 0, ⟨#[]⟩)) = 0) : preZ xs ys (k + 1) := fun j hj => by
  by_cases e : j = k
  · subst e; exact hc
  · exact h j (by omega)
theorem cmpR_drop : ∀ (k : Nat) (xs ys : List (Int × Int × ByteArray)), k ≤ xs.length → k ≤ ys.length → preZ xs ys k → cmpR xs ys = cmpR (xs.drop k) (ys.drop k)
  | 0, _, _, _, _, _ => rfl
  | k + 1, [], _, h, _, _ => by simp at h
  | k + 1, _ :: _, [], _, h, _ => by simp at h
  | k + 1, a :: x, b :: y, h1, h2, hp => by
    have h0 : cmp3 a b = 0 := hp 0 (by omega)
    rw [cmpR, if_pos h0, List.drop_succ_cons, List.drop_succ_cons]
    exact cmpR_drop k x y (by simpa using h1) (by simpa using h2) (fun j hj => hp (j + 1) (by omega))
theorem cmpR_at {xs ys : List (Int × Int × ByteArray)} {k : Nat} (h1 : k < xs.length) (h2 : k < ys.length) (hp : preZ xs ys k) (hc : ¬ cmp3 (xs.getD k (0, 0, ⟨#[]⟩)) (ys.getD k (0, 0, ⟨#[]⟩)) = 0) :
    cmpR xs ys = cmp3 (xs.getD k (0, 0, ⟨#[]⟩)) (ys.getD k (0, 0, ⟨#[]⟩)) := by
  rw [cmpR_drop k xs ys (by omega) (by omega) hp, List.drop_eq_getElem_cons h1, List.drop_eq_getElem_cons h2]
  rw [List.getD_eq_getElem?_getD, List.getElem?_eq_getElem h1, List.getD_eq_getElem?_getD, List.getElem?_eq_getElem h2] at hc ⊢
  simp only [Option.getD_some] at hc ⊢
  rw [cmpR, if_neg hc]
theorem cmpR_long {xs ys : List (Int × Int × ByteArray)} (h : ys.length < xs.length) (hp : preZ xs ys ys.length) : cmpR xs ys = 1 := by
  rw [cmpR_drop ys.length xs ys (by omega) (Nat.le_refl _) hp, List.drop_eq_getElem_cons h, List.drop_length]; rfl
theorem cmpR_short {xs ys : List (Int × Int × ByteArray)} (h : xs.length < ys.length) (hp : preZ xs ys xs.length) : cmpR xs ys = -1 := by
  rw [cmpR_drop xs.length xs ys (Nat.le_refl _) (by omega) hp, List.drop_eq_getElem_cons h, List.drop_length]; rfl
theorem cmpR_same {xs ys : List (Int × Int × ByteArray)} (h : xs.length = ys.length) (hp : preZ xs ys xs.length) : cmpR xs ys = 0 := by
  rw [cmpR_drop xs.length xs ys (Nat.le_refl _) (by omega) hp, List.drop_length, h, List.drop_length]; rfl

set_option maxHeartbeats 3200000 in
set_option maxRecDepth 100000 in
theorem cmpFunc_up (A B : Option Addr) (c d : Nat) (xs ys : List (Int × Int × ByteArray)) (w : World) (hX : RowAt w.heap.size w A xs) (hY : RowAt w.heap.size w B ys) (hlx : xs.length ≤ maxLen) :
    Calls Tryd.prog 46 #[.slice A xs.length c, .slice B ys.length d, .func (.func 47) #[] #[]] w fun e w' => e = .returned (.int .i64 (cmpR xs ys)) ∧ Up w w' := by
  unfold maxLen at hlx
  have HX := hide hX; have HY := hide hY; clear hX hY
  go_enter Tryd.func46, Tryd.ntmps46
  go_wp2_with fail
  go_loopw [13] (fun i wr => ∃ k : Nat, k ≤ xs.length ∧ k ≤ ys.length ∧ i = .int .i64 k ∧ preZ xs ys k ∧ Up w wr) (fun i _ => xs.length - (intOf i).toNat)
  case atStart => exact ⟨0, Nat.zero_le _, Nat.zero_le _, rfl, fun j h => by omega, Up.refl _⟩
  case round =>
    obtain ⟨k, hk, hk2, rfl, hp, hbu⟩ := hrel
    have hbw := hbu.1
    have HP := hide hp; clear hp
    have hs := hbw.size
    by_cases hlt : k < xs.length
    · obtain ⟨b, off, rfl, hb, g0, g1, g2⟩ := HX.out.below hbw k hlt
      by_cases hlt2 : k < ys.length
      · obtain ⟨b2, off2, rfl, hb2, h0, h1, h2⟩ := HY.out.below hbw k hlt2
        have HA := hide (fun h => cmpR_at hlt hlt2 HP.out h)
        have HZ := hide (fun h => preZ_succ HP.out h)
        generalize xs.getD k (0, 0, ⟨#[]⟩) = x at g0 g1 g2 HA HZ
        generalize ys.getD k (0, 0, ⟨#[]⟩) = y at h0 h1 h2 HA HZ
        have hal := Joins.below_alloc1 wr (.cells #[.int .i64 x.1, .int .i64 x.2.1, .string x.2.2] 36)
        have e0 := (hal.cell (p := ⟨b2, off2 + k * 3, none⟩) (Nat.lt_of_lt_of_le hb2 hs)).trans h0
        have e1 := (hal.cell (p := ⟨b2, off2 + k * 3 + 1, none⟩) (Nat.lt_of_lt_of_le hb2 hs)).trans h1
        have e2 := (hal.cell (p := ⟨b2, off2 + k * 3 + 2, none⟩) (Nat.lt_of_lt_of_le hb2 hs)).trans h2
        have q0 : Up w ((wr.alloc (.cells #[.int .i64 x.1, .int .i64 x.2.1, .string x.2.2] 36)).alloc (.cells #[.int .i64 y.1, .int .i64 y.2.1, .string y.2.2] 36)) := (hbu.trans (up_alloc _ _)).trans (up_alloc _ _)
        clear hal h0 h1 h2
        by_cases hz : cmp3 x y = 0
        · have hz0 : (cmp3 x y != 0) = false := by rw [bne_eq_false_iff_eq]; exact hz
          have HY2 := hide (HZ.out hz)
          have HC := hide (fun w' => cmp_up x.1 x.2.1 x.2.2 y.1 y.2.1 y.2.2 w')
          have HE := hide (show cmpV x.1 x.2.1 x.2.2 y.1 y.2.1 y.2.2 = cmp3 x y from rfl)
          clear hz
          go_wp2_with (go_at_call 47; refine (HC.out _).mono ?_; rintro e w2 ⟨rfl, hb2⟩; rw [HE.out])
          go_roundw
          case rel => exact ⟨k + 1, by omega, by omega, by go_num, HY2.out, q0.trans hb2⟩
          case measure => simp [intOf]; omega
        · have hz0 : (cmp3 x y != 0) = true := by rw [bne_iff_ne]; exact hz
          have HR := hide (HA.out hz)
          have HC := hide (fun w' => cmp_up x.1 x.2.1 x.2.2 y.1 y.2.1 y.2.2 w')
          have HE := hide (show cmpV x.1 x.2.1 x.2.2 y.1 y.2.1 y.2.2 = cmp3 x y from rfl)
          clear hz
          go_wp2_with (go_at_call 47; refine (HC.out _).mono ?_; rintro e w2 ⟨rfl, hb2⟩; rw [HE.out])
          go_ret
          exact ⟨ret_int HR.out.symm, q0.trans hb2⟩
      · obtain rfl : k = ys.length := by omega
        generalize xs.getD ys.length (0, 0, ⟨#[]⟩) = x at g0 g1 g2
        go_wp2_with fail
        go_ret
        exact ⟨ret_int (cmpR_long hlt HP.out).symm, hbu.trans (up_alloc _ _)⟩
    · obtain rfl : k = xs.length := by omega
      by_cases hl : xs.length < ys.length
      · go_wp2_with fail
        go_ret
        exact ⟨ret_int (cmpR_short hl HP.out).symm, hbu⟩
      · go_wp2_with fail
        go_ret
        exact ⟨ret_int (cmpR_same (by omega) HP.out).symm, hbu⟩

set_option maxHeartbeats 1600000 in
set_option maxRecDepth 100000 in
theorem cmpRows_up (A B : Option Addr) (c d : Nat) (xs ys : List (Int × Int × ByteArray)) (w : World) (hX : RowAt w.heap.size w A xs) (hY : RowAt w.heap.size w B ys) (hlx : xs.length ≤ maxLen) :
    Calls Tryd.prog 24 #[.slice A xs.length c, .slice B ys.length d] w fun e w' => e = .returned (.int .i64 (cmpR xs ys)) ∧ Up w w' := by
  have HC := hide (cmpFunc_up A B c d xs ys w hX hY hlx)
  clear hX hY hlx
  go_enter Tryd.func24, Tryd.ntmps24
  go_wp2_with fail
  refine HC.out.mono ?_
  rintro e w' ⟨rfl, hb⟩
  go_wp2_with fail
  go_ret
  exact ⟨rfl, hb⟩

theorem cmpRows_any (A B : Option Addr) (c d : Nat) (xs ys : List (Int × Int × ByteArray)) (w : World) (hX : RowAt w.heap.size w A xs) (hY : RowAt w.heap.size w B ys) (hlx : xs.length ≤ maxLen) :
    Calls Tryd.prog 24 #[.slice A xs.length c, .slice B ys.length d] w fun e w' => e = .returned (.int .i64 (cmpR xs ys)) ∧ Below w.heap.size w w' :=
  (cmpRows_up A B c d xs ys w hX hY hlx).mono fun _ _ h => ⟨h.1, h.2.1⟩

end Go.Proofs.YtbjcbgomkhdmmaaDoor
