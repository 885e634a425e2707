/-
  The walk of CalendarTexts.
-/
import Derived.Test.YtnopejobefkflaaDoorCAwake
import Derived.Test.YtnopejobefkflaaDoorCRef
import Derived.Lib.QuietBelow
namespace Go.Proofs.YtnopejobefkflaaDoor
open Go.RowKit Go.Sort CM

set_option maxHeartbeats 1000000 in
theorem texts_out_ok1 (n a b c e f g k : Int) (w : World) (h0 : n < 0)
    (hM : (∀ w', Below w.heap.size w w' → Calls Tryd.prog 12 #[vD a b c e f g] w' fun e w2 => e = .returned (.tuple #[.int .i64 k, .int .i64 0]) ∧ Below w'.heap.size w' w2))
    (hA : (∀ w', Below w.heap.size w w' → Calls Tryd.prog 11 #[] w' fun e w2 => e = .returned (.bool true) ∧ Below w'.heap.size w' w2)) : Calls Tryd.prog 5 #[.int .i64 n, vD a b c e f g] w fun e w' => e = .returned (.bool true) ∧ Below w.heap.size w w' := by
  have HM := hide hM
  have HA := hide hA
  clear hM hA
  have HB0 := hide ((Below.refl w.heap.size w).alloc (Nat.le_refl _) (.cells #[.int .i64 a, .int .i64 b, .int .i64 c, .int .i64 e, .int .i64 f, .int .i64 g] 23))
  go_enter Tryd.func5, Tryd.ntmps5
  go_wp2_with fail
  refine (HM.out _ HB0.out).mono ?_
  rintro e w1 ⟨rfl, hb⟩
  have HB1 := hide (HB0.out.trans (hb.mono HB0.out.size))
  clear hb
  go_wp2_with fail
  refine (HA.out _ HB1.out).mono ?_
  rintro e w2 ⟨rfl, hb⟩
  have HB2 := hide (HB1.out.trans (hb.mono HB1.out.size))
  clear hb
  go_wp2_with fail
  go_ret
  exact ⟨rfl, HB2.out⟩
set_option maxHeartbeats 1000000 in
theorem texts_out_ok2 (n a b c e f g k : Int) (w : World) (h0 : 2147483648 ≤ n)
    (hM : (∀ w', Below w.heap.size w w' → Calls Tryd.prog 12 #[vD a b c e f g] w' fun e w2 => e = .returned (.tuple #[.int .i64 k, .int .i64 0]) ∧ Below w'.heap.size w' w2))
    (hA : (∀ w', Below w.heap.size w w' → Calls Tryd.prog 11 #[] w' fun e w2 => e = .returned (.bool true) ∧ Below w'.heap.size w' w2)) : Calls Tryd.prog 5 #[.int .i64 n, vD a b c e f g] w fun e w' => e = .returned (.bool true) ∧ Below w.heap.size w w' := by
  have HM := hide hM
  have HA := hide hA
  clear hM hA
  have HB0 := hide ((Below.refl w.heap.size w).alloc (Nat.le_refl _) (.cells #[.int .i64 a, .int .i64 b, .int .i64 c, .int .i64 e, .int .i64 f, .int .i64 g] 23))
  have h' : ¬ n < 0 := by omega
  go_enter Tryd.func5, Tryd.ntmps5
  go_wp2_with fail
  refine (HM.out _ HB0.out).mono ?_
  rintro e w1 ⟨rfl, hb⟩
  have HB1 := hide (HB0.out.trans (hb.mono HB0.out.size))
  clear hb
  go_wp2_with fail
  refine (HA.out _ HB1.out).mono ?_
  rintro e w2 ⟨rfl, hb⟩
  have HB2 := hide (HB1.out.trans (hb.mono HB1.out.size))
  clear hb
  go_wp2_with fail
  go_ret
  exact ⟨rfl, HB2.out⟩
set_option maxHeartbeats 4000000 in
theorem texts_in_ok (n a b c e f g k y m d h mi wd : Int) (t : ByteArray) (w : World) (h0 : 0 ≤ n) (h1 : n < 2147483648)
    (hM : (∀ w', Below w.heap.size w w' → Calls Tryd.prog 12 #[vD a b c e f g] w' fun e w2 => e = .returned (.tuple #[.int .i64 k, .int .i64 0]) ∧ Below w'.heap.size w' w2))
    (hO : (∀ w', Below w.heap.size w w' → Calls Tryd.prog 10 #[.int .i64 n] w' fun e w2 => e = .returned (.tuple #[vD y m d h mi wd, .int .i64 0]) ∧ Below w'.heap.size w' w2))
    (hS : (∀ w', Below w.heap.size w w' → Calls Tryd.prog 17 #[vD y m d h mi wd] w' fun e w2 => e = .returned (.string t) ∧ Below w'.heap.size w' w2))
    (hP : (∀ w', Below w.heap.size w w' → Calls Tryd.prog 18 #[.string t] w' fun e w2 => e = .returned (.tuple #[vD y m d h mi wd, .int .i64 0]) ∧ Below w'.heap.size w' w2))
    (hR : (∀ w', Below w.heap.size w w' → Calls Tryd.prog 13 #[vD y m d h mi wd] w' fun e w2 => e = .returned (vD y m d h mi wd) ∧ Below w'.heap.size w' w2))
    (hW : (∀ w', Below w.heap.size w w' → Calls Tryd.prog 19 #[vD y m d h mi wd] w' fun e w2 => e = .returned (.string t) ∧ Below w'.heap.size w' w2))
    (hA : (∀ w', Below w.heap.size w w' → Calls Tryd.prog 11 #[] w' fun e w2 => e = .returned (.bool true) ∧ Below w'.heap.size w' w2)) : Calls Tryd.prog 5 #[.int .i64 n, vD a b c e f g] w fun e w' => e = .returned (.bool true) ∧ Below w.heap.size w w' := by
  have HM := hide hM
  have HO := hide hO
  have HS := hide hS
  have HP := hide hP
  have HR := hide hR
  have HW := hide hW
  have HA := hide hA
  clear hM hO hS hP hR hW hA
  have HB0 := hide ((Below.refl w.heap.size w).alloc (Nat.le_refl _) (.cells #[.int .i64 a, .int .i64 b, .int .i64 c, .int .i64 e, .int .i64 f, .int .i64 g] 23))
  have HQ : Hid (∀ w, (binOp .eql 23 (vD y m d h mi wd) (vD y m d h mi wd)).run Tryd.prog w = .ok (.bool true) w) := hide fun w => by rw [run_eql_date, (sameD_iff _ _ _ _ _ _ _ _ _ _ _ _).2 ⟨rfl, rfl, rfl, rfl, rfl, rfl⟩]
  have HU := hide (run_guard_date y m d h mi wd y m d h mi wd)
  go_enter Tryd.func5, Tryd.ntmps5
  go_wp2_with fail
  refine (HM.out _ HB0.out).mono ?_
  rintro e w1 ⟨rfl, hb⟩
  have HB1 := hide (HB0.out.trans (hb.mono HB0.out.size))
  clear hb
  go_wp2_with fail
  refine (HO.out _ HB1.out).mono ?_
  rintro e w2 ⟨rfl, hb⟩
  have HB2 := hide ((HB1.out.trans (hb.mono HB1.out.size)).alloc (HB1.out.trans (hb.mono HB1.out.size)).size (.cells #[.int .i64 y, .int .i64 m, .int .i64 d, .int .i64 h, .int .i64 mi, .int .i64 wd] 23))
  clear hb
  go_wp2_with fail
  refine (HS.out _ HB2.out).mono ?_
  rintro e w3 ⟨rfl, hb⟩
  obtain ⟨d0, d1, d2, d3, d4, d5⟩ := box_kept hb
  have z := hb.size
  have zz : w2.heap.size < w3.heap.size := by simp at z; omega
  have HB3 := hide (HB2.out.trans (hb.mono HB2.out.size))
  clear hb z
  go_wp2_with fail
  refine (HP.out _ HB3.out).mono ?_
  rintro e w4 ⟨rfl, hb⟩
  have c0 := (hb.cell (p := ⟨w2.heap.size, 0, none⟩) zz).trans d0
  have c1 := (hb.cell (p := ⟨w2.heap.size, 1, none⟩) zz).trans d1
  have c2 := (hb.cell (p := ⟨w2.heap.size, 2, none⟩) zz).trans d2
  have c3 := (hb.cell (p := ⟨w2.heap.size, 3, none⟩) zz).trans d3
  have c4 := (hb.cell (p := ⟨w2.heap.size, 4, none⟩) zz).trans d4
  have c5 := (hb.cell (p := ⟨w2.heap.size, 5, none⟩) zz).trans d5
  have zy := Nat.lt_of_lt_of_le zz hb.size
  have HB4 := hide ((HB3.out.trans (hb.mono HB3.out.size)).alloc (HB3.out.trans (hb.mono HB3.out.size)).size (.cells #[.int .i64 y, .int .i64 m, .int .i64 d, .int .i64 h, .int .i64 mi, .int .i64 wd] 23))
  clear hb d0 d1 d2 d3 d4 d5 zz
  go_wp2_with fail
  refine (HR.out _ HB4.out).mono ?_
  rintro e w5 ⟨rfl, hb⟩
  obtain ⟨p0, p1, p2, p3, p4, p5⟩ := box_kept hb
  have q0 := (hb.cell (p := ⟨w2.heap.size, 0, none⟩) (by simp; omega)).trans ((World.cell?_alloc_lt _ _ _ zy).trans c0)
  have q1 := (hb.cell (p := ⟨w2.heap.size, 1, none⟩) (by simp; omega)).trans ((World.cell?_alloc_lt _ _ _ zy).trans c1)
  have q2 := (hb.cell (p := ⟨w2.heap.size, 2, none⟩) (by simp; omega)).trans ((World.cell?_alloc_lt _ _ _ zy).trans c2)
  have q3 := (hb.cell (p := ⟨w2.heap.size, 3, none⟩) (by simp; omega)).trans ((World.cell?_alloc_lt _ _ _ zy).trans c3)
  have q4 := (hb.cell (p := ⟨w2.heap.size, 4, none⟩) (by simp; omega)).trans ((World.cell?_alloc_lt _ _ _ zy).trans c4)
  have q5 := (hb.cell (p := ⟨w2.heap.size, 5, none⟩) (by simp; omega)).trans ((World.cell?_alloc_lt _ _ _ zy).trans c5)
  have u1 : w4.heap.size < w5.heap.size := by have := hb.size; simp at this; omega
  have u2 : w2.heap.size < w5.heap.size := by omega
  have HB5 := hide (HB4.out.trans (hb.mono HB4.out.size))
  clear hb c0 c1 c2 c3 c4 c5 zy
  go_wp2_with fail
  refine (HW.out _ HB5.out).mono ?_
  rintro e w6 ⟨rfl, hb⟩
  have a0 := (hb.cell (p := ⟨w2.heap.size, 0, none⟩) u2).trans q0
  have b0 := (hb.cell (p := ⟨w4.heap.size, 0, none⟩) u1).trans p0
  have a1 := (hb.cell (p := ⟨w2.heap.size, 1, none⟩) u2).trans q1
  have b1 := (hb.cell (p := ⟨w4.heap.size, 1, none⟩) u1).trans p1
  have a2 := (hb.cell (p := ⟨w2.heap.size, 2, none⟩) u2).trans q2
  have b2 := (hb.cell (p := ⟨w4.heap.size, 2, none⟩) u1).trans p2
  have a3 := (hb.cell (p := ⟨w2.heap.size, 3, none⟩) u2).trans q3
  have b3 := (hb.cell (p := ⟨w4.heap.size, 3, none⟩) u1).trans p3
  have a4 := (hb.cell (p := ⟨w2.heap.size, 4, none⟩) u2).trans q4
  have b4 := (hb.cell (p := ⟨w4.heap.size, 4, none⟩) u1).trans p4
  have a5 := (hb.cell (p := ⟨w2.heap.size, 5, none⟩) u2).trans q5
  have b5 := (hb.cell (p := ⟨w4.heap.size, 5, none⟩) u1).trans p5
  have HB6 := hide (HB5.out.trans (hb.mono HB5.out.size))
  clear hb p0 p1 p2 p3 p4 p5 q0 q1 q2 q3 q4 q5 u1 u2
  have hq := HQ.out
  have hu := HU.out
  go_wp2_with fail
  refine (HA.out _ HB6.out).mono ?_
  rintro e w7 ⟨rfl, hb⟩
  have HB7 := hide (HB6.out.trans (hb.mono HB6.out.size))
  clear hb hq hu
  go_wp2_with fail
  go_ret
  exact ⟨rfl, HB7.out⟩
set_option maxHeartbeats 1000000 in
theorem texts_out_no1 (n a b c e f g : Int) (w : World) (h0 : n < 0)
    (hM : (∀ w', Below w.heap.size w w' → Calls Tryd.prog 12 #[vD a b c e f g] w' fun e w2 => e = .returned (.tuple #[.int .i64 0, .int .i64 30]) ∧ Below w'.heap.size w' w2)) (hE : (∀ w', Below w.heap.size w w' → Calls Tryd.prog 17 #[vD a b c e f g] w' fun e w2 => e = .returned (.string ⟨#[]⟩) ∧ Below w'.heap.size w' w2))
    (hA : (∀ w', Below w.heap.size w w' → Calls Tryd.prog 11 #[] w' fun e w2 => e = .returned (.bool true) ∧ Below w'.heap.size w' w2)) : Calls Tryd.prog 5 #[.int .i64 n, vD a b c e f g] w fun e w' => e = .returned (.bool true) ∧ Below w.heap.size w w' := by
  have HM := hide hM
  have HE := hide hE
  have HA := hide hA
  clear hM hE hA
  have HB0 := hide ((Below.refl w.heap.size w).alloc (Nat.le_refl _) (.cells #[.int .i64 a, .int .i64 b, .int .i64 c, .int .i64 e, .int .i64 f, .int .i64 g] 23))
  go_enter Tryd.func5, Tryd.ntmps5
  go_wp2_with fail
  refine (HM.out _ HB0.out).mono ?_
  rintro e w1 ⟨rfl, hb⟩
  have HB1 := hide (HB0.out.trans (hb.mono HB0.out.size))
  obtain ⟨d0, d1, d2, d3, d4, d5⟩ := box_kept hb
  clear hb
  go_wp2_with fail
  refine (HE.out _ HB1.out).mono ?_
  rintro e w2 ⟨rfl, hb⟩
  have HB2 := hide (HB1.out.trans (hb.mono HB1.out.size))
  clear d0 d1 d2 d3 d4 d5
  clear hb
  go_wp2_with fail
  refine (HA.out _ HB2.out).mono ?_
  rintro e w3 ⟨rfl, hb⟩
  have HB3 := hide (HB2.out.trans (hb.mono HB2.out.size))
  clear hb
  go_wp2_with fail
  go_ret
  exact ⟨rfl, HB3.out⟩
set_option maxHeartbeats 1000000 in
theorem texts_out_no2 (n a b c e f g : Int) (w : World) (h0 : 2147483648 ≤ n)
    (hM : (∀ w', Below w.heap.size w w' → Calls Tryd.prog 12 #[vD a b c e f g] w' fun e w2 => e = .returned (.tuple #[.int .i64 0, .int .i64 30]) ∧ Below w'.heap.size w' w2)) (hE : (∀ w', Below w.heap.size w w' → Calls Tryd.prog 17 #[vD a b c e f g] w' fun e w2 => e = .returned (.string ⟨#[]⟩) ∧ Below w'.heap.size w' w2))
    (hA : (∀ w', Below w.heap.size w w' → Calls Tryd.prog 11 #[] w' fun e w2 => e = .returned (.bool true) ∧ Below w'.heap.size w' w2)) : Calls Tryd.prog 5 #[.int .i64 n, vD a b c e f g] w fun e w' => e = .returned (.bool true) ∧ Below w.heap.size w w' := by
  have HM := hide hM
  have HE := hide hE
  have HA := hide hA
  clear hM hE hA
  have HB0 := hide ((Below.refl w.heap.size w).alloc (Nat.le_refl _) (.cells #[.int .i64 a, .int .i64 b, .int .i64 c, .int .i64 e, .int .i64 f, .int .i64 g] 23))
  have h' : ¬ n < 0 := by omega
  go_enter Tryd.func5, Tryd.ntmps5
  go_wp2_with fail
  refine (HM.out _ HB0.out).mono ?_
  rintro e w1 ⟨rfl, hb⟩
  have HB1 := hide (HB0.out.trans (hb.mono HB0.out.size))
  obtain ⟨d0, d1, d2, d3, d4, d5⟩ := box_kept hb
  clear hb
  go_wp2_with fail
  refine (HE.out _ HB1.out).mono ?_
  rintro e w2 ⟨rfl, hb⟩
  have HB2 := hide (HB1.out.trans (hb.mono HB1.out.size))
  clear d0 d1 d2 d3 d4 d5
  clear hb
  go_wp2_with fail
  refine (HA.out _ HB2.out).mono ?_
  rintro e w3 ⟨rfl, hb⟩
  have HB3 := hide (HB2.out.trans (hb.mono HB2.out.size))
  clear hb
  go_wp2_with fail
  go_ret
  exact ⟨rfl, HB3.out⟩
set_option maxHeartbeats 4000000 in
theorem texts_in_no (n a b c e f g y m d h mi wd : Int) (t : ByteArray) (w : World) (h0 : 0 ≤ n) (h1 : n < 2147483648)
    (hM : (∀ w', Below w.heap.size w w' → Calls Tryd.prog 12 #[vD a b c e f g] w' fun e w2 => e = .returned (.tuple #[.int .i64 0, .int .i64 30]) ∧ Below w'.heap.size w' w2)) (hE : (∀ w', Below w.heap.size w w' → Calls Tryd.prog 17 #[vD a b c e f g] w' fun e w2 => e = .returned (.string ⟨#[]⟩) ∧ Below w'.heap.size w' w2))
    (hO : (∀ w', Below w.heap.size w w' → Calls Tryd.prog 10 #[.int .i64 n] w' fun e w2 => e = .returned (.tuple #[vD y m d h mi wd, .int .i64 0]) ∧ Below w'.heap.size w' w2))
    (hS : (∀ w', Below w.heap.size w w' → Calls Tryd.prog 17 #[vD y m d h mi wd] w' fun e w2 => e = .returned (.string t) ∧ Below w'.heap.size w' w2))
    (hP : (∀ w', Below w.heap.size w w' → Calls Tryd.prog 18 #[.string t] w' fun e w2 => e = .returned (.tuple #[vD y m d h mi wd, .int .i64 0]) ∧ Below w'.heap.size w' w2))
    (hR : (∀ w', Below w.heap.size w w' → Calls Tryd.prog 13 #[vD y m d h mi wd] w' fun e w2 => e = .returned (vD y m d h mi wd) ∧ Below w'.heap.size w' w2))
    (hW : (∀ w', Below w.heap.size w w' → Calls Tryd.prog 19 #[vD y m d h mi wd] w' fun e w2 => e = .returned (.string t) ∧ Below w'.heap.size w' w2))
    (hA : (∀ w', Below w.heap.size w w' → Calls Tryd.prog 11 #[] w' fun e w2 => e = .returned (.bool true) ∧ Below w'.heap.size w' w2)) : Calls Tryd.prog 5 #[.int .i64 n, vD a b c e f g] w fun e w' => e = .returned (.bool true) ∧ Below w.heap.size w w' := by
  have HM := hide hM
  have HE := hide hE
  have HO := hide hO
  have HS := hide hS
  have HP := hide hP
  have HR := hide hR
  have HW := hide hW
  have HA := hide hA
  clear hM hE hO hS hP hR hW hA
  have HB0 := hide ((Below.refl w.heap.size w).alloc (Nat.le_refl _) (.cells #[.int .i64 a, .int .i64 b, .int .i64 c, .int .i64 e, .int .i64 f, .int .i64 g] 23))
  have HQ : Hid (∀ w, (binOp .eql 23 (vD y m d h mi wd) (vD y m d h mi wd)).run Tryd.prog w = .ok (.bool true) w) := hide fun w => by rw [run_eql_date, (sameD_iff _ _ _ _ _ _ _ _ _ _ _ _).2 ⟨rfl, rfl, rfl, rfl, rfl, rfl⟩]
  have HU := hide (run_guard_date y m d h mi wd y m d h mi wd)
  go_enter Tryd.func5, Tryd.ntmps5
  go_wp2_with fail
  refine (HM.out _ HB0.out).mono ?_
  rintro e w1 ⟨rfl, hb⟩
  have HB1 := hide (HB0.out.trans (hb.mono HB0.out.size))
  obtain ⟨d0, d1, d2, d3, d4, d5⟩ := box_kept hb
  clear hb
  go_wp2_with fail
  refine (HE.out _ HB1.out).mono ?_
  rintro e w2 ⟨rfl, hb⟩
  have HB2 := hide (HB1.out.trans (hb.mono HB1.out.size))
  clear d0 d1 d2 d3 d4 d5
  clear hb
  go_wp2_with fail
  refine (HO.out _ HB2.out).mono ?_
  rintro e w3 ⟨rfl, hb⟩
  have HB3 := hide ((HB2.out.trans (hb.mono HB2.out.size)).alloc (HB2.out.trans (hb.mono HB2.out.size)).size (.cells #[.int .i64 y, .int .i64 m, .int .i64 d, .int .i64 h, .int .i64 mi, .int .i64 wd] 23))
  clear hb
  go_wp2_with fail
  refine (HS.out _ HB3.out).mono ?_
  rintro e w4 ⟨rfl, hb⟩
  obtain ⟨d0, d1, d2, d3, d4, d5⟩ := box_kept hb
  have z := hb.size
  have zz : w3.heap.size < w4.heap.size := by simp at z; omega
  have HB4 := hide (HB3.out.trans (hb.mono HB3.out.size))
  clear hb z
  go_wp2_with fail
  refine (HP.out _ HB4.out).mono ?_
  rintro e w5 ⟨rfl, hb⟩
  have c0 := (hb.cell (p := ⟨w3.heap.size, 0, none⟩) zz).trans d0
  have c1 := (hb.cell (p := ⟨w3.heap.size, 1, none⟩) zz).trans d1
  have c2 := (hb.cell (p := ⟨w3.heap.size, 2, none⟩) zz).trans d2
  have c3 := (hb.cell (p := ⟨w3.heap.size, 3, none⟩) zz).trans d3
  have c4 := (hb.cell (p := ⟨w3.heap.size, 4, none⟩) zz).trans d4
  have c5 := (hb.cell (p := ⟨w3.heap.size, 5, none⟩) zz).trans d5
  have zy := Nat.lt_of_lt_of_le zz hb.size
  have HB5 := hide ((HB4.out.trans (hb.mono HB4.out.size)).alloc (HB4.out.trans (hb.mono HB4.out.size)).size (.cells #[.int .i64 y, .int .i64 m, .int .i64 d, .int .i64 h, .int .i64 mi, .int .i64 wd] 23))
  clear hb d0 d1 d2 d3 d4 d5 zz
  go_wp2_with fail
  refine (HR.out _ HB5.out).mono ?_
  rintro e w6 ⟨rfl, hb⟩
  obtain ⟨p0, p1, p2, p3, p4, p5⟩ := box_kept hb
  have q0 := (hb.cell (p := ⟨w3.heap.size, 0, none⟩) (by simp; omega)).trans ((World.cell?_alloc_lt _ _ _ zy).trans c0)
  have q1 := (hb.cell (p := ⟨w3.heap.size, 1, none⟩) (by simp; omega)).trans ((World.cell?_alloc_lt _ _ _ zy).trans c1)
  have q2 := (hb.cell (p := ⟨w3.heap.size, 2, none⟩) (by simp; omega)).trans ((World.cell?_alloc_lt _ _ _ zy).trans c2)
  have q3 := (hb.cell (p := ⟨w3.heap.size, 3, none⟩) (by simp; omega)).trans ((World.cell?_alloc_lt _ _ _ zy).trans c3)
  have q4 := (hb.cell (p := ⟨w3.heap.size, 4, none⟩) (by simp; omega)).trans ((World.cell?_alloc_lt _ _ _ zy).trans c4)
  have q5 := (hb.cell (p := ⟨w3.heap.size, 5, none⟩) (by simp; omega)).trans ((World.cell?_alloc_lt _ _ _ zy).trans c5)
  have u1 : w5.heap.size < w6.heap.size := by have := hb.size; simp at this; omega
  have u2 : w3.heap.size < w6.heap.size := by omega
  have HB6 := hide (HB5.out.trans (hb.mono HB5.out.size))
  clear hb c0 c1 c2 c3 c4 c5 zy
  go_wp2_with fail
  refine (HW.out _ HB6.out).mono ?_
  rintro e w7 ⟨rfl, hb⟩
  have a0 := (hb.cell (p := ⟨w3.heap.size, 0, none⟩) u2).trans q0
  have b0 := (hb.cell (p := ⟨w5.heap.size, 0, none⟩) u1).trans p0
  have a1 := (hb.cell (p := ⟨w3.heap.size, 1, none⟩) u2).trans q1
  have b1 := (hb.cell (p := ⟨w5.heap.size, 1, none⟩) u1).trans p1
  have a2 := (hb.cell (p := ⟨w3.heap.size, 2, none⟩) u2).trans q2
  have b2 := (hb.cell (p := ⟨w5.heap.size, 2, none⟩) u1).trans p2
  have a3 := (hb.cell (p := ⟨w3.heap.size, 3, none⟩) u2).trans q3
  have b3 := (hb.cell (p := ⟨w5.heap.size, 3, none⟩) u1).trans p3
  have a4 := (hb.cell (p := ⟨w3.heap.size, 4, none⟩) u2).trans q4
  have b4 := (hb.cell (p := ⟨w5.heap.size, 4, none⟩) u1).trans p4
  have a5 := (hb.cell (p := ⟨w3.heap.size, 5, none⟩) u2).trans q5
  have b5 := (hb.cell (p := ⟨w5.heap.size, 5, none⟩) u1).trans p5
  have HB7 := hide (HB6.out.trans (hb.mono HB6.out.size))
  clear hb p0 p1 p2 p3 p4 p5 q0 q1 q2 q3 q4 q5 u1 u2
  have hq := HQ.out
  have hu := HU.out
  go_wp2_with fail
  refine (HA.out _ HB7.out).mono ?_
  rintro e w8 ⟨rfl, hb⟩
  have HB8 := hide (HB7.out.trans (hb.mono HB7.out.size))
  clear hb hq hu
  go_wp2_with fail
  go_ret
  exact ⟨rfl, HB8.out⟩
theorem textL_inj {n k : Int} (h0 : 0 ≤ n) (h1 : n < 2147483648) (k0 : 0 ≤ k) (k1 : k < 2147483648) (h : textL n = textL k) : n = k := by
  obtain ⟨a1, a2, a3, a4, a5⟩ := num_parts h0 h1
  obtain ⟨b1, b2, b3, b4, b5⟩ := num_parts k0 k1
  rw [h] at a1 a2 a3 a4 a5
  have e1 : Y n = Y k := a1.symm.trans b1
  have e2 : K n = K k := by have := a2.symm.trans b2; omega
  have e3 : D n = D k := a3.symm.trans b3
  have e4 := a4.symm.trans b4
  have e5 := a5.symm.trans b5
  have f1 := n_eq (n := n)
  have f2 := n_eq (n := k)
  rw [e1, e2, e3, e4, e5, ← f2] at f1
  exact f1
theorem parse_back {n : Int} (h0 : 0 ≤ n) (h1 : n < 2147483648) {w : World} (e : Ending) (w' : World) (h : ParseOut (⟨(textL n).toArray⟩ : ByteArray).data.toList w e w') : e = .returned (.tuple #[vDate n, .int .i64 0]) ∧ Below w.heap.size w w' := by
  rcases h with ⟨⟨k, k0, k1, hl, rfl⟩ | ⟨hno, -⟩, hb⟩
  · obtain rfl := textL_inj h0 h1 k0 k1 hl
    exact ⟨rfl, hb⟩
  · exact absurd rfl (hno n h0 h1)
theorem calendarTexts_walk (n a b c e f g : Int) (w : World) (_ : -9223372036854775808 ≤ n) (_ : n ≤ 9223372036854775807) (ht : Tab w) (hM : Mon w) (hE : Errs w) : Calls Tryd.prog 5 #[.int .i64 n, vD a b c e f g] w fun e w' => e = .returned (.bool true) ∧ Below w.heap.size w w' := by
  have hA := fun w' (hb : Below w.heap.size w w') => awake_any w' (ht.on hb) (hM.on hb)
  by_cases hd : ∃ k, IsD a b c e f g k
  · obtain ⟨k, k0, k1, rfl, rfl, rfl, rfl, rfl, rfl⟩ := hd
    have hm := fun w' (hb : Below w.heap.size w w') => min_yes (n := k) w' (hM.on hb) k0 k1
    by_cases hn : 0 ≤ n ∧ n < 2147483648
    · obtain ⟨h0, h1⟩ := hn
      refine texts_in_ok n _ _ _ _ _ _ k _ _ _ _ _ _ ⟨(textL n).toArray⟩ w h0 h1 hm (fun w' hb => of_yes n w' h0 h1 (hM.on hb)) (fun w' hb => show_yes w' (ht.on hb) (hM.on hb) h0 h1) (fun w' hb => ?_) (fun w' _ => ref_any _ _ _ _ _ _ w') (fun w' _ => rshow_any w' h0 h1) hA
      exact (parse_any _ w' (ht.on hb) (hM.on hb) (hE.on hb)).mono (parse_back h0 h1)
    · by_cases h0 : n < 0
      · exact texts_out_ok1 n _ _ _ _ _ _ k w h0 hm hA
      · exact texts_out_ok2 n _ _ _ _ _ _ k w (by omega) hm hA
  · have hd' : ∀ k, ¬ IsD a b c e f g k := fun k hk => hd ⟨k, hk⟩
    have hm := fun w' (hb : Below w.heap.size w w') => min_no a b c e f g w' (hM.on hb) hd'
    have hs := fun w' (hb : Below w.heap.size w w') => show_no a b c e f g w' (hM.on hb) hd'
    by_cases hn : 0 ≤ n ∧ n < 2147483648
    · obtain ⟨h0, h1⟩ := hn
      refine texts_in_no n _ _ _ _ _ _ _ _ _ _ _ _ ⟨(textL n).toArray⟩ w h0 h1 hm hs (fun w' hb => of_yes n w' h0 h1 (hM.on hb)) (fun w' hb => show_yes w' (ht.on hb) (hM.on hb) h0 h1) (fun w' hb => ?_) (fun w' _ => ref_any _ _ _ _ _ _ w') (fun w' _ => rshow_any w' h0 h1) hA
      exact (parse_any _ w' (ht.on hb) (hM.on hb) (hE.on hb)).mono (parse_back h0 h1)
    · by_cases h0 : n < 0
      · exact texts_out_no1 n _ _ _ _ _ _ w h0 hm hs hA
      · exact texts_out_no2 n _ _ _ _ _ _ w (by omega) hm hs hA
end Go.Proofs.YtnopejobefkflaaDoor
