/-
  The reference's Number and Show; the laws' fixed example.
-/
import Derived.Test.YtomhiganfmoceaaDoorWParse
import Derived.Test.YtomhiganfmoceaaDoorWOf
import Derived.Test.YtomhiganfmoceaaDoorJNum
namespace Go.Proofs.YtomhiganfmoceaaDoor
open Go.RowKit Go.Sort CM JM WM

theorem tmod_neg10 {n : Int} (h : n < 0) : n.tmod 10 = -((n.natAbs % 10 : Nat) : Int) := by
  have h1 : n = -((n.natAbs : Nat) : Int) := by omega
  conv => lhs; rw [h1]
  rw [Int.neg_tmod, Int.tmod_eq_emod_of_nonneg (by omega)]
  omega
theorem tdiv_neg10 {n : Int} (h : n < 0) : -(n.tdiv 10) = ((n.natAbs / 10 : Nat) : Int) := by
  have h1 : n = -((n.natAbs : Nat) : Int) := by omega
  conv => lhs; rw [h1]
  rw [Int.neg_tdiv, Int.tdiv_eq_ediv_of_nonneg (by omega)]
  omega
set_option maxHeartbeats 1000000 in
set_option maxRecDepth 100000 in
theorem number_neg_small (n : Int) (w : World) (h0 : n < 0) (h1 : -10 < n) :
    Calls Tryd.prog 38 #[.int .i64 n] w fun e w' => e = .returned (.string ⟨(45 :: Lib.decDigits n.natAbs).toArray⟩) ∧ Below w.heap.size w w' := by
  have hm := tmod_neg10 h0
  have b1 : -9 ≤ n.tmod 10 := by omega
  have b2 : n.tmod 10 ≤ 0 := by omega
  have hcv := fun w => conv_one (48 - n.tmod 10) (dig n.natAbs) (by rw [dig_val]; omega) w
  have HD := Lib.hid (decS (u := n.natAbs) (by omega))
  have g : ¬ n ≤ -10 := by omega
  clear hm
  go_enter Tryd.func38, Tryd.ntmps38
  go_wp2_with fail
  go_ret
  exact ⟨by rw [HD.out]; exact congrArg (fun b => Ending.returned (.string b)) (cat_eq [45] _), by go_grown⟩
set_option maxHeartbeats 1000000 in
set_option maxRecDepth 100000 in
theorem number_neg_big (n : Int) (w : World) (h9 : -9223372036854775808 ≤ n) (h0 : n ≤ -10)
    (ih : ∀ w, Calls Tryd.prog 38 #[.int .i64 (-(n.tdiv 10))] w fun e w' => e = .returned (.string ⟨(Lib.decDigits (n.natAbs / 10)).toArray⟩) ∧ Below w.heap.size w w') :
    Calls Tryd.prog 38 #[.int .i64 n] w fun e w' => e = .returned (.string ⟨(45 :: Lib.decDigits n.natAbs).toArray⟩) ∧ Below w.heap.size w w' := by
  have h0' : n < 0 := by omega
  have hm := tmod_neg10 h0'
  have hd := tdiv_neg10 h0'
  have b1 : -9 ≤ n.tmod 10 := by omega
  have b2 : n.tmod 10 ≤ 0 := by omega
  have b3 : n.tdiv 10 ≤ 0 := by omega
  have b4 : -1000000000000000000 ≤ n.tdiv 10 := by omega
  have hcv := fun w => conv_one (48 - n.tmod 10) (dig n.natAbs) (by rw [dig_val]; omega) w
  have HD := Lib.hid (decB (u := n.natAbs) (by omega))
  have hl := decLen (n.natAbs / 10) (by omega)
  have hl2 : ¬ 9223372036854775807 < (Lib.decDigits (n.natAbs / 10)).length + 1 := by omega
  have hl3 : ¬ 9223372036854775807 < 1 + ((Lib.decDigits (n.natAbs / 10)).length + 1) := by omega
  have IH := Lib.hid ih
  clear hm hd ih hl
  go_enter Tryd.func38, Tryd.ntmps38
  go_wp2_with fail
  refine (IH.out _).mono ?_
  rintro e w1 ⟨rfl, hb1⟩
  have q1 : Below w.heap.size w w1 := (Joins.below_alloc1 w _).trans (hb1.mono (by simp))
  clear hb1
  go_wp2_with fail
  go_ret
  exact ⟨by rw [HD.out]; exact congrArg (fun b => Ending.returned (.string b)) (by rw [show ({ data := #[dig n.natAbs] } : ByteArray) = ⟨[dig n.natAbs].toArray⟩ from rfl, cat_eq]; exact cat_eq [45] _), q1⟩
theorem rnum_any (n : Int) (w : World) (h0 : -1000000 ≤ n) (h1 : n ≤ 1000000) :
    Calls Tryd.prog 38 #[.int .i64 n] w fun e w' => e = .returned (txt (Lib.itoa n)) ∧ Below w.heap.size w w' := by
  by_cases h : n < 0
  · rw [show Lib.itoa n = 45 :: Lib.decDigits n.natAbs by unfold Lib.itoa; rw [if_pos h]]
    by_cases h1 : -10 < n
    · exact number_neg_small n w h h1
    · refine number_neg_big n w (by omega) (by omega) fun w => ?_
      rw [tdiv_neg10 h]
      exact rnumber_any _ w (by omega)
  · rw [show Lib.itoa n = Lib.decDigits n.toNat by unfold Lib.itoa; rw [if_neg h]]
    have q := rnumber_any n.toNat w (by omega)
    rw [Int.toNat_of_nonneg (by omega)] at q
    exact q
set_option maxHeartbeats 2000000 in
set_option maxRecDepth 100000 in
theorem rmshow_word (k : Int) (hk : k = 1 ∨ k = 4 ∨ k = 5) (w : World) : Calls Tryd.prog 21 #[vM k 0] w fun e w' => e = .returned (txt (wordW k)) ∧ Below w.heap.size w w' := by
  have q0 : Below w.heap.size w (w.alloc (.cells #[.int .i64 k, .int .i64 0] 40)) := (Below.refl _ _).alloc (Nat.le_refl _) _
  have HB0 : Hid (∀ o : Obj, Below w.heap.size w ((w.alloc (.cells #[.int .i64 k, .int .i64 0] 40)).alloc o)) := hide fun o => q0.alloc q0.size o
  clear q0
  rcases hk with rfl | rfl | rfl
  all_goals (
    go_enter Tryd.func21, Tryd.ntmps21
    go_wp2_with fail
    go_ret
    exact ⟨rfl, HB0.out _⟩)
set_option maxHeartbeats 2000000 in
set_option maxRecDepth 100000 in
theorem rmshow_num (k n : Int) (x T : List UInt8) (hk : k = 2 ∨ k = 3) (w : World) (lx : x.length ≤ 30) (hT : T = wordW k ++ (32 :: x)) (hx : ∀ w, Calls Tryd.prog 38 #[.int .i64 n] w fun e w' => e = .returned (txt x) ∧ Below w.heap.size w w') :
    Calls Tryd.prog 21 #[vM k n] w fun e w' => e = .returned (txt T) ∧ Below w.heap.size w w' := by
  have q0 : Below w.heap.size w (w.alloc (.cells #[.int .i64 k, .int .i64 n] 40)) := (Below.refl _ _).alloc (Nat.le_refl _) _
  have HB0 : Hid (∀ o : Obj, Below w.heap.size w ((w.alloc (.cells #[.int .i64 k, .int .i64 n] 40)).alloc o)) := hide fun o => q0.alloc q0.size o
  have HX := hide hx
  clear q0 hx
  rcases hk with rfl | rfl
  · have HE : Hid ((⟨#[108, 97, 115, 116]⟩ : ByteArray) ++ ⟨#[32]⟩ ++ ⟨x.toArray⟩ = ⟨T.toArray⟩) := hide (by
      rw [hT, show wordW 2 = [108, 97, 115, 116] from rfl]
      apply ByteArray.ext; simp [ByteArray.data_append])
    clear hT
    go_enter Tryd.func21, Tryd.ntmps21
    go_wp2_with fail
    refine (HX.out _).mono ?_
    rintro e w1 ⟨rfl, hb⟩
    have HB1 := hide ((HB0.out _).trans (hb.mono (HB0.out _).size))
    clear hb
    go_wp2_with fail
    go_ret
    exact ⟨ret_str HE.out, HB1.out⟩
  · have HE : Hid ((⟨#[115, 104, 105, 102, 116]⟩ : ByteArray) ++ ⟨#[32]⟩ ++ ⟨x.toArray⟩ = ⟨T.toArray⟩) := hide (by
      rw [hT, show wordW 3 = [115, 104, 105, 102, 116] from rfl]
      apply ByteArray.ext; simp [ByteArray.data_append])
    clear hT
    go_enter Tryd.func21, Tryd.ntmps21
    go_wp2_with fail
    refine (HX.out _).mono ?_
    rintro e w1 ⟨rfl, hb⟩
    have HB1 := hide ((HB0.out _).trans (hb.mono (HB0.out _).size))
    clear hb
    go_wp2_with fail
    go_ret
    exact ⟨ret_str HE.out, HB1.out⟩
theorem rmshow_any (k n : Int) (w : World) (hq : formB k n = true) : Calls Tryd.prog 21 #[vM k n] w fun e w' => e = .returned (txt (showM k n)) ∧ Below w.heap.size w w' := by
  have hf := formB_iff.1 hq
  obtain ⟨hkk, h0, h1⟩ := form_kind hq
  rw [show showM k n = textM k n from if_pos hq]
  by_cases hk : k = 1 ∨ k = 4 ∨ k = 5
  · obtain rfl : n = 0 := by omega
    rw [show textM k 0 = wordW k from if_pos rfl]
    exact rmshow_word k hk w
  · have hn : ¬ n = 0 := by omega
    rw [show textM k n = wordW k ++ (32 :: Lib.itoa n) from if_neg hn]
    exact rmshow_num k n (Lib.itoa n) _ (by omega) w (by have := Lib.itoa_length_le n (by omega) (by omega); omega) rfl fun w => rnum_any n w (by omega) (by omega)
/-- What Of tells in the fixed example. -/
theorem aw_of (w : World) (hM : Mon w) : Calls Tryd.prog 13 #[vM 2 3, vS 2 0 9, vS 2 0 9, .int .i64 1] w fun e w' => (∃ b cap, e = .returned (.slice (some ⟨b, 0, none⟩) 2 cap) ∧ b < w'.heap.size ∧ w'.cell? ⟨b, 0, none⟩ = some (.int .i64 0) ∧ w'.cell? ⟨b, 1, none⟩ = some (.int .i64 1)) ∧ Below w.heap.size w w' := by
  refine (of_any 2 3 2 0 9 2 0 9 1 10 w hM (by omega) (by omega) (by decide) (by decide)).mono ?_
  rintro e w' ⟨⟨A, cap, x, y, ⟨h1, h2, h3⟩, rfl, hA⟩, hb⟩
  have e0 := (h3 0 (by omega)).1 (by decide)
  have e1 := (h3 1 (by omega)).1 (by decide)
  have e2 : ¬ (x ≤ 2 ∧ 2 < y) := fun h => by
    have := (h3 2 (by omega)).2 h
    revert this
    decide
  obtain rfl : x = 0 := by omega
  obtain rfl : y = 2 := by omega
  obtain ⟨b, rfl, hb0, hc0⟩ := hA 0 (by omega)
  obtain ⟨b', hbb, hb1, hc1⟩ := hA 1 (by omega)
  obtain rfl : b = b' := by injection hbb with h; injection h
  exact ⟨⟨b, cap, rfl, hb0, hc0, hc1⟩, hb⟩
theorem aw_show (w : World) (hR : Ra w) : Calls Tryd.prog 18 #[vM 2 3] w fun e w' => e = .returned (.string ⟨#[108, 97, 115, 116, 32, 51]⟩) ∧ Below w.heap.size w w' := by
  have h := mshow_any 2 3 w hR
  rw [show showM 2 3 = [108, 97, 115, 116, 32, 51] by
    rw [show showM 2 3 = wordW 2 ++ (32 :: Lib.itoa 3) from rfl, itoa_dec (by omega), show (3 : Int).toNat = 3 from rfl, dec_small (by omega)]; rfl] at h
  exact h
set_option maxHeartbeats 2000000 in
theorem mawake_any (w : World) (hR : Ra w) : Calls Tryd.prog 11 #[] w fun e w' => e = .returned (.bool true) ∧ Below w.heap.size w w' := by
  have HB0 := hide (box_below w 2 0 9)
  have HO := hide (aw_of (w.alloc (.cells #[.int .i64 2, .int .i64 0, .int .i64 9] 25)) (hR.on HB0.out).mon)
  have HS := hide aw_show
  have HR := hide hR
  clear hR
  go_enter Tryd.func11, Tryd.ntmps11
  go_wp2_with fail
  refine HO.out.mono ?_
  rintro e w1 ⟨⟨b, cap, rfl, hbl, c0, c1⟩, hb⟩
  have HB1 := hide (HB0.out.trans (hb.mono HB0.out.size))
  clear hb
  go_wp2_with fail
  refine (HS.out _ (HR.out.on HB1.out)).mono ?_
  rintro e w2 ⟨rfl, hb⟩
  have HB2 := hide (HB1.out.trans (hb.mono HB1.out.size))
  clear hb c0 c1 hbl
  go_wp2_with fail
  go_ret
  exact ⟨rfl, HB2.out⟩
end Go.Proofs.YtomhiganfmoceaaDoor
