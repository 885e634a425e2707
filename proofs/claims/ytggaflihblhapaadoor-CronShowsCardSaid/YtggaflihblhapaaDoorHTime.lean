/-
  The least number of a set; Match; times of a day.
-/
import Derived.Test.YtggaflihblhapaaDoorHDay
import Derived.Shelf.Spec.TrailingZeros
namespace Go.Proofs.YtggaflihblhapaaDoor
open Go.RowKit CM HM

theorem tz_core (x k idx : Nat) (w : World) (hx0 : ((x : Int) == 0) = false)
    (key : IntKind.u64.wrap (bits BinOp.and IntKind.u64 (x : Int) (IntKind.u64.wrap (-(x : Int))) * 285870213051353865) / 288230376151711744 = (idx : Int))
    (hi : idx < 64) (hk : k < 64) (hcell : w.cell? ⟨6, idx, none⟩ = some (.int .u8 k)) :
    Calls Tryd.prog 110 #[.int .u64 (x : Nat)] w fun e w' => e = .returned (.int .i64 (k : Nat)) ∧ w = w' := by
  go_enter Tryd.func110, Tryd.ntmps110
  go_wp2_with (simp only [key])
  go_ret
  exact ⟨rfl, rfl⟩
theorem tz_any (x : Nat) (w : World) (h0 : x ≠ 0) (hx : x < 18446744073709551616) (hT : Bru w) : Calls Tryd.prog 110 #[.int .u64 (x : Nat)] w fun e w' => e = .returned (.int .i64 (lst x : Nat)) ∧ w = w' := by
  obtain ⟨hlow, hk⟩ := Lib.lowest_bit 64 x h0 hx
  obtain ⟨hi, htab⟩ := Lib.deBruijn64_at _ hk
  have hcell := hT _ hi
  rw [htab] at hcell
  exact tz_core x _ _ w (by simp; omega) (tz64_key x _ hx h0 hlow) hi hk hcell
theorem least_any (x : Nat) (w : World) (h0 : x ≠ 0) (hx : x < 18446744073709551616) (hT : Bru w) : Calls Tryd.prog 98 #[.int .u64 (x : Nat)] w fun e w' => e = .returned (.int .i64 (lst x : Nat)) ∧ w = w' := by
  have H := hide (tz_any x w h0 hx hT)
  clear h0 hx hT
  go_enter Tryd.func98, Tryd.ntmps98
  go_wp2_with fail
  refine H.out.mono ?_
  rintro e w' ⟨rfl, rfl⟩
  go_wp2_with fail
  go_ret
  exact ⟨rfl, rfl⟩
/-- A box of a spec. -/
abbrev boxC (w : World) (c : Sp) : World := w.alloc (.cells #[.int .u64 (c.S 0 : Nat), .int .u64 (c.S 1 : Nat), .int .u64 (c.S 2 : Nat), .int .u64 (c.S 3 : Nat), .int .u64 (c.S 4 : Nat), .bool (c.A 0), .bool (c.A 1), .bool (c.A 2), .bool (c.A 3), .bool (c.A 4)] 26)
abbrev boxD (w : World) (a b c d e f : Int) : World := w.alloc (.cells #[.int .i64 a, .int .i64 b, .int .i64 c, .int .i64 d, .int .i64 e, .int .i64 f] 90)
set_option maxHeartbeats 2000000 in
theorem match_yes (c : Sp) (n : Int) (w : World) (hc : c.wf) (hv : validB c = true) (h0 : 0 ≤ n) (h1 : n < 2147483648) (hM : Mon w) (hB : Bnd w) : Calls Tryd.prog 36 #[vC c, .int .i64 n] w fun e w' => e = .returned (.bool (matB c n)) ∧ Below w.heap.size w w' := by
  have HE := hide (mat_parts c (n := n))
  have hk := K_spec h0
  have hd := D_bd h0
  have HO := hide (of_yes n (w.alloc (.cells #[.int .u64 (c.S 0 : Nat), .int .u64 (c.S 1 : Nat), .int .u64 (c.S 2 : Nat), .int .u64 (c.S 3 : Nat), .int .u64 (c.S 4 : Nat), .bool (c.A 0), .bool (c.A 1), .bool (c.A 2), .bool (c.A 3), .bool (c.A 4)] 26)) h0 h1 (hM.on ((Below.refl _ _).alloc (Nat.le_refl _) _)))
  have HC := hide (fun w hB => check_any c w hc hB)
  have HBn := hide hB
  have HQ := hide (chk_yes hv)
  have H0 := hide (fun w => has_any (c.S 0) (n % 60) w (hc 0 (by omega)) (by omega) (by omega))
  have H1 := hide (fun w => has_any (c.S 1) (n / 60 % 24) w (hc 1 (by omega)) (by omega) (by omega))
  have H3 : Hid (∀ w, Calls Tryd.prog 51 #[.int .u64 (c.S 3 : Nat), .int .i64 ((K n : Int) + 1)] w fun e w' => e = .returned (.bool ((c.S 3).testBit (K n + 1))) ∧ w = w') := hide (fun w => has_any (c.S 3) ((K n : Int) + 1) w (hc 3 (by omega)) (by omega) (by omega))
  have H4 := hide (fun w => md_any c (D n) ((6 + n / 1440) % 7) w hc (by omega) (by omega) (by omega) (by omega))
  clear hk hd hB hM hc hv
  generalize (c.S 0).testBit (n % 60).toNat = b0 at *
  generalize (c.S 1).testBit (n / 60 % 24).toNat = b1 at *
  generalize (c.S 3).testBit (K n + 1) = b3 at *
  generalize mdB c (D n) ((6 + n / 1440) % 7) = b4 at *
  generalize matB c n = r at *
  have HB0 : Hid (Below w.heap.size w (w.alloc (.cells #[.int .u64 (c.S 0 : Nat), .int .u64 (c.S 1 : Nat), .int .u64 (c.S 2 : Nat), .int .u64 (c.S 3 : Nat), .int .u64 (c.S 4 : Nat), .bool (c.A 0), .bool (c.A 1), .bool (c.A 2), .bool (c.A 3), .bool (c.A 4)] 26))) := hide ((Below.refl _ _).alloc (Nat.le_refl _) _)
  go_enter Tryd.func36, Tryd.ntmps36
  go_wp2_with fail
  refine HO.out.mono ?_
  rintro e w1 ⟨rfl, hb1⟩
  have HB1 := hide hb1
  obtain ⟨c1, f1⟩ := bcell hb1
  have hz1 : w.heap.size < w1.heap.size := by have := hb1.size; simp at this; omega
  clear hb1
  have HB2 := hide (Below.alloc HB1.out HB1.out.size (.cells #[.int .i64 (Y n), .int .i64 (K n + 1), .int .i64 (D n), .int .i64 (n / 60 % 24), .int .i64 (n % 60), .int .i64 ((6 + n / 1440) % 7)] 90))
  go_wp2_with fail
  refine (HC.out _ ?_).mono ?_
  · exact HBn.out.on (HB0.out.trans (Below.mono HB2.out HB0.out.size))
  rintro e w2 ⟨rfl, hb2⟩
  rw [HQ.out]
  have HB3 := hide (HB2.out.trans (hb2.mono HB2.out.size))
  obtain ⟨c2, f2⟩ := bcell hb2
  have hz2 : w1.heap.size < w2.heap.size := by have := hb2.size; simp at this; omega
  have hz3 : w.heap.size < w2.heap.size := by omega
  clear hb2
  cases b0
  · go_wp2_with (first | (go_at_call 51; first | ((with_reducible refine (H0.out _).mono ?_); rintro e w' ⟨rfl, rfl⟩)))
    go_ret
    exact ⟨ret_bool (by rw [HE.out]; simp), HB0.out.trans (Below.mono HB3.out HB0.out.size)⟩
  · cases b1
    · go_wp2_with (first | (go_at_call 51; first | ((with_reducible refine (H0.out _).mono ?_); rintro e w' ⟨rfl, rfl⟩) | ((with_reducible refine (H1.out _).mono ?_); rintro e w' ⟨rfl, rfl⟩)))
      go_ret
      exact ⟨ret_bool (by rw [HE.out]; simp), HB0.out.trans (Below.mono HB3.out HB0.out.size)⟩
    · cases b3
      · go_wp2_with (first | (go_at_call 51; first | ((with_reducible refine (H0.out _).mono ?_); rintro e w' ⟨rfl, rfl⟩) | ((with_reducible refine (H1.out _).mono ?_); rintro e w' ⟨rfl, rfl⟩) | ((with_reducible refine (H3.out _).mono ?_); rintro e w' ⟨rfl, rfl⟩)))
        go_ret
        exact ⟨ret_bool (by rw [HE.out]; simp), HB0.out.trans (Below.mono HB3.out HB0.out.size)⟩
      · go_wp2_with (first | (go_at_call 51; first | ((with_reducible refine (H0.out _).mono ?_); rintro e w' ⟨rfl, rfl⟩) | ((with_reducible refine (H1.out _).mono ?_); rintro e w' ⟨rfl, rfl⟩) | ((with_reducible refine (H3.out _).mono ?_); rintro e w' ⟨rfl, rfl⟩)))
        refine (H4.out _).mono ?_
        rintro e w3 ⟨rfl, hb3⟩
        have HB4 := hide (HB3.out.trans (hb3.mono HB3.out.size))
        clear hb3 c1 f1 c2 f2
        go_wp2_with fail
        go_ret
        exact ⟨ret_bool (by rw [HE.out]; simp), HB0.out.trans (Below.mono HB4.out HB0.out.size)⟩
end Go.Proofs.YtggaflihblhapaaDoor
