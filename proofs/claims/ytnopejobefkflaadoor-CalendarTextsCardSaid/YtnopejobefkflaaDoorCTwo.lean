/-
  The reference's two digits.
-/
import Derived.Test.YtnopejobefkflaaDoorCNum
import Derived.Laws.IdiomStrings
import Derived.Lib.ConvBytes
namespace Go.Proofs.YtnopejobefkflaaDoor
open Go.RowKit Go.Sort CM

theorem conv_two (w : World) (a b : UInt8) : (convert 50 9 (.slice (some ⟨w.heap.size, 0, none⟩) 2 2)).run Tryd.prog (w.alloc (.cells #[.int .u8 a.toNat, .int .u8 b.toNat] 5)) = .ok (.string ⟨#[a, b]⟩) (w.alloc (.cells #[.int .u8 a.toNat, .int .u8 b.toNat] 5)) := by
  refine run_convert_bytes_back (w.alloc (.cells #[.int .u8 a.toNat, .int .u8 b.toNat] 5)) 50 9 5 ⟨w.heap.size, 0, none⟩ 2 [a, b] Tryd.underlying50 Tryd.underlying5 Tryd.underlying9 (fun j hj => ?_)
  have hj' : j = 0 ∨ j = 1 := by simp at hj; omega
  rcases hj' with rfl | rfl <;> simp [Addr.add]
theorem rtwo_of (n : Int) (a b : UInt8) (w : World) (h0 : 0 ≤ n) (h1 : n ≤ 99) (ha : (a.toNat : Int) = 48 + n / 10) (hb : (b.toNat : Int) = 48 + n % 10) : Calls Tryd.prog 33 #[.int .i64 n] w fun e w' => e = .returned (.string ⟨#[a, b]⟩) ∧ Below w.heap.size w w' := by
  have hc := conv_two w a b
  rw [ha, hb] at hc
  clear ha hb
  go_enter Tryd.func33, Tryd.ntmps33
  go_wp2_with fail
  go_ret
  exact ⟨rfl, by go_grown⟩
theorem rtwo_any (n : Int) (w : World) (h0 : 0 ≤ n) (h1 : n ≤ 99) : Calls Tryd.prog 33 #[.int .i64 n] w fun e w' => e = .returned (txt (two n)) ∧ Below w.heap.size w w' :=
  rtwo_of n _ _ w h0 h1 (by rw [dig_nat (by omega)]; omega) (by rw [dig_nat (by omega)]; omega)
/-- The six numbers of an array in its box. -/
abbrev box6 (w : World) (y m d h mi wd : Int) : World := w.alloc (.cells #[.int .i64 y, .int .i64 m, .int .i64 d, .int .i64 h, .int .i64 mi, .int .i64 wd] 30)
set_option maxHeartbeats 4000000 in
set_option maxRecDepth 100000 in
theorem rshow_of (y m d h mi wd : Int) (a b c f g k : List UInt8) (w : World) (hy0 : 0 ≤ y) (hy1 : y ≤ 9999) (la : a.length ≤ 30) (lb : b.length ≤ 30) (lc : c.length ≤ 30) (lf : f.length ≤ 30) (lg : g.length ≤ 30) (lk : k.length ≤ 30)
    (h0 : ∀ w, Calls Tryd.prog 33 #[.int .i64 (y / 100)] w fun e w' => e = .returned (txt k) ∧ Below w.heap.size w w')
    (h1 : ∀ w, Calls Tryd.prog 33 #[.int .i64 (y % 100)] w fun e w' => e = .returned (txt a) ∧ Below w.heap.size w w')
    (h2 : ∀ w, Calls Tryd.prog 33 #[.int .i64 m] w fun e w' => e = .returned (txt b) ∧ Below w.heap.size w w')
    (h3 : ∀ w, Calls Tryd.prog 33 #[.int .i64 d] w fun e w' => e = .returned (txt c) ∧ Below w.heap.size w w')
    (h4 : ∀ w, Calls Tryd.prog 33 #[.int .i64 h] w fun e w' => e = .returned (txt f) ∧ Below w.heap.size w w')
    (h5 : ∀ w, Calls Tryd.prog 33 #[.int .i64 mi] w fun e w' => e = .returned (txt g) ∧ Below w.heap.size w w') :
    Calls Tryd.prog 19 #[vD y m d h mi wd] w fun e w' => e = .returned (txt (k ++ (a ++ (45 :: (b ++ (45 :: (c ++ (32 :: (f ++ (58 :: g)))))))))) ∧ Below w.heap.size w w' := by
  have H0 := hide h0; have H1 := hide h1; have H2 := hide h2; have H3 := hide h3; have H4 := hide h4; have H5 := hide h5
  clear h0 h1 h2 h3 h4 h5
  have HE : Hid ((⟨k.toArray⟩ : ByteArray) ++ ⟨a.toArray⟩ ++ ⟨#[45]⟩ ++ ⟨b.toArray⟩ ++ ⟨#[45]⟩ ++ ⟨c.toArray⟩ ++ ⟨#[32]⟩ ++ ⟨f.toArray⟩ ++ ⟨#[58]⟩ ++ ⟨g.toArray⟩ = ⟨(k ++ (a ++ (45 :: (b ++ (45 :: (c ++ (32 :: (f ++ (58 :: g))))))))).toArray⟩) := hide (by
    apply ByteArray.ext; simp [ByteArray.data_append])
  have q0 : Below w.heap.size w (box6 w y m d h mi wd) := (Below.refl _ _).alloc (Nat.le_refl _) _
  have r0 := fun dn os => cell_regrown (show (box6 w y m d h mi wd).cell? ⟨w.heap.size, 0, none⟩ = some (.int .i64 y) by simp) dn os
  have r1 := fun dn os => cell_regrown (show (box6 w y m d h mi wd).cell? ⟨w.heap.size, 1, none⟩ = some (.int .i64 m) by simp) dn os
  have r2 := fun dn os => cell_regrown (show (box6 w y m d h mi wd).cell? ⟨w.heap.size, 2, none⟩ = some (.int .i64 d) by simp) dn os
  have r3 := fun dn os => cell_regrown (show (box6 w y m d h mi wd).cell? ⟨w.heap.size, 3, none⟩ = some (.int .i64 h) by simp) dn os
  have r4 := fun dn os => cell_regrown (show (box6 w y m d h mi wd).cell? ⟨w.heap.size, 4, none⟩ = some (.int .i64 mi) by simp) dn os
  go_enter Tryd.func19, Tryd.ntmps19
  go_wp2_with fail
  refine wp_region_quiet_below (by kernel_rfl) (by kernel_rfl) ?_
  repeat (go_big_quiet_step (first
      | (go_at_call 33; with_reducible exact Calls.regrown_of (H0.out _))
      | (go_at_call 33; with_reducible exact Calls.regrown_of (H1.out _))
      | (go_at_call 33; with_reducible exact Calls.regrown_of (H2.out _))
      | (go_at_call 33; with_reducible exact Calls.regrown_of (H3.out _))
      | (go_at_call 33; with_reducible exact Calls.regrown_of (H4.out _))
      | (go_at_call 33; with_reducible exact Calls.regrown_of (H5.out _))))
  refine wpQuiet_nil ?_
  intro _ hw'
  obtain ⟨⟨dq, osq⟩, hw''⟩ := hw'
  subst hw''
  have q9 := q0.trans ((below_regrown _ dq osq).mono q0.size)
  go_wp2_with fail
  go_ret
  exact ⟨ret_str HE.out, q9⟩
theorem rshow_any {n : Int} (w : World) (h0 : 0 ≤ n) (h1 : n < 2147483648) : Calls Tryd.prog 19 #[vDate n] w fun e w' => e = .returned (txt (textL n)) ∧ Below w.heap.size w w' := by
  have hk := (K_spec h0).1
  have hd := D_bd h0
  have hy0 := Y_lo h0
  have hy1 := Y_hi h0 h1
  exact rshow_of (Y n) (K n + 1) (D n) (n / 60 % 24) (n % 60) ((6 + n / 1440) % 7) (two (Y n % 100)) (two (K n + 1)) (two (D n)) (two (n / 60 % 24)) (two (n % 60)) (two (Y n / 100)) w (by omega) (by omega) (by simp [two]) (by simp [two]) (by simp [two]) (by simp [two]) (by simp [two]) (by simp [two])
    (fun w => rtwo_any _ w (by omega) (by omega)) (fun w => rtwo_any _ w (by omega) (by omega)) (fun w => rtwo_any _ w (by omega) (by omega)) (fun w => rtwo_any _ w (by omega) (by omega)) (fun w => rtwo_any _ w (by omega) (by omega)) (fun w => rtwo_any _ w (by omega) (by omega))
end Go.Proofs.YtnopejobefkflaaDoor
