/-
  Show: the text of a date, the empty one where there is none.
-/
import Derived.Test.YtnopejobefkflaaDoorCNum
import Derived.Lib.QuietBelow
namespace Go.Proofs.YtnopejobefkflaaDoor
open Go.RowKit Go.Sort CM

set_option maxHeartbeats 4000000 in
set_option maxRecDepth 100000 in
theorem show_of (y m d h mi wd n : Int) (a b c f g : List UInt8) (w : World) (ht : Tab w) (la : a.length ≤ 30) (lb : b.length ≤ 30) (lc : c.length ≤ 30) (lf : f.length ≤ 30) (lg : g.length ≤ 30)
    (h0 : Calls Tryd.prog 12 #[vD y m d h mi wd] (w.alloc (.cells #[.int .i64 y, .int .i64 m, .int .i64 d, .int .i64 h, .int .i64 mi, .int .i64 wd] 23)) fun e w' => e = .returned (.tuple #[.int .i64 n, .int .i64 0]) ∧ Below (w.heap.size + 1) (w.alloc (.cells #[.int .i64 y, .int .i64 m, .int .i64 d, .int .i64 h, .int .i64 mi, .int .i64 wd] 23)) w')
    (h1 : ∀ w, Tab w → Calls Tryd.prog 30 #[.int .i64 y] w fun e w' => e = .returned (txt a) ∧ Below w.heap.size w w')
    (h2 : ∀ w, Tab w → Calls Tryd.prog 31 #[.int .i64 m] w fun e w' => e = .returned (txt b) ∧ Below w.heap.size w w')
    (h3 : ∀ w, Tab w → Calls Tryd.prog 31 #[.int .i64 d] w fun e w' => e = .returned (txt c) ∧ Below w.heap.size w w')
    (h4 : ∀ w, Tab w → Calls Tryd.prog 31 #[.int .i64 h] w fun e w' => e = .returned (txt f) ∧ Below w.heap.size w w')
    (h5 : ∀ w, Tab w → Calls Tryd.prog 31 #[.int .i64 mi] w fun e w' => e = .returned (txt g) ∧ Below w.heap.size w w') :
    Calls Tryd.prog 17 #[vD y m d h mi wd] w fun e w' => e = .returned (txt (a ++ (45 :: (b ++ (45 :: (c ++ (32 :: (f ++ (58 :: g))))))))) ∧ Below w.heap.size w w' := by
  have H0 := hide h0; have H1 := hide h1; have H2 := hide h2; have H3 := hide h3; have H4 := hide h4; have H5 := hide h5
  have HT := hide ht
  clear h0 h1 h2 h3 h4 h5 ht
  have HE : Hid ((⟨a.toArray⟩ : ByteArray) ++ ⟨#[45]⟩ ++ ⟨b.toArray⟩ ++ ⟨#[45]⟩ ++ ⟨c.toArray⟩ ++ ⟨#[32]⟩ ++ ⟨f.toArray⟩ ++ ⟨#[58]⟩ ++ ⟨g.toArray⟩ = ⟨(a ++ (45 :: (b ++ (45 :: (c ++ (32 :: (f ++ (58 :: g)))))))).toArray⟩) := hide (by
    apply ByteArray.ext; simp [ByteArray.data_append])
  go_enter Tryd.func17, Tryd.ntmps17
  go_wp2_with fail
  refine H0.out.mono ?_
  rintro e w1 ⟨rfl, hb⟩
  have HB := hide (((Below.refl _ _).alloc (Nat.le_refl _) _).trans (hb.mono (Nat.le_succ _)))
  have c0 := hb.cell (p := ⟨w.heap.size, 0, none⟩) (by simp)
  have c1 := hb.cell (p := ⟨w.heap.size, 1, none⟩) (by simp)
  have c2 := hb.cell (p := ⟨w.heap.size, 2, none⟩) (by simp)
  have c3 := hb.cell (p := ⟨w.heap.size, 3, none⟩) (by simp)
  have c4 := hb.cell (p := ⟨w.heap.size, 4, none⟩) (by simp)
  simp at c0 c1 c2 c3 c4
  have r0 := fun dn os => cell_regrown c0 dn os
  have r1 := fun dn os => cell_regrown c1 dn os
  have r2 := fun dn os => cell_regrown c2 dn os
  have r3 := fun dn os => cell_regrown c3 dn os
  have r4 := fun dn os => cell_regrown c4 dn os
  have HTT : Hid (∀ dn os, Tab (grow (redrawn w1 dn) os)) := hide fun dn os => HT.out.stays (HB.out.trans ((below_regrown w1 dn os).mono HB.out.size)) (Nat.le_refl _)
  clear hb c0 c1 c2 c3 c4
  go_wp2_with fail
  refine wp_region_quiet_below (by kernel_rfl) (by kernel_rfl) ?_
  repeat (go_big_quiet_step (first
      | (go_at_call 30; with_reducible exact Calls.regrown_of (H1.out _ (HTT.out _ _)))
      | (go_at_call 31; with_reducible exact Calls.regrown_of (H2.out _ (HTT.out _ _)))
      | (go_at_call 31; with_reducible exact Calls.regrown_of (H3.out _ (HTT.out _ _)))
      | (go_at_call 31; with_reducible exact Calls.regrown_of (H4.out _ (HTT.out _ _)))
      | (go_at_call 31; with_reducible exact Calls.regrown_of (H5.out _ (HTT.out _ _)))))
  refine wpQuiet_nil ?_
  intro _ hw'
  obtain ⟨⟨dq, osq⟩, hw''⟩ := hw'
  subst hw''
  have q9 := HB.out.trans ((below_regrown _ dq osq).mono HB.out.size)
  go_wp2_with fail
  go_ret
  exact ⟨ret_str HE.out, q9⟩
theorem show_yes {n : Int} (w : World) (ht : Tab w) (hM : Mon w) (h0 : 0 ≤ n) (h1 : n < 2147483648) : Calls Tryd.prog 17 #[vDate n] w fun e w' => e = .returned (txt (textL n)) ∧ Below w.heap.size w w' := by
  have hk := (K_spec h0).1
  have hd := D_bd h0
  have hy0 := Y_lo h0
  have hy1 := Y_hi h0 h1
  have hi : ∀ w, Tab w → Calls Tryd.prog 30 #[.int .i64 (Y n)] w fun e w' => e = .returned (txt (two (Y n / 100) ++ two (Y n % 100))) ∧ Below w.heap.size w w' := fun w ht => by
    have := itoa_any (Y n) w (by omega) (by omega) ht
    rw [itoa_four (by omega) (by omega)] at this
    exact this
  have q0 : Below w.heap.size w (w.alloc (.cells #[.int .i64 (Y n), .int .i64 (K n + 1), .int .i64 (D n), .int .i64 (n / 60 % 24), .int .i64 (n % 60), .int .i64 ((6 + n / 1440) % 7)] 23)) := (Below.refl _ _).alloc (Nat.le_refl _) _
  have h := show_of (Y n) (K n + 1) (D n) (n / 60 % 24) (n % 60) ((6 + n / 1440) % 7) n (two (Y n / 100) ++ two (Y n % 100)) (two (K n + 1)) (two (D n)) (two (n / 60 % 24)) (two (n % 60)) w ht (by simp [two]) (by simp [two]) (by simp [two]) (by simp [two]) (by simp [two])
    ((min_yes _ (hM.on q0) h0 h1).mono fun e w' hh => ⟨hh.1, by simpa using hh.2⟩) hi (fun w ht => two_any _ w (by omega) (by omega) ht) (fun w ht => two_any _ w (by omega) (by omega) ht) (fun w ht => two_any _ w (by omega) (by omega) ht) (fun w ht => two_any _ w (by omega) (by omega) ht)
  rw [show textL n = two (Y n / 100) ++ two (Y n % 100) ++ (45 :: (two (K n + 1) ++ (45 :: (two (D n) ++ (32 :: (two (n / 60 % 24) ++ (58 :: two (n % 60)))))))) by unfold textL; simp]
  exact h
theorem show_no (y m d h mi wd : Int) (w : World) (hM : Mon w) (hn : ∀ n, ¬ IsD y m d h mi wd n) : Calls Tryd.prog 17 #[vD y m d h mi wd] w fun e w' => e = .returned (.string ⟨#[]⟩) ∧ Below w.heap.size w w' := by
  have q0 : Below w.heap.size w (w.alloc (.cells #[.int .i64 y, .int .i64 m, .int .i64 d, .int .i64 h, .int .i64 mi, .int .i64 wd] 23)) := (Below.refl _ _).alloc (Nat.le_refl _) _
  have H0 := hide (min_no y m d h mi wd _ (hM.on q0) hn)
  have HQ := hide q0
  clear q0 hM hn
  go_enter Tryd.func17, Tryd.ntmps17
  go_wp2_with fail
  refine H0.out.mono ?_
  rintro e w1 ⟨rfl, hb⟩
  have HB := hide (HQ.out.trans (hb.mono HQ.out.size))
  clear hb
  go_wp2_with fail
  go_ret
  exact ⟨rfl, HB.out⟩
end Go.Proofs.YtnopejobefkflaaDoor
