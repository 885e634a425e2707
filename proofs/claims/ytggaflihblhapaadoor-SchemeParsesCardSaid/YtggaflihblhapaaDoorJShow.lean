/-
  The words, number, kindOf, Show.
-/
import Derived.Test.YtggaflihblhapaaDoorJWin
import Derived.Test.YtggaflihblhapaaDoorJText
import Derived.Lib.QuietBelow
namespace Go.Proofs.YtggaflihblhapaaDoor
open Go.RowKit Go.Sort CM JM

/-- The words lie in their variable. -/
def Wd (w : World) : Prop := ∀ i : Nat, i < 5 → w.cell? ⟨0, i, none⟩ = some (txt (wordK ((i : Int) + 1)))
theorem lt_of_cell {w : World} {a o : Nat} {v : Value} (h0 : w.cell? ⟨a, o, none⟩ = some v) : a < w.heap.size := by
  rcases Nat.lt_or_ge a w.heap.size with h' | h'
  · exact h'
  · exfalso
    have : w.heap[a]? = none := Array.getElem?_eq_none h'
    simp [World.cell?, this] at h0
theorem Wd.stays {w w' : World} {B : Nat} (h : Wd w) (hb : Below B w w') (hB : w.heap.size ≤ B) : Wd w' := fun i hi => (hb.cell (p := ⟨0, i, none⟩) (Nat.lt_of_lt_of_le (lt_of_cell (h i hi)) hB)).trans (h i hi)
theorem Wd.on {w w' : World} (h : Wd w) (hb : Below w.heap.size w w') : Wd w' := h.stays hb (Nat.le_refl _)
/-- The library's variable MaxLen holds some number. -/
def Mx (w : World) : Prop := ∃ m : Int, w.cell? ⟨4, 0, none⟩ = some (.int .i64 m)
theorem Mx.on {w w' : World} (h : Mx w) (hb : Below w.heap.size w w') : Mx w' := by
  obtain ⟨m, hm⟩ := h
  exact ⟨m, (hb.cell (p := ⟨4, 0, none⟩) (lt_of_cell hm)).trans hm⟩
/-- What the calls read of listed variables. -/
structure Rs (w : World) : Prop where
  tab : Tab w
  mon : Mon w
  errs : Errs w
  wd : Wd w
  mx : Mx w
theorem Rs.on {w w' : World} (h : Rs w) (hb : Below w.heap.size w w') : Rs w' := ⟨h.tab.on hb, h.mon.on hb, h.errs.on hb, h.wd.on hb, h.mx.on hb⟩
theorem number_any' (s : ByteArray) (w : World) (hs : s.size ≤ 1000) (hE : Errs w) : Calls Tryd.prog 76 #[.string s] w fun e w' => e = .returned (.int .i64 (numV s.data.toList)) ∧ Below w.heap.size w w' := by
  have H := hide (atoi_any s w hs hE)
  clear hs hE
  go_enter Tryd.func76, Tryd.ntmps76
  go_wp2_with fail
  refine H.out.mono ?_
  rintro e w1 ⟨x, rfl, hb⟩
  have HB := hide hb
  clear hb
  go_wp2_with fail
  go_ret
  exact ⟨rfl, HB.out⟩
theorem run_idxW (k : Nat) (hk : k < 5) (w : World) : (Instr.index 67 (.agg #[txt (wordK 1), txt (wordK 2), txt (wordK 3), txt (wordK 4), txt (wordK 5)]) (.int .i64 (k : Nat))).run Tryd.prog w = .ok (txt (wordK ((k : Int) + 1))) w := by
  obtain rfl | rfl | rfl | rfl | rfl : k = 0 ∨ k = 1 ∨ k = 2 ∨ k = 3 ∨ k = 4 := by omega
  all_goals kernel_rfl
set_option maxHeartbeats 2000000 in
theorem kindOf_any (s : ByteArray) (w : World) (hW : Wd w) : Calls Tryd.prog 75 #[.string s] w fun e w' => e = .returned (.int .i64 (kindN s.data.toList)) ∧ Below w.heap.size w w' := by
  have HB0 := hide (Below.refl w.heap.size w)
  have c0 : w.cell? ⟨0, 0, none⟩ = some (txt (wordK 1)) := hW 0 (by omega)
  have c1 : w.cell? ⟨0, 1, none⟩ = some (txt (wordK 2)) := hW 1 (by omega)
  have c2 : w.cell? ⟨0, 2, none⟩ = some (txt (wordK 3)) := hW 2 (by omega)
  have c3 : w.cell? ⟨0, 3, none⟩ = some (txt (wordK 4)) := hW 3 (by omega)
  have c4 : w.cell? ⟨0, 4, none⟩ = some (txt (wordK 5)) := hW 4 (by omega)
  have HK : Hid (∀ k : Nat, k < 5 → s.data.toList = wordK ((k : Int) + 1) → kindN s.data.toList = (k : Int) + 1) := hide fun k hk e => kind_at hk e
  have HN : Hid ((∀ j : Nat, j < 5 → s.data.toList ≠ wordK ((j : Int) + 1)) → kindN s.data.toList = 0) := hide fun h => kind_none h
  clear hW
  go_enter Tryd.func75, Tryd.ntmps75
  go_wp2_with fail
  clear c0 c1 c2 c3 c4
  go_loop [6] (fun i => ∃ k : Nat, k ≤ 5 ∧ i = .int .i64 k ∧ Hid (∀ j : Nat, j < k → s.data.toList ≠ wordK ((j : Int) + 1))) (fun i => 5 - (intOf i).toNat)
  case atStart => exact ⟨0, by omega, rfl, hide fun j hj => by omega⟩
  case round =>
    obtain ⟨k, hk, rfl, hn⟩ := hrel
    by_cases hlt : k < 5
    · have hx := run_idxW k hlt
      by_cases he : s.data.toList = wordK ((k : Int) + 1)
      · have HR := hide (HK.out k hlt he)
        have hq : (wordK ((k : Int) + 1) == s.toList) = true := by rw [Lib.toList_data, he]; simp
        clear he
        go_wp2_with fail
        go_ret
        exact ⟨ret_int (by rw [HR.out]; omega), HB0.out⟩
      · have HN2 : Hid (∀ j : Nat, j < k + 1 → s.data.toList ≠ wordK ((j : Int) + 1)) := hide fun j hj => by
          by_cases e : j = k
          · subst e; exact he
          · exact hn.out j (by omega)
        have hq : (wordK ((k : Int) + 1) == s.toList) = false := by rw [Lib.toList_data, beq_eq_false_iff_ne]; exact fun e => he e.symm
        clear he
        go_wp2_with fail
        go_round
        case rel => exact ⟨k + 1, by omega, by go_num, HN2⟩
        case measure => simp [intOf]; omega
    · obtain rfl : k = 5 := by omega
      have HR := hide (HN.out hn.out)
      go_wp2_with fail
      go_ret
      exact ⟨ret_int HR.out.symm, HB0.out⟩
theorem itoa_all (n : Int) (w : World) (h0 : -9223372036854775808 ≤ n) (h1 : n ≤ 9223372036854775807) (ht : Tab w) :
    Calls Tryd.prog 48 #[.int .i64 n] w fun e w' => e = .returned (.string ⟨(Lib.itoa n).toArray⟩) ∧ Below w.heap.size w w' := by
  refine (Tryd.strconv_Itoa n h0 h1 w ht).mono ?_
  rintro e w' ⟨rfl, k, os, rfl⟩
  exact ⟨rfl, below_grow w k os⟩
set_option maxHeartbeats 4000000 in
set_option maxRecDepth 100000 in
theorem show_in (k a z : Int) (x y : List UInt8) (w : World) (hM : Mon w) (hT : Tab w) (hW : Wd w) (hok : okS k a z = true) (lx : x.length ≤ 30) (ly : y.length ≤ 30)
    (hx : ∀ w, Tab w → Calls Tryd.prog 48 #[.int .i64 a] w fun e w' => e = .returned (txt x) ∧ Below w.heap.size w w')
    (hy : ∀ w, Tab w → Calls Tryd.prog 48 #[.int .i64 z] w fun e w' => e = .returned (txt y) ∧ Below w.heap.size w w') :
    Calls Tryd.prog 28 #[vS k a z] w fun e w' => e = .returned (txt (wordK k ++ (32 :: (x ++ (46 :: 46 :: y))))) ∧ Below w.heap.size w w' := by
  have HX := hide hx; have HY := hide hy
  have hbd := ok_bd hok
  have hC := check_any k a z (w.alloc (.cells #[.int .i64 k, .int .i64 a, .int .i64 z] 41)) (hM.on (box_below w k a z)) (by omega)
  rw [chE_yes hok] at hC
  have HC := hide hC
  have HB0 := hide (box_below w k a z)
  have HT := hide hT
  have HW := hide hW
  clear hx hy hC hM hT hW
  rcases ok_kind hok with rfl | rfl | rfl | rfl | rfl
  all_goals clear hok hbd
  · have HE : Hid ((⟨#[104, 111, 117, 114, 108, 121]⟩ : ByteArray) ++ ⟨#[32]⟩ ++ ⟨x.toArray⟩ ++ ⟨#[46, 46]⟩ ++ ⟨y.toArray⟩ = ⟨(wordK 1 ++ (32 :: (x ++ (46 :: 46 :: y)))).toArray⟩) := hide (by
      rw [show wordK 1 = [104, 111, 117, 114, 108, 121] from rfl]
      apply ByteArray.ext; simp [ByteArray.data_append])
    have e1 : (1 : Int) ≤ 5 := by decide
    go_enter Tryd.func28, Tryd.ntmps28
    go_wp2_with fail
    refine HC.out.mono ?_
    rintro e w1 ⟨rfl, hb⟩
    obtain ⟨⟨c0, c1, c2⟩, hs⟩ := box_stays hb
    have HB := hide (HB0.out.trans (hb.mono HB0.out.size))
    clear hb
    have cw : w1.cell? ⟨0, 0, none⟩ = some (.string ⟨#[104, 111, 117, 114, 108, 121]⟩) := HW.out.on HB.out 0 (by omega)
    go_wp2_with fail
    have r0 := fun dn os => cell_regrown c0 dn os
    have r1 := fun dn os => cell_regrown c1 dn os
    have r2 := fun dn os => cell_regrown c2 dn os
    have r3 := fun dn os => cell_regrown cw dn os
    have HTT : Hid (∀ dn os, Tab (grow (redrawn w1 dn) os)) := hide fun dn os => HT.out.on (HB.out.trans ((below_regrown _ dn os).mono HB.out.size))
    clear c0 c1 c2 cw
    refine wp_region_quiet_below (by kernel_rfl) (by kernel_rfl) ?_
    repeat (go_big_quiet_step (first
        | (go_at_call 48; with_reducible exact Calls.regrown_of (HX.out _ (HTT.out _ _)))
        | (go_at_call 48; with_reducible exact Calls.regrown_of (HY.out _ (HTT.out _ _)))))
    refine wpQuiet_nil ?_
    intro _ hw'
    obtain ⟨⟨dq, osq⟩, hw''⟩ := hw'
    subst hw''
    have HF := hide (HB.out.trans ((below_regrown _ dq osq).mono HB.out.size))
    clear r0 r1 r2 r3
    go_wp2_with fail
    go_ret
    exact ⟨ret_str HE.out, HF.out⟩
  · have HE : Hid ((⟨#[100, 97, 105, 108, 121]⟩ : ByteArray) ++ ⟨#[32]⟩ ++ ⟨x.toArray⟩ ++ ⟨#[46, 46]⟩ ++ ⟨y.toArray⟩ = ⟨(wordK 2 ++ (32 :: (x ++ (46 :: 46 :: y)))).toArray⟩) := hide (by
      rw [show wordK 2 = [100, 97, 105, 108, 121] from rfl]
      apply ByteArray.ext; simp [ByteArray.data_append])
    have e1 : (1 : Int) ≤ 5 := by decide
    go_enter Tryd.func28, Tryd.ntmps28
    go_wp2_with fail
    refine HC.out.mono ?_
    rintro e w1 ⟨rfl, hb⟩
    obtain ⟨⟨c0, c1, c2⟩, hs⟩ := box_stays hb
    have HB := hide (HB0.out.trans (hb.mono HB0.out.size))
    clear hb
    have cw : w1.cell? ⟨0, 1, none⟩ = some (.string ⟨#[100, 97, 105, 108, 121]⟩) := HW.out.on HB.out 1 (by omega)
    go_wp2_with fail
    have r0 := fun dn os => cell_regrown c0 dn os
    have r1 := fun dn os => cell_regrown c1 dn os
    have r2 := fun dn os => cell_regrown c2 dn os
    have r3 := fun dn os => cell_regrown cw dn os
    have HTT : Hid (∀ dn os, Tab (grow (redrawn w1 dn) os)) := hide fun dn os => HT.out.on (HB.out.trans ((below_regrown _ dn os).mono HB.out.size))
    clear c0 c1 c2 cw
    refine wp_region_quiet_below (by kernel_rfl) (by kernel_rfl) ?_
    repeat (go_big_quiet_step (first
        | (go_at_call 48; with_reducible exact Calls.regrown_of (HX.out _ (HTT.out _ _)))
        | (go_at_call 48; with_reducible exact Calls.regrown_of (HY.out _ (HTT.out _ _)))))
    refine wpQuiet_nil ?_
    intro _ hw'
    obtain ⟨⟨dq, osq⟩, hw''⟩ := hw'
    subst hw''
    have HF := hide (HB.out.trans ((below_regrown _ dq osq).mono HB.out.size))
    clear r0 r1 r2 r3
    go_wp2_with fail
    go_ret
    exact ⟨ret_str HE.out, HF.out⟩
  · have HE : Hid ((⟨#[119, 101, 101, 107, 108, 121]⟩ : ByteArray) ++ ⟨#[32]⟩ ++ ⟨x.toArray⟩ ++ ⟨#[46, 46]⟩ ++ ⟨y.toArray⟩ = ⟨(wordK 3 ++ (32 :: (x ++ (46 :: 46 :: y)))).toArray⟩) := hide (by
      rw [show wordK 3 = [119, 101, 101, 107, 108, 121] from rfl]
      apply ByteArray.ext; simp [ByteArray.data_append])
    have e1 : (1 : Int) ≤ 5 := by decide
    go_enter Tryd.func28, Tryd.ntmps28
    go_wp2_with fail
    refine HC.out.mono ?_
    rintro e w1 ⟨rfl, hb⟩
    obtain ⟨⟨c0, c1, c2⟩, hs⟩ := box_stays hb
    have HB := hide (HB0.out.trans (hb.mono HB0.out.size))
    clear hb
    have cw : w1.cell? ⟨0, 2, none⟩ = some (.string ⟨#[119, 101, 101, 107, 108, 121]⟩) := HW.out.on HB.out 2 (by omega)
    go_wp2_with fail
    have r0 := fun dn os => cell_regrown c0 dn os
    have r1 := fun dn os => cell_regrown c1 dn os
    have r2 := fun dn os => cell_regrown c2 dn os
    have r3 := fun dn os => cell_regrown cw dn os
    have HTT : Hid (∀ dn os, Tab (grow (redrawn w1 dn) os)) := hide fun dn os => HT.out.on (HB.out.trans ((below_regrown _ dn os).mono HB.out.size))
    clear c0 c1 c2 cw
    refine wp_region_quiet_below (by kernel_rfl) (by kernel_rfl) ?_
    repeat (go_big_quiet_step (first
        | (go_at_call 48; with_reducible exact Calls.regrown_of (HX.out _ (HTT.out _ _)))
        | (go_at_call 48; with_reducible exact Calls.regrown_of (HY.out _ (HTT.out _ _)))))
    refine wpQuiet_nil ?_
    intro _ hw'
    obtain ⟨⟨dq, osq⟩, hw''⟩ := hw'
    subst hw''
    have HF := hide (HB.out.trans ((below_regrown _ dq osq).mono HB.out.size))
    clear r0 r1 r2 r3
    go_wp2_with fail
    go_ret
    exact ⟨ret_str HE.out, HF.out⟩
  · have HE : Hid ((⟨#[109, 111, 110, 116, 104, 108, 121]⟩ : ByteArray) ++ ⟨#[32]⟩ ++ ⟨x.toArray⟩ ++ ⟨#[46, 46]⟩ ++ ⟨y.toArray⟩ = ⟨(wordK 4 ++ (32 :: (x ++ (46 :: 46 :: y)))).toArray⟩) := hide (by
      rw [show wordK 4 = [109, 111, 110, 116, 104, 108, 121] from rfl]
      apply ByteArray.ext; simp [ByteArray.data_append])
    have e1 : (1 : Int) ≤ 5 := by decide
    go_enter Tryd.func28, Tryd.ntmps28
    go_wp2_with fail
    refine HC.out.mono ?_
    rintro e w1 ⟨rfl, hb⟩
    obtain ⟨⟨c0, c1, c2⟩, hs⟩ := box_stays hb
    have HB := hide (HB0.out.trans (hb.mono HB0.out.size))
    clear hb
    have cw : w1.cell? ⟨0, 3, none⟩ = some (.string ⟨#[109, 111, 110, 116, 104, 108, 121]⟩) := HW.out.on HB.out 3 (by omega)
    go_wp2_with fail
    have r0 := fun dn os => cell_regrown c0 dn os
    have r1 := fun dn os => cell_regrown c1 dn os
    have r2 := fun dn os => cell_regrown c2 dn os
    have r3 := fun dn os => cell_regrown cw dn os
    have HTT : Hid (∀ dn os, Tab (grow (redrawn w1 dn) os)) := hide fun dn os => HT.out.on (HB.out.trans ((below_regrown _ dn os).mono HB.out.size))
    clear c0 c1 c2 cw
    refine wp_region_quiet_below (by kernel_rfl) (by kernel_rfl) ?_
    repeat (go_big_quiet_step (first
        | (go_at_call 48; with_reducible exact Calls.regrown_of (HX.out _ (HTT.out _ _)))
        | (go_at_call 48; with_reducible exact Calls.regrown_of (HY.out _ (HTT.out _ _)))))
    refine wpQuiet_nil ?_
    intro _ hw'
    obtain ⟨⟨dq, osq⟩, hw''⟩ := hw'
    subst hw''
    have HF := hide (HB.out.trans ((below_regrown _ dq osq).mono HB.out.size))
    clear r0 r1 r2 r3
    go_wp2_with fail
    go_ret
    exact ⟨ret_str HE.out, HF.out⟩
  · have HE : Hid ((⟨#[115, 116, 97, 116, 105, 99]⟩ : ByteArray) ++ ⟨#[32]⟩ ++ ⟨x.toArray⟩ ++ ⟨#[46, 46]⟩ ++ ⟨y.toArray⟩ = ⟨(wordK 5 ++ (32 :: (x ++ (46 :: 46 :: y)))).toArray⟩) := hide (by
      rw [show wordK 5 = [115, 116, 97, 116, 105, 99] from rfl]
      apply ByteArray.ext; simp [ByteArray.data_append])
    have e1 : (1 : Int) ≤ 5 := by decide
    go_enter Tryd.func28, Tryd.ntmps28
    go_wp2_with fail
    refine HC.out.mono ?_
    rintro e w1 ⟨rfl, hb⟩
    obtain ⟨⟨c0, c1, c2⟩, hs⟩ := box_stays hb
    have HB := hide (HB0.out.trans (hb.mono HB0.out.size))
    clear hb
    have cw : w1.cell? ⟨0, 4, none⟩ = some (.string ⟨#[115, 116, 97, 116, 105, 99]⟩) := HW.out.on HB.out 4 (by omega)
    go_wp2_with fail
    have r0 := fun dn os => cell_regrown c0 dn os
    have r1 := fun dn os => cell_regrown c1 dn os
    have r2 := fun dn os => cell_regrown c2 dn os
    have r3 := fun dn os => cell_regrown cw dn os
    have HTT : Hid (∀ dn os, Tab (grow (redrawn w1 dn) os)) := hide fun dn os => HT.out.on (HB.out.trans ((below_regrown _ dn os).mono HB.out.size))
    clear c0 c1 c2 cw
    refine wp_region_quiet_below (by kernel_rfl) (by kernel_rfl) ?_
    repeat (go_big_quiet_step (first
        | (go_at_call 48; with_reducible exact Calls.regrown_of (HX.out _ (HTT.out _ _)))
        | (go_at_call 48; with_reducible exact Calls.regrown_of (HY.out _ (HTT.out _ _)))))
    refine wpQuiet_nil ?_
    intro _ hw'
    obtain ⟨⟨dq, osq⟩, hw''⟩ := hw'
    subst hw''
    have HF := hide (HB.out.trans ((below_regrown _ dq osq).mono HB.out.size))
    clear r0 r1 r2 r3
    go_wp2_with fail
    go_ret
    exact ⟨ret_str HE.out, HF.out⟩
theorem show_out (k a z : Int) (w : World) (hM : Mon w) (hz : z ≤ 9223372036854775807) (hok : okS k a z = false) : Calls Tryd.prog 28 #[vS k a z] w fun e w' => e = .returned (txt []) ∧ Below w.heap.size w w' := by
  have hC := check_any k a z (w.alloc (.cells #[.int .i64 k, .int .i64 a, .int .i64 z] 41)) (hM.on (box_below w k a z)) hz
  rw [chE_no hok] at hC
  have HC := hide hC
  have HB0 := hide (box_below w k a z)
  clear hC hM hok
  go_enter Tryd.func28, Tryd.ntmps28
  go_wp2_with fail
  refine HC.out.mono ?_
  rintro e w1 ⟨rfl, hb⟩
  have HB := hide (HB0.out.trans (hb.mono HB0.out.size))
  clear hb
  go_wp2_with fail
  go_ret
  exact ⟨rfl, HB.out⟩
theorem show_any' (k a z : Int) (w : World) (hR : Rs w) (hz : z ≤ 9223372036854775807) : Calls Tryd.prog 28 #[vS k a z] w fun e w' => e = .returned (txt (showS k a z)) ∧ Below w.heap.size w w' := by
  cases hq : okS k a z
  · have e : showS k a z = [] := if_neg (by rw [hq]; simp)
    rw [e]
    exact show_out k a z w hR.mon hz hq
  · have hbd := ok_bd hq
    have l1 := Lib.itoa_length_le a (by omega) (by omega)
    have l2 := Lib.itoa_length_le z (by omega) (by omega)
    rw [show_text hq]
    exact show_in k a z (Lib.itoa a) (Lib.itoa z) w hR.mon hR.tab hR.wd hq (by omega) (by omega) (fun w ht => itoa_all a w (by omega) (by omega) ht) (fun w ht => itoa_all z w (by omega) (by omega) ht)
end Go.Proofs.YtggaflihblhapaaDoor
