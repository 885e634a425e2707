/-
  The text of a mapping, by the program: Show, kindOf, read, Parse.
-/
import Derived.Test.YtomhiganfmoceaaDoorWText
import Derived.Test.YtomhiganfmoceaaDoorWCheck
import Derived.Test.YtomhiganfmoceaaDoorJParse
namespace Go.Proofs.YtomhiganfmoceaaDoor
open Go.RowKit Go.Sort CM JM WM

/-- The words lie in their variable. -/
def Wm (w : World) : Prop := ∀ i : Nat, i < 5 → w.cell? ⟨0, i, none⟩ = some (txt (wordW ((i : Int) + 1)))
theorem Wm.stays {w w' : World} {B : Nat} (h : Wm w) (hb : Below B w w') (hB : w.heap.size ≤ B) : Wm w' := fun i hi => (hb.cell (p := ⟨0, i, none⟩) (Nat.lt_of_lt_of_le (lt_of_cell (h i hi)) hB)).trans (h i hi)
theorem Wm.on {w w' : World} (h : Wm w) (hb : Below w.heap.size w w') : Wm w' := h.stays hb (Nat.le_refl _)
/-- What all but Parse read of listed variables. -/
structure Ra (w : World) : Prop where
  tab : Tab w
  mon : Mon w
  wd : Wm w
theorem Ra.on {w w' : World} (h : Ra w) (hb : Below w.heap.size w w') : Ra w' := ⟨h.tab.on hb, h.mon.on hb, h.wd.on hb⟩
/-- What the calls read of listed variables. -/
structure Rw (w : World) : Prop where
  tab : Tab w
  mon : Mon w
  errs : Errs w
  wd : Wm w
  mx : Mx w
theorem Rw.on {w w' : World} (h : Rw w) (hb : Below w.heap.size w w') : Rw w' := ⟨h.tab.on hb, h.mon.on hb, h.errs.on hb, h.wd.on hb, h.mx.on hb⟩
theorem Rw.ra {w : World} (h : Rw w) : Ra w := ⟨h.tab, h.mon, h.wd⟩
theorem run_idxM (k : Nat) (hk : k < 5) (w : World) : (Instr.index 61 (.agg #[txt (wordW 1), txt (wordW 2), txt (wordW 3), txt (wordW 4), txt (wordW 5)]) (.int .i64 (k : Nat))).run Tryd.prog w = .ok (txt (wordW ((k : Int) + 1))) w := by
  obtain rfl | rfl | rfl | rfl | rfl : k = 0 ∨ k = 1 ∨ k = 2 ∨ k = 3 ∨ k = 4 := by omega
  all_goals kernel_rfl
set_option maxHeartbeats 2000000 in
theorem mkindOf_any (s : ByteArray) (w : World) (hW : Wm w) : Calls Tryd.prog 50 #[.string s] w fun e w' => e = .returned (.int .i64 (kindW s.data.toList)) ∧ Below w.heap.size w w' := by
  have HB0 := hide (Below.refl w.heap.size w)
  have c0 : w.cell? ⟨0, 0, none⟩ = some (txt (wordW 1)) := hW 0 (by omega)
  have c1 : w.cell? ⟨0, 1, none⟩ = some (txt (wordW 2)) := hW 1 (by omega)
  have c2 : w.cell? ⟨0, 2, none⟩ = some (txt (wordW 3)) := hW 2 (by omega)
  have c3 : w.cell? ⟨0, 3, none⟩ = some (txt (wordW 4)) := hW 3 (by omega)
  have c4 : w.cell? ⟨0, 4, none⟩ = some (txt (wordW 5)) := hW 4 (by omega)
  have HK : Hid (∀ k : Nat, k < 5 → s.data.toList = wordW ((k : Int) + 1) → kindW s.data.toList = (k : Int) + 1) := hide fun k hk e => kindW_at hk e
  have HN : Hid ((∀ j : Nat, j < 5 → s.data.toList ≠ wordW ((j : Int) + 1)) → kindW s.data.toList = 0) := hide fun h => kindW_none h
  clear hW
  go_enter Tryd.func50, Tryd.ntmps50
  go_wp2_with fail
  clear c0 c1 c2 c3 c4
  go_loop [6] (fun i => ∃ k : Nat, k ≤ 5 ∧ i = .int .i64 k ∧ Hid (∀ j : Nat, j < k → s.data.toList ≠ wordW ((j : Int) + 1))) (fun i => 5 - (intOf i).toNat)
  case atStart => exact ⟨0, by omega, rfl, hide fun j hj => by omega⟩
  case round =>
    obtain ⟨k, hk, rfl, hn⟩ := hrel
    by_cases hlt : k < 5
    · have hx := run_idxM k hlt
      by_cases he : s.data.toList = wordW ((k : Int) + 1)
      · have HR := hide (HK.out k hlt he)
        have hq : (wordW ((k : Int) + 1) == s.toList) = true := by rw [Lib.toList_data, he]; simp
        clear he
        go_wp2_with fail
        go_ret
        exact ⟨ret_int (by rw [HR.out]; omega), HB0.out⟩
      · have HN2 : Hid (∀ j : Nat, j < k + 1 → s.data.toList ≠ wordW ((j : Int) + 1)) := hide fun j hj => by
          by_cases e : j = k
          · subst e; exact he
          · exact hn.out j (by omega)
        have hq : (wordW ((k : Int) + 1) == s.toList) = false := by rw [Lib.toList_data, beq_eq_false_iff_ne]; exact fun e => he e.symm
        clear he
        go_wp2_with fail
        go_round
        case rel => exact ⟨k + 1, by omega, by go_num, HN2⟩
        case measure => simp [intOf]; omega
    · obtain rfl : k = 5 := by omega
      have HR := hide (HN.out hn.out)
      go_wp2_with fail
      go_ret
      exact ⟨ret_int HR.out.symm, HB0.out⟩
set_option maxHeartbeats 2000000 in
set_option maxRecDepth 100000 in
theorem mshow_in (j : Nat) (n : Int) (x T : List UInt8) (z : Bool) (w : World) (_ : j < 5) (lx : x.length ≤ 30) (hz : (n == 0) = z) (hT : T = if z = true then wordW ((j : Int) + 1) else wordW ((j : Int) + 1) ++ (32 :: x))
    (hf : Gv (mBox w ((j : Int) + 1) n) 22 #[vM ((j : Int) + 1) n] (.bool true))
    (hW : Wm w) (hx : Gv (mBox w ((j : Int) + 1) n) 36 #[.int .i64 n] (txt x)) :
    Calls Tryd.prog 18 #[vM ((j : Int) + 1) n] w fun e w' => e = .returned (txt T) ∧ Below w.heap.size w w' := by
  have HT := hide hT
  have HF := hide hf
  have HX := hide hx
  have HO := hide (mbox_below w ((j : Int) + 1) n)
  have hlw : (wordW ((j : Int) + 1)).length ≤ 6 := (kindW_word (by omega)).2.2
  have hc := hW j (by omega)
  have hg := lt_of_cell hc
  have HC := hide hc
  have HB0 := hide (Below.refl (mBox w ((j : Int) + 1) n).heap.size (mBox w ((j : Int) + 1) n))
  have HM : Hid ((mBox w ((j : Int) + 1) n).cell? ⟨w.heap.size, 0, none⟩ = some (.int .i64 ((j : Int) + 1)) ∧ (mBox w ((j : Int) + 1) n).cell? ⟨w.heap.size, 1, none⟩ = some (.int .i64 n) ∧ w.heap.size < (mBox w ((j : Int) + 1) n).heap.size) := hide (by refine ⟨?_, ?_, ?_⟩ <;> simp)
  clear hf hx hW hc hT
  generalize wordW ((j : Int) + 1) = wd at *
  go_enter Tryd.func18, Tryd.ntmps18
  go_wp2_with fail
  refine (HF.out _ HB0.out).mono ?_
  rintro e w1 ⟨rfl, hb⟩
  have HB1 := hide (HO.out.trans (hb.mono HO.out.size))
  have HBx := hide hb
  have c0 := (hb.cell (p := ⟨w.heap.size, 0, none⟩) HM.out.2.2).trans HM.out.1
  have c1 := (hb.cell (p := ⟨w.heap.size, 1, none⟩) HM.out.2.2).trans HM.out.2.1
  have cw := (HB1.out.cell (p := ⟨0, j, none⟩) hg).trans HC.out
  clear hb hg
  cases z
  · have HE : Hid ((⟨wd.toArray⟩ : ByteArray) ++ ⟨#[32]⟩ ++ ⟨x.toArray⟩ = ⟨T.toArray⟩) := hide (by
      have e : T = wd ++ (32 :: x) := HT.out
      rw [e]
      apply ByteArray.ext; simp [ByteArray.data_append])
    clear HT
    go_wp2_with fail
    refine (HX.out _ HBx.out).mono ?_
    rintro e w2 ⟨rfl, hb⟩
    have HB2 := hide (HB1.out.trans (hb.mono HB1.out.size))
    clear hb c0 c1 cw
    go_wp2_with fail
    go_ret
    exact ⟨ret_str HE.out, HB2.out⟩
  · have HE : Hid ((⟨wd.toArray⟩ : ByteArray) = ⟨T.toArray⟩) := hide (by
      have e : T = wd := HT.out
      rw [e])
    clear HT
    go_wp2_with fail
    go_ret
    exact ⟨ret_str HE.out, HB1.out⟩
theorem mshow_out (k n : Int) (w : World) (hq : formB k n = false) : Calls Tryd.prog 18 #[vM k n] w fun e w' => e = .returned (txt []) ∧ Below w.heap.size w w' := by
  have HO := hide (mbox_below w k n)
  have hf := formed_any k n (mBox w k n)
  rw [hq] at hf
  have HF := hide hf
  clear hf hq
  go_enter Tryd.func18, Tryd.ntmps18
  go_wp2_with fail
  refine HF.out.mono ?_
  rintro e w1 ⟨rfl, hb⟩
  have HB1 := hide (HO.out.trans (hb.mono HO.out.size))
  clear hb
  go_wp2_with fail
  go_ret
  exact ⟨rfl, HB1.out⟩
theorem mshow_any (k n : Int) (w : World) (hR : Ra w) : Calls Tryd.prog 18 #[vM k n] w fun e w' => e = .returned (txt (showM k n)) ∧ Below w.heap.size w w' := by
  cases hq : formB k n
  · rw [show showM k n = [] from if_neg (by rw [hq]; simp)]
    exact mshow_out k n w hq
  · obtain ⟨hk, h0, h1⟩ := form_kind hq
    obtain ⟨j, hj, rfl⟩ : ∃ j : Nat, j < 5 ∧ k = (j : Int) + 1 := ⟨(k - 1).toNat, by omega, by omega⟩
    have q := mbox_below w ((j : Int) + 1) n
    have hf : Gv (mBox w ((j : Int) + 1) n) 22 #[vM ((j : Int) + 1) n] (.bool true) := fun w1 _ => by
      have := formed_any ((j : Int) + 1) n w1
      rw [hq] at this
      exact this
    exact mshow_in j n (Lib.itoa n) _ (n == 0) w hj (by have := Lib.itoa_length_le n (by omega) (by omega); omega) rfl (by
      rw [show showM ((j : Int) + 1) n = if n = 0 then wordW ((j : Int) + 1) else wordW ((j : Int) + 1) ++ (32 :: Lib.itoa n) from if_pos hq]
      simp) hf hR.wd fun w1 hb => itoa_all n w1 (by omega) (by omega) (hR.on (q.trans (hb.mono q.size))).tab
end Go.Proofs.YtomhiganfmoceaaDoor
