/-
  Runs of numbers in a list: between and around.
-/
import Derived.Test.YtomhiganfmoceaaDoorWCheck
import Derived.OwnWalk
import Derived.Maps.AppendAt
namespace Go.Proofs.YtomhiganfmoceaaDoor
open Go.RowKit Go.Sort CM JM WM

/-- The numbers from F on, so many. -/
def numsL (F : Int) (i : Nat) : List Int := (List.range i).map fun t : Nat => F + (t : Int)
theorem numsL_len (F : Int) (i : Nat) : (numsL F i).length = i := by simp [numsL]
theorem numsL_succ (F : Int) (i : Nat) : numsL F (i + 1) = numsL F i ++ [F + (i : Int)] := by simp [numsL, List.range_succ]
theorem numsL_at (F : Int) {i j : Nat} (h : j < i) : (numsL F i).getD j 0 = F + (j : Int) := by
  rw [List.getD_eq_getElem?_getD, List.getElem?_eq_getElem (by rw [numsL_len]; exact h)]
  simp [numsL]
def intCells (l : List Int) : List Value := l.map (Value.int .i64)
theorem nums_of_row {w : World} {base : Nat} {e : TypeId} {v : Value} {F : Int} {i : Nat} (h : w.ownsRow base e 1 v i (intCells (numsL F i))) :
    ∃ A cap, v = .slice A i cap ∧ NumsAt w A F i := by
  rcases h.2 with ⟨rfl, h0⟩ | ⟨g, cap, cur, rfl, _, hg, hn, _, hsz, htk⟩
  · rw [h0]; exact ⟨none, 0, rfl, fun j hj => by omega⟩
  · refine ⟨some ⟨g, 0, none⟩, cap, rfl, fun j hj => ⟨g, rfl, ?_, ?_⟩⟩
    · rcases Nat.lt_or_ge g w.heap.size with h' | h'
      · exact h'
      · simp [Array.getElem?_eq_none h'] at hg
    · rw [Lib.cell_of_heap hg]
      have hc : (intCells (numsL F i))[j]? = some (.int .i64 (F + (j : Int))) := by
        unfold intCells
        rw [List.getElem?_map, List.getElem?_eq_getElem (by rw [numsL_len]; exact hj)]
        have := numsL_at F hj
        rw [List.getD_eq_getElem?_getD, List.getElem?_eq_getElem (by rw [numsL_len]; exact hj)] at this
        simp only [Option.getD_some] at this
        rw [this]; rfl
      rw [← htk, List.getElem?_take_of_lt (by omega)] at hc
      simpa using hc
theorem int_row_info : (Tryd.prog.info? 3).map (fun i => (i.zero, i.size, i.bytes)) = some (some (.int .i64 0), 1, 8) := by kernel_rfl
theorem int_new (w : World) (t : TypeId) (n : Int) (H : Nat) (hH : w.heap.size = H) : ∀ j u, ([.int .i64 n] : List Value)[j]? = some u → (w.alloc (.cells #[.int .i64 n] t)).cell? ((⟨H, 0, none⟩ : Addr).add j) = some u := fun j u hj => by
  subst hH
  match j, hj with
  | 0, hj => simp at hj; subst hj; simp [Addr.add]
theorem int_one' (n : Int) : ∀ u ∈ ([.int .i64 n] : List Value), u.oneCell' = true := fun u hu => by
  simp at hu; subst hu; rfl
/-- A list of those of the first N from a on of which p holds. -/
def RunOut (p : Int → Bool) (a : Int) (N : Nat) (w : World) (e : Ending) (w' : World) : Prop :=
  (∃ (A : Option Addr) (cap x y : Nat), RunIs p a N x y ∧ e = .returned (.slice A (y - x) cap) ∧ NumsAt w' A (a + (x : Int)) (y - x)) ∧ Below w.heap.size w w'
theorem RunOut.congr {p q : Int → Bool} {a : Int} {N : Nat} {w : World} {e : Ending} {w' : World} (h : RunOut p a N w e w') (hq : ∀ t : Nat, t < N → p (a + (t : Int)) = q (a + (t : Int))) : RunOut q a N w e w' := by
  obtain ⟨⟨A, cap, x, y, h1, h2, h3⟩, h4⟩ := h
  exact ⟨⟨A, cap, x, y, h1.congr hq, h2, h3⟩, h4⟩
theorem runOut_nil {p : Int → Bool} {a : Int} {N : Nat} {w w' : World} (h : ∀ t : Nat, t < N → p (a + (t : Int)) = false) (hb : Below w.heap.size w w') : RunOut p a N w (.returned (.slice none 0 0)) w' :=
  ⟨⟨none, 0, 0, 0, run_none h, rfl, fun i hi => by omega⟩, hb⟩
set_option maxHeartbeats 4000000 in
set_option maxRecDepth 100000 in
theorem between_any (k a z f g : Int) (N : Nat) (w : World) (hz : z = a + (N : Int) - 1) (h0 : 0 ≤ a) (h1 : a ≤ 40000000) (hN : N ≤ 512) (f0 : -100000000 ≤ f) (f1 : f ≤ 100000000) (g0 : -100000000 ≤ g) (g1 : g ≤ 100000000) :
    Calls Tryd.prog 31 #[vS k a z, .int .i64 f, .int .i64 g] w (RunOut (fun j => decide (f ≤ j) && decide (j ≤ g)) a N w) := by
  obtain ⟨F, hF⟩ : ∃ F, F = max f a := ⟨_, rfl⟩
  obtain ⟨U, hU⟩ : ∃ U, U = min g z := ⟨_, rfl⟩
  have HNo : Hid (U < F → RunIs (fun j => decide (f ≤ j) && decide (j ≤ g)) a N 0 0) := hide fun h => run_betw_no (by rw [← hz, ← hU, ← hF]; exact h)
  have HYes : Hid (F ≤ U → RunIs (fun j => decide (f ≤ j) && decide (j ≤ g)) a N (F - a).toNat ((F - a).toNat + (U + 1 - F).toNat)) := hide fun h => by
    have := run_betw (a := a) (f := f) (g := g) (N := N) (by rw [← hz, ← hU, ← hF]; exact h)
    rw [← hz, ← hU, ← hF] at this
    exact this
  have hFa : a ≤ F ∧ F ≤ 100000000 := by omega
  have hUz : U ≤ 40000512 ∧ -100000000 ≤ U ∧ U < a + 512 := by omega
  have HFe := hide hF
  have HUe := hide hU
  have HB0 := hide (box_below w k a z)
  have HBr0 := hide (Below.refl ((w.alloc (.cells #[.int .i64 k, .int .i64 a, .int .i64 z] 25))).heap.size ((w.alloc (.cells #[.int .i64 k, .int .i64 a, .int .i64 z] 25))))
  obtain ⟨i0, hi, hz0, hz1, hz2⟩ := info_parts int_row_info
  have hz' : z ≤ 40000512 ∧ -1 ≤ z := by omega
  clear hz hN h0 hF hU
  rcases Int.lt_or_le f a with hfa | hfa
  · have hFq : F = a := by have := HFe.out; omega
    have HNo : Hid (U < a → _) := hide (hFq ▸ HNo.out)
    have HYes : Hid (a ≤ U → RunIs (fun j => decide (f ≤ j) && decide (j ≤ g)) a N (a - a).toNat ((a - a).toNat + (U + 1 - a).toNat)) := hide (hFq ▸ HYes.out)
    clear HFe hFa hFq
    go_enter Tryd.func31, Tryd.ntmps31
    go_wp2_with fail
    obtain ⟨W, hW⟩ : ∃ W, W = (w.alloc (.cells #[.int .i64 k, .int .i64 a, .int .i64 z] 25)) := ⟨_, rfl⟩
    rw [← hW] at HB0 HBr0
    rw [← hW]
    have HC : Hid (W.cell? ⟨w.heap.size, 2, none⟩ = some (.int .i64 z) ∧ w.heap.size < W.heap.size) := hide (by rw [hW]; exact ⟨(box_cells w k a z).2.2, by simp⟩)
    clear hW
    go_loopw [7, 8] (fun v u wr => ∃ i : Nat, (i = 0 ∨ a + (i : Int) ≤ U + 1) ∧ u = .int .i64 (a + (i : Int)) ∧ wr.ownsRow W.heap.size 3 1 v i (intCells (numsL a i)) ∧ Below W.heap.size W wr) (fun _ u _ => (U + 1 - intOf u).toNat)
    case atStart => exact ⟨0, .inl rfl, by simp, World.ownsRow_nil _ _ _ _, HBr0.out⟩
    case round =>
      obtain ⟨i, hiu, rfl, hrow, hbw⟩ := hrel
      have HBw := hide hbw
      have cz := (hbw.cell (p := ⟨w.heap.size, 2, none⟩) HC.out.2).trans HC.out.1
      have hzr := hbw.size
      clear hbw
      have hib : (i : Int) ≤ 40000000 + 100000000 + 600 := by omega
      rcases Int.lt_or_le z g with hgz | hgz
      all_goals (
        by_cases hlt : a + (i : Int) ≤ U
        · have hl1 : a + (i : Int) ≤ g := by have := HUe.out; omega
          have hl2 : a + (i : Int) ≤ z := by have := HUe.out; omega
          have hi5 : i ≤ 1000 := by omega
          go_wp2_with (at_builtin; go_must (refine wpList_append_own_at _ rfl _ _ 33 rfl W.heap.size 3 i0 (.int .i64 0) 1 8 Tryd.underlying33 hi hz0 hz1 hz2 rfl (by decide) _ _ _ rfl (hrow.alloc _) ⟨wr.heap.size, 0, none⟩ 1 1 [.int .i64 (a + (i : Int))] rfl rfl (int_new _ _ _ _ rfl) (int_one' _) (by unfold maxLen; omega) (by omega) (by simp; omega) ?_))
          intro v1 w3 hown3 hgrow3 _ hat3
          have HO3 : Hid (w3.ownsRow W.heap.size 3 1 v1 (i + 1) (intCells (numsL a (i + 1)))) := hide (by
            have e2 : intCells (numsL a (i + 1)) = intCells (numsL a i) ++ [.int .i64 (a + (i : Int))] := by rw [numsL_succ]; simp [intCells]
            rw [e2]; exact hown3)
          have HB3 : Hid (Below W.heap.size W w3) := hide ((HBw.out.alloc HBw.out.size _).grown hgrow3 (by simp; omega) (fun j hj => (hrow.lt j hj).1))
          clear hown3 hgrow3 hat3 hrow cz
          go_wp2_with fail
          go_roundw
          case rel => exact ⟨i + 1, .inr (by omega), by go_num, HO3.out, HB3.out⟩
          case measure => simp [intOf]; omega
        · have hl3 : ¬ (a + (i : Int) ≤ g ∧ a + (i : Int) ≤ z) := by have := HUe.out; omega
          first
            | (have hl1 : g < a + (i : Int) := by omega
               go_wp2_with fail)
            | (have hl1 : z < a + (i : Int) := by omega
               go_wp2_with fail)
          go_ret
          obtain ⟨A, cap, rfl, hA⟩ := nums_of_row hrow
          have HBe := HB0.out.trans (HBw.out.mono HB0.out.size)
          by_cases hm : a ≤ U
          · refine ⟨⟨A, cap, _, _, HYes.out hm, ?_, ?_⟩, HBe⟩
            · rw [show (a - a).toNat + (U + 1 - a).toNat - (a - a).toNat = i by omega]; rfl
            · rw [show (a - a).toNat + (U + 1 - a).toNat - (a - a).toNat = i by omega, show a + ((a - a).toNat : Int) = a by omega]
              exact hA
          · obtain rfl : i = 0 := by omega
            exact ⟨⟨A, cap, 0, 0, HNo.out (by omega), rfl, fun j hj => by omega⟩, HBe⟩)
  · have hFq : F = f := by have := HFe.out; omega
    have HNo : Hid (U < f → _) := hide (hFq ▸ HNo.out)
    have HYes : Hid (f ≤ U → RunIs (fun j => decide (f ≤ j) && decide (j ≤ g)) a N (f - a).toNat ((f - a).toNat + (U + 1 - f).toNat)) := hide (hFq ▸ HYes.out)
    clear HFe hFa hFq
    go_enter Tryd.func31, Tryd.ntmps31
    go_wp2_with fail
    obtain ⟨W, hW⟩ : ∃ W, W = (w.alloc (.cells #[.int .i64 k, .int .i64 a, .int .i64 z] 25)) := ⟨_, rfl⟩
    rw [← hW] at HB0 HBr0
    rw [← hW]
    have HC : Hid (W.cell? ⟨w.heap.size, 2, none⟩ = some (.int .i64 z) ∧ w.heap.size < W.heap.size) := hide (by rw [hW]; exact ⟨(box_cells w k a z).2.2, by simp⟩)
    clear hW
    go_loopw [7, 8] (fun v u wr => ∃ i : Nat, (i = 0 ∨ f + (i : Int) ≤ U + 1) ∧ u = .int .i64 (f + (i : Int)) ∧ wr.ownsRow W.heap.size 3 1 v i (intCells (numsL f i)) ∧ Below W.heap.size W wr) (fun _ u _ => (U + 1 - intOf u).toNat)
    case atStart => exact ⟨0, .inl rfl, by simp, World.ownsRow_nil _ _ _ _, HBr0.out⟩
    case round =>
      obtain ⟨i, hiu, rfl, hrow, hbw⟩ := hrel
      have HBw := hide hbw
      have cz := (hbw.cell (p := ⟨w.heap.size, 2, none⟩) HC.out.2).trans HC.out.1
      have hzr := hbw.size
      clear hbw
      have hib : (i : Int) ≤ 40000000 + 100000000 + 600 := by omega
      rcases Int.lt_or_le z g with hgz | hgz
      all_goals (
        by_cases hlt : f + (i : Int) ≤ U
        · have hl1 : f + (i : Int) ≤ g := by have := HUe.out; omega
          have hl2 : f + (i : Int) ≤ z := by have := HUe.out; omega
          have hi5 : i ≤ 1000 := by omega
          go_wp2_with (at_builtin; go_must (refine wpList_append_own_at _ rfl _ _ 33 rfl W.heap.size 3 i0 (.int .i64 0) 1 8 Tryd.underlying33 hi hz0 hz1 hz2 rfl (by decide) _ _ _ rfl (hrow.alloc _) ⟨wr.heap.size, 0, none⟩ 1 1 [.int .i64 (f + (i : Int))] rfl rfl (int_new _ _ _ _ rfl) (int_one' _) (by unfold maxLen; omega) (by omega) (by simp; omega) ?_))
          intro v1 w3 hown3 hgrow3 _ hat3
          have HO3 : Hid (w3.ownsRow W.heap.size 3 1 v1 (i + 1) (intCells (numsL f (i + 1)))) := hide (by
            have e2 : intCells (numsL f (i + 1)) = intCells (numsL f i) ++ [.int .i64 (f + (i : Int))] := by rw [numsL_succ]; simp [intCells]
            rw [e2]; exact hown3)
          have HB3 : Hid (Below W.heap.size W w3) := hide ((HBw.out.alloc HBw.out.size _).grown hgrow3 (by simp; omega) (fun j hj => (hrow.lt j hj).1))
          clear hown3 hgrow3 hat3 hrow cz
          go_wp2_with fail
          go_roundw
          case rel => exact ⟨i + 1, .inr (by omega), by go_num, HO3.out, HB3.out⟩
          case measure => simp [intOf]; omega
        · have hl3 : ¬ (f + (i : Int) ≤ g ∧ f + (i : Int) ≤ z) := by have := HUe.out; omega
          first
            | (have hl1 : g < f + (i : Int) := by omega
               go_wp2_with fail)
            | (have hl1 : z < f + (i : Int) := by omega
               go_wp2_with fail)
          go_ret
          obtain ⟨A, cap, rfl, hA⟩ := nums_of_row hrow
          have HBe := HB0.out.trans (HBw.out.mono HB0.out.size)
          by_cases hm : f ≤ U
          · refine ⟨⟨A, cap, _, _, HYes.out hm, ?_, ?_⟩, HBe⟩
            · rw [show (f - a).toNat + (U + 1 - f).toNat - (f - a).toNat = i by omega]; rfl
            · rw [show (f - a).toNat + (U + 1 - f).toNat - (f - a).toNat = i by omega, show a + ((f - a).toNat : Int) = f by omega]
              exact hA
          · obtain rfl : i = 0 := by omega
            exact ⟨⟨A, cap, 0, 0, HNo.out (by omega), rfl, fun j hj => by omega⟩, HBe⟩)
end Go.Proofs.YtomhiganfmoceaaDoor
