/-
  sort.Search, and the first partition for which a function holds.
-/
import Derived.Test.YtomhiganfmoceaaDoorJWin
import Derived.Shelf.Abstract
import Derived.Deep.LoopGhost
import Derived.Deep.RegionHeld
namespace Go.Proofs.YtomhiganfmoceaaDoor
open Go.RowKit Go.Sort CM JM

/-- What a search tells. -/
def SeaOut (p : Nat → Bool) (n : Nat) (w : World) (e : Ending) (w' : World) : Prop := (∃ r, IsFst p n r ∧ e = .returned (.int .i64 (r : Nat))) ∧ Below w.heap.size w w'
/-- What a search between two ends knows. -/
def SeaIn (p : Nat → Bool) (n lo hi : Nat) : Prop := (∀ t, t < lo → p t = false) ∧ ∀ t, hi ≤ t → t < n → p t = true
set_option maxHeartbeats 4000000 in
theorem search_any (g : FuncId) (cb : Array Value) (n : Nat) (p : Nat → Bool) (w : World) (eg : ∀ args w, (callFunc g args).run Tryd.prog w = .ok (.enter g args) w) (hn : n ≤ 1000)
    (hf : ∀ (w' : World) (i : Nat), i < n → Below w.heap.size w w' → Calls Tryd.prog g (#[.int .i64 i] ++ cb) w' fun e w2 => e = .returned (.bool (p i)) ∧ Below w'.heap.size w' w2)
    (hm : ∀ i j, i ≤ j → j < n → p i = true → p j = true) :
    Calls Tryd.prog 54 #[.int .i64 n, .func (.func g) #[] cb] w (SeaOut p n w) := by
  have HF := hide hf
  have HM := hide hm
  have HB0 := hide (Below.refl w.heap.size w)
  have HI0 : Hid (SeaIn p n 0 n) := hide ⟨fun t ht => absurd ht (Nat.not_lt_zero _), fun t h1 h2 => by omega⟩
  clear hf hm
  go_enter Tryd.func54, Tryd.ntmps54
  go_wp2_with fail
  go_loopw [5, 6] (fun s t wr => ∃ (lo hi : Nat), s = .int .i64 lo ∧ t = .int .i64 hi ∧ lo ≤ hi ∧ hi ≤ n ∧ Hid (SeaIn p n lo hi) ∧ Below w.heap.size w wr) (fun s t _ => (intOf t - intOf s).toNat)
  case atStart => exact ⟨0, n, rfl, rfl, Nat.zero_le _, Nat.le_refl _, HI0, HB0.out⟩
  case round =>
    obtain ⟨lo, hi, rfl, rfl, hlh, hin, HI, hb⟩ := hrel
    have HB := hide hb
    clear hb
    by_cases hlt : lo < hi
    · have hc := HF.out wr ((lo + hi) / 2) (by omega) HB.out
      rw [show (((lo + hi) / 2 : Nat) : Int) = ((lo : Int) + (hi : Int)) / 2 by omega] at hc
      cases hp : p ((lo + hi) / 2) <;> rw [hp] at hc
      · have HI2 : Hid (SeaIn p n ((lo + hi) / 2 + 1) hi) := hide ⟨fun t ht => (by
          cases h : p t with
          | false => rfl
          | true => have := HM.out t ((lo + hi) / 2) (by omega) (by omega) h; rw [hp] at this; cases this), HI.out.2⟩
        have HC := hide hc
        clear hp hc
        go_wp2_with (go_at_fn g; refine HC.out.mono ?_; rintro e w2 ⟨rfl, hb2⟩)
        have HB2 := hide (HB.out.trans (hb2.mono HB.out.size))
        clear hb2
        go_wp2_with fail
        go_roundw
        case rel => exact ⟨(lo + hi) / 2 + 1, hi, by rw [show ((lo : Int) + (hi : Int)) / 2 + 1 = (((lo + hi) / 2 + 1 : Nat) : Int) by omega], rfl, by omega, hin, HI2, HB2.out⟩
        case measure => simp [intOf]; omega
      · have HI2 : Hid (SeaIn p n lo ((lo + hi) / 2)) := hide ⟨HI.out.1, fun t ht htn => HM.out ((lo + hi) / 2) t ht htn hp⟩
        have HC := hide hc
        clear hp hc
        go_wp2_with (go_at_fn g; refine HC.out.mono ?_; rintro e w2 ⟨rfl, hb2⟩)
        have HB2 := hide (HB.out.trans (hb2.mono HB.out.size))
        clear hb2
        go_wp2_with fail
        go_roundw
        case rel => exact ⟨lo, (lo + hi) / 2, rfl, by rw [show ((lo : Int) + (hi : Int)) / 2 = (((lo + hi) / 2 : Nat) : Int) by omega], by omega, by omega, HI2, HB2.out⟩
        case measure => simp [intOf]; omega
    · obtain rfl : hi = lo := by omega
      have HR : Hid (IsFst p n hi) := hide ⟨hin, HI.out.1, HI.out.2⟩
      go_wp2_with fail
      go_ret
      exact ⟨⟨hi, HR.out, rfl⟩, HB.out⟩
set_option maxHeartbeats 1000000 in
theorem clos_any (g : FuncId) (cb : Array Value) (i : Nat) (a : Int) (b : Bool) (bf bs : Nat) (w : World) (eg : ∀ args w, (callFunc g args).run Tryd.prog w = .ok (.enter g args) w) (h0 : 0 ≤ a) (h1 : a ≤ 100000000) (hi : i ≤ 1000)
    (c0 : w.cell? ⟨bf, 0, none⟩ = some (.func (.func g) #[] cb)) (c1 : w.cell? ⟨bs, 1, none⟩ = some (.int .i64 a))
    (hf : Calls Tryd.prog g (#[.int .i64 (a + i)] ++ cb) w fun e w2 => e = .returned (.bool b) ∧ Below w.heap.size w w2) :
    Calls Tryd.prog 55 #[.int .i64 i, .pointer (some ⟨bf, 0, none⟩), .pointer (some ⟨bs, 0, none⟩)] w fun e w2 => e = .returned (.bool b) ∧ Below w.heap.size w w2 := by
  have HF := hide hf
  clear hf
  go_enter Tryd.func55, Tryd.ntmps55
  go_wp2_with (go_at_fn g; refine HF.out.mono ?_; rintro e w2 ⟨rfl, hb2⟩)
  have HB2 := hide hb2
  clear hb2
  go_wp2_with fail
  go_ret
  exact ⟨rfl, HB2.out⟩
theorem box2_stays {w w1 : World} {k a z : Int} {g : FuncId} {cb : Array Value} (hb : Below ((w.alloc (.cells #[.int .i64 k, .int .i64 a, .int .i64 z] 25)).alloc (.cells #[.func (.func g) #[] cb] 38)).heap.size ((w.alloc (.cells #[.int .i64 k, .int .i64 a, .int .i64 z] 25)).alloc (.cells #[.func (.func g) #[] cb] 38)) w1) : (w1.cell? ⟨w.heap.size, 0, none⟩ = some (.int .i64 k) ∧ w1.cell? ⟨w.heap.size, 1, none⟩ = some (.int .i64 a) ∧ w1.cell? ⟨w.heap.size, 2, none⟩ = some (.int .i64 z)) ∧ w1.cell? ⟨w.heap.size + 1, 0, none⟩ = some (.func (.func g) #[] cb) := by
  refine ⟨⟨?_, ?_, ?_⟩, ?_⟩
  all_goals
    rw [hb.cell (by simp; try omega)]
    simp
theorem box2_below (w : World) (k a z : Int) (g : FuncId) (cb : Array Value) : Below w.heap.size w ((w.alloc (.cells #[.int .i64 k, .int .i64 a, .int .i64 z] 25)).alloc (.cells #[.func (.func g) #[] cb] 38)) := (box_below w k a z).alloc (box_below w k a z).size _
theorem wrap_in {n : Int} (h0 : -9223372036854775808 ≤ n) (h1 : n ≤ 9223372036854775807) : IntKind.i64.wrap n = n := by
  unfold IntKind.wrap
  simp [IntKind.signed, IntKind.bits]
  omega
/-- What first tells. -/
def FstOut (q : Int → Bool) (a : Int) (n : Nat) (w : World) (e : Ending) (w' : World) : Prop := (∃ r : Nat, IsFst (fun t => q (a + (t : Nat))) n r ∧ e = .returned (.int .i64 (a + (r : Nat)))) ∧ Below w.heap.size w w'
theorem efc : ∀ args w, (callFunc 55 args).run Tryd.prog w = .ok (.enter 55 args) w := enters_of Tryd.func55 (by kernel_rfl) rfl
set_option maxHeartbeats 4000000 in
set_option maxRecDepth 100000 in
theorem first_any' (k a z : Int) (g : FuncId) (cb : Array Value) (n : Nat) (q : Int → Bool) (w : World) (hM : Mon w) (eg : ∀ args w, (callFunc g args).run Tryd.prog w = .ok (.enter g args) w) (hok : okS k a z = true) (hn : cntS k a z = n)
    (hf : ∀ (w' : World) (i : Int), a ≤ i → i ≤ z → Below w.heap.size w w' → Calls Tryd.prog g (#[.int .i64 i] ++ cb) w' fun e w2 => e = .returned (.bool (q i)) ∧ Below w'.heap.size w' w2)
    (hm : ∀ i j, a ≤ i → i ≤ j → j ≤ z → q i = true → q j = true) :
    Calls Tryd.prog 43 #[vS k a z, .func (.func g) #[] cb] w (FstOut q a n w) := by
  have hbd := ok_bd hok
  have HC := hide (fun w hM => count_any k a z w hM (by omega))
  rw [hn] at HC
  have hzn : z = a + (n : Int) - 1 ∧ n ≤ 512 := by obtain ⟨m, h1, h2, h3, _⟩ := cnt_nat hok; omega
  have HB0 := hide (box2_below w k a z g cb)
  have HMo := hide (hM.on HB0.out)
  have HS : Hid (∀ w2, Below ((w.alloc (.cells #[.int .i64 k, .int .i64 a, .int .i64 z] 25)).alloc (.cells #[.func (.func g) #[] cb] 38)).heap.size ((w.alloc (.cells #[.int .i64 k, .int .i64 a, .int .i64 z] 25)).alloc (.cells #[.func (.func g) #[] cb] 38)) w2 → Calls Tryd.prog 54 #[.int .i64 n, .func (.func 55) #[] #[.pointer (some ⟨w.heap.size + 1, 0, none⟩), .pointer (some ⟨w.heap.size, 0, none⟩)]] w2 (SeaOut (fun t => q (a + (t : Nat))) n w2)) := hide (fun w2 hb2 =>
    search_any 55 #[.pointer (some ⟨w.heap.size + 1, 0, none⟩), .pointer (some ⟨w.heap.size, 0, none⟩)] n _ w2 efc (by omega) (fun w' i hi hb' => by
      have hb3 := hb2.trans (hb'.mono hb2.size)
      obtain ⟨⟨c0, c1, c2⟩, c3⟩ := box2_stays hb3
      exact clos_any g cb i a _ _ _ w' eg (by omega) (by omega) (by omega) c3 c1 (hf w' (a + i) (by omega) (by omega) (HB0.out.trans (hb3.mono HB0.out.size))))
      (fun i j hij hj h => hm _ _ (by omega) (by omega) (by omega) h))
  obtain ⟨b0, b1, b2, b3⟩ := hbd
  have b5 := hzn.2
  clear hzn hM hok hn hf hm eg
  go_enter Tryd.func43, Tryd.ntmps43
  go_wp2_with fail
  refine wp_region_held_drew (S := fun w' => Below ((w.alloc (.cells #[.int .i64 k, .int .i64 a, .int .i64 z] 25)).alloc (.cells #[.func (.func g) #[] cb] 38)).heap.size ((w.alloc (.cells #[.int .i64 k, .int .i64 a, .int .i64 z] 25)).alloc (.cells #[.func (.func g) #[] cb] 38)) w') (by kernel_rfl) ((Below.refl _ _).drew) (fun hS => ?_)
  refine wpAnyH_take (i := 0) (oi := ⟨some 5, _, _, _, _, _⟩) (v := ?_) rfl (by kernel_rfl) (by kernel_rfl) (by kernel_rfl) (fun _ _ _ h => h) (Or.inl ⟨by rfl, ?_⟩) hS ?_
  rotate_left 1
  · intro w' hw'
    obtain ⟨⟨c0, c1, c2⟩, c3⟩ := box2_stays hw'
    go_simp
    all_goals with_reducible rfl
  try simp only [Act.put, List.setIfInBounds_toArray, List.set_cons_zero, List.set_cons_succ]
  refine wpAnyH_take (i := 1) (oi := ⟨some 6, _, _, _, _, _⟩) (v := ?_) rfl (by kernel_rfl) (by kernel_rfl) (by kernel_rfl) (fun _ _ _ h => h) (Or.inl ⟨by rfl, ?_⟩) hS ?_
  rotate_left 1
  · intro w' hw'
    obtain ⟨⟨c0, c1, c2⟩, c3⟩ := box2_stays hw'
    go_simp
    all_goals with_reducible rfl
  try simp only [Act.put, List.setIfInBounds_toArray, List.set_cons_zero, List.set_cons_succ]
  refine wpAnyH_take (i := 2) (oi := ⟨some 7, _, _, _, _, _⟩) (v := ?_) rfl (by kernel_rfl) (by kernel_rfl) (by kernel_rfl) (fun _ _ _ h => h) (Or.inl ⟨by rfl, ?_⟩) hS ?_
  rotate_left 1
  · intro w' hw'
    obtain ⟨⟨c0, c1, c2⟩, c3⟩ := box2_stays hw'
    go_simp
    all_goals with_reducible rfl
  try simp only [Act.put, List.setIfInBounds_toArray, List.set_cons_zero, List.set_cons_succ]
  refine wpAnyH_take (i := 4) (oi := ⟨some 9, _, _, _, _, _⟩) (v := ?_) rfl (by kernel_rfl) (by kernel_rfl) (by kernel_rfl) (fun _ _ _ h => h) (Or.inl ⟨by rfl, ?_⟩) hS ?_
  rotate_left 1
  · intro w' hw'
    obtain ⟨⟨c0, c1, c2⟩, c3⟩ := box2_stays hw'
    go_simp
    all_goals with_reducible rfl
  try simp only [Act.put, List.setIfInBounds_toArray, List.set_cons_zero, List.set_cons_succ]
  refine wpAnyH_ready (rs := [3]) (by kernel_rfl) (by simp) ?_
  refine AllReadyH.cons (o := ⟨some 8, _, _, _, _, _⟩) rfl (fun K hK => ?_) AllReadyH.nil
  go_simp
  go_at_call 33
  refine (HC.out _ (HMo.out.on hS)).mono ?_
  rintro e w1 ⟨rfl, hb1⟩
  have hb1 := hS.trans (hb1.mono hS.size)
  refine hK.out _ _ (hb1) (fun hS => ?_)
  clear hK K
  try simp only [Act.put, List.setIfInBounds_toArray, List.set_cons_zero, List.set_cons_succ]
  refine wpAnyH_ready (rs := [5]) (by kernel_rfl) (by simp) ?_
  refine AllReadyH.cons (o := ⟨some 10, _, _, _, _, _⟩) rfl (fun K hK => ?_) AllReadyH.nil
  go_simp
  go_at_call 54
  refine (HS.out _ hS).mono ?_
  rintro e w2 ⟨⟨r, hr, rfl⟩, hb2⟩
  have HR := hide hr
  have hb2 := hS.trans (hb2.mono hS.size)
  have hr9 : r ≤ 512 := by have := hr.1; omega
  clear hr
  refine hK.out _ _ (hb2) (fun hS => ?_)
  clear hK K
  try simp only [Act.put, List.setIfInBounds_toArray, List.set_cons_zero, List.set_cons_succ]
  refine wpAnyH_take (i := 6) (oi := ⟨some 11, _, _, _, _, _⟩) (v := ?_) rfl (by kernel_rfl) (by kernel_rfl) (by kernel_rfl) (fun _ _ _ h => h) (Or.inl ⟨by rfl, ?_⟩) hS ?_
  rotate_left 1
  · intro w' hw'
    obtain ⟨⟨c0, c1, c2⟩, c3⟩ := box2_stays hw'
    go_simp
    all_goals with_reducible rfl
  try simp only [Act.put, List.setIfInBounds_toArray, List.set_cons_zero, List.set_cons_succ]
  refine wpAnyH_take (i := 7) (oi := ⟨some 4, _, _, _, _, _⟩) (v := ?_) rfl (by kernel_rfl) (by kernel_rfl) (by kernel_rfl) (fun _ _ _ h => h) (Or.inl ⟨by rfl, ?_⟩) hS ?_
  rotate_left 1
  · intro w' hw'
    obtain ⟨⟨c0, c1, c2⟩, c3⟩ := box2_stays hw'
    go_simp
    all_goals with_reducible rfl
  try simp only [Act.put, List.setIfInBounds_toArray, List.set_cons_zero, List.set_cons_succ]
  refine wpAnyH_done (by kernel_rfl) ?_ _
  go_wp2_with fail
  go_ret
  exact ⟨⟨r, HR.out, congrArg (fun x => Ending.returned (.int .i64 x)) (wrap_in (by omega) (by omega))⟩, HB0.out.trans (hS.mono HB0.out.size)⟩
end Go.Proofs.YtomhiganfmoceaaDoor
