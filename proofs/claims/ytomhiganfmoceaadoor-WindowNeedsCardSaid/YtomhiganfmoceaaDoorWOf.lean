/-
  around, Of and Back.
-/
import Derived.Test.YtomhiganfmoceaaDoorWRun
namespace Go.Proofs.YtomhiganfmoceaaDoor
open Go.RowKit Go.Sort CM JM WM

/-- A call that tells a run, wherever it is made behind W. -/
abbrev Gr (W : World) (f : FuncId) (args : Array Value) (p : Int → Bool) (a : Int) (N : Nat) : Prop := ∀ w1, Below W.heap.size W w1 → Calls Tryd.prog f args w1 (RunOut p a N w1)
def aroB (k f t j : Int) : Bool := decide (bg k j ≤ f) && decide (t ≤ bg k (j + 1))
theorem aro_none {k a z f t : Int} {N : Nat} (hz : z = a + (N : Int) - 1) (h5 : ¬ k = 5) (hft : f < t) (h : AtIs k a z f none) : ∀ u : Nat, u < N → aroB k f t (a + (u : Int)) = false := fun u hu => by
  rcases h with h | h
  · exact absurd h h5
  · have := h (a + (u : Int)) (by omega) (by omega)
    unfold aroB
    simp only [Bool.and_eq_false_iff, decide_eq_false_iff_not]
    omega
theorem aro_far {k a z f t i : Int} {N : Nat} (h0 : 0 ≤ a) (hz : z = a + (N : Int) - 1) (h5 : ¬ k = 5) (hft : f < t) (h : AtIs k a z f (some i)) (ht : bg k (i + 1) < t) : ∀ u : Nat, u < N → aroB k f t (a + (u : Int)) = false := fun u hu => by
  unfold aroB
  rw [Bool.and_eq_false_iff, decide_eq_false_iff_not, decide_eq_false_iff_not]
  by_cases hj : bg k (a + (u : Int)) ≤ f
  · right
    intro hn
    have := at_one h0 h (s := some (a + (u : Int))) ⟨by omega, by omega, h5, hj, by omega⟩
    injection this with this
    rw [← this] at hn
    omega
  · exact .inl hj
theorem aro_in {k a z f t i : Int} {N : Nat} (h0 : 0 ≤ a) (hz : z = a + (N : Int) - 1) (h5 : ¬ k = 5) (hft : f < t) (h : AtIs k a z f (some i)) (ht : t ≤ bg k (i + 1)) : RunIs (aroB k f t) a N (i - a).toNat ((i - a).toNat + 1) := by
  have h' := h
  obtain ⟨h1, h2, _, h3, h4⟩ := h
  refine ⟨by omega, by omega, fun u hu => ?_⟩
  unfold aroB
  rw [Bool.and_eq_true, decide_eq_true_eq, decide_eq_true_eq]
  constructor
  · rintro ⟨g1, g2⟩
    have := at_one h0 h' (s := some (a + (u : Int))) ⟨by omega, by omega, h5, g1, by omega⟩
    injection this with this
    omega
  · rintro ⟨g1, g2⟩
    have e : a + (u : Int) = i := by omega
    rw [e]
    exact ⟨h3, ht⟩
set_option maxHeartbeats 2000000 in
set_option maxRecDepth 100000 in
theorem around_any (k a z f t : Int) (N : Nat) (w : World) (hM : Mon w) (hok : okS k a z = true) (hz : z = a + (N : Int) - 1) (h5 : ¬ k = 5) (hft : f < t) (_ : t ≤ 2147483648) (_ : -1 ≤ f) : Calls Tryd.prog 35 #[vS k a z, .int .i64 f, .int .i64 t] w (RunOut (aroB k f t) a N w) := by
  have hbd := ok_bd hok
  have HB0 := hide (box_below w k a z)
  have HM : Hid (∀ w1, Below (w.alloc (.cells #[.int .i64 k, .int .i64 a, .int .i64 z] 25)).heap.size (w.alloc (.cells #[.int .i64 k, .int .i64 a, .int .i64 z] 25)) w1 → Mon w1) := hide fun w1 hb => hM.on (HB0.out.trans (hb.mono HB0.out.size))
  obtain ⟨r, hr, hg⟩ := at_gv (m := f) hok HM.out
  have HBr0 := hide (Below.refl (w.alloc (.cells #[.int .i64 k, .int .i64 a, .int .i64 z] 25)).heap.size (w.alloc (.cells #[.int .i64 k, .int .i64 a, .int .i64 z] 25)))
  have HG := hide (hg _ HBr0.out)
  cases r with
  | none =>
    have HN := hide (aro_none hz h5 hft hr)
    clear hbd hM hok hz h5 hft hr hg
    simp only [atV] at HG
    go_enter Tryd.func35, Tryd.ntmps35
    go_wp2_with fail
    refine HG.out.mono ?_
    rintro e w1 ⟨rfl, hb⟩
    have HB := hide (HB0.out.trans (hb.mono HB0.out.size))
    clear hb
    go_wp2_with fail
    go_ret
    exact runOut_nil HN.out HB.out
  | some i =>
    have hi := hr
    obtain ⟨i1, i2, _, i3, i4⟩ := hi
    have hh : hasB k a z i = true := hasB_iff.2 ⟨hok, i1, i2⟩
    have HW : Hid (∀ w1, Below (w.alloc (.cells #[.int .i64 k, .int .i64 a, .int .i64 z] 25)).heap.size (w.alloc (.cells #[.int .i64 k, .int .i64 a, .int .i64 z] 25)) w1 → Calls Tryd.prog 28 #[vS k a z, .int .i64 i] w1 fun e w' => e = .returned (.tuple #[.int .i64 (bg k i), .int .i64 (bg k (i + 1)), .int .i64 0]) ∧ Below w1.heap.size w1 w') := hide fun w1 hb => by
      have := window_any k a z i w1 (HM.out w1 hb) (by omega)
      rw [winV_yes hh h5] at this
      exact this
    have HF : Hid (bg k (i + 1) < t → ∀ u : Nat, u < N → aroB k f t (a + (u : Int)) = false) := hide fun h => aro_far hbd.1 hz h5 hft hr h
    have HI : Hid (t ≤ bg k (i + 1) → RunIs (aroB k f t) a N (i - a).toNat ((i - a).toNat + 1)) := hide fun h => aro_in hbd.1 hz h5 hft hr h
    have hia : 0 ≤ i ∧ i ≤ 40000000 := by omega
    have HIA : Hid (a ≤ i) := hide i1
    clear hbd hM hok hz h5 hft hr hg hh i1 i2 i3 i4
    simp only [atV] at HG
    generalize bg k i = P at *
    generalize bg k (i + 1) = Q at *
    by_cases hQ : Q < t
    · go_enter Tryd.func35, Tryd.ntmps35
      go_wp2_with fail
      refine HG.out.mono ?_
      rintro e w1 ⟨rfl, hb⟩
      have HB1 := hide hb
      obtain ⟨⟨c0, c1, c2⟩, hs⟩ := box_stays hb
      clear hb
      go_wp2_with fail
      refine (HW.out _ HB1.out).mono ?_
      rintro e w2 ⟨rfl, hb⟩
      have HB := hide (HB0.out.trans ((HB1.out.trans (hb.mono HB1.out.size)).mono HB0.out.size))
      clear hb c0 c1 c2 hs
      go_wp2_with fail
      go_ret
      exact runOut_nil (HF.out hQ) HB.out
    · go_enter Tryd.func35, Tryd.ntmps35
      go_wp2_with fail
      refine HG.out.mono ?_
      rintro e w1 ⟨rfl, hb⟩
      have HB1 := hide hb
      obtain ⟨⟨c0, c1, c2⟩, hs⟩ := box_stays hb
      clear hb
      go_wp2_with fail
      refine (HW.out _ HB1.out).mono ?_
      rintro e w2 ⟨rfl, hb⟩
      have HB := hide (HB0.out.trans ((HB1.out.trans (hb.mono HB1.out.size)).mono HB0.out.size))
      clear hb c0 c1 c2 hs
      go_wp2_with fail
      go_ret
      have hr := HI.out (by omega)
      refine ⟨⟨some ⟨w2.heap.size, 0, none⟩, 1, _, _, hr, ?_, ?_⟩, HB.out.alloc HB.out.size _⟩
      · rw [show (i - a).toNat + 1 - (i - a).toNat = 1 by omega]; rfl
      · rw [show (i - a).toNat + 1 - (i - a).toNat = 1 by omega, show a + ((i - a).toNat : Int) = i by have := HIA.out; omega]
        intro j hj
        obtain rfl : j = 0 := by omega
        exact ⟨w2.heap.size, rfl, by simp, by simp⟩
/-- What lies within a window. -/
def witB (k f t j : Int) : Bool := decide (f ≤ bg k j) && decide (bg k (j + 1) ≤ t)
theorem wit_run {k a f t : Int} {n : Nat} {w : World} {e : Ending} {w' : World} (h : WithOut k a f t n w e w') : RunOut (witB k f t) a n w e w' := by
  obtain ⟨⟨A, cap, x, y, hx, hy, he, hA⟩, hb⟩ := h
  refine ⟨⟨A, cap, x, max x y, ⟨by omega, ?_, fun i hi => ?_⟩, ?_, ?_⟩, hb⟩
  · have := hx.1; have := hy.1; omega
  · obtain ⟨g1, g2⟩ := within_iff hx hy hi
    unfold witB
    rw [Bool.and_eq_true, decide_eq_true_eq, decide_eq_true_eq, g1, g2]
    omega
  · rw [he, show max x y - x = y - x by omega]
  · rw [show max x y - x = y - x by omega]; exact hA
theorem num_run {a : Int} {n : Nat} {w : World} {e : Ending} {w' : World} (h : NumOut a n w e w') : RunOut (fun _ => true) a n w e w' := by
  obtain ⟨⟨A, cap, he, hA⟩, hb⟩ := h
  exact ⟨⟨A, cap, 0, n, run_all a n, he, by simpa using hA⟩, hb⟩

set_option maxHeartbeats 4000000 in
set_option maxRecDepth 100000 in
theorem of_out (k n lk la lz uk ua uz : Int) (i : Int) (p : Int → Bool) (N : Nat) (w : World)
    (hc : Gv (W3 w k n lk la lz uk ua uz) 9 #[vM k n, vS lk la lz, vS uk ua uz] (.int .i64 0))
    (hh : Gv (W3 w k n lk la lz uk ua uz) 17 #[vS lk la lz, .int .i64 i] (.bool false))
    (hp : ∀ t : Nat, t < N → p (ua + (t : Int)) = false) : Calls Tryd.prog 13 #[vM k n, vS lk la lz, vS uk ua uz, .int .i64 i] w (RunOut p ua N w) := by
  have Hhc := hide hc
  have Hhh := hide hh
  have Hhp := hide hp
  have HO := hide (W3_below w k n lk la lz uk ua uz)
  have HB0 := hide (Below.refl (W3 w k n lk la lz uk ua uz).heap.size (W3 w k n lk la lz uk ua uz))
  have HX0 := hide (W3_box w k n lk la lz uk ua uz)
  clear hc hh hp
  go_enter Tryd.func13, Tryd.ntmps13
  go_wp2_with fail
  refine (Hhc.out _ HB0.out).mono ?_
  rintro e w1 ⟨rfl, hb⟩
  have HB1 := hide (HB0.out.trans (hb.mono HB0.out.size))
  have HX1 := hide (HX0.out.on hb)
  clear hb
  obtain ⟨⟨⟨k0, k1⟩, ⟨l0, l1, l2⟩, u0, u1, u2⟩, hs⟩ := HX1.out
  go_wp2_with fail
  refine (Hhh.out _ HB1.out).mono ?_
  rintro e w2 ⟨rfl, hb⟩
  have HB2 := hide (HB1.out.trans (hb.mono HB1.out.size))
  have HX2 := hide (HX1.out.on hb)
  clear k0 k1 l0 l1 l2 u0 u1 u2 hs hb
  obtain ⟨⟨⟨k0, k1⟩, ⟨l0, l1, l2⟩, u0, u1, u2⟩, hs⟩ := HX2.out
  go_wp2_with fail
  go_ret
  exact runOut_nil Hhp.out (HO.out.trans (HB2.out.mono HO.out.size))

set_option maxHeartbeats 4000000 in
set_option maxRecDepth 100000 in
theorem of_4 (n lk la lz uk ua uz : Int) (i P Q : Int) (p : Int → Bool) (N : Nat) (w : World)
    (hc : Gv (W3 w 4 n lk la lz uk ua uz) 9 #[vM 4 n, vS lk la lz, vS uk ua uz] (.int .i64 0))
    (hh : Gv (W3 w 4 n lk la lz uk ua uz) 17 #[vS lk la lz, .int .i64 i] (.bool true))
    (hw : Gv (W3 w 4 n lk la lz uk ua uz) 28 #[vS lk la lz, .int .i64 i] (.tuple #[.int .i64 P, .int .i64 Q, .int .i64 0]))
    (hl : Gr (W3 w 4 n lk la lz uk ua uz) 29 #[vS uk ua uz, .int .i64 P, .int .i64 Q] (p) ua N) : Calls Tryd.prog 13 #[vM 4 n, vS lk la lz, vS uk ua uz, .int .i64 i] w (RunOut p ua N w) := by
  have Hhc := hide hc
  have Hhh := hide hh
  have Hhw := hide hw
  have Hhl := hide hl
  have HO := hide (W3_below w 4 n lk la lz uk ua uz)
  have HB0 := hide (Below.refl (W3 w 4 n lk la lz uk ua uz).heap.size (W3 w 4 n lk la lz uk ua uz))
  have HX0 := hide (W3_box w 4 n lk la lz uk ua uz)
  clear hc hh hw hl
  go_enter Tryd.func13, Tryd.ntmps13
  go_wp2_with fail
  refine (Hhc.out _ HB0.out).mono ?_
  rintro e w1 ⟨rfl, hb⟩
  have HB1 := hide (HB0.out.trans (hb.mono HB0.out.size))
  have HX1 := hide (HX0.out.on hb)
  clear hb
  obtain ⟨⟨⟨k0, k1⟩, ⟨l0, l1, l2⟩, u0, u1, u2⟩, hs⟩ := HX1.out
  go_wp2_with fail
  refine (Hhh.out _ HB1.out).mono ?_
  rintro e w2 ⟨rfl, hb⟩
  have HB2 := hide (HB1.out.trans (hb.mono HB1.out.size))
  have HX2 := hide (HX1.out.on hb)
  clear k0 k1 l0 l1 l2 u0 u1 u2 hs hb
  obtain ⟨⟨⟨k0, k1⟩, ⟨l0, l1, l2⟩, u0, u1, u2⟩, hs⟩ := HX2.out
  go_wp2_with fail
  refine (Hhw.out _ HB2.out).mono ?_
  rintro e w3 ⟨rfl, hb⟩
  have HB3 := hide (HB2.out.trans (hb.mono HB2.out.size))
  have HX3 := hide (HX2.out.on hb)
  clear k0 k1 l0 l1 l2 u0 u1 u2 hs hb
  obtain ⟨⟨⟨k0, k1⟩, ⟨l0, l1, l2⟩, u0, u1, u2⟩, hs⟩ := HX3.out
  go_wp2_with fail
  refine (Hhl.out _ HB3.out).mono ?_
  rintro e w4 ⟨⟨A, cap, x, y, hR, rfl, hA⟩, hb⟩
  have HB4 := hide (HB3.out.trans (hb.mono HB3.out.size))
  have HQ : Hid (∀ D, D = y - x → ∃ (A' : Option Addr) (cap' x' y' : Nat), RunIs p ua N x' y' ∧ Ending.returned (.slice A D cap) = .returned (.slice A' (y' - x') cap') ∧ NumsAt w4 A' (ua + (x' : Int)) (y' - x')) := hide fun D hD => ⟨A, cap, x, y, hR, by rw [hD], hA⟩
  obtain ⟨D, hD⟩ : ∃ D, D = y - x := ⟨_, rfl⟩
  rw [← hD]
  have HQD := hide (HQ.out D hD)
  clear k0 k1 l0 l1 l2 u0 u1 u2 hs hb hR hA hD HQ
  go_wp2_with fail
  go_ret
  exact ⟨HQD.out, HO.out.trans (HB4.out.mono HO.out.size)⟩

set_option maxHeartbeats 4000000 in
set_option maxRecDepth 100000 in
theorem of_5 (n lk la lz uk ua uz : Int) (i : Int) (p : Int → Bool) (N : Nat) (w : World)
    (hc : Gv (W3 w 5 n lk la lz uk ua uz) 9 #[vM 5 n, vS lk la lz, vS uk ua uz] (.int .i64 0))
    (hh : Gv (W3 w 5 n lk la lz uk ua uz) 17 #[vS lk la lz, .int .i64 i] (.bool true))
    (hl : Gr (W3 w 5 n lk la lz uk ua uz) 14 #[vS uk ua uz] (p) ua N) : Calls Tryd.prog 13 #[vM 5 n, vS lk la lz, vS uk ua uz, .int .i64 i] w (RunOut p ua N w) := by
  have Hhc := hide hc
  have Hhh := hide hh
  have Hhl := hide hl
  have HO := hide (W3_below w 5 n lk la lz uk ua uz)
  have HB0 := hide (Below.refl (W3 w 5 n lk la lz uk ua uz).heap.size (W3 w 5 n lk la lz uk ua uz))
  have HX0 := hide (W3_box w 5 n lk la lz uk ua uz)
  clear hc hh hl
  go_enter Tryd.func13, Tryd.ntmps13
  go_wp2_with fail
  refine (Hhc.out _ HB0.out).mono ?_
  rintro e w1 ⟨rfl, hb⟩
  have HB1 := hide (HB0.out.trans (hb.mono HB0.out.size))
  have HX1 := hide (HX0.out.on hb)
  clear hb
  obtain ⟨⟨⟨k0, k1⟩, ⟨l0, l1, l2⟩, u0, u1, u2⟩, hs⟩ := HX1.out
  go_wp2_with fail
  refine (Hhh.out _ HB1.out).mono ?_
  rintro e w2 ⟨rfl, hb⟩
  have HB2 := hide (HB1.out.trans (hb.mono HB1.out.size))
  have HX2 := hide (HX1.out.on hb)
  clear k0 k1 l0 l1 l2 u0 u1 u2 hs hb
  obtain ⟨⟨⟨k0, k1⟩, ⟨l0, l1, l2⟩, u0, u1, u2⟩, hs⟩ := HX2.out
  go_wp2_with fail
  refine (Hhl.out _ HB2.out).mono ?_
  rintro e w3 ⟨⟨A, cap, x, y, hR, rfl, hA⟩, hb⟩
  have HB3 := hide (HB2.out.trans (hb.mono HB2.out.size))
  have HQ : Hid (∀ D, D = y - x → ∃ (A' : Option Addr) (cap' x' y' : Nat), RunIs p ua N x' y' ∧ Ending.returned (.slice A D cap) = .returned (.slice A' (y' - x') cap') ∧ NumsAt w3 A' (ua + (x' : Int)) (y' - x')) := hide fun D hD => ⟨A, cap, x, y, hR, by rw [hD], hA⟩
  obtain ⟨D, hD⟩ : ∃ D, D = y - x := ⟨_, rfl⟩
  rw [← hD]
  have HQD := hide (HQ.out D hD)
  clear k0 k1 l0 l1 l2 u0 u1 u2 hs hb hR hA hD HQ
  go_wp2_with fail
  go_ret
  exact ⟨HQD.out, HO.out.trans (HB3.out.mono HO.out.size)⟩

set_option maxHeartbeats 4000000 in
set_option maxRecDepth 100000 in
theorem of_oth (k n lk la lz uk ua uz : Int) (i P Q : Int) (p : Int → Bool) (N : Nat) (w : World)
    (h4 : ¬ k = 4)
    (h5 : ¬ k = 5)
    (_ : 0 ≤ i)
    (_ : i ≤ 40000000)
    (_ : -1000 ≤ P)
    (_ : P ≤ 1000)
    (_ : -1000 ≤ Q)
    (_ : Q ≤ 1000)
    (hc : Gv (W3 w k n lk la lz uk ua uz) 9 #[vM k n, vS lk la lz, vS uk ua uz] (.int .i64 0))
    (hh : Gv (W3 w k n lk la lz uk ua uz) 17 #[vS lk la lz, .int .i64 i] (.bool true))
    (hd : Gv (W3 w k n lk la lz uk ua uz) 30 #[vM k n] (.tuple #[.int .i64 P, .int .i64 Q]))
    (hl : Gr (W3 w k n lk la lz uk ua uz) 31 #[vS uk ua uz, .int .i64 (i + P), .int .i64 (i + Q)] (p) ua N) : Calls Tryd.prog 13 #[vM k n, vS lk la lz, vS uk ua uz, .int .i64 i] w (RunOut p ua N w) := by
  have Hhc := hide hc
  have Hhh := hide hh
  have Hhd := hide hd
  have Hhl := hide hl
  have HO := hide (W3_below w k n lk la lz uk ua uz)
  have HB0 := hide (Below.refl (W3 w k n lk la lz uk ua uz).heap.size (W3 w k n lk la lz uk ua uz))
  have HX0 := hide (W3_box w k n lk la lz uk ua uz)
  clear hc hh hd hl
  go_enter Tryd.func13, Tryd.ntmps13
  go_wp2_with fail
  refine (Hhc.out _ HB0.out).mono ?_
  rintro e w1 ⟨rfl, hb⟩
  have HB1 := hide (HB0.out.trans (hb.mono HB0.out.size))
  have HX1 := hide (HX0.out.on hb)
  clear hb
  obtain ⟨⟨⟨k0, k1⟩, ⟨l0, l1, l2⟩, u0, u1, u2⟩, hs⟩ := HX1.out
  go_wp2_with fail
  refine (Hhh.out _ HB1.out).mono ?_
  rintro e w2 ⟨rfl, hb⟩
  have HB2 := hide (HB1.out.trans (hb.mono HB1.out.size))
  have HX2 := hide (HX1.out.on hb)
  clear k0 k1 l0 l1 l2 u0 u1 u2 hs hb
  obtain ⟨⟨⟨k0, k1⟩, ⟨l0, l1, l2⟩, u0, u1, u2⟩, hs⟩ := HX2.out
  go_wp2_with fail
  refine (Hhd.out _ HB2.out).mono ?_
  rintro e w3 ⟨rfl, hb⟩
  have HB3 := hide (HB2.out.trans (hb.mono HB2.out.size))
  have HX3 := hide (HX2.out.on hb)
  clear k0 k1 l0 l1 l2 u0 u1 u2 hs hb
  obtain ⟨⟨⟨k0, k1⟩, ⟨l0, l1, l2⟩, u0, u1, u2⟩, hs⟩ := HX3.out
  go_wp2_with fail
  refine (Hhl.out _ HB3.out).mono ?_
  rintro e w4 ⟨⟨A, cap, x, y, hR, rfl, hA⟩, hb⟩
  have HB4 := hide (HB3.out.trans (hb.mono HB3.out.size))
  have HQ : Hid (∀ D, D = y - x → ∃ (A' : Option Addr) (cap' x' y' : Nat), RunIs p ua N x' y' ∧ Ending.returned (.slice A D cap) = .returned (.slice A' (y' - x') cap') ∧ NumsAt w4 A' (ua + (x' : Int)) (y' - x')) := hide fun D hD => ⟨A, cap, x, y, hR, by rw [hD], hA⟩
  obtain ⟨D, hD⟩ : ∃ D, D = y - x := ⟨_, rfl⟩
  rw [← hD]
  have HQD := hide (HQ.out D hD)
  clear k0 k1 l0 l1 l2 u0 u1 u2 hs hb hR hA hD HQ
  go_wp2_with fail
  go_ret
  exact ⟨HQD.out, HO.out.trans (HB4.out.mono HO.out.size)⟩

set_option maxHeartbeats 4000000 in
set_option maxRecDepth 100000 in
theorem back_out (k n lk la lz uk ua uz : Int) (i : Int) (p : Int → Bool) (N : Nat) (w : World)
    (hc : Gv (W3 w k n lk la lz uk ua uz) 9 #[vM k n, vS lk la lz, vS uk ua uz] (.int .i64 0))
    (hh : Gv (W3 w k n lk la lz uk ua uz) 17 #[vS uk ua uz, .int .i64 i] (.bool false))
    (hp : ∀ t : Nat, t < N → p (la + (t : Int)) = false) : Calls Tryd.prog 16 #[vM k n, vS lk la lz, vS uk ua uz, .int .i64 i] w (RunOut p la N w) := by
  have Hhc := hide hc
  have Hhh := hide hh
  have Hhp := hide hp
  have HO := hide (W3_below w k n lk la lz uk ua uz)
  have HB0 := hide (Below.refl (W3 w k n lk la lz uk ua uz).heap.size (W3 w k n lk la lz uk ua uz))
  have HX0 := hide (W3_box w k n lk la lz uk ua uz)
  clear hc hh hp
  go_enter Tryd.func16, Tryd.ntmps16
  go_wp2_with fail
  refine (Hhc.out _ HB0.out).mono ?_
  rintro e w1 ⟨rfl, hb⟩
  have HB1 := hide (HB0.out.trans (hb.mono HB0.out.size))
  have HX1 := hide (HX0.out.on hb)
  clear hb
  obtain ⟨⟨⟨k0, k1⟩, ⟨l0, l1, l2⟩, u0, u1, u2⟩, hs⟩ := HX1.out
  go_wp2_with fail
  refine (Hhh.out _ HB1.out).mono ?_
  rintro e w2 ⟨rfl, hb⟩
  have HB2 := hide (HB1.out.trans (hb.mono HB1.out.size))
  have HX2 := hide (HX1.out.on hb)
  clear k0 k1 l0 l1 l2 u0 u1 u2 hs hb
  obtain ⟨⟨⟨k0, k1⟩, ⟨l0, l1, l2⟩, u0, u1, u2⟩, hs⟩ := HX2.out
  go_wp2_with fail
  go_ret
  exact runOut_nil Hhp.out (HO.out.trans (HB2.out.mono HO.out.size))

set_option maxHeartbeats 4000000 in
set_option maxRecDepth 100000 in
theorem back_4 (n lk la lz uk ua uz : Int) (i P Q : Int) (p : Int → Bool) (N : Nat) (w : World)
    (hc : Gv (W3 w 4 n lk la lz uk ua uz) 9 #[vM 4 n, vS lk la lz, vS uk ua uz] (.int .i64 0))
    (hh : Gv (W3 w 4 n lk la lz uk ua uz) 17 #[vS uk ua uz, .int .i64 i] (.bool true))
    (hw : Gv (W3 w 4 n lk la lz uk ua uz) 28 #[vS uk ua uz, .int .i64 i] (.tuple #[.int .i64 P, .int .i64 Q, .int .i64 0]))
    (hl : Gr (W3 w 4 n lk la lz uk ua uz) 35 #[vS lk la lz, .int .i64 P, .int .i64 Q] (p) la N) : Calls Tryd.prog 16 #[vM 4 n, vS lk la lz, vS uk ua uz, .int .i64 i] w (RunOut p la N w) := by
  have Hhc := hide hc
  have Hhh := hide hh
  have Hhw := hide hw
  have Hhl := hide hl
  have HO := hide (W3_below w 4 n lk la lz uk ua uz)
  have HB0 := hide (Below.refl (W3 w 4 n lk la lz uk ua uz).heap.size (W3 w 4 n lk la lz uk ua uz))
  have HX0 := hide (W3_box w 4 n lk la lz uk ua uz)
  clear hc hh hw hl
  go_enter Tryd.func16, Tryd.ntmps16
  go_wp2_with fail
  refine (Hhc.out _ HB0.out).mono ?_
  rintro e w1 ⟨rfl, hb⟩
  have HB1 := hide (HB0.out.trans (hb.mono HB0.out.size))
  have HX1 := hide (HX0.out.on hb)
  clear hb
  obtain ⟨⟨⟨k0, k1⟩, ⟨l0, l1, l2⟩, u0, u1, u2⟩, hs⟩ := HX1.out
  go_wp2_with fail
  refine (Hhh.out _ HB1.out).mono ?_
  rintro e w2 ⟨rfl, hb⟩
  have HB2 := hide (HB1.out.trans (hb.mono HB1.out.size))
  have HX2 := hide (HX1.out.on hb)
  clear k0 k1 l0 l1 l2 u0 u1 u2 hs hb
  obtain ⟨⟨⟨k0, k1⟩, ⟨l0, l1, l2⟩, u0, u1, u2⟩, hs⟩ := HX2.out
  go_wp2_with fail
  refine (Hhw.out _ HB2.out).mono ?_
  rintro e w3 ⟨rfl, hb⟩
  have HB3 := hide (HB2.out.trans (hb.mono HB2.out.size))
  have HX3 := hide (HX2.out.on hb)
  clear k0 k1 l0 l1 l2 u0 u1 u2 hs hb
  obtain ⟨⟨⟨k0, k1⟩, ⟨l0, l1, l2⟩, u0, u1, u2⟩, hs⟩ := HX3.out
  go_wp2_with fail
  refine (Hhl.out _ HB3.out).mono ?_
  rintro e w4 ⟨⟨A, cap, x, y, hR, rfl, hA⟩, hb⟩
  have HB4 := hide (HB3.out.trans (hb.mono HB3.out.size))
  have HQ : Hid (∀ D, D = y - x → ∃ (A' : Option Addr) (cap' x' y' : Nat), RunIs p la N x' y' ∧ Ending.returned (.slice A D cap) = .returned (.slice A' (y' - x') cap') ∧ NumsAt w4 A' (la + (x' : Int)) (y' - x')) := hide fun D hD => ⟨A, cap, x, y, hR, by rw [hD], hA⟩
  obtain ⟨D, hD⟩ : ∃ D, D = y - x := ⟨_, rfl⟩
  rw [← hD]
  have HQD := hide (HQ.out D hD)
  clear k0 k1 l0 l1 l2 u0 u1 u2 hs hb hR hA hD HQ
  go_wp2_with fail
  go_ret
  exact ⟨HQD.out, HO.out.trans (HB4.out.mono HO.out.size)⟩

set_option maxHeartbeats 4000000 in
set_option maxRecDepth 100000 in
theorem back_5 (n lk la lz uk ua uz : Int) (i : Int) (p : Int → Bool) (N : Nat) (w : World)
    (hc : Gv (W3 w 5 n lk la lz uk ua uz) 9 #[vM 5 n, vS lk la lz, vS uk ua uz] (.int .i64 0))
    (hh : Gv (W3 w 5 n lk la lz uk ua uz) 17 #[vS uk ua uz, .int .i64 i] (.bool true))
    (hl : Gr (W3 w 5 n lk la lz uk ua uz) 14 #[vS lk la lz] (p) la N) : Calls Tryd.prog 16 #[vM 5 n, vS lk la lz, vS uk ua uz, .int .i64 i] w (RunOut p la N w) := by
  have Hhc := hide hc
  have Hhh := hide hh
  have Hhl := hide hl
  have HO := hide (W3_below w 5 n lk la lz uk ua uz)
  have HB0 := hide (Below.refl (W3 w 5 n lk la lz uk ua uz).heap.size (W3 w 5 n lk la lz uk ua uz))
  have HX0 := hide (W3_box w 5 n lk la lz uk ua uz)
  clear hc hh hl
  go_enter Tryd.func16, Tryd.ntmps16
  go_wp2_with fail
  refine (Hhc.out _ HB0.out).mono ?_
  rintro e w1 ⟨rfl, hb⟩
  have HB1 := hide (HB0.out.trans (hb.mono HB0.out.size))
  have HX1 := hide (HX0.out.on hb)
  clear hb
  obtain ⟨⟨⟨k0, k1⟩, ⟨l0, l1, l2⟩, u0, u1, u2⟩, hs⟩ := HX1.out
  go_wp2_with fail
  refine (Hhh.out _ HB1.out).mono ?_
  rintro e w2 ⟨rfl, hb⟩
  have HB2 := hide (HB1.out.trans (hb.mono HB1.out.size))
  have HX2 := hide (HX1.out.on hb)
  clear k0 k1 l0 l1 l2 u0 u1 u2 hs hb
  obtain ⟨⟨⟨k0, k1⟩, ⟨l0, l1, l2⟩, u0, u1, u2⟩, hs⟩ := HX2.out
  go_wp2_with fail
  refine (Hhl.out _ HB2.out).mono ?_
  rintro e w3 ⟨⟨A, cap, x, y, hR, rfl, hA⟩, hb⟩
  have HB3 := hide (HB2.out.trans (hb.mono HB2.out.size))
  have HQ : Hid (∀ D, D = y - x → ∃ (A' : Option Addr) (cap' x' y' : Nat), RunIs p la N x' y' ∧ Ending.returned (.slice A D cap) = .returned (.slice A' (y' - x') cap') ∧ NumsAt w3 A' (la + (x' : Int)) (y' - x')) := hide fun D hD => ⟨A, cap, x, y, hR, by rw [hD], hA⟩
  obtain ⟨D, hD⟩ : ∃ D, D = y - x := ⟨_, rfl⟩
  rw [← hD]
  have HQD := hide (HQ.out D hD)
  clear k0 k1 l0 l1 l2 u0 u1 u2 hs hb hR hA hD HQ
  go_wp2_with fail
  go_ret
  exact ⟨HQD.out, HO.out.trans (HB3.out.mono HO.out.size)⟩

set_option maxHeartbeats 4000000 in
set_option maxRecDepth 100000 in
theorem back_oth (k n lk la lz uk ua uz : Int) (i P Q : Int) (p : Int → Bool) (N : Nat) (w : World)
    (h4 : ¬ k = 4)
    (h5 : ¬ k = 5)
    (_ : 0 ≤ i)
    (_ : i ≤ 40000000)
    (_ : -1000 ≤ P)
    (_ : P ≤ 1000)
    (_ : -1000 ≤ Q)
    (_ : Q ≤ 1000)
    (hc : Gv (W3 w k n lk la lz uk ua uz) 9 #[vM k n, vS lk la lz, vS uk ua uz] (.int .i64 0))
    (hh : Gv (W3 w k n lk la lz uk ua uz) 17 #[vS uk ua uz, .int .i64 i] (.bool true))
    (hd : Gv (W3 w k n lk la lz uk ua uz) 30 #[vM k n] (.tuple #[.int .i64 P, .int .i64 Q]))
    (hl : Gr (W3 w k n lk la lz uk ua uz) 31 #[vS lk la lz, .int .i64 (i - Q), .int .i64 (i - P)] (p) la N) : Calls Tryd.prog 16 #[vM k n, vS lk la lz, vS uk ua uz, .int .i64 i] w (RunOut p la N w) := by
  have Hhc := hide hc
  have Hhh := hide hh
  have Hhd := hide hd
  have Hhl := hide hl
  have HO := hide (W3_below w k n lk la lz uk ua uz)
  have HB0 := hide (Below.refl (W3 w k n lk la lz uk ua uz).heap.size (W3 w k n lk la lz uk ua uz))
  have HX0 := hide (W3_box w k n lk la lz uk ua uz)
  clear hc hh hd hl
  go_enter Tryd.func16, Tryd.ntmps16
  go_wp2_with fail
  refine (Hhc.out _ HB0.out).mono ?_
  rintro e w1 ⟨rfl, hb⟩
  have HB1 := hide (HB0.out.trans (hb.mono HB0.out.size))
  have HX1 := hide (HX0.out.on hb)
  clear hb
  obtain ⟨⟨⟨k0, k1⟩, ⟨l0, l1, l2⟩, u0, u1, u2⟩, hs⟩ := HX1.out
  go_wp2_with fail
  refine (Hhh.out _ HB1.out).mono ?_
  rintro e w2 ⟨rfl, hb⟩
  have HB2 := hide (HB1.out.trans (hb.mono HB1.out.size))
  have HX2 := hide (HX1.out.on hb)
  clear k0 k1 l0 l1 l2 u0 u1 u2 hs hb
  obtain ⟨⟨⟨k0, k1⟩, ⟨l0, l1, l2⟩, u0, u1, u2⟩, hs⟩ := HX2.out
  go_wp2_with fail
  refine (Hhd.out _ HB2.out).mono ?_
  rintro e w3 ⟨rfl, hb⟩
  have HB3 := hide (HB2.out.trans (hb.mono HB2.out.size))
  have HX3 := hide (HX2.out.on hb)
  clear k0 k1 l0 l1 l2 u0 u1 u2 hs hb
  obtain ⟨⟨⟨k0, k1⟩, ⟨l0, l1, l2⟩, u0, u1, u2⟩, hs⟩ := HX3.out
  go_wp2_with fail
  refine (Hhl.out _ HB3.out).mono ?_
  rintro e w4 ⟨⟨A, cap, x, y, hR, rfl, hA⟩, hb⟩
  have HB4 := hide (HB3.out.trans (hb.mono HB3.out.size))
  have HQ : Hid (∀ D, D = y - x → ∃ (A' : Option Addr) (cap' x' y' : Nat), RunIs p la N x' y' ∧ Ending.returned (.slice A D cap) = .returned (.slice A' (y' - x') cap') ∧ NumsAt w4 A' (la + (x' : Int)) (y' - x')) := hide fun D hD => ⟨A, cap, x, y, hR, by rw [hD], hA⟩
  obtain ⟨D, hD⟩ : ∃ D, D = y - x := ⟨_, rfl⟩
  rw [← hD]
  have HQD := hide (HQ.out D hD)
  clear k0 k1 l0 l1 l2 u0 u1 u2 hs hb hR hA hD HQ
  go_wp2_with fail
  go_ret
  exact ⟨HQD.out, HO.out.trans (HB4.out.mono HO.out.size)⟩

theorem need_in {c : Ca} {i : Int} {t N : Nat} (hh : hasB c.lk c.la c.lz i = true) (hz : c.uz = c.ua + (N : Int) - 1) (ht : t < N) : needB c i (c.ua + (t : Int)) = linkB c i (c.ua + (t : Int)) := by
  have := hasB_iff.1 hh
  unfold needB
  rw [inB_iff.2 this.2, (inB_iff (a := c.ua) (z := c.uz) (i := c.ua + (t : Int))).2 (by omega)]
  rfl
theorem need_out {c : Ca} {i : Int} (h0 : okS c.lk c.la c.lz = true) (hh : hasB c.lk c.la c.lz i = false) (j : Int) : needB c i j = false := by
  cases hn : needB c i j
  · rfl
  · have := needB_iff.1 hn
    rw [hasB_iff.2 ⟨h0, this.1⟩] at hh
    cases hh
theorem needed_in {c : Ca} {i : Int} {t N : Nat} (hh : hasB c.uk c.ua c.uz i = true) (hz : c.lz = c.la + (N : Int) - 1) (ht : t < N) : needB c (c.la + (t : Int)) i = linkB c (c.la + (t : Int)) i := by
  have := hasB_iff.1 hh
  unfold needB
  rw [inB_iff.2 this.2, (inB_iff (a := c.la) (z := c.lz) (i := c.la + (t : Int))).2 (by omega)]
  rfl
theorem needed_out {c : Ca} {i : Int} (h0 : okS c.uk c.ua c.uz = true) (hh : hasB c.uk c.ua c.uz i = false) (j : Int) : needB c j i = false := by
  cases hn : needB c j i
  · rfl
  · have := needB_iff.1 hn
    rw [hasB_iff.2 ⟨h0, this.2.1⟩] at hh
    cases hh
theorem rel_4 {l u : Int} (h : relB 4 l u = true) : ¬ l = 5 ∧ ¬ u = 5 := by
  unfold relB at h
  rw [if_pos rfl, Bool.and_eq_true, decide_eq_true_eq, decide_eq_true_eq] at h
  exact h
theorem dist_bd {k n : Int} (h0 : -512 ≤ n) (h1 : n ≤ 512) : -1000 ≤ distL k n ∧ distL k n ≤ 1000 ∧ -1000 ≤ distM k n ∧ distM k n ≤ 1000 := by
  unfold distL distM
  repeat' split
  all_goals omega

set_option maxRecDepth 100000 in
theorem of_any (k n lk la lz uk ua uz : Int) (i : Int) (N : Nat) (w : World) (hM : Mon w) (h1 : lz ≤ 9223372036854775807) (h2 : uz ≤ 9223372036854775807) (hfit : fitE (cA k n lk la lz uk ua uz) = 0) (hn : cntS uk ua uz = N) : Calls Tryd.prog 13 #[vM k n, vS lk la lz, vS uk ua uz, .int .i64 i] w (RunOut (needB (cA k n lk la lz uk ua uz) i) ua N w) := by
  obtain ⟨hf, ho, hp, hr⟩ : formB k n = true ∧ okS lk la lz = true ∧ okS uk ua uz = true ∧ relB k lk uk = true := fitE_0 hfit
  obtain ⟨hkk, hn0, hn1⟩ := form_kind hf
  have hkk' : k = 1 ∨ k = 2 ∨ k = 3 ∨ k = 4 ∨ k = 5 := hkk
  have hf' : -512 ≤ n ∧ n ≤ 512 := ⟨hn0, hn1⟩
  have hz : uz = ua + (N : Int) - 1 ∧ N ≤ 512 := by obtain ⟨m, m1, m2, m3, _⟩ := cnt_nat hp; have m3' : uz = ua + (m : Int) - 1 := m3; have m1' : cntS uk ua uz = (m : Int) := m1; omega
  obtain ⟨hz, hN⟩ := hz
  have hMw := fun (w1 : World) (hb : Below (W3 w k n lk la lz uk ua uz).heap.size (W3 w k n lk la lz uk ua uz) w1) => hM.on ((W3_below w k n lk la lz uk ua uz).trans (hb.mono (W3_below w k n lk la lz uk ua uz).size))
  have hc : Gv (W3 w k n lk la lz uk ua uz) 9 #[vM k n, vS lk la lz, vS uk ua uz] (.int .i64 0) := fun w1 hb => by
    have := mcheck_any k n lk la lz uk ua uz w1 (hMw w1 hb) h1 h2
    rw [hfit] at this
    exact this
  have hs : Gv (W3 w k n lk la lz uk ua uz) 17 #[vS lk la lz, .int .i64 i] (.bool (hasB lk la lz i)) := fun w1 hb => has_any' lk la lz i w1 (hMw w1 hb) h1
  cases hh : hasB lk la lz i
  · rw [hh] at hs
    exact of_out k n lk la lz uk ua uz i _ N w hc hs fun t _ => need_out (c := (cA k n lk la lz uk ua uz)) ho hh _
  · rw [hh] at hs
    have hhb := hasB_iff.1 hh
    have hob := ok_bd ho
    have htb := ok_bd hp
    by_cases h4 : k = 4
    · subst h4
      have g5 := rel_4 hr
      have g5' : ¬ lk = 5 ∧ ¬ uk = 5 := g5
      have hw : Gv (W3 w 4 n lk la lz uk ua uz) 28 #[vS lk la lz, .int .i64 i] (.tuple #[.int .i64 (bg lk i), .int .i64 (bg lk (i + 1)), .int .i64 0]) := fun w1 hb => by
        have := window_any lk la lz i w1 (hMw w1 hb) h1
        rw [winV_yes hh g5.1] at this
        exact this
      have hbd : 0 ≤ i ∧ bg lk (i + 1) ≤ 2147483647 := ⟨by omega, bg_hi (by omega) (by have := (okS_iff.1 ho).2.2.2; have e : lz ≤ grt lk := this; omega)⟩
      have hk4 : lk = 1 ∨ lk = 2 ∨ lk = 3 ∨ lk = 4 := by have e5 : ¬ lk = 5 := g5.1; have := ok_kind ho; have e : lk = 1 ∨ lk = 2 ∨ lk = 3 ∨ lk = 4 ∨ lk = 5 := this; omega
      have hl : Gr (W3 w 4 n lk la lz uk ua uz) 29 #[vS uk ua uz, .int .i64 (bg lk i), .int .i64 (bg lk (i + 1))] (witB uk (bg lk i) (bg lk (i + 1))) ua N := fun w1 hb => (within_any uk ua uz (bg lk i) (bg lk (i + 1)) N w1 (hMw w1 hb) hp g5.2 hn).mono fun _ _ h => wit_run h
      exact (of_4 n lk la lz uk ua uz i _ _ _ N w hc hs hw hl).mono fun _ _ h => h.congr fun t ht => by
        rw [need_in (c := (cA 4 n lk la lz uk ua uz)) hh hz ht]
        rfl
    by_cases h5 : k = 5
    · subst h5
      exact (of_5 n lk la lz uk ua uz i _ N w hc hs (fun w1 hb => (parts_any uk ua uz N w1 (hMw w1 hb) hp hn).mono fun _ _ h => num_run h)).mono fun _ _ h => h.congr fun t ht => by
        rw [need_in (c := (cA 5 n lk la lz uk ua uz)) hh hz ht]
        rfl
    · obtain ⟨d1, d2, d3, d4⟩ := dist_bd (k := k) hf'.1 hf'.2
      have hob' : 0 ≤ i ∧ i ≤ 35791393 := by omega
      exact (of_oth k n lk la lz uk ua uz i (distL k n) (distM k n) _ N w h4 h5 (by omega) (by omega) d1 d2 d3 d4 hc hs (fun w1 _ => distances_any k n w1 hf'.1 hf'.2)
        (fun w1 _ => between_any uk ua uz (i + distL k n) (i + distM k n) N w1 hz (by omega) (by omega) hN (by omega) (by omega) (by omega) (by omega))).mono fun _ _ h => h.congr fun t ht => by
        rw [need_in (c := (cA k n lk la lz uk ua uz)) hh hz ht]
        exact (link_of (c := (cA k n lk la lz uk ua uz)) (show k = 1 ∨ k = 2 ∨ k = 3 by omega)).symm

set_option maxRecDepth 100000 in
theorem back_any (k n lk la lz uk ua uz : Int) (i : Int) (N : Nat) (w : World) (hM : Mon w) (h1 : lz ≤ 9223372036854775807) (h2 : uz ≤ 9223372036854775807) (hfit : fitE (cA k n lk la lz uk ua uz) = 0) (hn : cntS lk la lz = N) : Calls Tryd.prog 16 #[vM k n, vS lk la lz, vS uk ua uz, .int .i64 i] w (RunOut (fun j => needB (cA k n lk la lz uk ua uz) j i) la N w) := by
  obtain ⟨hf, ho, hp, hr⟩ : formB k n = true ∧ okS lk la lz = true ∧ okS uk ua uz = true ∧ relB k lk uk = true := fitE_0 hfit
  obtain ⟨hkk, hn0, hn1⟩ := form_kind hf
  have hkk' : k = 1 ∨ k = 2 ∨ k = 3 ∨ k = 4 ∨ k = 5 := hkk
  have hf' : -512 ≤ n ∧ n ≤ 512 := ⟨hn0, hn1⟩
  have hz : lz = la + (N : Int) - 1 ∧ N ≤ 512 := by obtain ⟨m, m1, m2, m3, _⟩ := cnt_nat ho; have m3' : lz = la + (m : Int) - 1 := m3; have m1' : cntS lk la lz = (m : Int) := m1; omega
  obtain ⟨hz, hN⟩ := hz
  have hMw := fun (w1 : World) (hb : Below (W3 w k n lk la lz uk ua uz).heap.size (W3 w k n lk la lz uk ua uz) w1) => hM.on ((W3_below w k n lk la lz uk ua uz).trans (hb.mono (W3_below w k n lk la lz uk ua uz).size))
  have hc : Gv (W3 w k n lk la lz uk ua uz) 9 #[vM k n, vS lk la lz, vS uk ua uz] (.int .i64 0) := fun w1 hb => by
    have := mcheck_any k n lk la lz uk ua uz w1 (hMw w1 hb) h1 h2
    rw [hfit] at this
    exact this
  have hs : Gv (W3 w k n lk la lz uk ua uz) 17 #[vS uk ua uz, .int .i64 i] (.bool (hasB uk ua uz i)) := fun w1 hb => has_any' uk ua uz i w1 (hMw w1 hb) h2
  cases hh : hasB uk ua uz i
  · rw [hh] at hs
    exact back_out k n lk la lz uk ua uz i _ N w hc hs fun t _ => needed_out (c := (cA k n lk la lz uk ua uz)) hp hh _
  · rw [hh] at hs
    have hhb := hasB_iff.1 hh
    have hob := ok_bd hp
    have htb := ok_bd ho
    by_cases h4 : k = 4
    · subst h4
      have g5 := rel_4 hr
      have g5' : ¬ lk = 5 ∧ ¬ uk = 5 := g5
      have hw : Gv (W3 w 4 n lk la lz uk ua uz) 28 #[vS uk ua uz, .int .i64 i] (.tuple #[.int .i64 (bg uk i), .int .i64 (bg uk (i + 1)), .int .i64 0]) := fun w1 hb => by
        have := window_any uk ua uz i w1 (hMw w1 hb) h2
        rw [winV_yes hh g5.2] at this
        exact this
      have hbd : 0 ≤ i ∧ bg uk (i + 1) ≤ 2147483647 := ⟨by omega, bg_hi (by omega) (by have := (okS_iff.1 hp).2.2.2; have e : uz ≤ grt uk := this; omega)⟩
      have hk4 : uk = 1 ∨ uk = 2 ∨ uk = 3 ∨ uk = 4 := by have e5 : ¬ uk = 5 := g5.2; have := ok_kind hp; have e : uk = 1 ∨ uk = 2 ∨ uk = 3 ∨ uk = 4 ∨ uk = 5 := this; omega
      have hl : Gr (W3 w 4 n lk la lz uk ua uz) 35 #[vS lk la lz, .int .i64 (bg uk i), .int .i64 (bg uk (i + 1))] (aroB lk (bg uk i) (bg uk (i + 1))) la N := fun w1 hb => around_any lk la lz (bg uk i) (bg uk (i + 1)) N w1 (hMw w1 hb) ho hz g5.1 (bg_lt hk4 hbd.1) (by have := hbd.2; omega) (by have := bg_nn (k := uk) hbd.1; omega)
      exact (back_4 n lk la lz uk ua uz i _ _ _ N w hc hs hw hl).mono fun _ _ h => h.congr fun t ht => by
        rw [needed_in (c := (cA 4 n lk la lz uk ua uz)) hh hz ht]
        rfl
    by_cases h5 : k = 5
    · subst h5
      exact (back_5 n lk la lz uk ua uz i _ N w hc hs (fun w1 hb => (parts_any lk la lz N w1 (hMw w1 hb) ho hn).mono fun _ _ h => num_run h)).mono fun _ _ h => h.congr fun t ht => by
        rw [needed_in (c := (cA 5 n lk la lz uk ua uz)) hh hz ht]
        rfl
    · obtain ⟨d1, d2, d3, d4⟩ := dist_bd (k := k) hf'.1 hf'.2
      have hob' : 0 ≤ i ∧ i ≤ 35791393 := by omega
      exact (back_oth k n lk la lz uk ua uz i (distL k n) (distM k n) _ N w h4 h5 (by omega) (by omega) d1 d2 d3 d4 hc hs (fun w1 _ => distances_any k n w1 hf'.1 hf'.2)
        (fun w1 _ => between_any lk la lz (i - distM k n) (i - distL k n) N w1 hz (by omega) (by omega) hN (by omega) (by omega) (by omega) (by omega))).mono fun _ _ h => h.congr fun t ht => by
        rw [needed_in (c := (cA k n lk la lz uk ua uz)) hh hz ht]
        exact (link_back (c := (cA k n lk la lz uk ua uz)) (show k = 1 ∨ k = 2 ∨ k = 3 by omega)).symm

end Go.Proofs.YtomhiganfmoceaaDoor
