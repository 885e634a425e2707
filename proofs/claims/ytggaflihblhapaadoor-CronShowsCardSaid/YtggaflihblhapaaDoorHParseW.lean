/-
  Parse: its walk.
-/
import Derived.Test.YtggaflihblhapaaDoorHParse
namespace Go.Proofs.YtggaflihblhapaaDoor
open Go.RowKit HM

/-- A store of what is there changes nothing that is read. -/
theorem set_id {W : World} {p : Addr} {v : Value} (h : W.cell? p = some v) (q : Addr) : (W.setCell p v).cell? q = W.cell? q := by
  by_cases e : q = p
  · subst e; rw [World.cell?_setCell_same' _ _ _ (by rw [h]; rfl), h]
  · exact World.cell?_setCell_other _ _ _ _ (fun x => e x.symm)
theorem AtC.id {W : World} {b : Nat} {c : Sp} {p : Addr} {v : Value} (h : AtC W b c) (hp : W.cell? p = some v) : AtC (W.setCell p v) b c := by
  obtain ⟨z, h0, h1, h2, h3, h4, h5, h6, h7, h8, h9⟩ := h
  refine ⟨by simpa using z, ?_, ?_, ?_, ?_, ?_, ?_, ?_, ?_, ?_, ?_⟩
  all_goals
    rw [set_id hp]
    assumption
theorem other_at {W : World} {b i j : Nat} {v : Value} (h : i ≠ j) : (W.setCell ⟨b, i, none⟩ v).cell? ⟨b, j, none⟩ = W.cell? ⟨b, j, none⟩ := World.cell?_setCell_other _ _ _ _ (by intro x; injection x with _ x; exact h x)
/-- A spec is stored into a box. -/
theorem spec_stored {W : World} {b : Nat} {c0 c : Sp} (h : AtC W b c0) : AtC ((((((((((W.setCell ⟨b, 0, none⟩ (.int .u64 (c.S 0 : Nat))).setCell ⟨b, 1, none⟩ (.int .u64 (c.S 1 : Nat))).setCell ⟨b, 2, none⟩ (.int .u64 (c.S 2 : Nat))).setCell ⟨b, 3, none⟩ (.int .u64 (c.S 3 : Nat))).setCell ⟨b, 4, none⟩ (.int .u64 (c.S 4 : Nat))).setCell ⟨b, 5, none⟩ (.bool (c.A 0))).setCell ⟨b, 6, none⟩ (.bool (c.A 1))).setCell ⟨b, 7, none⟩ (.bool (c.A 2))).setCell ⟨b, 8, none⟩ (.bool (c.A 3))).setCell ⟨b, 9, none⟩ (.bool (c.A 4))) b c := by
  obtain ⟨z, h0, h1, h2, h3, h4, h5, h6, h7, h8, h9⟩ := h
  refine ⟨by simpa using z, ?_, ?_, ?_, ?_, ?_, ?_, ?_, ?_, ?_, ?_⟩
  all_goals
    repeat rw [other_at (by decide)]
    rw [World.cell?_setCell_same' _ _ _ (by
      repeat rw [other_at (by decide)]
      first | rw [h0] | rw [h1] | rw [h2] | rw [h3] | rw [h4] | rw [h5] | rw [h6] | rw [h7] | rw [h8] | rw [h9]
      rfl)]
/-- The zero spec is stored into its box anew. -/
theorem zero_anew {W : World} {b : Nat} (h : AtC W b zSp) : AtC ((((((((((W.setCell ⟨b, 0, none⟩ (.int .u64 0)).setCell ⟨b, 1, none⟩ (.int .u64 0)).setCell ⟨b, 2, none⟩ (.int .u64 0)).setCell ⟨b, 3, none⟩ (.int .u64 0)).setCell ⟨b, 4, none⟩ (.int .u64 0)).setCell ⟨b, 5, none⟩ (.bool false)).setCell ⟨b, 6, none⟩ (.bool false)).setCell ⟨b, 7, none⟩ (.bool false)).setCell ⟨b, 8, none⟩ (.bool false)).setCell ⟨b, 9, none⟩ (.bool false)) b zSp := by
  have h1 := h.id h.2.1
  have h2 := h1.id h1.2.2.1
  have h3 := h2.id h2.2.2.2.1
  have h4 := h3.id h3.2.2.2.2.1
  have h5 := h4.id h4.2.2.2.2.2.1
  have h6 := h5.id h5.2.2.2.2.2.2.1
  have h7 := h6.id h6.2.2.2.2.2.2.2.1
  have h8 := h7.id h7.2.2.2.2.2.2.2.2.1
  have h9 := h8.id h8.2.2.2.2.2.2.2.2.2.1
  exact h9.id h9.2.2.2.2.2.2.2.2.2.2
set_option maxHeartbeats 4000000 in
theorem par_no (s : ByteArray) (w : World) (hs : s.size ≤ 1000000) (hb : splitB s.data.toList = false) : Calls Tryd.prog 16 #[.string s] w (ParOut s.data.toList w) := by
  have hS := spl_any s w hs
  have HS : Hid (∀ w, Calls Tryd.prog 38 #[.string s] w fun e w' => (∃ t : Nat → ByteArray, e = .returned (.tuple #[v5 t, .bool false])) ∧ Below w.heap.size w w') := hide (fun w => (spl_any s w hs).mono fun e w' h => by
    obtain ⟨⟨t, he, _⟩, hb'⟩ := h
    rw [hb] at he
    exact ⟨⟨t, he⟩, hb'⟩)
  have HE : Hid (parseE s.data.toList = 20) := hide (by unfold parseE; rw [if_pos hb])
  have H0 := hide (BoxC.new w zSp)
  have HW : Hid (∀ o, Below w.heap.size w (w.alloc o)) := hide (fun o => (Below.refl _ _).alloc (Nat.le_refl _) _)
  clear hS hb hs
  go_enter Tryd.func16, Tryd.ntmps16
  go_wp2_with fail
  refine (HS.out _).mono ?_
  rintro e w1 ⟨⟨t, rfl⟩, hb1⟩
  have HB1 := hide ((HW.out _).trans (Below.mono hb1 (HW.out _).size))
  obtain ⟨W2, hW2⟩ : ∃ W2, W2 = w1.alloc (.cells #[.string (t 0), .string (t 1), .string (t 2), .string (t 3), .string (t 4)] 67) := ⟨_, rfl⟩
  have HA : Hid (BoxC W2 w.heap.size zSp) := hide (by rw [hW2]; exact (H0.out.on hb1).on ((Below.refl _ _).alloc (Nat.le_refl _) _))
  have HB2 : Hid (Below w.heap.size w W2) := hide (by rw [hW2]; exact Below.alloc HB1.out HB1.out.size _)
  have HWE := hide hW2
  clear hW2 hb1
  obtain ⟨z9, c0, c1, c2, c3, c4, c5, c6, c7, c8, c9⟩ := HA.out.atC
  have f0 := HA.out.froz 0 (by omega); have f1 := HA.out.froz 1 (by omega); have f2 := HA.out.froz 2 (by omega); have f3 := HA.out.froz 3 (by omega); have f4 := HA.out.froz 4 (by omega); have f5 := HA.out.froz 5 (by omega); have f6 := HA.out.froz 6 (by omega); have f7 := HA.out.froz 7 (by omega); have f8 := HA.out.froz 8 (by omega); have f9 := HA.out.froz 9 (by omega)
  go_wp2_with (first | (guard_target =~ wpList _ _ _ (Oper.mk _ (Op.build _ _) _ _ _ _ :: _) _ _; rw [← HWE.out]) | fail)
  have hA := zero_anew HA.out.atC
  obtain ⟨W3, hW3⟩ : ∃ W3, W3 = ((((((((((W2.setCell ⟨w.heap.size, 0, none⟩ (.int .u64 0)).setCell ⟨w.heap.size, 1, none⟩ (.int .u64 0)).setCell ⟨w.heap.size, 2, none⟩ (.int .u64 0)).setCell ⟨w.heap.size, 3, none⟩ (.int .u64 0)).setCell ⟨w.heap.size, 4, none⟩ (.int .u64 0)).setCell ⟨w.heap.size, 5, none⟩ (.bool false)).setCell ⟨w.heap.size, 6, none⟩ (.bool false)).setCell ⟨w.heap.size, 7, none⟩ (.bool false)).setCell ⟨w.heap.size, 8, none⟩ (.bool false)).setCell ⟨w.heap.size, 9, none⟩ (.bool false)) := ⟨_, rfl⟩
  have hB : Below w.heap.size w W3 := by rw [hW3]; exact ((((((((((HB2.out.setCell (Nat.le_refl _) _).setCell (Nat.le_refl _) _).setCell (Nat.le_refl _) _).setCell (Nat.le_refl _) _).setCell (Nat.le_refl _) _).setCell (Nat.le_refl _) _).setCell (Nat.le_refl _) _).setCell (Nat.le_refl _) _).setCell (Nat.le_refl _) _).setCell (Nat.le_refl _) _)
  rw [← hW3] at hA ⊢
  obtain ⟨y9, d0, d1, d2, d3, d4, d5, d6, d7, d8, d9⟩ := hA
  clear c0 c1 c2 c3 c4 c5 c6 c7 c8 c9
  refine bodyPost_ret (v := .tuple #[vC zSp, .int .i64 20]) (by simp [results, Tryd.results16, go_sem, d0, d1, d2, d3, d4, d5, d6, d7, d8, d9]) rfl ⟨.inr ⟨by rw [HE.out]; decide, by rw [HE.out]⟩, hB⟩
theorem cut_A {c : Sp} {k : Nat} : (cutC c k).A k = false := by unfold cutC; simp
theorem cut_S {c : Sp} {k : Nat} : (cutC c k).S k = 0 := by unfold cutC; simp
set_option maxRecDepth 100000 in
set_option maxHeartbeats 8000000 in
theorem par_yes (s : ByteArray) (w : World) (hs : s.size ≤ 1000000) (hb : splitB s.data.toList = true) (hBd : Bnd w) : Calls Tryd.prog 16 #[.string s] w (ParOut s.data.toList w) := by
  have HS : Hid (∀ w, Calls Tryd.prog 38 #[.string s] w fun e w' => (∃ t : Nat → ByteArray, e = .returned (.tuple #[v5 t, .bool true]) ∧ ∀ j, j < 5 → (t j).data.toList = txtF s.data.toList j) ∧ Below w.heap.size w w') := hide (fun w => (spl_any s w hs).mono fun e w' h => by
    obtain ⟨⟨t, he, ht⟩, hb'⟩ := h
    rw [hb] at he
    exact ⟨⟨t, he, ht hb⟩, hb'⟩)
  have HE : Hid (parseE s.data.toList = errF s.data.toList 0 5) := hide (by unfold parseE; rw [if_neg (by rw [hb]; simp)])
  have HBd := hide hBd
  have H0 := hide (BoxC.new w zSp)
  have HW : Hid (∀ o, Below w.heap.size w (w.alloc o)) := hide (fun o => (Below.refl _ _).alloc (Nat.le_refl _) _)
  have HSz : Hid (∀ j (t : ByteArray), t.data.toList = txtF s.data.toList j → t.size ≤ 1000000) := hide (fun j t h => size_of h (txt_len _ _) hs)
  have HC : Hid (∀ j, (parseC s.data.toList).S j = (fieldM j (txtF s.data.toList j)).2 ∧ (parseC s.data.toList).A j = (txtF s.data.toList j == [42])) := hide (fun j => ⟨rfl, rfl⟩)
  have HSk := hide (fun k n h => err_skip s.data.toList k n 0 h)
  have HSn : Hid (∀ j n, errF s.data.toList j (n + 1) = if (fieldM j (txtF s.data.toList j)).1 = 0 then errF s.data.toList (j + 1) n else (fieldM j (txtF s.data.toList j)).1) := hide (fun _ _ => rfl)
  clear hb hs hBd
  go_enter Tryd.func16, Tryd.ntmps16
  go_wp2_with fail
  refine (HS.out _).mono ?_
  rintro e w1 ⟨⟨t, rfl, ht⟩, hb1⟩
  have HB1 := hide ((HW.out _).trans (Below.mono hb1 (HW.out _).size))
  have HT := hide ht
  obtain ⟨W2, hW2⟩ : ∃ W2, W2 = w1.alloc (.cells #[.string (t 0), .string (t 1), .string (t 2), .string (t 3), .string (t 4)] 67) := ⟨_, rfl⟩
  have HA2 : Hid (BoxC W2 w.heap.size zSp) := hide (by rw [hW2]; exact (H0.out.on hb1).on ((Below.refl _ _).alloc (Nat.le_refl _) _))
  have HB2 : Hid (Below w.heap.size w W2) := hide (by rw [hW2]; exact Below.alloc HB1.out HB1.out.size _)
  have hz2 : w1.heap.size < W2.heap.size := by rw [hW2]; simp
  have hc0 : W2.cell? ⟨w1.heap.size, 0, none⟩ = some (.string (t 0)) := by rw [hW2]; simp
  have hc1 : W2.cell? ⟨w1.heap.size, 1, none⟩ = some (.string (t 1)) := by rw [hW2]; simp
  have hc2 : W2.cell? ⟨w1.heap.size, 2, none⟩ = some (.string (t 2)) := by rw [hW2]; simp
  have hc3 : W2.cell? ⟨w1.heap.size, 3, none⟩ = some (.string (t 3)) := by rw [hW2]; simp
  have hc4 : W2.cell? ⟨w1.heap.size, 4, none⟩ = some (.string (t 4)) := by rw [hW2]; simp
  obtain ⟨W3, hW3⟩ : ∃ W3, W3 = boxC W2 zSp := ⟨_, rfl⟩
  have HA3 : Hid (BoxC W3 w.heap.size zSp) := hide (by rw [hW3]; exact HA2.out.on ((Below.refl _ _).alloc (Nat.le_refl _) _))
  have HC3 : Hid (BoxC W3 W2.heap.size zSp) := hide (by rw [hW3]; exact BoxC.new _ _)
  have HB3 : Hid (Below w.heap.size w W3) := hide (by rw [hW3]; exact Below.alloc HB2.out HB2.out.size _)
  have HWE := hide hW2
  have HWF : Hid (W2.alloc (.cells #[.int .u64 0, .int .u64 0, .int .u64 0, .int .u64 0, .int .u64 0, .bool false, .bool false, .bool false, .bool false, .bool false] 26) = W3) := hide (by rw [hW3]; rfl)
  have HNe : Hid (w.heap.size ≠ W2.heap.size) := hide (by have := HB1.out.size; omega)
  have HLe : Hid (w.heap.size ≤ W2.heap.size) := hide HB2.out.size
  clear hW2 hW3 hb1 ht
  go_wp2_with (first | (guard_target =~ wpList _ _ _ (Oper.mk _ (Op.alloc _) _ _ _ _ :: _) _ _; rw [← HWE.out]) | fail)
  rw [HWF.out]
  have HIx := hide (fun k hk w => run_idxT t k hk w)
  have HPF : Hid (∀ k w, k < 5 → Bnd w → Calls Tryd.prog 39 #[.int .i64 (k : Nat), .string (t k)] w fun e w' => e = .returned (.tuple #[.int .u64 ((fieldM k (txtF s.data.toList k)).2 : Nat), .int .i64 (fieldM k (txtF s.data.toList k)).1]) ∧ Below w.heap.size w w') := hide (fun k w hk hB => by
    have := pf_any k (t k) w hk (HSz.out k _ (HT.out k hk)) hB
    rw [HT.out k hk] at this
    exact this)
  have HStar : Hid (∀ k, k < 5 → ((t k).toList == [42]) = (parseC s.data.toList).A k) := hide (fun k hk => by rw [Lib.toList_data, HT.out k hk]; exact ((HC.out k).2).symm)
  generalize hbc : W2.heap.size = bc at *
  clear hc0 hc1 hc2 hc3 hc4 hz2 hbc HWF HWE
  go_loopw [20] (fun u wr => ∃ k : Nat, k ≤ 5 ∧ u = .int .i64 (k : Nat) ∧ (∀ j, j < k → (fieldM j (txtF s.data.toList j)).1 = 0) ∧ BoxC wr w.heap.size zSp ∧ BoxC wr bc (cutC (parseC s.data.toList) k) ∧ Below w.heap.size w wr) (fun u _ => 5 - (intOf u).toNat)
  case atStart => exact ⟨0, by omega, rfl, fun j h => by omega, HA3.out, by rw [cut_zero]; exact HC3.out, HB3.out⟩
  case round =>
    obtain ⟨k, hk, rfl, hok, hA, hC, hB⟩ := hrel
    have HOK := hide hok
    have HAr := hide hA
    have HCr := hide hC
    have HBr := hide hB
    clear hok hA hC hB
    by_cases hlt : k < 5
    · have hix := HIx.out k hlt
      obtain ⟨⟨a1, a2⟩, a3, a4⟩ := HCr.out k hlt
      rw [cut_A] at a3
      rw [cut_S] at a1
      have hki : (k : Int) < 5 := by omega
      have hbz : bc < wr.heap.size := HCr.out.lt
      obtain ⟨w5, hw5⟩ : ∃ w5, w5 = wr.setCell ⟨bc, 5 + k, none⟩ (.bool ((t k).toList == [42])) := ⟨_, rfl⟩
      have HB5 : Hid (Below w.heap.size w w5) := hide (by rw [hw5]; exact HBr.out.setCell (p := ⟨bc, 5 + k, none⟩) (by have := HLe.out; show _ ≤ bc; omega) _)
      have HP := hide (HPF.out k w5 hlt (HBd.out.on HB5.out))
      have HA5 : Hid (BoxC w5 w.heap.size zSp) := hide (by rw [hw5]; exact HAr.out.other HNe.out)
      have HW5 := hide hw5
      clear hw5
      go_wp2_with (first | (go_at_call 39; rw [← HW5.out]) | fail)
      refine HP.out.mono ?_
      rintro e w6 ⟨rfl, hb6⟩
      have HB6 := hide (HB5.out.trans (hb6.mono HB5.out.size))
      have HA6 := hide (HA5.out.on hb6)
      have HC6 : Hid (BoxC (w6.setCell ⟨bc, k, none⟩ (.int .u64 ((fieldM k (txtF s.data.toList k)).2 : Nat))) bc (cutC (parseC s.data.toList) (k + 1))) := hide (by
        have h1 := hb6
        rw [HW5.out, HStar.out k hlt] at h1
        exact BoxC.field hlt HCr.out h1)
      have a1' : w6.cell? ⟨bc, k, none⟩ = some (.int .u64 0) := by
        rw [hb6.cell (p := ⟨bc, k, none⟩) (by rw [HW5.out]; simpa using hbz), HW5.out, World.cell?_setCell_other _ _ _ _ (by intro x; injection x; omega)]
        exact a1
      have a2' : w6.frozen? ⟨bc, k, none⟩ = false := by
        rw [hb6.frozen (p := ⟨bc, k, none⟩) (by rw [HW5.out]; simpa using hbz), HW5.out, World.frozen?_setCell]
        exact a2
      clear hb6 a1 a2 a3 a4 hix
      by_cases hz : (fieldM k (txtF s.data.toList k)).1 = 0
      · have HOK' : Hid (∀ j, j < k + 1 → (fieldM j (txtF s.data.toList j)).1 = 0) := hide (fun j hj => by
          by_cases e : j = k
          · subst e; exact hz
          · exact HOK.out j (by omega))
        have hzb : ((fieldM k (txtF s.data.toList k)).1 != 0) = false := by simp [hz]
        clear hz
        generalize (fieldM k (txtF s.data.toList k)).1 = er at *
        generalize (fieldM k (txtF s.data.toList k)).2 = st at *
        go_wp2_with fail
        go_roundw
        case rel => exact ⟨k + 1, by omega, by go_num, HOK'.out, HA6.out.other HNe.out, HC6.out, HB6.out.setCell (p := ⟨bc, k, none⟩) (by have := HLe.out; show _ ≤ bc; omega) _⟩
        case measure => simp [intOf]; omega
      · have HPE : Hid (parseE s.data.toList = (fieldM k (txtF s.data.toList k)).1) := hide (by
          have h1 := HSk.out k (5 - k) (fun i _ h => HOK.out i (by omega))
          rw [HE.out, show 5 = k + (5 - k) by omega, h1, show 5 - k = (4 - k) + 1 by omega, HSn.out, Nat.zero_add, if_neg hz])
        have HZ := hide hz
        have hzb : ((fieldM k (txtF s.data.toList k)).1 != 0) = true := by simp [hz]
        clear hz HC6 a1' a2'
        generalize (fieldM k (txtF s.data.toList k)).1 = er at *
        generalize (fieldM k (txtF s.data.toList k)).2 = st at *
        obtain ⟨z9, c0, c1, c2, c3, c4, c5, c6, c7, c8, c9⟩ := HA6.out.atC
        have f0 := HA6.out.froz 0 (by omega); have f1 := HA6.out.froz 1 (by omega); have f2 := HA6.out.froz 2 (by omega); have f3 := HA6.out.froz 3 (by omega); have f4 := HA6.out.froz 4 (by omega); have f5 := HA6.out.froz 5 (by omega); have f6 := HA6.out.froz 6 (by omega); have f7 := HA6.out.froz 7 (by omega); have f8 := HA6.out.froz 8 (by omega); have f9 := HA6.out.froz 9 (by omega)
        go_wp2_with fail
        have hAz := zero_anew HA6.out.atC
        obtain ⟨W7, hW7⟩ : ∃ W7, W7 = ((((((((((w6.setCell ⟨w.heap.size, 0, none⟩ (.int .u64 0)).setCell ⟨w.heap.size, 1, none⟩ (.int .u64 0)).setCell ⟨w.heap.size, 2, none⟩ (.int .u64 0)).setCell ⟨w.heap.size, 3, none⟩ (.int .u64 0)).setCell ⟨w.heap.size, 4, none⟩ (.int .u64 0)).setCell ⟨w.heap.size, 5, none⟩ (.bool false)).setCell ⟨w.heap.size, 6, none⟩ (.bool false)).setCell ⟨w.heap.size, 7, none⟩ (.bool false)).setCell ⟨w.heap.size, 8, none⟩ (.bool false)).setCell ⟨w.heap.size, 9, none⟩ (.bool false)) := ⟨_, rfl⟩
        have hB7 : Below w.heap.size w W7 := by rw [hW7]; exact ((((((((((HB6.out.setCell (Nat.le_refl _) _).setCell (Nat.le_refl _) _).setCell (Nat.le_refl _) _).setCell (Nat.le_refl _) _).setCell (Nat.le_refl _) _).setCell (Nat.le_refl _) _).setCell (Nat.le_refl _) _).setCell (Nat.le_refl _) _).setCell (Nat.le_refl _) _).setCell (Nat.le_refl _) _)
        rw [← hW7] at hAz ⊢
        obtain ⟨y9, d0, d1, d2, d3, d4, d5, d6, d7, d8, d9⟩ := hAz
        clear c0 c1 c2 c3 c4 c5 c6 c7 c8 c9
        refine bodyPost_ret (v := .tuple #[vC zSp, .int .i64 er]) (by simp [results, Tryd.results16, go_sem, d0, d1, d2, d3, d4, d5, d6, d7, d8, d9]) rfl ⟨.inr ⟨by rw [HPE.out]; exact HZ.out, by rw [HPE.out]⟩, hB7⟩
    · obtain rfl : k = 5 := by omega
      have HPE : Hid (parseE s.data.toList = 0) := hide (by
        have h1 := HSk.out 5 0 (fun i _ h => HOK.out i (by omega))
        rw [HE.out, h1]; rfl)
      obtain ⟨z8, c0, c1, c2, c3, c4, c5, c6, c7, c8, c9⟩ := HCr.out.whole
      obtain ⟨z9, e0, e1, e2, e3, e4, e5, e6, e7, e8, e9⟩ := HAr.out.atC
      have f0 := HAr.out.froz 0 (by omega); have f1 := HAr.out.froz 1 (by omega); have f2 := HAr.out.froz 2 (by omega); have f3 := HAr.out.froz 3 (by omega); have f4 := HAr.out.froz 4 (by omega); have f5 := HAr.out.froz 5 (by omega); have f6 := HAr.out.froz 6 (by omega); have f7 := HAr.out.froz 7 (by omega); have f8 := HAr.out.froz 8 (by omega); have f9 := HAr.out.froz 9 (by omega)
      obtain ⟨c, hc⟩ : ∃ c, c = parseC s.data.toList := ⟨_, rfl⟩
      rw [← hc] at c0 c1 c2 c3 c4 c5 c6 c7 c8 c9
      have HPC := hide hc.symm
      clear HIx HPF HStar hc HCr HOK
      go_wp2_with fail
      have hAz := spec_stored (c := c) HAr.out.atC
      obtain ⟨W7, hW7⟩ : ∃ W7, W7 = ((((((((((wr.setCell ⟨w.heap.size, 0, none⟩ (.int .u64 (c.S 0 : Nat))).setCell ⟨w.heap.size, 1, none⟩ (.int .u64 (c.S 1 : Nat))).setCell ⟨w.heap.size, 2, none⟩ (.int .u64 (c.S 2 : Nat))).setCell ⟨w.heap.size, 3, none⟩ (.int .u64 (c.S 3 : Nat))).setCell ⟨w.heap.size, 4, none⟩ (.int .u64 (c.S 4 : Nat))).setCell ⟨w.heap.size, 5, none⟩ (.bool (c.A 0))).setCell ⟨w.heap.size, 6, none⟩ (.bool (c.A 1))).setCell ⟨w.heap.size, 7, none⟩ (.bool (c.A 2))).setCell ⟨w.heap.size, 8, none⟩ (.bool (c.A 3))).setCell ⟨w.heap.size, 9, none⟩ (.bool (c.A 4))) := ⟨_, rfl⟩
      have hB7 : Below w.heap.size w W7 := by rw [hW7]; exact ((((((((((HBr.out.setCell (Nat.le_refl _) _).setCell (Nat.le_refl _) _).setCell (Nat.le_refl _) _).setCell (Nat.le_refl _) _).setCell (Nat.le_refl _) _).setCell (Nat.le_refl _) _).setCell (Nat.le_refl _) _).setCell (Nat.le_refl _) _).setCell (Nat.le_refl _) _).setCell (Nat.le_refl _) _)
      rw [← hW7] at hAz ⊢
      obtain ⟨y9, d0, d1, d2, d3, d4, d5, d6, d7, d8, d9⟩ := hAz
      clear c0 c1 c2 c3 c4 c5 c6 c7 c8 c9 e0 e1 e2 e3 e4 e5 e6 e7 e8 e9
      refine bodyPost_ret (v := .tuple #[vC c, .int .i64 0]) (by simp [results, Tryd.results16, go_sem, d0, d1, d2, d3, d4, d5, d6, d7, d8, d9]) rfl ⟨.inl ⟨HPE.out, by rw [HPC.out]⟩, hB7⟩
theorem par_any (s : ByteArray) (w : World) (hs : s.size ≤ 1000000) (hB : Bnd w) : Calls Tryd.prog 16 #[.string s] w (ParOut s.data.toList w) := by
  cases hb : splitB s.data.toList
  · exact par_no s w hs hb
  · exact par_yes s w hs hb hB
end Go.Proofs.YtggaflihblhapaaDoor
