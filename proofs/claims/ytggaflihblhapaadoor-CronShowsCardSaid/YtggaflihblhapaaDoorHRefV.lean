/-
  A field that is right, walked.
-/
import Derived.Test.YtggaflihblhapaaDoorHRefR
namespace Go.Proofs.YtggaflihblhapaaDoor
open Go.RowKit CM HM

set_option maxHeartbeats 2000000 in
theorem rright_any (c : Sp) (f : Nat) (w : World) (hc : c.wf) (hf : f < 5) : Calls Tryd.prog 33 #[.int .i64 (f : Nat), .agg (fL c f).toArray] w fun e w' => e = .returned (.bool (okB f (c.S f) (c.A f))) ∧ Below w.heap.size w w' := by
  have HL := hide (fun w => rlow_any f w hf)
  have HH := hide (fun w => rhigh_any f w hf)
  have HZ : Hid (∀ w' : World, Below (w.heap.size + 1) (w.alloc (.cells (fL c f).toArray 34)) w' → (∀ n, n < 64 → w'.cell? ⟨w.heap.size, n, none⟩ = some (.bool ((c.S f).testBit n))) ∧ w'.cell? ⟨w.heap.size, 64, none⟩ = some (.bool (c.A f))) := hide (fun w' hb => by
    have hh : (w.alloc (.cells (fL c f).toArray 34)).heap[w.heap.size]? = some (.cells (fL c f).toArray 34 (0, 0)) := heap_alloc_last w _
    have h2 := (hb.block _ (by omega)).trans hh
    refine ⟨fun n hn => ?_, ?_⟩
    · rw [cell_of_row w' _ n _ _ (0, 0) h2]
      have := fL_at c f (j := n) (by omega)
      rw [fV_has _ _ _ hn] at this
      simpa using this
    · rw [cell_of_row w' _ 64 _ _ (0, 0) h2]
      have := fL_at c f (j := 64) (by omega)
      rw [fV_any] at this
      simpa using this)
  have hs := hc f hf
  have HK1 : Hid (∀ n, (c.S f).testBit n = true → inF f n = false → okB f (c.S f) (c.A f) = false) := hide (fun n h1 h2 => okB_bad1 h1 h2)
  have HK2 : Hid (∀ n, (c.S f).testBit n = false → inF f n = true → c.A f = true → okB f (c.S f) (c.A f) = false) := hide (fun n h1 h2 h3 => by rw [h3]; exact okB_bad2 h1 h2)
  have HK3 : Hid ((∀ m, m < 64 → (c.S f).testBit m = true → inF f m = true) → (c.A f = true → ∀ m, m < 64 → inF f m = true → (c.S f).testBit m = true) → ∀ k : Nat, (k = 0 ↔ ∀ m, m < 64 → (c.S f).testBit m = false) → okB f (c.S f) (c.A f) = decide (0 < k)) := hide (fun h1 h2 k h3 => by
    rw [okB_end hs h1 h2]
    by_cases hk : k = 0
    · rw [none_zero hs (h3.1 hk), hk]; rfl
    · have : c.S f ≠ 0 := fun e => hk (h3.2 (fun m _ => by rw [e, Nat.zero_testBit]))
      rw [show (c.S f == 0) = false by simpa using this, decide_eq_true (by omega)]; rfl)
  have HI : Hid (∀ n, inF f n = (decide (loN f ≤ n) && decide (n ≤ hiN f))) := hide (fun n => rfl)
  clear hs hc
  generalize c.S f = s at *
  generalize c.A f = a at *
  generalize okB f s a = r at *
  generalize (fL c f).toArray = arr at *
  generalize loN f = lo at *
  generalize hiN f = hi at *
  generalize inF f = inn at *
  go_enter Tryd.func33, Tryd.ntmps33
  go_wp2_with fail
  go_loopw [5, 6] (fun t u wr => ∃ n k : Nat, n ≤ 64 ∧ k ≤ n ∧ (k = 0 ↔ ∀ m, m < n → s.testBit m = false) ∧ (∀ m, m < n → s.testBit m = true → inn m = true) ∧ (a = true → ∀ m, m < n → inn m = true → s.testBit m = true) ∧ t = .int .i64 (k : Nat) ∧ u = .int .i64 (n : Nat) ∧ Below (w.heap.size + 1) (w.alloc (.cells arr 34)) wr) (fun _ u _ => 64 - (intOf u).toNat)
  case atStart => exact ⟨0, 0, by omega, by omega, ⟨fun _ m h => by omega, fun _ => rfl⟩, fun m h => by omega, fun _ m h => by omega, rfl, rfl, Below.refl _ _⟩
  case round =>
    obtain ⟨n, k, hn, hk, q1, q2, q3, rfl, rfl, hb⟩ := hrel
    have HQ1 := hide q1
    have HQ2 := hide q2
    have HQ3 := hide q3
    have HB := hide hb
    have HBw : Hid (∀ w', Below wr.heap.size wr w' → Below w.heap.size w w') := hide (fun w' h => by
      have := HB.out
      have h1 : Below w.heap.size w (w.alloc (.cells arr 34)) := (Below.refl _ _).alloc (Nat.le_refl _) _
      have h2 := h1.trans (Below.mono this (by omega))
      exact h2.trans (Below.mono h h2.size))
    have hsz : w.heap.size + 1 ≤ wr.heap.size := by have := HB.out.size; simpa using this
    clear q1 q2 q3 hb
    by_cases hlt : n < 64
    · have HIn := hide (HI.out n)
      by_cases h1 : lo ≤ n
      · have HSZ := hide hsz
        have hlo : (lo : Int) ≤ (n : Int) := by omega
        have hr0 : wr.heap.size ≤ wr.heap.size := Nat.le_refl _
        by_cases h2 : n ≤ hi
        · have hhi : (n : Int) ≤ (hi : Int) := by omega
          have HI1 : Hid (inn n = true) := hide (by rw [HIn.out, decide_eq_true h1, decide_eq_true h2]; rfl)
          cases hbit : s.testBit n
          · cases a
            · have HBt := hide hbit
              clear hbit
              go_wp2_with ((go_at_call 56; refine (HL.out _).mono ?_; rintro e w' ⟨rfl, rfl⟩))
              refine (HH.out _).mono ?_
              rintro e w1 ⟨rfl, hb1⟩
              have HB1 : Hid (Below (w.heap.size + 1) (w.alloc (.cells arr 34)) w1) := hide (HB.out.trans (hb1.mono HSZ.out))
              have HE1 : Hid (∀ w', Below w1.heap.size w1 w' → Below w.heap.size w w') := hide (fun w' h => HBw.out w' (hb1.trans (Below.mono h hb1.size)))
              obtain ⟨z1, z2⟩ := HZ.out w1 HB1.out
              have z3 := z1 n hlt
              rw [HBt.out] at z3
              clear z1 hb1
              go_wp2_with ((go_at_call 56; refine (HL.out _).mono ?_; rintro e w' ⟨rfl, rfl⟩))
              go_round
              case rel =>
                refine ⟨n + 1, k, by omega, by omega, HQ1.out.trans ⟨fun h m hm => by
                  by_cases e : m = n
                  · rw [e]; exact HBt.out
                  · exact h m (by omega), fun h m hm => h m (by omega)⟩, fun m hm h => ?_, fun ha m hm h => ?_, rfl, by simp, HB1.out⟩
                · by_cases e : m = n
                  · rw [e] at h ⊢; exact HI1.out
                  · exact HQ2.out m (by omega) h
                · by_cases e : m = n
                  · cases ha
                  · exact HQ3.out ha m (by omega) h
              case measure => simp [intOf]; omega
            · have HBt := hide hbit
              clear hbit
              go_wp2_with ((go_at_call 56; refine (HL.out _).mono ?_; rintro e w' ⟨rfl, rfl⟩))
              refine (HH.out _).mono ?_
              rintro e w1 ⟨rfl, hb1⟩
              have HB1 : Hid (Below (w.heap.size + 1) (w.alloc (.cells arr 34)) w1) := hide (HB.out.trans (hb1.mono HSZ.out))
              have HE1 : Hid (∀ w', Below w1.heap.size w1 w' → Below w.heap.size w w') := hide (fun w' h => HBw.out w' (hb1.trans (Below.mono h hb1.size)))
              obtain ⟨z1, z2⟩ := HZ.out w1 HB1.out
              have z3 := z1 n hlt
              rw [HBt.out] at z3
              clear z1 hb1
              go_wp2_with ((go_at_call 56; refine (HL.out _).mono ?_; rintro e w' ⟨rfl, rfl⟩))
              go_ret
              exact ⟨ret_bool (by rw [HK2.out n HBt.out HI1.out (by first | trivial | rfl)]), HE1.out _ (Below.refl _ _)⟩
          · cases a
            · have HBt := hide hbit
              clear hbit
              go_wp2_with ((go_at_call 56; refine (HL.out _).mono ?_; rintro e w' ⟨rfl, rfl⟩))
              refine (HH.out _).mono ?_
              rintro e w1 ⟨rfl, hb1⟩
              have HB1 : Hid (Below (w.heap.size + 1) (w.alloc (.cells arr 34)) w1) := hide (HB.out.trans (hb1.mono HSZ.out))
              have HE1 : Hid (∀ w', Below w1.heap.size w1 w' → Below w.heap.size w w') := hide (fun w' h => HBw.out w' (hb1.trans (Below.mono h hb1.size)))
              obtain ⟨z1, z2⟩ := HZ.out w1 HB1.out
              have z3 := z1 n hlt
              rw [HBt.out] at z3
              clear z1 hb1
              go_wp2_with ((go_at_call 56; refine (HL.out _).mono ?_; rintro e w' ⟨rfl, rfl⟩))
              go_round
              case rel =>
                refine ⟨n + 1, k + 1, by omega, by omega, ⟨fun h => absurd h (by omega), fun h => absurd (h n (by omega)) (by rw [HBt.out]; simp)⟩, fun m hm h => ?_, fun ha m hm h => ?_, by simp, by simp, HB1.out⟩
                · by_cases e : m = n
                  · rw [e] at h ⊢; exact HI1.out
                  · exact HQ2.out m (by omega) h
                · by_cases e : m = n
                  · rw [e]; exact HBt.out
                  · exact HQ3.out ha m (by omega) h
              case measure => simp [intOf]; omega
            · have HBt := hide hbit
              clear hbit
              go_wp2_with ((go_at_call 56; refine (HL.out _).mono ?_; rintro e w' ⟨rfl, rfl⟩))
              refine (HH.out _).mono ?_
              rintro e w1 ⟨rfl, hb1⟩
              have HB1 : Hid (Below (w.heap.size + 1) (w.alloc (.cells arr 34)) w1) := hide (HB.out.trans (hb1.mono HSZ.out))
              have HE1 : Hid (∀ w', Below w1.heap.size w1 w' → Below w.heap.size w w') := hide (fun w' h => HBw.out w' (hb1.trans (Below.mono h hb1.size)))
              obtain ⟨z1, z2⟩ := HZ.out w1 HB1.out
              have z3 := z1 n hlt
              rw [HBt.out] at z3
              clear z1 hb1
              go_wp2_with ((go_at_call 56; refine (HL.out _).mono ?_; rintro e w' ⟨rfl, rfl⟩))
              go_round
              case rel =>
                refine ⟨n + 1, k + 1, by omega, by omega, ⟨fun h => absurd h (by omega), fun h => absurd (h n (by omega)) (by rw [HBt.out]; simp)⟩, fun m hm h => ?_, fun ha m hm h => ?_, by simp, by simp, HB1.out⟩
                · by_cases e : m = n
                  · rw [e] at h ⊢; exact HI1.out
                  · exact HQ2.out m (by omega) h
                · by_cases e : m = n
                  · rw [e]; exact HBt.out
                  · exact HQ3.out ha m (by omega) h
              case measure => simp [intOf]; omega
        · have hhi : ¬ ((n : Int) ≤ (hi : Int)) := by omega
          have HI1 : Hid (inn n = false) := hide (by rw [HIn.out, decide_eq_true h1, decide_eq_false h2]; rfl)
          cases hbit : s.testBit n
          · cases a
            · have HBt := hide hbit
              clear hbit
              go_wp2_with ((go_at_call 56; refine (HL.out _).mono ?_; rintro e w' ⟨rfl, rfl⟩))
              refine (HH.out _).mono ?_
              rintro e w1 ⟨rfl, hb1⟩
              have HB1 : Hid (Below (w.heap.size + 1) (w.alloc (.cells arr 34)) w1) := hide (HB.out.trans (hb1.mono HSZ.out))
              have HE1 : Hid (∀ w', Below w1.heap.size w1 w' → Below w.heap.size w w') := hide (fun w' h => HBw.out w' (hb1.trans (Below.mono h hb1.size)))
              obtain ⟨z1, z2⟩ := HZ.out w1 HB1.out
              have z3 := z1 n hlt
              rw [HBt.out] at z3
              clear z1 hb1
              go_wp2_with ((go_at_call 56; refine (HL.out _).mono ?_; rintro e w' ⟨rfl, rfl⟩))
              go_round
              case rel =>
                refine ⟨n + 1, k, by omega, by omega, HQ1.out.trans ⟨fun h m hm => by
                  by_cases e : m = n
                  · rw [e]; exact HBt.out
                  · exact h m (by omega), fun h m hm => h m (by omega)⟩, fun m hm h => ?_, fun ha m hm h => ?_, rfl, by simp, HB1.out⟩
                · by_cases e : m = n
                  · rw [e] at h ⊢; rw [HBt.out] at h; cases h
                  · exact HQ2.out m (by omega) h
                · by_cases e : m = n
                  · rw [e, HI1.out] at h; cases h
                  · exact HQ3.out ha m (by omega) h
              case measure => simp [intOf]; omega
            · have HBt := hide hbit
              clear hbit
              go_wp2_with ((go_at_call 56; refine (HL.out _).mono ?_; rintro e w' ⟨rfl, rfl⟩))
              refine (HH.out _).mono ?_
              rintro e w1 ⟨rfl, hb1⟩
              have HB1 : Hid (Below (w.heap.size + 1) (w.alloc (.cells arr 34)) w1) := hide (HB.out.trans (hb1.mono HSZ.out))
              have HE1 : Hid (∀ w', Below w1.heap.size w1 w' → Below w.heap.size w w') := hide (fun w' h => HBw.out w' (hb1.trans (Below.mono h hb1.size)))
              obtain ⟨z1, z2⟩ := HZ.out w1 HB1.out
              have z3 := z1 n hlt
              rw [HBt.out] at z3
              clear z1 hb1
              go_wp2_with ((go_at_call 56; refine (HL.out _).mono ?_; rintro e w' ⟨rfl, rfl⟩))
              go_round
              case rel =>
                refine ⟨n + 1, k, by omega, by omega, HQ1.out.trans ⟨fun h m hm => by
                  by_cases e : m = n
                  · rw [e]; exact HBt.out
                  · exact h m (by omega), fun h m hm => h m (by omega)⟩, fun m hm h => ?_, fun ha m hm h => ?_, rfl, by simp, HB1.out⟩
                · by_cases e : m = n
                  · rw [e] at h ⊢; rw [HBt.out] at h; cases h
                  · exact HQ2.out m (by omega) h
                · by_cases e : m = n
                  · rw [e, HI1.out] at h; cases h
                  · exact HQ3.out ha m (by omega) h
              case measure => simp [intOf]; omega
          · cases a
            · have HBt := hide hbit
              clear hbit
              go_wp2_with ((go_at_call 56; refine (HL.out _).mono ?_; rintro e w' ⟨rfl, rfl⟩))
              refine (HH.out _).mono ?_
              rintro e w1 ⟨rfl, hb1⟩
              have HB1 : Hid (Below (w.heap.size + 1) (w.alloc (.cells arr 34)) w1) := hide (HB.out.trans (hb1.mono HSZ.out))
              have HE1 : Hid (∀ w', Below w1.heap.size w1 w' → Below w.heap.size w w') := hide (fun w' h => HBw.out w' (hb1.trans (Below.mono h hb1.size)))
              obtain ⟨z1, z2⟩ := HZ.out w1 HB1.out
              have z3 := z1 n hlt
              rw [HBt.out] at z3
              clear z1 hb1
              go_wp2_with ((go_at_call 56; refine (HL.out _).mono ?_; rintro e w' ⟨rfl, rfl⟩))
              go_ret
              exact ⟨ret_bool (by rw [HK1.out n HBt.out HI1.out]), HE1.out _ (Below.refl _ _)⟩
            · have HBt := hide hbit
              clear hbit
              go_wp2_with ((go_at_call 56; refine (HL.out _).mono ?_; rintro e w' ⟨rfl, rfl⟩))
              refine (HH.out _).mono ?_
              rintro e w1 ⟨rfl, hb1⟩
              have HB1 : Hid (Below (w.heap.size + 1) (w.alloc (.cells arr 34)) w1) := hide (HB.out.trans (hb1.mono HSZ.out))
              have HE1 : Hid (∀ w', Below w1.heap.size w1 w' → Below w.heap.size w w') := hide (fun w' h => HBw.out w' (hb1.trans (Below.mono h hb1.size)))
              obtain ⟨z1, z2⟩ := HZ.out w1 HB1.out
              have z3 := z1 n hlt
              rw [HBt.out] at z3
              clear z1 hb1
              go_wp2_with ((go_at_call 56; refine (HL.out _).mono ?_; rintro e w' ⟨rfl, rfl⟩))
              go_ret
              exact ⟨ret_bool (by rw [HK1.out n HBt.out HI1.out]), HE1.out _ (Below.refl _ _)⟩
      · have hlo : ¬ ((lo : Int) ≤ (n : Int)) := by omega
        have HI1 : Hid (inn n = false) := hide (by rw [HIn.out, decide_eq_false h1]; rfl)
        cases hbit : s.testBit n
        · cases a
          · have HBt := hide hbit
            clear hbit
            obtain ⟨z1, z2⟩ := HZ.out wr HB.out
            have z3 := z1 n hlt
            rw [HBt.out] at z3
            clear z1
            have HB1 := HB
            have HE1 := HBw
            go_wp2_with ((go_at_call 56; refine (HL.out _).mono ?_; rintro e w' ⟨rfl, rfl⟩))
            go_round
            case rel =>
              refine ⟨n + 1, k, by omega, by omega, HQ1.out.trans ⟨fun h m hm => by
                by_cases e : m = n
                · rw [e]; exact HBt.out
                · exact h m (by omega), fun h m hm => h m (by omega)⟩, fun m hm h => ?_, fun ha m hm h => ?_, rfl, by simp, HB1.out⟩
              · by_cases e : m = n
                · rw [e] at h ⊢; rw [HBt.out] at h; cases h
                · exact HQ2.out m (by omega) h
              · by_cases e : m = n
                · rw [e, HI1.out] at h; cases h
                · exact HQ3.out ha m (by omega) h
            case measure => simp [intOf]; omega
          · have HBt := hide hbit
            clear hbit
            obtain ⟨z1, z2⟩ := HZ.out wr HB.out
            have z3 := z1 n hlt
            rw [HBt.out] at z3
            clear z1
            have HB1 := HB
            have HE1 := HBw
            go_wp2_with ((go_at_call 56; refine (HL.out _).mono ?_; rintro e w' ⟨rfl, rfl⟩))
            go_round
            case rel =>
              refine ⟨n + 1, k, by omega, by omega, HQ1.out.trans ⟨fun h m hm => by
                by_cases e : m = n
                · rw [e]; exact HBt.out
                · exact h m (by omega), fun h m hm => h m (by omega)⟩, fun m hm h => ?_, fun ha m hm h => ?_, rfl, by simp, HB1.out⟩
              · by_cases e : m = n
                · rw [e] at h ⊢; rw [HBt.out] at h; cases h
                · exact HQ2.out m (by omega) h
              · by_cases e : m = n
                · rw [e, HI1.out] at h; cases h
                · exact HQ3.out ha m (by omega) h
            case measure => simp [intOf]; omega
        · cases a
          · have HBt := hide hbit
            clear hbit
            obtain ⟨z1, z2⟩ := HZ.out wr HB.out
            have z3 := z1 n hlt
            rw [HBt.out] at z3
            clear z1
            have HB1 := HB
            have HE1 := HBw
            go_wp2_with ((go_at_call 56; refine (HL.out _).mono ?_; rintro e w' ⟨rfl, rfl⟩))
            go_ret
            exact ⟨ret_bool (by rw [HK1.out n HBt.out HI1.out]), HE1.out _ (Below.refl _ _)⟩
          · have HBt := hide hbit
            clear hbit
            obtain ⟨z1, z2⟩ := HZ.out wr HB.out
            have z3 := z1 n hlt
            rw [HBt.out] at z3
            clear z1
            have HB1 := HB
            have HE1 := HBw
            go_wp2_with ((go_at_call 56; refine (HL.out _).mono ?_; rintro e w' ⟨rfl, rfl⟩))
            go_ret
            exact ⟨ret_bool (by rw [HK1.out n HBt.out HI1.out]), HE1.out _ (Below.refl _ _)⟩
    · obtain rfl : n = 64 := by omega
      have HR := hide (HK3.out (fun m hm => HQ2.out m hm) (fun ha m hm => HQ3.out ha m hm) k HQ1.out)
      go_wp2_with fail
      go_ret
      exact ⟨ret_bool (by rw [HR.out]; try simp), HBw.out _ (Below.refl _ _)⟩
end Go.Proofs.YtggaflihblhapaaDoor
