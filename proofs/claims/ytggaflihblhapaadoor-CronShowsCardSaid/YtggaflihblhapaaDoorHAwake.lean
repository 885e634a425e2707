/-
  The fixed example of the laws.
-/
import Derived.Test.YtggaflihblhapaaDoorHParseW
import Derived.Test.YtggaflihblhapaaDoorHBetw
namespace Go.Proofs.YtggaflihblhapaaDoor
open Go.RowKit CM HM

def l0 : List UInt8 := [48, 32, 50, 32, 42, 32, 42, 32, 42]
def c0 : Sp := parseC l0
theorem p0 : parseE l0 = 0 := by kernel_rfl
theorem c0_valid : validB c0 = true := by kernel_rfl
theorem c0_S0 : c0.S 0 = 1 := by kernel_rfl
theorem c0_S1 : c0.S 1 = 4 := by kernel_rfl
theorem c0_S2 : c0.S 2 = maskN 2 := by kernel_rfl
theorem c0_S3 : c0.S 3 = maskN 3 := by kernel_rfl
theorem c0_S4 : c0.S 4 = maskN 4 := by kernel_rfl
theorem c0_A2 : c0.A 2 = true := by kernel_rfl
theorem c0_wf : c0.wf := by
  intro f hf
  obtain rfl | rfl | rfl | rfl | rfl : f = 0 ∨ f = 1 ∨ f = 2 ∨ f = 3 ∨ f = 4 := by omega
  · rw [c0_S0]; omega
  · rw [c0_S1]; omega
  · rw [c0_S2]; exact maskN_lt _
  · rw [c0_S3]; exact maskN_lt _
  · rw [c0_S4]; exact maskN_lt _
theorem c0_day {d : Int} (h : 0 ≤ d) : dayB c0 d = true := by
  have hk := K_spec (n := d * 1440) (by omega)
  have hd := D_bd (n := d * 1440) (by omega)
  unfold dayB mdB
  rw [c0_A2, c0_S2, c0_S3, c0_S4, bit_mask, bit_mask, bit_mask]
  have h1 : inF 3 (K (d * 1440) + 1) = true := by unfold inF; simp [loN, hiN]; omega
  have h2 : inF 2 (D (d * 1440)).toNat = true := by unfold inF; simp [loN, hiN]; omega
  have h3 : inF 4 ((6 + d) % 7).toNat = true := by unfold inF; simp [loN, hiN]; omega
  rw [h1, h2, h3]; rfl
theorem c0_mat {n : Int} (h : 0 ≤ n) : matB c0 n = (decide (n % 60 = 0) && decide (n / 60 % 24 = 2)) := by
  unfold matB timB
  rw [c0_day (by omega), c0_S0, c0_S1, Bool.and_true]
  have h1 : (1 : Nat).testBit (n % 1440 % 60).toNat = decide (n % 60 = 0) := by
    rw [show (1 : Nat) = 2 ^ 0 from rfl, Nat.testBit_two_pow]
    congr 1
    exact propext ⟨fun h => by omega, fun h => by omega⟩
  have h2 : (4 : Nat).testBit (n % 1440 / 60).toNat = decide (n / 60 % 24 = 2) := by
    rw [show (4 : Nat) = 2 ^ 2 from rfl, Nat.testBit_two_pow]
    congr 1
    exact propext ⟨fun h => by omega, fun h => by omega⟩
  rw [h1, h2]
theorem next_zero {r : Option Int} (h : NextIs c0 0 r) : r = some 120 := by
  have h1 := h.1 ⟨c0_valid, by omega⟩
  rw [show max ((0 : Int) + 1) 0 = 1 by omega] at h1
  have hm : matB c0 120 = true := by rw [c0_mat (by omega)]; rfl
  cases r with
  | none =>
    have := h1 120 (by omega) (by omega)
    rw [hm] at this; cases this
  | some x =>
    obtain ⟨a1, a2, a3, a4⟩ := h1
    rw [c0_mat (by omega)] at a3
    simp at a3
    by_cases e : 120 < x
    · have := a4 120 (by omega) e
      rw [hm] at this; cases this
    · congr 1
      omega
/-- What the laws read: the months' lengths, the fields' bounds, the table of math/bits. -/
def Rd (w : World) : Prop := Mon w ∧ Bnd w ∧ Bru w
theorem Rd.on {w w' : World} (h : Rd w) (hb : Below w.heap.size w w') : Rd w' := ⟨h.1.on hb, h.2.1.on hb, h.2.2.on hb⟩
set_option maxHeartbeats 2000000 in
theorem awake_any (w : World) (hR : Rd w) : Calls Tryd.prog 13 #[] w fun e w' => e = .returned (.bool true) ∧ Below w.heap.size w w' := by
  have HP : Hid (∀ w, Rd w → Calls Tryd.prog 16 #[.string ⟨#[48, 32, 50, 32, 42, 32, 42, 32, 42]⟩] w fun e w' => e = .returned (.tuple #[vC c0, .int .i64 0]) ∧ Below w.heap.size w w') := hide (fun w hR => (par_any ⟨#[48, 32, 50, 32, 42, 32, 42, 32, 42]⟩ w (by decide) hR.2.1).mono fun e w' h => by
    obtain ⟨⟨_, he⟩ | ⟨he, _⟩, hb⟩ := h
    · exact ⟨he, hb⟩
    · exact absurd p0 he)
  have HN : Hid (∀ w, Rd w → Calls Tryd.prog 35 #[vC c0, .int .i64 0] w fun e w' => e = .returned (.tuple #[.int .i64 120, .bool true]) ∧ Below w.heap.size w w') := hide (fun w hR => (next_any c0 0 w c0_wf (by omega) hR.1 hR.2.1 hR.2.2).mono fun e w' h => by
    obtain ⟨⟨r, hr, he⟩, hb⟩ := h
    obtain rfl := next_zero hr
    exact ⟨he, hb⟩)
  have HM1 : Hid (∀ w, Rd w → Calls Tryd.prog 36 #[vC c0, .int .i64 1560] w fun e w' => e = .returned (.bool true) ∧ Below w.heap.size w w') := hide (fun w hR => by
    have := match_yes c0 1560 w c0_wf c0_valid (by omega) (by omega) hR.1 hR.2.1
    rw [c0_mat (by omega)] at this
    exact this)
  have HM0 : Hid (∀ w, Rd w → Calls Tryd.prog 36 #[vC c0, .int .i64 0] w fun e w' => e = .returned (.bool false) ∧ Below w.heap.size w w') := hide (fun w hR => by
    have := match_yes c0 0 w c0_wf c0_valid (by omega) (by omega) hR.1 hR.2.1
    rw [c0_mat (by omega)] at this
    exact this)
  have HR := hide hR
  clear hR
  generalize c0 = c at *
  go_enter Tryd.func13, Tryd.ntmps13
  go_wp2_with fail
  refine (HP.out _ HR.out).mono ?_
  rintro e w1 ⟨rfl, hb1⟩
  have HA1 := hide (AtC.box w1 c)
  have HB1 : Hid (Below w.heap.size w (boxC w1 c)) := hide (hb1.alloc hb1.size _)
  clear hb1
  obtain ⟨z9, d0, d1, d2, d3, d4, d5, d6, d7, d8, d9⟩ := HA1.out
  clear z9 d0 d1 d2 d3 d4 d5 d6 d7 d8 d9
  go_wp2_with fail
  refine (HN.out _ (HR.out.on HB1.out)).mono ?_
  rintro e w2 ⟨rfl, hb2⟩
  have HB2 := hide (HB1.out.trans (Below.mono hb2 HB1.out.size))
  have HA2 := hide (HA1.out.on hb2)
  obtain ⟨z9, d0, d1, d2, d3, d4, d5, d6, d7, d8, d9⟩ := HA2.out
  clear hb2
  go_wp2_with fail
  refine (HM1.out _ (HR.out.on HB2.out)).mono ?_
  rintro e w3 ⟨rfl, hb3⟩
  have HB3 := hide (HB2.out.trans (hb3.mono HB2.out.size))
  have HA3 := hide (HA2.out.on hb3)
  clear z9 d0 d1 d2 d3 d4 d5 d6 d7 d8 d9 hb3
  obtain ⟨z9, d0, d1, d2, d3, d4, d5, d6, d7, d8, d9⟩ := HA3.out
  go_wp2_with fail
  refine (HM0.out _ (HR.out.on HB3.out)).mono ?_
  rintro e w4 ⟨rfl, hb4⟩
  have HB4 := hide (HB3.out.trans (hb4.mono HB3.out.size))
  clear hb4
  go_wp2_with fail
  go_ret
  exact ⟨rfl, HB4.out⟩
end Go.Proofs.YtggaflihblhapaaDoor
