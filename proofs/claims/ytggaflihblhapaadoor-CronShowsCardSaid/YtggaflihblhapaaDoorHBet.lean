/-
  Next and Between: the minutes that match, in a list.
-/
import Derived.Test.YtggaflihblhapaaDoorHFirst
import Derived.OwnWalk
import Derived.Maps.AppendAt
namespace Go.Proofs.YtggaflihblhapaaDoor
open Go.RowKit CM HM

/-- The minutes from a on, n of them, that match. -/
def minsN (c : Sp) (a : Int) : Nat → List Int
  | 0 => []
  | n + 1 => if matB c a = true then a :: minsN c (a + 1) n else minsN c (a + 1) n
theorem minsN_succ (c : Sp) (a : Int) (n : Nat) : minsN c a (n + 1) = if matB c a = true then a :: minsN c (a + 1) n else minsN c (a + 1) n := rfl
def mins (c : Sp) (a z : Int) : List Int := minsN c a (z + 1 - a).toNat
theorem minsN_none (c : Sp) : ∀ (n : Nat) (a : Int), (∀ y, a ≤ y → y < a + n → matB c y = false) → minsN c a n = []
  | 0, _, _ => rfl
  | n + 1, a, h => by
    unfold minsN
    rw [h a (by omega) (by omega), if_neg (by simp)]
    exact minsN_none c n (a + 1) fun y h1 h2 => h y (by omega) (by omega)
theorem minsN_skip (c : Sp) : ∀ (k n : Nat) (a : Int), (∀ y, a ≤ y → y < a + k → matB c y = false) → minsN c a (k + n) = minsN c (a + k) n
  | 0, n, a, _ => by simp
  | k + 1, n, a, h => by
    rw [show k + 1 + n = (k + n) + 1 by omega]
    conv => lhs; unfold minsN
    rw [h a (by omega) (by omega), if_neg (by simp), minsN_skip c k n (a + 1) (fun y h1 h2 => h y (by omega) (by omega))]
    congr 1
    omega
theorem mins_none {c : Sp} {a z : Int} (h : FirIs c a z none) : mins c a z = [] := minsN_none c _ a fun y h1 h2 => h y h1 (by omega)
theorem mins_some {c : Sp} {a z x : Int} (h : FirIs c a z (some x)) : mins c a z = x :: mins c (x + 1) z := by
  obtain ⟨h1, h2, h3, h4⟩ := h
  unfold mins
  rw [show (z + 1 - a).toNat = (x - a).toNat + ((z + 1 - (x + 1)).toNat + 1) by omega, minsN_skip c _ _ a (fun y ha hy => h4 y ha (by omega)), show a + ((x - a).toNat : Int) = x by omega]
  conv => lhs; unfold minsN
  rw [h3, if_pos rfl]
theorem minsN_app (c : Sp) : ∀ (k n : Nat) (a : Int), minsN c a (k + n) = minsN c a k ++ minsN c (a + k) n
  | 0, n, a => by simp [minsN]
  | k + 1, n, a => by
    rw [show k + 1 + n = (k + n) + 1 by omega]
    rw [minsN_succ, minsN_succ, minsN_app c k n (a + 1), show a + 1 + (k : Int) = a + ((k + 1 : Nat) : Int) by omega]
    split <;> rfl
theorem mins_split {c : Sp} {a m z : Int} (h1 : a ≤ m + 1) (h2 : m ≤ z) : mins c a z = mins c a m ++ mins c (m + 1) z := by
  unfold mins
  rw [show (z + 1 - a).toNat = (m + 1 - a).toNat + (z + 1 - (m + 1)).toNat by omega, minsN_app, show a + ((m + 1 - a).toNat : Int) = m + 1 by omega]
theorem minsN_len (c : Sp) : ∀ (n : Nat) (a : Int), (minsN c a n).length ≤ n
  | 0, _ => by simp [minsN]
  | n + 1, a => by
    have := minsN_len c n (a + 1)
    unfold minsN
    split
    · simp; exact this
    · omega
theorem mins_len (c : Sp) (a z : Int) : (mins c a z).length ≤ (z + 1 - a).toNat := minsN_len c _ a

/-- What Next tells. -/
def NextIs (c : Sp) (a : Int) (r : Option Int) : Prop := (validB c = true ∧ a < 2147483647 → FirIs c (max (a + 1) 0) 2147483647 r) ∧ (¬ (validB c = true ∧ a < 2147483647) → r = none)
def NextOut (c : Sp) (a : Int) (w : World) (e : Ending) (w' : World) : Prop := (∃ r, NextIs c a r ∧ e = .returned (.tuple (match r with | some x => #[.int .i64 x, .bool true] | none => #[.int .i64 0, .bool false]))) ∧ Below w.heap.size w w'
set_option maxHeartbeats 2000000 in
theorem next_any (c : Sp) (a : Int) (w : World) (hc : c.wf) (hlo : -9223372036854775808 ≤ a) (hM : Mon w) (hB : Bnd w) (hT : Bru w) : Calls Tryd.prog 35 #[vC c, .int .i64 a] w (NextOut c a w) := by
  have HA0 := hide (AtC.box w c)
  have HB0 : Hid (Below w.heap.size w (boxC w c)) := hide ((Below.refl _ _).alloc (Nat.le_refl _) _)
  have HK := hide (check_any c (boxC w c) hc (hB.on HB0.out))
  have HM := hide hM
  have HT := hide hT
  cases hv : validB c
  · rw [chk_no hv] at HK
    have HE : Hid (NextIs c a none) := hide ⟨fun h => by rw [hv] at h; simp at h, fun _ => rfl⟩
    clear hc hM hB hT hv
    go_enter Tryd.func35, Tryd.ntmps35
    go_wp2_with fail
    refine HK.out.mono ?_
    rintro e w1 ⟨rfl, hb1⟩
    have HB1 := hide (HB0.out.trans (Below.mono hb1 HB0.out.size))
    clear hb1
    go_wp2_with fail
    go_ret2
    exact ⟨⟨none, HE.out, rfl⟩, HB1.out⟩
  · rw [chk_yes hv] at HK
    by_cases ha : a < 2147483647
    · have hda : decide ((2147483647 : Int) ≤ a) = false := by simp; omega
      have HE : Hid (∀ r, FirIs c (max (a + 1) 0) 2147483647 r → NextIs c a r) := hide (fun r h => ⟨fun _ => h, fun x => absurd ⟨hv, ha⟩ x⟩)
      by_cases hs : a + 1 < 0
      · have hmx : max (a + 1) 0 = 0 := by omega
        rw [hmx] at HE
        clear hmx
        have HF := hide (fun w hM hT => first_any c 0 2147483647 w hc hv (by omega) (by omega) (by omega) hM hT)
        clear hc hM hB hT hv
        go_enter Tryd.func35, Tryd.ntmps35
        go_wp2_with fail
        refine HK.out.mono ?_
        rintro e w1 ⟨rfl, hb1⟩
        have HB1 := hide (HB0.out.trans (Below.mono hb1 HB0.out.size))
        obtain ⟨z9, c0, c1, c2, c3, c4, c5, c6, c7, c8, c9⟩ := HA0.out.on hb1
        clear hb1
        go_wp2_with fail
        refine (HF.out _ (HM.out.on HB1.out) (HT.out.on HB1.out)).mono ?_
        rintro e w2 ⟨⟨r, hr, rfl⟩, hb2⟩
        have HB2 := hide (HB1.out.trans (Below.mono hb2 HB1.out.size))
        have HR := hide (HE.out r hr)
        clear hb2 hr HE c0 c1 c2 c3 c4 c5 c6 c7 c8 c9
        cases r with
        | none =>
          go_wp2_with fail
          go_ret2
          exact ⟨⟨none, HR.out, rfl⟩, HB2.out⟩
        | some x =>
          go_wp2_with fail
          go_ret2
          exact ⟨⟨some x, HR.out, rfl⟩, HB2.out⟩
      · have hmx : max (a + 1) 0 = a + 1 := by omega
        rw [hmx] at HE
        clear hmx
        have HF := hide (fun w hM hT => first_any c (a + 1) 2147483647 w hc hv (by omega) (by omega) (by omega) hM hT)
        clear hc hM hB hT hv
        go_enter Tryd.func35, Tryd.ntmps35
        go_wp2_with fail
        refine HK.out.mono ?_
        rintro e w1 ⟨rfl, hb1⟩
        have HB1 := hide (HB0.out.trans (Below.mono hb1 HB0.out.size))
        obtain ⟨z9, c0, c1, c2, c3, c4, c5, c6, c7, c8, c9⟩ := HA0.out.on hb1
        clear hb1
        go_wp2_with fail
        refine (HF.out _ (HM.out.on HB1.out) (HT.out.on HB1.out)).mono ?_
        rintro e w2 ⟨⟨r, hr, rfl⟩, hb2⟩
        have HB2 := hide (HB1.out.trans (Below.mono hb2 HB1.out.size))
        have HR := hide (HE.out r hr)
        clear hb2 hr HE c0 c1 c2 c3 c4 c5 c6 c7 c8 c9
        cases r with
        | none =>
          go_wp2_with fail
          go_ret2
          exact ⟨⟨none, HR.out, rfl⟩, HB2.out⟩
        | some x =>
          go_wp2_with fail
          go_ret2
          exact ⟨⟨some x, HR.out, rfl⟩, HB2.out⟩
    · have hda : decide ((2147483647 : Int) ≤ a) = true := by simp; omega
      have HE : Hid (NextIs c a none) := hide ⟨fun h => absurd h.2 ha, fun _ => rfl⟩
      clear hc hM hB hT hv
      go_enter Tryd.func35, Tryd.ntmps35
      go_wp2_with fail
      refine HK.out.mono ?_
      rintro e w1 ⟨rfl, hb1⟩
      have HB1 := hide (HB0.out.trans (Below.mono hb1 HB0.out.size))
      clear hb1
      go_wp2_with fail
      go_ret2
      exact ⟨⟨none, HE.out, rfl⟩, HB1.out⟩
end Go.Proofs.YtggaflihblhapaaDoor
