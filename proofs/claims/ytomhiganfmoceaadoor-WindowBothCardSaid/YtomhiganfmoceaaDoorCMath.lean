/-
  The calendar's arithmetic: years, months, days of a minute, and back.
-/
import Derived.WalkKit
namespace Go.Proofs.YtomhiganfmoceaaDoor


namespace CM

def leapB (y : Int) : Bool := (y.tmod 4 == 0 && y.tmod 100 != 0) || y.tmod 400 == 0
def lp (y : Int) : Int := if leapB y = true then 1 else 0
theorem lp_01 (y : Int) : 0 ≤ lp y ∧ lp y ≤ 1 := by unfold lp; split <;> omega
theorem lp_eq (y : Int) (h : 0 ≤ y) : lp y = if (y % 4 = 0 ∧ y % 100 ≠ 0) ∨ y % 400 = 0 then 1 else 0 := by
  unfold lp leapB
  rw [Int.tmod_eq_emod_of_nonneg h, Int.tmod_eq_emod_of_nonneg h, Int.tmod_eq_emod_of_nonneg h]
  by_cases h1 : y % 4 = 0 <;> by_cases h2 : y % 100 = 0 <;> by_cases h3 : y % 400 = 0 <;> simp [h1, h2, h3]
def dm (y m : Int) : Int := if m = 2 then 28 + lp y else if m = 4 ∨ m = 6 ∨ m = 9 ∨ m = 11 then 30 else 31
theorem dm_bd (y m : Int) : 28 ≤ dm y m ∧ dm y m ≤ 31 := by
  have := lp_01 y
  unfold dm; split
  · omega
  · split <;> omega
/-- How many days of the year stand ahead of its month number k + 1. -/
def cum (y : Int) : Nat → Int
  | 0 => 0
  | k + 1 => cum y k + dm y (k + 1)
theorem cum_succ (y : Int) (k : Nat) : cum y (k + 1) = cum y k + dm y (k + 1) := rfl
theorem cum_12 (y : Int) : cum y 12 = 365 + lp y := by simp [cum, dm]; omega
theorem cum_lo (y : Int) (k : Nat) : 28 * (k : Int) ≤ cum y k := by
  induction k with
  | zero => simp [cum]
  | succ k ih => have := dm_bd y (k + 1); rw [cum_succ]; omega
theorem cum_hi (y : Int) (k : Nat) : cum y k ≤ 31 * (k : Int) := by
  induction k with
  | zero => simp [cum]
  | succ k ih => have := dm_bd y (k + 1); rw [cum_succ]; omega
theorem cum_mono (y : Int) (a b : Nat) (h : a ≤ b) : cum y a ≤ cum y b := by
  induction b with
  | zero => obtain rfl : a = 0 := by omega
            exact Int.le_refl _
  | succ b ih =>
    rcases Nat.lt_or_ge b a with h' | h'
    · obtain rfl : a = b + 1 := by omega
      exact Int.le_refl _
    · have := dm_bd y (b + 1)
      have := ih h'
      rw [cum_succ]; omega
/-- How many days stand ahead of the year, from 2000 on. -/
def ys (y : Int) : Int := 365 * (y - 2000) + (y - 2000 + 3) / 4 - (y - 2000 + 99) / 100 + (y - 2000 + 399) / 400
theorem ys_0 : ys 2000 = 0 := by unfold ys; omega
theorem ys_succ (y : Int) (h : 2000 ≤ y) : ys (y + 1) = ys y + 365 + lp y := by
  rw [lp_eq y (by omega)]
  unfold ys; split <;> omega
theorem ys_lo (y : Int) (h : 2000 ≤ y) : 365 * (y - 2000) ≤ ys y := by unfold ys; omega
theorem ys_hi (y : Int) (h : 2000 ≤ y) : ys y ≤ 366 * (y - 2000) := by unfold ys; omega
theorem ys_mono (a b : Int) (_ : 2000 ≤ a) (h : a ≤ b) : ys a ≤ ys b := by unfold ys; omega
theorem ys_step (a b : Int) (h0 : 2000 ≤ a) (h : a < b) : ys a + 365 ≤ ys b := by
  have h1 := ys_succ a h0
  have h2 := ys_mono (a + 1) b (by omega) (by omega)
  have := lp_01 a
  omega

def down (d : Int) : Nat → Int
  | 0 => 2000
  | k + 1 => if ys (2000 + (k + 1)) ≤ d then 2000 + (k + 1) else down d k
def yF (d : Int) : Int := down d d.toNat
theorem down_spec (d : Int) (h0 : 0 ≤ d) (k : Nat) (h : d < ys (2000 + (k + 1))) : 2000 ≤ down d k ∧ ys (down d k) ≤ d ∧ d < ys (down d k + 1) := by
  induction k with
  | zero => refine ⟨Int.le_refl _, ?_, ?_⟩ <;> simp only [down]
            · rw [ys_0]; exact h0
            · simpa using h
  | succ k ih =>
    unfold down
    split
    · rename_i hle
      exact ⟨by omega, hle, by rw [Int.add_assoc]; simpa using h⟩
    · rename_i hle
      exact ih (by omega)
theorem yF_spec (d : Int) (h0 : 0 ≤ d) : 2000 ≤ yF d ∧ ys (yF d) ≤ d ∧ d < ys (yF d + 1) :=
  down_spec d h0 d.toNat (by have := ys_lo (2000 + (d.toNat + 1)) (by omega); omega)
theorem yF_eq {d y : Int} (h0 : 2000 ≤ y) (h1 : ys y ≤ d) (h2 : d < ys (y + 1)) : yF d = y := by
  have hd : 0 ≤ d := by have := ys_lo y h0; omega
  obtain ⟨a, b, c⟩ := yF_spec d hd
  rcases Int.lt_trichotomy (yF d) y with h | h | h
  · have := ys_mono (yF d + 1) y (by omega) (by omega); omega
  · exact h
  · have := ys_mono (y + 1) (yF d) (by omega) (by omega); omega

def mdown (y r : Int) : Nat → Nat
  | 0 => 0
  | k + 1 => if cum y (k + 1) ≤ r then k + 1 else mdown y r k
def mF (y r : Int) : Nat := mdown y r 11
theorem mdown_spec (y r : Int) (h0 : 0 ≤ r) (k : Nat) (h : r < cum y (k + 1)) : mdown y r k ≤ k ∧ cum y (mdown y r k) ≤ r ∧ r < cum y (mdown y r k + 1) := by
  induction k with
  | zero => exact ⟨Nat.le_refl _, h0, h⟩
  | succ k ih =>
    unfold mdown
    split
    · rename_i hle
      exact ⟨Nat.le_refl _, hle, h⟩
    · rename_i hle
      obtain ⟨a, b⟩ := ih (by omega)
      exact ⟨by omega, b⟩
theorem mF_spec (y r : Int) (h0 : 0 ≤ r) (h : r < 365 + lp y) : mF y r ≤ 11 ∧ cum y (mF y r) ≤ r ∧ r < cum y (mF y r + 1) :=
  mdown_spec y r h0 11 (by have := cum_12 y; show r < cum y 12; omega)
theorem mF_eq {y r : Int} {k : Nat} (hk : k ≤ 11) (h1 : cum y k ≤ r) (h2 : r < cum y (k + 1)) : mF y r = k := by
  have h0 : 0 ≤ r := by have := cum_lo y k; omega
  have hr : r < 365 + lp y := by have := cum_mono y (k + 1) 12 (by omega); have := cum_12 y; omega
  obtain ⟨a, b, c⟩ := mF_spec y r h0 hr
  rcases Nat.lt_trichotomy (mF y r) k with h | h | h
  · have := cum_mono y (mF y r + 1) k (by omega); omega
  · exact h
  · have := cum_mono y (k + 1) (mF y r) (by omega); omega

/-- The parts of a minute's date. -/
def Y (n : Int) : Int := yF (n / 1440)
def R (n : Int) : Int := n / 1440 - ys (Y n)
def K (n : Int) : Nat := mF (Y n) (R n)
def D (n : Int) : Int := R n - cum (Y n) (K n) + 1
def IsM (n : Int) : Prop := 0 ≤ n ∧ n < 2147483648
theorem Y_lo {n : Int} (h : 0 ≤ n) : 2000 ≤ Y n := (yF_spec _ (by omega)).1
theorem R_bd {n : Int} (h : 0 ≤ n) : 0 ≤ R n ∧ R n < 365 + lp (Y n) := by
  obtain ⟨a, b, c⟩ := yF_spec (n / 1440) (by omega)
  have e := ys_succ _ a
  unfold R Y
  omega
theorem Y_hi {n : Int} (h0 : 0 ≤ n) (h : n < 2147483648) : Y n ≤ 6083 := by
  have a := Y_lo h0
  have b := (R_bd h0).1
  unfold R at b
  by_cases h' : 6083 < Y n
  · have := ys_mono 6084 (Y n) (by omega) (by omega)
    have : ys 6084 = 1491651 := by unfold ys; omega
    omega
  · omega
theorem K_spec {n : Int} (h : 0 ≤ n) : K n ≤ 11 ∧ cum (Y n) (K n) ≤ R n ∧ R n < cum (Y n) (K n + 1) := mF_spec _ _ (R_bd h).1 (R_bd h).2
theorem D_bd {n : Int} (h : 0 ≤ n) : 1 ≤ D n ∧ D n ≤ dm (Y n) (K n + 1) ∧ D n ≤ 31 := by
  obtain ⟨_, a, b⟩ := K_spec h
  rw [cum_succ] at b
  have := dm_bd (Y n) (K n + 1)
  unfold D; omega
theorem n_eq {n : Int} : n = (ys (Y n) + cum (Y n) (K n) + D n - 1) * 1440 + n / 60 % 24 * 60 + n % 60 := by unfold D R; omega
/-- The only minute of these parts. -/
theorem parts {y d h mi : Int} {k : Nat} (hy : 2000 ≤ y) (hk : k ≤ 11) (hd : 1 ≤ d) (hd' : d ≤ dm y (k + 1)) (hh : 0 ≤ h ∧ h ≤ 23) (hm : 0 ≤ mi ∧ mi ≤ 59) (n : Int) (hn : n = (ys y + cum y k + d - 1) * 1440 + h * 60 + mi) :
    0 ≤ n ∧ Y n = y ∧ K n = k ∧ D n = d ∧ n / 60 % 24 = h ∧ n % 60 = mi ∧ n / 1440 = ys y + cum y k + d - 1 := by
  have e1 : n / 1440 = ys y + cum y k + d - 1 := by omega
  have a1 := ys_lo y hy
  have a2 := cum_lo y k
  have a3 := cum_mono y (k + 1) 12 (by omega)
  have a4 := cum_12 y
  rw [cum_succ] at a3
  have eY : Y n = y := by
    unfold Y; rw [e1]
    exact yF_eq hy (by omega) (by rw [ys_succ y hy]; omega)
  have eR : R n = cum y k + d - 1 := by unfold R; rw [eY, e1]; omega
  have eK : K n = k := by
    unfold K; rw [eY, eR]
    exact mF_eq hk (by omega) (by rw [cum_succ]; omega)
  refine ⟨by omega, eY, eK, ?_, by omega, by omega, e1⟩
  unfold D; rw [eR, eY, eK]; omega
/-- How many whole months precede the minute. -/
def mth (n : Int) : Int := (Y n - 2000) * 12 + K n
theorem mth_bd {n : Int} (h0 : 0 ≤ n) : 0 ≤ mth n := by have := Y_lo h0; unfold mth; omega
/-- The minute at which a month begins. -/
def mst (m : Int) : Int := (ys (2000 + m / 12) + cum (2000 + m / 12) (m % 12).toNat) * 1440
theorem mst_parts {m : Int} (h : 0 ≤ m) : 0 ≤ mst m ∧ Y (mst m) = 2000 + m / 12 ∧ K (mst m) = (m % 12).toNat ∧ D (mst m) = 1 ∧ mst m / 60 % 24 = 0 ∧ mst m % 60 = 0 ∧ mst m / 1440 = ys (2000 + m / 12) + cum (2000 + m / 12) (m % 12).toNat := by
  have hd := dm_bd (2000 + m / 12) ((m % 12).toNat + 1 : Nat)
  obtain ⟨a, b, c, d, e, f, g⟩ := parts (y := 2000 + m / 12) (k := (m % 12).toNat) (d := 1) (h := 0) (mi := 0) (by omega) (by omega) (by omega) (by push_cast at hd; omega) (by omega) (by omega) (mst m) (by unfold mst; omega)
  exact ⟨a, b, c, d, e, f, by omega⟩
theorem mst_mth {m : Int} (h : 0 ≤ m) : mth (mst m) = m := by
  obtain ⟨_, a, b, _⟩ := mst_parts h
  unfold mth; rw [a, b]; omega
/-- A month's length. -/
theorem mst_succ {m : Int} (h : 0 ≤ m) : mst (m + 1) = mst m + dm (2000 + m / 12) (m % 12 + 1) * 1440 := by
  by_cases hm : m % 12 = 11
  · have e1 : (m + 1) / 12 = m / 12 + 1 := by omega
    have e2 : ((m + 1) % 12).toNat = 0 := by omega
    have e3 : (m % 12).toNat = 11 := by omega
    have e4 := ys_succ (2000 + m / 12) (by omega)
    have e5 : cum (2000 + m / 12) 12 = cum (2000 + m / 12) 11 + dm (2000 + m / 12) 12 := cum_succ _ 11
    have e6 := cum_12 (2000 + m / 12)
    unfold mst
    rw [e1, e2, e3, hm, show 2000 + (m / 12 + 1) = 2000 + m / 12 + 1 by omega, e4]
    have e7 : cum (2000 + m / 12 + 1) 0 = 0 := rfl
    have e8 : dm (2000 + m / 12) (11 + 1) = dm (2000 + m / 12) 12 := rfl
    rw [e7, e8]; omega
  · have e1 : (m + 1) / 12 = m / 12 := by omega
    have e2 : ((m + 1) % 12).toNat = (m % 12).toNat + 1 := by omega
    unfold mst
    rw [e1, e2, cum_succ, show (((m % 12).toNat : Nat) : Int) = m % 12 by omega]; omega
theorem mst_le {n : Int} (h : 0 ≤ n) : mst (mth n) ≤ n ∧ n < mst (mth n + 1) := by
  have a := Y_lo h
  obtain ⟨k1, k2, k3⟩ := K_spec h
  have e1 : mth n / 12 = Y n - 2000 := by unfold mth; omega
  have e2 : mth n % 12 = K n := by unfold mth; omega
  have e3 : mst (mth n) = (ys (Y n) + cum (Y n) (K n)) * 1440 := by
    unfold mst; rw [e1, e2, show 2000 + (Y n - 2000) = Y n by omega]; rfl
  rw [mst_succ (mth_bd h), e3, e1, e2, show 2000 + (Y n - 2000) = Y n by omega]
  rw [cum_succ] at k3
  unfold R at k2 k3
  omega
theorem mst_mono (a b : Int) (h0 : 0 ≤ a) (h : a ≤ b) : mst a ≤ mst b := by
  obtain ⟨k, rfl⟩ : ∃ k : Nat, b = a + k := ⟨(b - a).toNat, by omega⟩
  clear h
  induction k with
  | zero => simp
  | succ k ih =>
    have e := mst_succ (m := a + k) (by omega)
    have := dm_bd (2000 + (a + k) / 12) ((a + k) % 12 + 1)
    rw [show a + ((k + 1 : Nat) : Int) = a + k + 1 by omega, e]; omega
theorem mth_eq {n m : Int} (hm : 0 ≤ m) (h1 : mst m ≤ n) (h2 : n < mst (m + 1)) : mth n = m := by
  have h0 : 0 ≤ n := by have := (mst_parts hm).1; omega
  have a := mst_le h0
  have b := mth_bd h0
  rcases Int.lt_trichotomy (mth n) m with h | h | h
  · have := mst_mono (mth n + 1) m (by omega) (by omega); omega
  · exact h
  · have := mst_mono (m + 1) (mth n) (by omega) (by omega); omega
theorem mst_last : mst 48996 = 2147451840 ∧ mst 48997 = 2147496480 := by
  constructor
  · unfold mst ys; simp [cum]
  · unfold mst ys; simp [cum, dm]
theorem mth_last : mth 2147483647 = 48996 := mth_eq (by omega) (by have := mst_last; omega) (by show _ < mst 48997; have := mst_last; omega)
theorem mth_max {n : Int} (h0 : 0 ≤ n) (h : n < 2147483648) : mth n ≤ 48996 := by
  have a := mst_le h0
  by_cases h' : 48996 < mth n
  · have := mst_mono 48997 (mth n) (by omega) (by omega)
    have := mst_last; omega
  · omega
theorem mst_hi {m : Int} (h0 : 0 ≤ m) (h : m ≤ 48996) : mst m ≤ 2147451840 := by
  have := mst_mono m 48996 h0 h; have := mst_last; omega
/-- The minute of the fixed example. -/
theorem day60 : Y 86400 = 2000 ∧ K 86400 = 2 ∧ D 86400 = 1 := by
  have hd := dm_bd 2000 ((2 : Nat) + 1)
  obtain ⟨_, a, b, c, _⟩ := parts (y := 2000) (k := 2) (d := 1) (h := 0) (mi := 0) (by omega) (by omega) (by omega) (by omega) (by omega) (by omega) 86400 (by rw [ys_0]; decide)
  exact ⟨a, b, c⟩
end CM
end Go.Proofs.YtomhiganfmoceaaDoor
