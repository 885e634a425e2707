/-
  The text of a field, read back: no program in it.
-/
import Derived.Test.YtggaflihblhapaaDoorHRItm
import Derived.Test.YtggaflihblhapaaDoorHFit
import Derived.Test.YtggaflihblhapaaDoorHField
import Derived.Test.YtggaflihblhapaaDoorHRefR
namespace Go.Proofs.YtggaflihblhapaaDoor
open Go.RowKit CM HM

/-- A number below 100. -/
def digL (n : Nat) : List UInt8 := if n < 10 then [UInt8.ofNat (48 + n)] else [UInt8.ofNat (48 + n / 10), UInt8.ofNat (48 + n % 10)]
theorem digL_ok : ∀ n : Fin 100, numB (digL n.val) = true ∧ numV (digL n.val) = n.val ∧ (44 : UInt8) ∉ digL n.val := by decide +kernel
/-- A run of numbers. -/
def runT (r : Nat × Nat) : List UInt8 := if r.1 < r.2 then digL r.1 ++ 45 :: digL r.2 else digL r.1
theorem runT_itm {f : Nat} {r : Nat × Nat} (h1 : r.1 ≤ r.2) (h2 : r.2 < 100) : itm f (runT r) = (r.1, r.2, 1, true) ∧ (44 : UInt8) ∉ runT r := by
  obtain ⟨a1, a2, a3⟩ := digL_ok ⟨r.1, by omega⟩
  obtain ⟨b1, b2, b3⟩ := digL_ok ⟨r.2, h2⟩
  simp only at a1 a2 a3 b1 b2 b3
  unfold runT
  by_cases h : r.1 < r.2
  · rw [if_pos h, frm_itm (.two _ _ a1 b1), a2, b2]
    refine ⟨rfl, ?_⟩
    rw [List.mem_append, List.mem_cons]
    rintro (h | h | h)
    · exact a3 h
    · cases h
    · exact b3 h
  · rw [if_neg h, frm_itm (.one _ a1), a2]
    exact ⟨by rw [show r.2 = r.1 by omega], a3⟩
/-- The end of the run that begins at n. -/
def runE (h : Nat → Bool) : Nat → Nat → Nat
  | 0, n => n
  | k + 1, n => if h (n + 1) = true then runE h k (n + 1) else n
theorem runE_spec (h : Nat → Bool) (hh : ∀ m, 64 ≤ m → h m = false) : ∀ (k n : Nat), 64 ≤ n + k → h n = true → n ≤ runE h k n ∧ runE h k n < 64 ∧ (∀ m, n ≤ m → m ≤ runE h k n → h m = true) ∧ h (runE h k n + 1) = false
  | 0, n, hk, hn => by rw [hh n (by omega)] at hn; cases hn
  | k + 1, n, hk, hn => by
    unfold runE
    by_cases e : h (n + 1) = true
    · rw [if_pos e]
      obtain ⟨a1, a2, a3, a4⟩ := runE_spec h hh k (n + 1) (by omega) e
      refine ⟨by omega, a2, fun m h1 h2 => ?_, a4⟩
      by_cases em : m = n
      · rw [em]; exact hn
      · exact a3 m (by omega) h2
    · rw [if_neg e]
      refine ⟨Nat.le_refl _, ?_, fun m h1 h2 => by rw [show m = n by omega]; exact hn, by simpa using e⟩
      rcases Nat.lt_or_ge n 64 with h1 | h1
      · exact h1
      · rw [hh n h1] at hn; cases hn
/-- The runs from n on. -/
def runsL (h : Nat → Bool) : Nat → Nat → List (Nat × Nat)
  | 0, _ => []
  | k + 1, n => if h n = true then (n, runE h 64 n) :: runsL h k (runE h 64 n + 1) else runsL h k (n + 1)
theorem runsL_spec (h : Nat → Bool) (hh : ∀ m, 64 ≤ m → h m = false) : ∀ (k n : Nat), 64 ≤ n + k →
    (∀ r ∈ runsL h k n, r.1 ≤ r.2 ∧ r.2 < 64 ∧ h r.1 = true ∧ h r.2 = true) ∧ ∀ m, ((∃ r ∈ runsL h k n, r.1 ≤ m ∧ m ≤ r.2) ↔ (n ≤ m ∧ h m = true))
  | 0, n, hk => ⟨fun r hr => by simp [runsL] at hr, fun m => ⟨fun ⟨r, hr, _⟩ => by simp [runsL] at hr, fun ⟨h1, h2⟩ => by rw [hh m (by omega)] at h2; cases h2⟩⟩
  | k + 1, n, hk => by
    unfold runsL
    by_cases e : h n = true
    · rw [if_pos e]
      obtain ⟨a1, a2, a3, a4⟩ := runE_spec h hh 64 n (by omega) e
      obtain ⟨b1, b2⟩ := runsL_spec h hh k (runE h 64 n + 1) (by omega)
      refine ⟨fun r hr => ?_, fun m => ⟨?_, ?_⟩⟩
      · rcases List.mem_cons.1 hr with hr | hr
        · subst hr; exact ⟨a1, a2, e, a3 _ a1 (Nat.le_refl _)⟩
        · exact b1 r hr
      · rintro ⟨r, hr, h1, h2⟩
        rcases List.mem_cons.1 hr with hr | hr
        · subst hr; exact ⟨h1, a3 m h1 h2⟩
        · obtain ⟨c1, c2⟩ := (b2 m).1 ⟨r, hr, h1, h2⟩
          exact ⟨by omega, c2⟩
      · rintro ⟨h1, h2⟩
        by_cases em : m ≤ runE h 64 n
        · exact ⟨_, List.mem_cons_self, h1, em⟩
        · obtain ⟨r, hr, c1, c2⟩ := (b2 m).2 ⟨by omega, h2⟩
          exact ⟨r, List.mem_cons_of_mem _ hr, c1, c2⟩
    · rw [if_neg e]
      obtain ⟨b1, b2⟩ := runsL_spec h hh k (n + 1) (by omega)
      refine ⟨b1, fun m => (b2 m).trans ⟨fun ⟨h1, h2⟩ => ⟨by omega, h2⟩, fun ⟨h1, h2⟩ => ⟨?_, h2⟩⟩⟩
      rcases Nat.lt_or_ge n m with h3 | h3
      · omega
      · exfalso; exact e (by rw [show n = m by omega]; exact h2)
/-- The spans of runs together. -/
def orR : List (Nat × Nat) → Nat → Nat
  | [], acc => acc
  | r :: rs, acc => orR rs (acc ||| spanN r.1 r.2 1)
theorem orR_bit : ∀ (rs : List (Nat × Nat)) (acc m : Nat), (∀ r ∈ rs, r.2 < 64) → ((orR rs acc).testBit m = true ↔ acc.testBit m = true ∨ ∃ r ∈ rs, r.1 ≤ m ∧ m ≤ r.2)
  | [], acc, m, _ => by simp [orR]
  | r :: rs, acc, m, h => by
    show ((orR rs (acc ||| spanN r.1 r.2 1)).testBit m = true ↔ _)
    have hr := h r List.mem_cons_self
    rw [orR_bit rs _ m (fun x hx => h x (List.mem_cons_of_mem _ hx)), Nat.testBit_or, Bool.or_eq_true, bit_span (by omega)]
    unfold inS
    simp only [Nat.mod_one, decide_true, Bool.and_true, Bool.and_eq_true, decide_eq_true_eq, List.mem_cons, exists_eq_or_imp]
    constructor
    · rintro ((h1 | h1) | h1)
      · exact .inl h1
      · exact .inr (.inl h1)
      · exact .inr (.inr h1)
    · rintro (h1 | h1 | h1)
      · exact .inl (.inl h1)
      · exact .inl (.inr h1)
      · exact .inr h1
theorem fieldF_runs {f : Nat} : ∀ (rs : List (Nat × Nat)) (acc : Nat), (∀ r ∈ rs, r.1 ≤ r.2 ∧ loN f ≤ r.1 ∧ r.2 ≤ hiN f) → fieldF f (rs.map runT) acc = (0, orR rs acc)
  | [], acc, _ => rfl
  | r :: rs, acc, h => by
    obtain ⟨h1, h2, h3⟩ := h r List.mem_cons_self
    have h59 := (lohi f).2.2
    have hi := (runT_itm (f := f) h1 (by omega)).1
    show fieldF f (runT r :: rs.map runT) acc = _
    unfold fieldF
    rw [hi, if_neg (by simp), if_neg (by
      unfold fitB
      rw [decide_eq_true h2, decide_eq_true h1, decide_eq_true h3]; simp)]
    exact fieldF_runs rs _ (fun x hx => h x (List.mem_cons_of_mem _ hx))
/-- Parts put together with a byte between. -/
def joinL (c : UInt8) : List (List UInt8) → List UInt8
  | [] => []
  | [p] => p
  | p :: q :: r => p ++ c :: joinL c (q :: r)
theorem pieces_app {c : UInt8} : ∀ (p y : List UInt8), c ∉ p → pieces c (p ++ c :: y) = p :: pieces c y
  | [], y, _ => by
    show pieces c (c :: y) = _
    conv => lhs; unfold pieces
    rw [if_pos rfl]
  | b :: p, y, h => by
    rw [List.mem_cons, not_or] at h
    rw [List.cons_append]
    conv => lhs; unfold pieces
    rw [if_neg (fun e => h.1 e.symm), pieces_app p y h.2]
theorem pieces_one {c : UInt8} : ∀ (p : List UInt8), c ∉ p → pieces c p = [p]
  | [], _ => rfl
  | b :: p, h => by
    rw [List.mem_cons, not_or] at h
    unfold pieces
    rw [if_neg (fun e => h.1 e.symm), pieces_one p h.2]
theorem pieces_join {c : UInt8} : ∀ (l : List (List UInt8)), l ≠ [] → (∀ p ∈ l, c ∉ p) → pieces c (joinL c l) = l
  | [], h, _ => absurd rfl h
  | [p], _, h => pieces_one p (h p List.mem_cons_self)
  | p :: q :: r, _, h => by
    show pieces c (p ++ c :: joinL c (q :: r)) = _
    rw [pieces_app _ _ (h p List.mem_cons_self), pieces_join (q :: r) (by simp) (fun x hx => h x (List.mem_cons_of_mem _ hx))]
/-- The text of a field. -/
def showF (s : Nat) (a : Bool) : List UInt8 := if a = true then [42] else joinL 44 ((runsL s.testBit 64 0).map runT)
/-- A right field is read back from its text. -/
theorem field_back {f s : Nat} {a : Bool} (hs : s < 18446744073709551616) (h : okB f s a = true) : fieldM f (showF s a) = (0, s) ∧ (showF s a == [42]) = a := by
  have hv : s ≠ 0 ∧ (∀ m, s.testBit m = true → inF f m = true) ∧ (a = true → s = maskN f) := by
    refine ⟨fun e => ?_, fun m hm => ?_, fun ha => ?_⟩
    · rw [e] at h; unfold okB at h; simp at h
    · cases hq : inF f m
      · rw [okB_bad1 hm hq] at h; cases h
      · rfl
    · unfold okB at h
      simp only [Bool.and_eq_true, Bool.or_eq_true, beq_iff_eq] at h
      rcases h.2.2 with h1 | h1
      · rw [ha] at h1; cases h1
      · exact h1
  obtain ⟨h0, hb, ha⟩ := hv
  cases a
  · have hh : ∀ m, 64 ≤ m → s.testBit m = false := fun m hm => bit_hi hs hm
    obtain ⟨r1, r2⟩ := runsL_spec s.testBit hh 64 0 (by omega)
    have hne : runsL s.testBit 64 0 ≠ [] := fun e => h0 (none_zero hs (fun m _ => by
      cases hq : s.testBit m
      · rfl
      · obtain ⟨r, hr, _⟩ := (r2 m).2 ⟨by omega, hq⟩
        rw [e] at hr; cases hr))
    have hin : ∀ r ∈ runsL s.testBit 64 0, r.1 ≤ r.2 ∧ loN f ≤ r.1 ∧ r.2 ≤ hiN f := fun r hr => by
      obtain ⟨q1, q2, q3, q4⟩ := r1 r hr
      have i1 := hb _ q3
      have i2 := hb _ q4
      unfold inF at i1 i2
      simp at i1 i2
      exact ⟨q1, by omega, by omega⟩
    have hp : pieces 44 (showF s false) = (runsL s.testBit 64 0).map runT := by
      unfold showF
      rw [if_neg (by simp)]
      refine pieces_join _ (by simpa using hne) (fun p hp => ?_)
      obtain ⟨r, hr, rfl⟩ := List.mem_map.1 hp
      have := lohi f
      exact (runT_itm (f := f) (hin r hr).1 (by have := (hin r hr).2.2; omega)).2
    have h42 : ¬ showF s false = [42] := fun e => by
      rw [e, pieces_one [42] (by decide)] at hp
      cases hq : runsL s.testBit 64 0 with
      | nil => exact hne hq
      | cons r rs =>
        rw [hq] at hp
        simp only [List.map_cons] at hp
        injection hp with hp _
        have := lohi f
        have hr := hin r (by rw [hq]; exact List.mem_cons_self)
        have h1 := (runT_itm (f := f) hr.1 (by omega)).1
        rw [← hp] at h1
        have h2 : (itm f [42]).2.2.2 = false := by unfold itm; rfl
        rw [h1] at h2; cases h2
    refine ⟨?_, by rw [beq_eq_false_iff_ne]; exact h42⟩
    unfold fieldM
    rw [if_neg h42, hp, fieldF_runs _ 0 hin]
    congr 1
    refine bits_eq fun m => ?_
    cases hq : s.testBit m
    · cases hq2 : (orR (runsL s.testBit 64 0) 0).testBit m
      · rfl
      · rcases (orR_bit _ 0 m (fun r hr => (r1 r hr).2.1)).1 hq2 with h1 | h1
        · simp at h1
        · rw [((r2 m).1 h1).2] at hq; cases hq
    · exact (orR_bit _ 0 m (fun r hr => (r1 r hr).2.1)).2 (.inr ((r2 m).2 ⟨by omega, hq⟩))
  · have e : showF s true = [42] := by unfold showF; rw [if_pos rfl]
    rw [e]
    refine ⟨?_, rfl⟩
    unfold fieldM
    rw [if_pos rfl, ← ha rfl]
end Go.Proofs.YtggaflihblhapaaDoor
