/-
  The text of a spec, read back: no program in it.
-/
import Derived.Test.YtggaflihblhapaaDoorHShowM
import Derived.Test.YtggaflihblhapaaDoorHREq
namespace Go.Proofs.YtggaflihblhapaaDoor
open Go.RowKit CM HM

theorem digL_no : ∀ n : Fin 100, (32 : UInt8) ∉ digL n.val ∧ digL n.val ≠ [] := by decide +kernel
theorem runT_no {r : Nat × Nat} (h1 : r.1 ≤ r.2) (h2 : r.2 < 100) : (32 : UInt8) ∉ runT r ∧ runT r ≠ [] := by
  obtain ⟨a1, a2⟩ := digL_no ⟨r.1, by omega⟩
  obtain ⟨b1, b2⟩ := digL_no ⟨r.2, h2⟩
  unfold runT
  by_cases h : r.1 < r.2
  · rw [if_pos h]
    refine ⟨?_, by simp⟩
    rw [List.mem_append, List.mem_cons]
    rintro (h | h | h)
    · exact a1 h
    · cases h
    · exact b1 h
  · rw [if_neg h]; exact ⟨a1, a2⟩
theorem join_no {c d : UInt8} (hd : d ≠ c) : ∀ (l : List (List UInt8)), (∀ p ∈ l, d ∉ p) → d ∉ joinL c l
  | [], _ => by simp [joinL]
  | [p], h => h p List.mem_cons_self
  | p :: q :: r, h => by
    show d ∉ p ++ c :: joinL c (q :: r)
    rw [List.mem_append, List.mem_cons]
    rintro (h1 | h1 | h1)
    · exact h p List.mem_cons_self h1
    · exact hd h1
    · exact join_no hd (q :: r) (fun x hx => h x (List.mem_cons_of_mem _ hx)) h1
theorem join_ne {c : UInt8} : ∀ (l : List (List UInt8)), l ≠ [] → (∀ p ∈ l, p ≠ []) → joinL c l ≠ []
  | [], h, _ => absurd rfl h
  | [p], _, h => h p List.mem_cons_self
  | p :: q :: r, _, _ => by
    show p ++ c :: joinL c (q :: r) ≠ []
    simp
theorem show_no {f s : Nat} {a : Bool} (hs : s < 18446744073709551616) (h : okB f s a = true) : (32 : UInt8) ∉ showF s a ∧ showF s a ≠ [] := by
  cases a
  · have hh : ∀ m, 64 ≤ m → s.testBit m = false := fun m hm => bit_hi hs hm
    obtain ⟨r1, r2⟩ := runsL_spec s.testBit hh 64 0 (by omega)
    have h0 : s ≠ 0 := fun e => by rw [e] at h; unfold okB at h; simp at h
    have hne : runsL s.testBit 64 0 ≠ [] := fun e => h0 (none_zero hs (fun m _ => by
      cases hq : s.testBit m
      · rfl
      · obtain ⟨r, hr, _⟩ := (r2 m).2 ⟨by omega, hq⟩
        rw [e] at hr; cases hr))
    have hm : ∀ p ∈ (runsL s.testBit 64 0).map runT, (32 : UInt8) ∉ p ∧ p ≠ [] := fun p hp => by
      obtain ⟨r, hr, rfl⟩ := List.mem_map.1 hp
      obtain ⟨q1, q2, _⟩ := r1 r hr
      exact runT_no q1 (by omega)
    unfold showF
    rw [if_neg (by simp)]
    exact ⟨join_no (by decide) _ (fun p hp => (hm p hp).1), join_ne _ (by simpa using hne) (fun p hp => (hm p hp).2)⟩
  · unfold showF
    rw [if_pos rfl]
    exact ⟨by decide, by simp⟩
/-- The text of a spec. -/
def showC (c : Sp) : List UInt8 := joinL 32 [showF (c.S 0) (c.A 0), showF (c.S 1) (c.A 1), showF (c.S 2) (c.A 2), showF (c.S 3) (c.A 3), showF (c.S 4) (c.A 4)]
/-- A right spec is read back from its text. -/
theorem spec_back {c : Sp} (hc : c.wf) (hv : validB c = true) : parseE (showC c) = 0 ∧ ∀ f, f < 5 → (parseC (showC c)).S f = c.S f ∧ (parseC (showC c)).A f = c.A f := by
  have hok := (valid_iff c).1 hv
  have hn := fun f (hf : f < 5) => show_no (hc f hf) (hok f hf)
  have hb := fun f (hf : f < 5) => field_back (hc f hf) (hok f hf)
  have hp : pieces 32 (showC c) = [showF (c.S 0) (c.A 0), showF (c.S 1) (c.A 1), showF (c.S 2) (c.A 2), showF (c.S 3) (c.A 3), showF (c.S 4) (c.A 4)] := by
    refine pieces_join _ (by simp) (fun p hp => ?_)
    simp only [List.mem_cons, List.not_mem_nil, or_false] at hp
    rcases hp with rfl | rfl | rfl | rfl | rfl
    · exact (hn 0 (by omega)).1
    · exact (hn 1 (by omega)).1
    · exact (hn 2 (by omega)).1
    · exact (hn 3 (by omega)).1
    · exact (hn 4 (by omega)).1
  have he : ∀ f, f < 5 → (showF (c.S f) (c.A f)).isEmpty = false := fun f hf => by
    cases hq : showF (c.S f) (c.A f) with
    | nil => exact absurd hq (hn f hf).2
    | cons => rfl
  have hl : partsL (pieces 32 (showC c)) = [showF (c.S 0) (c.A 0), showF (c.S 1) (c.A 1), showF (c.S 2) (c.A 2), showF (c.S 3) (c.A 3), showF (c.S 4) (c.A 4)] := by
    rw [hp]
    unfold partsL
    simp [he 0 (by omega), he 1 (by omega), he 2 (by omega), he 3 (by omega), he 4 (by omega)]
  have hs : splitB (showC c) = true := by
    rw [edge_none (fun r hr => ?_) (fun r hr => ?_), hl]
    · rfl
    · rw [hp] at hr
      injection hr with hr _
      exact (hn 0 (by omega)).2 hr
    · rw [hp] at hr
      have h1 : [showF (c.S 0) (c.A 0), showF (c.S 1) (c.A 1), showF (c.S 2) (c.A 2), showF (c.S 3) (c.A 3)] ++ [showF (c.S 4) (c.A 4)] = r ++ [[]] := hr
      obtain ⟨_, h2⟩ := List.append_inj' h1 rfl
      injection h2 with h2
      exact (hn 4 (by omega)).2 h2
  have ht : ∀ f, f < 5 → txtF (showC c) f = showF (c.S f) (c.A f) := fun f hf => by
    unfold txtF
    rw [hl]
    obtain rfl | rfl | rfl | rfl | rfl : f = 0 ∨ f = 1 ∨ f = 2 ∨ f = 3 ∨ f = 4 := by omega
    all_goals rfl
  have hf0 : ∀ f, f < 5 → (fieldM f (txtF (showC c) f)).1 = 0 := fun f hf => by rw [ht f hf, (hb f hf).1]
  refine ⟨?_, fun f hf => ⟨?_, ?_⟩⟩
  · unfold parseE
    rw [if_neg (by rw [hs]; simp), show (5 : Nat) = 5 + 0 by omega, err_skip (showC c) 5 0 0 (fun i _ h2 => hf0 i (by omega))]
    rfl
  · show (fieldM f (txtF (showC c) f)).2 = c.S f
    rw [ht f hf, (hb f hf).1]
  · show (txtF (showC c) f == [42]) = c.A f
    rw [ht f hf]; exact (hb f hf).2
end Go.Proofs.YtggaflihblhapaaDoor
