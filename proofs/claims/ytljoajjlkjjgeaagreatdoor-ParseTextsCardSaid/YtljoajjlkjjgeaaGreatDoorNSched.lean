/-
  ParseSchedules: what its arguments say, and its text (pure).
-/
import Derived.Test.YtljoajjlkjjgeaaGreatDoorMTx
import Derived.Test.YtljoajjlkjjgeaaGreatDoorMV2
namespace Go.Proofs.YtljoajjlkjjgeaaGreatDoor
open Go.RowKit Go.Sort LM Go

theorem ba_data (s : ByteArray) : ba s.data.toList = s := by unfold ba; simp
theorem ba_map (l : List ByteArray) : (l.map fun s => s.data.toList).map ba = l := by
 rw [List.map_map, show (ba ∘ fun s => s.data.toList) = id from funext ba_data]; simp
theorem low_of {c : UInt8} (h : lowB (c.toNat : Int) = true) : lowP c = true := by
 unfold lowB at h; unfold lowP
 simp at h ⊢
 omega
theorem wor_of {j : Nat} {c : UInt8} (h : okAt j c = true) : worP c = true := by
 unfold okAt at h
 rw [Bool.or_eq_true] at h
 rcases h with h | h
 ·exact wor_low (low_of h)
 ·rw [Bool.and_eq_true, Bool.or_eq_true] at h
  unfold worP
  rcases h.2 with h | h
  ·have : c = 95 := UInt8.toNat_inj.1 (by simp at h; show c.toNat = 95; omega)
   rw [this]; decide
  ·have : digP c = true := by
    unfold digB at h; unfold digP
    simp at h ⊢
    omega
   rw [this]; simp
theorem nm_of {s : ByteArray} (h : nameB s = true) : Nm s.data.toList := by
 obtain ⟨h1, h2⟩ := nameB_size h
 unfold nameB at h
 rw [Bool.and_eq_true] at h
 have hp : preN s s.size := of_decide_eq_true h.2
 have hl : s.data.toList.length = s.size := Array.length_toList
 refine ⟨by omega, ?_, ?_⟩
 ·have h0 := hp 0 (by omega)
  cases e : s.data.toList with
  | nil => rw [e] at hl; simp at hl; omega
  | cons c r =>
   rw [e] at h0
   refine ⟨c, r, rfl, ?_⟩
   unfold okAt at h0
   simp only [ne_eq, not_true_eq_false, decide_false, Bool.false_and, Bool.or_false] at h0
   exact low_of h0
 ·rw [List.all_eq_true]
  intro x hx
  obtain ⟨j, hj, rfl⟩ := List.getElem_of_mem hx
  have := hp j (by omega)
  rw [List.getD_eq_getElem?_getD, List.getElem?_eq_getElem hj] at this
  exact wor_of this
theorem nm_word' {s : ByteArray} (h : wordB s = true) : Nm s.data.toList := nm_of (by unfold wordB at h; rw [Bool.and_eq_true] at h; exact h.1)
theorem words_all {l : List ByteArray} (h : wordsB l = true) : (∀ x ∈ l, wordB x = true) ∧ 0 < l.length ∧ l.length ≤ 20 := by
 unfold wordsB at h
 rw [Bool.and_eq_true] at h
 exact ⟨List.all_eq_true.1 h.1, (of_decide_eq_true h.2)⟩
theorem flat_le {l : List (List UInt8)} {c : Nat} (f : List UInt8 → List UInt8) (h : ∀ x ∈ l, (f x).length ≤ c) : (l.map f).flatten.length ≤ l.length * c := by
 induction l with
 | nil => simp
 | cons x r ih =>
  have h1 := h x (by simp)
  have h2 := ih (fun y hy => h y (by simp [hy]))
  rw [List.map_cons, List.flatten_cons, List.length_append, List.length_cons, Nat.succ_mul]; omega
theorem schT_len {nm cron u : List UInt8} {l : List (List UInt8)} (h1 : nm.length ≤ 16) (h2 : cron.length ≤ 64) (h3 : u.length ≤ 16) (h4 : ∀ x ∈ l, x.length ≤ 16) (h5 : l.length ≤ 20) {R : List UInt8} (hR : R.length ≤ 2) : (schT nm cron u l R).length ≤ 1000 := by
 have he := esc_len cron
 have hf := flat_le (l := l) (c := 19) (fun x => 32 :: [44, 32] ++ id x) (fun x hx => by have := h4 x hx; simp; omega)
 unfold schT
 simp only [List.length_append, List.length_cons] at hf ⊢
 simp only [List.length_nil]
 omega
/-- The empty plan is one. -/
theorem pe_zero : PEnc 1 ({k := 0} : Pl).enc := ⟨{k := 0}, rfl, ⟨by decide, by decide, by decide, by decide, by simp, by decide, by decide, by decide⟩, by simp⟩
theorem sch_ok {nm cron u : List UInt8} {l : List (List UInt8)} (h : l.length ≤ 20) : DfOk 1 (schD nm cron u l) := ⟨pe_zero, by simp [schD], by simp [schD], by simp [schD]; omega⟩
/-- A row of texts reads as one. -/
theorem StrL.rep {w : World} {l : List ByteArray} {v : Value} (h : StrL w l v) (hc : ∀ c, v = .slice none l.length c → c = 0) : Rep (fun _ => True) w (dStrs l) v := by
 obtain ⟨A, c, rfl, hA⟩ := h
 have := Rep.row (P := fun _ => True) (w := w) (sz := 1) (els := l.map fun s => [dS s]) (A := A) (cap := c) (fun j _ => .string (l.getD j ⟨#[]⟩)) (fun e => by rw [e] at hc; exact hc c rfl) (fun j hj => by
  rw [List.length_map] at hj
  obtain ⟨b, off, e, hb, hcc⟩ := hA w (Below.refl _ _) j hj
  refine ⟨b, off, e, trivial, hb, fun i hi => ?_⟩
  rw [map_at _ hj] at hi
  obtain rfl : i = 0 := by simpa using hi
  rw [Nat.mul_one, Nat.add_zero, hcc, List.getD_eq_getElem?_getD, List.getElem?_eq_getElem hj]; rfl) (fun j i hj hi => by
  rw [List.length_map] at hj
  rw [map_at _ hj] at hi ⊢
  obtain rfl : i = 0 := by simpa using hi
  show Rep _ w (dS l[j]) (.string (l.getD j ⟨#[]⟩))
  rw [List.getD_eq_getElem?_getD, List.getElem?_eq_getElem hj]
  exact rep_str _ _ _)
 rw [List.length_map] at this
 exact this
end Go.Proofs.YtljoajjlkjjgeaaGreatDoor
