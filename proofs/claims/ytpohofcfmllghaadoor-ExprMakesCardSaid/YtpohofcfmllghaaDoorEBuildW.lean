/-
  build, as a law uses it: the expression at the beginning of a list.
-/
import Derived.Test.YtpohofcfmllghaaDoorEStrip
import Derived.Test.YtpohofcfmllghaaDoorMPlain
namespace Go.Proofs.YtpohofcfmllghaaDoor
open Go.RowKit

theorem build_any (l : List PL) (b off c : Nat) (w : World) (h1 : 0 < l.length) (h2 : l.length ≤ 300) (h3 : l.length ≤ c) (hP : PlainsAt w.heap.size w (some ⟨b, off, none⟩) l) :
    Calls Tryd.prog 6 #[.slice (some ⟨b, off, none⟩) l.length c, .int .i64 0] w fun e w' => (∃ x, e = .returned (.tuple #[vX x, .int .i64 ((nodeP 60 l).2 : Nat)]) ∧ stripX x = (nodeP 60 l).1 ∧ LiesX w'.heap.size w' x ∧ newX w.heap.size x ∧ UnfX w' x) ∧ Below w.heap.size w w' :=
  build_ok 60 l b off c 0 w (Nat.le_refl _) (by omega) h1 h2 h3 hP
theorem tree_sz {l : List PL} {x : XT} (h : stripX x = (nodeP 60 l).1) (h0 : 0 < l.length) (h1 : l.length ≤ 300) : szX x ≤ 1000000 := by
  have hne : l ≠ [] := by intro e; rw [e] at h0; simp at h0
  have h2 := nodeP_sz 60 l hne
  have h3 := (nodeP_bound 60 l hne).2
  have h4 := szX_strip x
  rw [h, h2] at h4
  omega
theorem kids_wf {l m : List PL} {node : List PL → XT × Nat} (hn : ∀ m', (∀ p ∈ m', p ∈ l) → m' ≠ [] → wfX (node m').1) (hm : ∀ p ∈ m, p ∈ l) : ∀ (r a : Nat), wfXs (kidsP node m r a).1
  | 0, _ => trivial
  | r + 1, a => by
    unfold kidsP
    split
    · rename_i h
      exact ⟨hn _ (fun p hp => hm p (List.mem_of_mem_drop hp)) (by intro e; have := congrArg List.length e; simp at this; omega), kids_wf hn hm r _⟩
    · trivial
theorem node_wf {l : List PL} (hw : ∀ p ∈ l, p.v.2.2.size ≤ maxLen) : ∀ (f : Nat) (m : List PL), (∀ p ∈ m, p ∈ l) → m ≠ [] → wfX (nodeP f m).1
  | 0, m, hm, hne => by
    refine ⟨hw _ (hm _ ?_), trivial⟩
    cases m
    · exact absurd rfl hne
    · exact List.mem_cons_self
  | f + 1, m, hm, hne => by
    refine ⟨hw _ (hm _ ?_), kids_wf (fun m' h1 h2 => node_wf hw f m' h1 h2) hm _ _⟩
    cases m
    · exact absurd rfl hne
    · exact List.mem_cons_self
theorem kids_wfI {l m : List PL} {node : List PL → XT × Nat} (hn : ∀ m', (∀ p ∈ m', p ∈ l) → m' ≠ [] → wfI (node m').1) (hm : ∀ p ∈ m, p ∈ l) : ∀ (r a : Nat), wfIs (kidsP node m r a).1
  | 0, _ => trivial
  | r + 1, a => by
    unfold kidsP
    split
    · rename_i h
      exact ⟨hn _ (fun p hp => hm p (List.mem_of_mem_drop hp)) (by intro e; have := congrArg List.length e; simp at this; omega), kids_wfI hn hm r _⟩
    · trivial
theorem node_wfI {l : List PL} (hw : ∀ p ∈ l, I64 p.v.2.1) : ∀ (f : Nat) (m : List PL), (∀ p ∈ m, p ∈ l) → m ≠ [] → wfI (nodeP f m).1
  | 0, m, hm, hne => by
    refine ⟨hw _ (hm _ ?_), trivial⟩
    cases m
    · exact absurd rfl hne
    · exact List.mem_cons_self
  | f + 1, m, hm, hne => by
    refine ⟨hw _ (hm _ ?_), kids_wfI (fun m' h1 h2 => node_wfI hw f m' h1 h2) hm _ _⟩
    cases m
    · exact absurd rfl hne
    · exact List.mem_cons_self
theorem built_wf {l : List PL} (hg : smallP l = true) (hw : wfP l) {x : XT} (h : stripX x = (nodeP 60 l).1) : wfX x ∧ wfI x := by
  obtain ⟨h0, _⟩ := smallP_len hg
  have hne : l ≠ [] := by intro e; rw [e] at h0; simp at h0
  refine ⟨(wfX_strip x).1 (h ▸ node_wf (fun p hp => by have := (smallP_at hg hp).2.2; unfold maxLen; omega) 60 l (fun p hp => hp) hne), (wfI_strip x).1 (h ▸ node_wfI (fun p hp => ?_) 60 l (fun p hp => hp) hne)⟩
  have := hw.2 p hp
  unfold I64
  omega
end Go.Proofs.YtpohofcfmllghaaDoor
