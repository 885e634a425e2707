/-
  The program's text of a spec: Show.
-/
import Derived.Test.YtggaflihblhapaaDoorHShowP
namespace Go.Proofs.YtggaflihblhapaaDoor
open Go.RowKit Go.Sort CM HM

theorem showF_len (s : Nat) (a : Bool) : (showF s a).length ≤ 400 := by
  cases a
  · rw [showF_runs]
    have h1 := joinL_len 44 5 ((runsL s.testBit 64 0).map runT) (fun p hp => by
      obtain ⟨r, _, rfl⟩ := List.mem_map.1 hp
      exact runT_len r)
    have h2 := runsL_len s.testBit 64 0
    rw [List.length_map] at h1
    have : (runsL s.testBit 64 0).length * (5 + 1) ≤ 64 * (5 + 1) := Nat.mul_le_mul_right _ h2
    omega
  · rw [showF_any]; simp
/-- Five texts in a block of their own, of which the first ones are laid. -/
def StrB (w : World) (b : Nat) (c : Sp) (k : Nat) : Prop := b < w.heap.size ∧ (∀ i, i < 5 → (∃ v, w.cell? ⟨b, i, none⟩ = some v) ∧ w.frozen? ⟨b, i, none⟩ = false) ∧ ∀ i, i < k → w.cell? ⟨b, i, none⟩ = some (txt (showF (c.S i) (c.A i)))
theorem StrB.set {w : World} {b k : Nat} {c : Sp} {v : Value} (h : StrB w b c k) (hk : k < 5) (hv : v = txt (showF (c.S k) (c.A k))) : StrB (w.setCell ⟨b, k, none⟩ v) b c (k + 1) := by
  obtain ⟨h1, h2, h3⟩ := h
  obtain ⟨⟨u, hu⟩, _⟩ := h2 k hk
  subst hv
  refine ⟨by simpa using h1, fun i hi => ⟨?_, by rw [World.frozen?_setCell]; exact (h2 i hi).2⟩, fun i hi => ?_⟩
  · by_cases e : i = k
    · subst e; exact ⟨_, World.cell?_setCell_same' _ _ _ (by rw [hu]; rfl)⟩
    · obtain ⟨x, hx⟩ := (h2 i hi).1
      exact ⟨x, by rw [World.cell?_setCell_other _ _ _ _ (by intro x; injection x with _ x; exact e x.symm)]; exact hx⟩
  · by_cases e : i = k
    · subst e; exact World.cell?_setCell_same' _ _ _ (by rw [hu]; rfl)
    · rw [World.cell?_setCell_other _ _ _ _ (by intro x; injection x with _ x; exact e x.symm)]; exact h3 i (by omega)
theorem StrB.on {w w' : World} {b k : Nat} {c : Sp} (h : StrB w b c k) (hb : Below w.heap.size w w') : StrB w' b c k := by
  obtain ⟨h1, h2, h3⟩ := h
  refine ⟨Nat.lt_of_lt_of_le h1 hb.size, fun i hi => ?_, fun i hi => (hb.cell (p := ⟨b, i, none⟩) h1).trans (h3 i hi)⟩
  obtain ⟨⟨v, hv⟩, hf⟩ := h2 i hi
  exact ⟨⟨v, (hb.cell (p := ⟨b, i, none⟩) h1).trans hv⟩, (hb.frozen (p := ⟨b, i, none⟩) h1).trans hf⟩
theorem strB_made {w1 : World} {b : Nat} {c : Sp} {l : List Value} (h : w1.ownsRow b 9 1 (.slice (some ⟨b, 0, none⟩) 5 5) 5 l) : StrB w1 b c 0 := by
  obtain ⟨_, h⟩ := h
  rcases h with ⟨h, _⟩ | ⟨g, cap, cur, h, hge, hg, hcap, hmax, hcs, hz⟩
  · cases h
  · injection h with h1 h2 h3
    injection h1 with h1
    injection h1 with h1
    subst h1 h3
    refine ⟨?_, fun i hi => ⟨⟨_, (Lib.cell_of_heap hg i).trans (Array.getElem?_eq_getElem (by omega))⟩, Lib.frozen_of_heap hg i⟩, fun i hi => by omega⟩
    rcases Nat.lt_or_ge b w1.heap.size with h' | h'
    · exact h'
    · rw [Array.getElem?_eq_none h'] at hg; cases hg
def textsC (c : Sp) : List (List UInt8) := [showF (c.S 0) (c.A 0), showF (c.S 1) (c.A 1), showF (c.S 2) (c.A 2), showF (c.S 3) (c.A 3), showF (c.S 4) (c.A 4)]
set_option maxHeartbeats 4000000 in
set_option maxRecDepth 100000 in
theorem show_good (c : Sp) (w : World) (hc : c.wf) (hv : validB c = true) (hB : Bnd w) (ht : Tab w) : Calls Tryd.prog 10 #[vC c] w fun e w' => e = .returned (txt (showC c)) ∧ Below w.heap.size w w' := by
  have hB0 : Below w.heap.size w (boxC w c) := (Below.refl _ _).alloc (Nat.le_refl _) _
  have HB0 := hide hB0
  have hch := check_any c (boxC w c) hc (hB.on hB0)
  rw [chk_yes hv] at hch
  have HC := hide hch
  have HBnd : Hid (∀ w', Below w.heap.size w w' → Bnd w') := hide fun w' h => hB.on h
  have HTab : Hid (∀ w', Below w.heap.size w w' → Tab w') := hide fun w' h => ht.on h
  have HF : Hid (∀ f w', f < 5 → Below w.heap.size w w' → Calls Tryd.prog 31 #[vC c, .int .i64 (f : Nat)] w' (FldOut c f w')) := hide fun f w' hf h => field_any c f w' hc hv hf (hB.on h) (ht.on h)
  have HA0 := hide (AtC.box w c)
  have HJ : Hid (∀ b w', StrB w' b c 5 → Calls Tryd.prog 32 #[.slice (some ⟨b, 0, none⟩) 5 5, .string ⟨#[32]⟩] w' fun e w2 => e = .returned (txt (showC c)) ∧ Below w'.heap.size w' w2) := hide fun b w' h => by
    have h5 := join_any b 5 (textsC c) 32 w' (fun j x hx => by
      rw [Nat.zero_add]
      have hj : j < 5 := (List.getElem?_eq_some_iff.1 hx).1
      rw [h.2.2 j hj]
      obtain rfl | rfl | rfl | rfl | rfl : j = 0 ∨ j = 1 ∨ j = 2 ∨ j = 3 ∨ j = 4 := by omega
      all_goals (simp [textsC] at hx; rw [hx])) h.1 (by simp [textsC]) (by simp [textsC]) (fun p hp => by
      simp only [textsC, List.mem_cons, List.not_mem_nil, or_false] at hp
      rcases hp with rfl | rfl | rfl | rfl | rfl
      all_goals exact showF_len _ _)
    exact h5
  clear hB ht hB0 hch hc hv
  go_enter Tryd.func10, Tryd.ntmps10
  go_wp2_with fail
  refine HC.out.mono ?_
  rintro e w1 ⟨rfl, hb⟩
  have HB1 := hide (HB0.out.trans (hb.mono HB0.out.size))
  have HAw := hide (HA0.out.on hb)
  have HW1 : Hid (w.heap.size < w1.heap.size) := hide (by have := hb.size; simp at this; omega)
  clear hb
  obtain ⟨i1, hi', hy0, hy1, hy2⟩ := info_parts' str_info'
  go_wp2_with (at_make; go_must (refine wpList_make_full _ rfl _ _ 62 rfl w1.heap.size 9 i1 (.string ⟨#[]⟩) 1 Tryd.underlying62 hi' hy0 hy1 .i64 .i64 5 5 5 rfl rfl rfl rfl (by rw [hy2]; omega) (by unfold maxLen; omega) (Nat.le_refl _) ?_))
  intro w2 hown hgrow
  have HS2 := hide (strB_made (c := c) hown)
  have hb2 : Below w1.heap.size w1 w2 := (Below.refl _ _).grown hgrow (Nat.le_refl _) (fun j hj => by cases hj)
  have HB2 := hide (HB1.out.trans (hb2.mono HB1.out.size))
  have HA2 := hide (HAw.out.on hb2)
  have HW2 : Hid (w1.heap.size < w2.heap.size) := hide HS2.out.1
  clear hown hgrow hi' hy0 hy1 hy2
  have HZ := hide hb2
  clear hb2
  go_wp2_with fail
  go_loopw [11] (fun i wr => ∃ k : Nat, k ≤ 5 ∧ i = .int .i64 k ∧ StrB wr w1.heap.size c k ∧ Below w1.heap.size w1 wr) (fun i _ => 5 - (intOf i).toNat)
  case atStart => exact ⟨0, Nat.zero_le _, rfl, HS2.out, HZ.out⟩
  case round =>
    obtain ⟨k, hk, rfl, hst, hb⟩ := hrel
    have HBr := hide (HB1.out.trans (hb.mono HB1.out.size))
    have HBw := hide hb
    have HSt := hide hst
    by_cases hlt : k < 5
    · have HFk := hide (HF.out k wr hlt HBr.out)
      obtain ⟨z9, c0, c1, c2, c3, c4, c5, c6, c7, c8, c9⟩ := HAw.out.on hb
      clear hst hb
      go_wp2_with fail
      refine HFk.out.mono ?_
      rintro e w3 ⟨rfl, hb3⟩
      have hst3 := HSt.out.on hb3
      have HS3 := hide (hst3.set hlt (v := txt (showF (c.S k) (c.A k))) rfl)
      obtain ⟨⟨u, hu⟩, hfr⟩ := hst3.2.1 k hlt
      have HB3 := hide (HBw.out.trans (hb3.mono HBw.out.size))
      clear hst3 hb3 z9 c0 c1 c2 c3 c4 c5 c6 c7 c8 c9
      generalize showF (c.S k) (c.A k) = T at *
      go_wp2_with fail
      go_roundw
      case rel => exact ⟨k + 1, by omega, by go_num, HS3.out, HB3.out.setCell (Nat.le_refl _) _⟩
      case measure => simp [intOf]; omega
    · obtain rfl : k = 5 := by omega
      have HJk := hide (HJ.out w1.heap.size wr HSt.out)
      clear hst hb
      go_wp2_with fail
      refine HJk.out.mono ?_
      rintro e w3 ⟨rfl, hb3⟩
      have HB3 := hide (HBr.out.trans (hb3.mono HBr.out.size))
      clear hb3
      go_wp2_with fail
      go_ret
      exact ⟨rfl, HB3.out⟩
theorem show_bad (c : Sp) (w : World) (hc : c.wf) (hv : validB c = false) (hB : Bnd w) : Calls Tryd.prog 10 #[vC c] w fun e w' => e = .returned (txt []) ∧ Below w.heap.size w w' := by
  have hB0 : Below w.heap.size w (boxC w c) := (Below.refl _ _).alloc (Nat.le_refl _) _
  have HB0 := hide hB0
  have hch := check_any c (boxC w c) hc (hB.on hB0)
  rw [chk_no hv] at hch
  have HC := hide hch
  clear hB hB0 hch hc hv
  go_enter Tryd.func10, Tryd.ntmps10
  go_wp2_with fail
  refine HC.out.mono ?_
  rintro e w1 ⟨rfl, hb⟩
  have HB1 := hide (HB0.out.trans (hb.mono HB0.out.size))
  clear hb
  go_wp2_with fail
  go_ret
  exact ⟨rfl, HB1.out⟩
end Go.Proofs.YtggaflihblhapaaDoor
