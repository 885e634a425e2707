/-
  The document's answer on columns: those ahead are gone over one by one.
-/
import Derived.Test.YteenhmniikloiaaDoorSCheck
namespace Go.Proofs.YteenhmniikloiaaDoor
open Go.RowKit

/-- Column k's name is none of the first m. -/
def apart (cs : List (ByteArray × Int)) (k m : Nat) : Prop := ∀ j, j < m → ¬ (cs.getD j (⟨#[]⟩, 0)).1.data.toList = (cs.getD k (⟨#[]⟩, 0)).1.data.toList
theorem apart_succ {cs : List (ByteArray × Int)} {k m : Nat} (h : apart cs k m) (hm : ¬ (cs.getD m (⟨#[]⟩, 0)).1.data.toList = (cs.getD k (⟨#[]⟩, 0)).1.data.toList) : apart cs k (m + 1) := fun j hj => by
  by_cases e : j = m
  · subst e; exact hm
  · exact h j (by omega)
theorem twice_no {cs : List (ByteArray × Int)} {k : Nat} (hk : k ≤ cs.length) (h : apart cs k k) : twice cs k = false := by
  unfold twice
  rw [Bool.eq_false_iff]; intro ha
  rw [List.any_eq_true] at ha
  obtain ⟨c, hc, he⟩ := ha
  obtain ⟨j, hj, e⟩ := List.getElem_of_mem hc
  have hjk : j < k := by simp at hj; omega
  refine h j hjk ?_
  rw [List.getElem_take] at e
  rw [List.getD_eq_getElem?_getD, List.getElem?_eq_getElem (by omega)]
  simpa [e] using he
theorem twice_yes {cs : List (ByteArray × Int)} {k j : Nat} (hk : k < cs.length) (hj : j < k) (h : (cs.getD j (⟨#[]⟩, 0)).1.data.toList = (cs.getD k (⟨#[]⟩, 0)).1.data.toList) : twice cs k = true := by
  unfold twice
  rw [List.any_eq_true]
  refine ⟨cs.getD j (⟨#[]⟩, 0), ?_, by simpa using h⟩
  rw [List.getD_eq_getElem?_getD, List.getElem?_eq_getElem (by omega)]
  rw [List.mem_iff_getElem]
  exact ⟨j, by simp; omega, by simp⟩
theorem badC_13 {cs : List (ByteArray × Int)} {k : Nat} (h : nameB (cs.getD k (⟨#[]⟩, 0)).1 = false) : badC cs k = 13 := by unfold badC; rw [h]; rfl
theorem badC_12 {cs : List (ByteArray × Int)} {k : Nat} (h : nameB (cs.getD k (⟨#[]⟩, 0)).1 = true) (h2 : ¬ ((cs.getD k (⟨#[]⟩, 0)).2 = 1 ∨ (cs.getD k (⟨#[]⟩, 0)).2 = 2)) : badC cs k = 12 := by unfold badC; rw [h, if_pos rfl, if_neg h2]
theorem badC_14 {cs : List (ByteArray × Int)} {k : Nat} (h : nameB (cs.getD k (⟨#[]⟩, 0)).1 = true) (h2 : (cs.getD k (⟨#[]⟩, 0)).2 = 1 ∨ (cs.getD k (⟨#[]⟩, 0)).2 = 2) (h3 : twice cs k = true) : badC cs k = 14 := by unfold badC; rw [h, if_pos rfl, if_pos h2, h3, if_pos rfl]
theorem badC_0 {cs : List (ByteArray × Int)} {k : Nat} (h : nameB (cs.getD k (⟨#[]⟩, 0)).1 = true) (h2 : (cs.getD k (⟨#[]⟩, 0)).2 = 1 ∨ (cs.getD k (⟨#[]⟩, 0)).2 = 2) (h3 : twice cs k = false) : badC cs k = 0 := by unfold badC; rw [h, if_pos rfl, if_pos h2, h3]; rfl

set_option maxHeartbeats 1600000 in
set_option maxRecDepth 100000 in
theorem refCheck_any (A : Option Addr) (cap : Nat) (cs : List (ByteArray × Int)) (w : World) (hC : ColsAt w.heap.size w A cs) (hw : Wf cs) :
    Calls Tryd.prog 34 #[.slice A cs.length cap] w fun e w' => e = .returned (.int .i64 (checkC cs)) ∧ Below w.heap.size w w' := by
  have hl := hw.1
  unfold maxLen at hl
  by_cases hlen : ¬ (1 ≤ cs.length ∧ cs.length ≤ 16)
  · have HR := hide (checkC_len hlen)
    by_cases h0 : cs.length = 0
    · have hb : (cs.length : Int) < 1 := by simp [h0]
      go_enter Tryd.func34, Tryd.ntmps34
      go_wp2
      all_goals go_ret
      all_goals exact ⟨ret_int HR.out.symm, by first | exact Below.refl _ _ | go_grown⟩
    · have hb : (1 : Int) ≤ (cs.length : Int) := by omega
      have h16 : (16 : Int) < cs.length := by omega
      clear h0
      go_enter Tryd.func34, Tryd.ntmps34
      go_wp2
      all_goals go_ret
      all_goals exact ⟨ret_int HR.out.symm, by first | exact Below.refl _ _ | go_grown⟩
  have h1 : 1 ≤ cs.length := by omega
  have h2 : cs.length ≤ 16 := by omega
  clear hlen
  have HC := hide hC; have HW := hide hw; clear hC hw
  go_enter Tryd.func34, Tryd.ntmps34
  go_wp2
  go_loopw [3] (fun i wr => ∃ k : Nat, k ≤ cs.length ∧ i = .int .i64 k ∧ clean cs k ∧ Below w.heap.size w wr)
    (fun i _ => cs.length - (intOf i).toNat)
  case atStart => exact ⟨0, Nat.zero_le _, rfl, fun j hj => by omega, Below.refl _ _⟩
  case round =>
    obtain ⟨k, hk, rfl, hcl, hbw⟩ := hrel
    have HCL := hide hcl; clear hcl
    by_cases hlt : k < cs.length
    · obtain ⟨b, off, rfl, hb0, c0, c1⟩ := HC.out.below hbw k hlt
      have hsz := (HW.out.at hlt).1
      cases hn : nameB (cs.getD k (⟨#[]⟩, 0)).1
      · have HB := hide (badC_13 hn)
        have HN := hide hn
        clear hn
        generalize hcol : cs.getD k (⟨#[]⟩, 0) = c at c0 c1 HN hsz
        obtain ⟨nm, ty⟩ := c
        clear hcol
        go_wp2_with (go_at_call 54; refine (refName_any nm _ hsz).mono ?_; rintro e w' ⟨rfl, rfl⟩; rw [HN.out])
        go_ret
        exact ⟨ret_int (checkC_at h1 h2 HCL.out hlt HB.out (by decide)).symm, hbw⟩
      by_cases ht : (cs.getD k (⟨#[]⟩, 0)).2 = 1 ∨ (cs.getD k (⟨#[]⟩, 0)).2 = 2
      · have HN := hide hn
        have HT := hide ht
        have HB0 := hide (badC_0 (k := k) hn ht)
        have HB14 := hide (badC_14 (k := k) hn ht)
        have HY := hide (fun j => twice_yes (j := j) hlt)
        clear hn ht
        generalize hcol : cs.getD k (⟨#[]⟩, 0) = c at c0 c1 HN HT hsz HY
        obtain ⟨nm, ty⟩ := c
        have hcol' := hide hcol
        clear hcol
        have ht2 : ((ty != 1) = true ∧ (ty != 2) = false) ∨ (ty != 1) = false := by have := HT.out; simp only [bne_iff_ne, bne_eq_false_iff_eq, ne_eq]; simp at this; omega
        rcases ht2 with ⟨t1, t2⟩ | t1
        all_goals
          go_wp2_with (go_at_call 54; refine (refName_any nm _ hsz).mono ?_; rintro e w' ⟨rfl, rfl⟩; rw [HN.out])
          obtain ⟨wo, hwo⟩ : ∃ wo : World, wo = wr := ⟨_, rfl⟩
          subst hwo
          go_loopw [4] (fun i w2 => ∃ m : Nat, m ≤ k ∧ i = .int .i64 m ∧ apart cs k m ∧ Below w.heap.size w w2) (fun i _ => k - (intOf i).toNat)
          case atStart => exact ⟨0, Nat.zero_le _, rfl, fun j hj => by omega, hbw⟩
          case round =>
            obtain ⟨m, hm, rfl, hap, hbw2⟩ := hrel
            have HA := hide hap; clear hap
            by_cases hlt2 : m < k
            · obtain ⟨b', off', e, hb1, d0, d1⟩ := HC.out.below hbw2 m (by omega)
              obtain ⟨rfl, rfl⟩ : b = b' ∧ off = off' := by simpa using e
              clear e
              obtain ⟨b', off', e, hb2, e0, e1⟩ := HC.out.below hbw2 k (by omega)
              obtain ⟨rfl, rfl⟩ : b = b' ∧ off = off' := by simpa using e
              clear e
              rw [hcol'.out] at e0 e1
              generalize hcol2 : cs.getD m (⟨#[]⟩, 0) = c2 at d0 d1
              obtain ⟨nm2, ty2⟩ := c2
              have hcol2' := hide hcol2
              clear hcol2
              go_wp2
              go_quiet (fail)
              go_wp2
              · have he : (nm2.toList == nm.toList) = true := by assumption
                go_ret
                refine ⟨ret_int (checkC_at h1 h2 HCL.out hlt (HB14.out (HY.out m hlt2 ?_)) (by decide)).symm, below_drewN hbw2 _⟩
                rw [hcol2'.out]; rw [Lib.toList_data, Lib.toList_data] at he; simpa using he
              · have he : (nm2.toList == nm.toList) = false := by assumption
                go_roundw
                case rel =>
                  refine ⟨m + 1, by omega, by go_num, apart_succ HA.out ?_, below_drewN hbw2 _⟩
                  rw [hcol2'.out, hcol'.out]; rw [Lib.toList_data, Lib.toList_data] at he; simpa using he
                case measure => simp [intOf]; omega
            · go_wp2
              go_roundw
              case rel => exact ⟨k + 1, by omega, by go_num, clean_succ HCL.out (HB0.out (twice_no (by omega) (by have := HA.out; rw [show m = k by omega] at this; exact this))), hbw2⟩
              case measure => simp [intOf]; omega
      · have HB := hide (badC_12 hn ht)
        have HN := hide hn
        have HT := hide ht
        clear hn ht
        generalize hcol : cs.getD k (⟨#[]⟩, 0) = c at c0 c1 HN HT hsz
        obtain ⟨nm, ty⟩ := c
        clear hcol
        have t1 : (ty != 1) = true := by have := HT.out; simp only [bne_iff_ne, ne_eq]; simp at this; omega
        have t2 : (ty != 2) = true := by have := HT.out; simp only [bne_iff_ne, ne_eq]; simp at this; omega
        go_wp2_with (go_at_call 54; refine (refName_any nm _ hsz).mono ?_; rintro e w' ⟨rfl, rfl⟩; rw [HN.out])
        go_ret
        exact ⟨ret_int (checkC_at h1 h2 HCL.out hlt HB.out (by decide)).symm, hbw⟩
    · go_wp2
      go_ret
      exact ⟨ret_int (checkC_zero h1 h2 (by have := HCL.out; rw [show k = cs.length by omega] at this; exact this)).symm, hbw⟩
end Go.Proofs.YteenhmniikloiaaDoor
