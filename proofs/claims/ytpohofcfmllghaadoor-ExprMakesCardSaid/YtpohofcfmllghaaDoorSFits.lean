/-
  Whether a row fits columns: the program's way and the document's.
-/
import Derived.Test.YtpohofcfmllghaaDoorSHolds
import Derived.Test.YtpohofcfmllghaaDoorSCheck
namespace Go.Proofs.YtpohofcfmllghaaDoor
open Go.RowKit

def heldAt (cs : List (ByteArray × Int)) (vs : List (Int × Int × ByteArray)) (j : Nat) : Bool :=
  holdsB (cs.getD j (⟨#[]⟩, 0)).2 (vs.getD j (0, 0, ⟨#[]⟩)).1 (vs.getD j (0, 0, ⟨#[]⟩)).2.1 (vs.getD j (0, 0, ⟨#[]⟩)).2.2
def preH (cs : List (ByteArray × Int)) (vs : List (Int × Int × ByteArray)) (k : Nat) : Prop := ∀ j, j < k → heldAt cs vs j = true
instance preH.dec (cs : List (ByteArray × Int)) (vs : List (Int × Int × ByteArray)) (k : Nat) : Decidable (preH cs vs k) := by unfold preH; infer_instance
def rowFits (cs : List (ByteArray × Int)) (vs : List (Int × Int × ByteArray)) : Bool := decide (vs.length = cs.length) && decide (preH cs vs cs.length)
theorem preH_succ {cs : List (ByteArray × Int)} {vs : List (Int × Int × ByteArray)} {k : Nat} (h : preH cs vs k) (hc : heldAt cs vs k = true) : preH cs vs (k + 1) := fun j hj => by
  by_cases e : j = k
  · subst e; exact hc
  · exact h j (by omega)
theorem rowFits_len {cs : List (ByteArray × Int)} {vs : List (Int × Int × ByteArray)} (h : ¬ vs.length = cs.length) : rowFits cs vs = false := by unfold rowFits; simp [h]
theorem rowFits_no {cs : List (ByteArray × Int)} {vs : List (Int × Int × ByteArray)} {k : Nat} (hk : k < cs.length) (h : heldAt cs vs k = false) : rowFits cs vs = false := by
  unfold rowFits
  have : ¬ preH cs vs cs.length := fun hp => by have := hp k hk; rw [h] at this; cases this
  simp [this]
theorem rowFits_yes {cs : List (ByteArray × Int)} {vs : List (Int × Int × ByteArray)} (h : vs.length = cs.length) (hp : preH cs vs cs.length) : rowFits cs vs = true := by unfold rowFits; simp [h, hp]
def fitsB (cs : List (ByteArray × Int)) (vs : List (Int × Int × ByteArray)) : Bool := decide (checkC cs = 0) && rowFits cs vs

set_option maxHeartbeats 1600000 in
set_option maxRecDepth 100000 in
theorem fits_any (A B : Option Addr) (cap cap' : Nat) (cs : List (ByteArray × Int)) (vs : List (Int × Int × ByteArray)) (w : World) (hC : ColsAt w.heap.size w A cs) (hR : RowAt w.heap.size w B vs) (hw : Wf cs) (hv : WfR vs) :
    Calls Tryd.prog 21 #[.slice A cs.length cap, .slice B vs.length cap'] w fun e w' => e = .returned (.bool (fitsB cs vs)) ∧ Below w.heap.size w w' := by
  by_cases hlen : vs.length = cs.length
  · have hl := hw.1
    unfold maxLen at hl
    have hne : ((vs.length : Int) != (cs.length : Int)) = false := by rw [bne_eq_false_iff_eq, hlen]
    have hle : cs.length ≤ vs.length := by omega
    by_cases hz : checkC cs = 0
    · have HF := hide (show fitsB cs vs = rowFits cs vs by unfold fitsB; rw [hz]; simp)
      have HZ := hide hz; have HL := hide hlen; have HC := hide hC; have HR := hide hR; have HW := hide hw; have HV := hide hv
      clear hC hR hw hv hz hlen
      go_enter Tryd.func21, Tryd.ntmps21
      go_wp2_with fail
      refine (check_any A cap cs _ HC.out HW.out).mono ?_
      rintro e w1 ⟨rfl, hb1⟩
      rw [HZ.out]
      go_wp2_with fail
      go_loopw [19] (fun i wr => ∃ k : Nat, k ≤ cs.length ∧ i = .int .i64 k ∧ preH cs vs k ∧ Below w.heap.size w wr) (fun i _ => cs.length - (intOf i).toNat)
      case atStart => exact ⟨0, Nat.zero_le _, rfl, fun j h => by omega, hb1⟩
      case round =>
        obtain ⟨k, hk, rfl, hp, hbw⟩ := hrel
        have HP := hide hp; clear hp
        have hs := hbw.size
        by_cases hlt : k < cs.length
        · obtain ⟨b, off, rfl, hb, h0, h1⟩ := HC.out.below hbw k hlt
          obtain ⟨b2, off2, rfl, hb2, g0, g1, g2⟩ := HR.out.below hbw k (by omega)
          have hsz := (HV.out.at (by omega : k < vs.length)).2.2
          have HN := hide (fun h => rowFits_no (vs := vs) hlt h)
          have HY := hide (fun h => preH_succ HP.out h)
          unfold heldAt at HN HY
          generalize cs.getD k (⟨#[]⟩, 0) = c at h0 h1 HN HY
          generalize vs.getD k (0, 0, ⟨#[]⟩) = v at g0 g1 g2 HN HY hsz
          obtain ⟨nm, ty⟩ := c
          obtain ⟨kk, n, s⟩ := v
          cases hh : holdsB ty kk n s
          all_goals
            have HO := hide (fun w' => (holds_any nm ty kk n s w' hsz).mono fun e w1 (h : e = .returned (.bool (holdsB ty kk n s)) ∧ Below w'.heap.size w' w1) => (⟨by rw [h.1, hh], h.2⟩ : e = .returned (.bool _) ∧ Below w'.heap.size w' w1))
            have HH := hide hh
            clear hh
            have hk0 : (0 : Int) ≤ (k : Int) := by omega
            have hk1 : (k : Int) < (vs.length : Int) := by omega
            have q0 : Below w.heap.size w (wr.alloc (.cells #[.string nm, .int .i64 ty] 44)) := hbw.alloc hs _
            have r0 := fun d os => cell_regrown (show (wr.alloc (.cells #[.string nm, .int .i64 ty] 44)).cell? ⟨wr.heap.size, 0, none⟩ = some (.string nm) by simp) d os
            have r1 := fun d os => cell_regrown (show (wr.alloc (.cells #[.string nm, .int .i64 ty] 44)).cell? ⟨wr.heap.size, 1, none⟩ = some (.int .i64 ty) by simp) d os
            have hal := Joins.below_alloc1 wr (.cells #[.string nm, .int .i64 ty] 44)
            have r2 := fun d os => cell_regrown ((hal.cell (p := ⟨b2, off2 + k * 3, none⟩) (Nat.lt_of_lt_of_le hb2 hs)).trans g0) d os
            have r3 := fun d os => cell_regrown ((hal.cell (p := ⟨b2, off2 + k * 3 + 1, none⟩) (Nat.lt_of_lt_of_le hb2 hs)).trans g1) d os
            have r4 := fun d os => cell_regrown ((hal.cell (p := ⟨b2, off2 + k * 3 + 2, none⟩) (Nat.lt_of_lt_of_le hb2 hs)).trans g2) d os
            clear g0 g1 g2 hal
            go_wp2_with fail
            refine wp_region_quiet_below (by kernel_rfl) (by kernel_rfl) ?_
            repeat (go_big_quiet_step (first | (go_at_call 25; exact Calls.regrown_of (HO.out _))))
            refine wpQuiet_nil ?_
            intro _ hw'
            obtain ⟨⟨dq, osq⟩, hw''⟩ := hw'
            subst hw''
            have q9 := q0.trans ((below_regrown _ dq osq).mono q0.size)
            go_wp2_with fail
            first
              | (go_ret
                 exact ⟨ret_bool (by rw [HF.out]; exact (HN.out HH.out).symm), q9⟩)
              | (go_roundw
                 case rel => exact ⟨k + 1, by omega, by go_num, HY.out HH.out, q9⟩
                 case measure => simp [intOf]; omega)
        · go_wp2
          go_ret
          exact ⟨ret_bool (by rw [HF.out]; exact (rowFits_yes HL.out (by have := HP.out; rw [show k = cs.length by omega] at this; exact this)).symm), hbw⟩
    · have hk0 : (checkC cs != 0) = true := by rw [bne_iff_ne]; exact hz
      have HF := hide (show fitsB cs vs = false by unfold fitsB; simp [hz])
      have HC := hide hC; have HW := hide hw
      clear hC hR hw hv hz hlen
      go_enter Tryd.func21, Tryd.ntmps21
      go_wp2_with fail
      refine (check_any A cap cs _ HC.out HW.out).mono ?_
      rintro e w1 ⟨rfl, hb1⟩
      go_wp2_with fail
      go_ret
      exact ⟨ret_bool HF.out.symm, hb1⟩
  · have hne : ((vs.length : Int) != (cs.length : Int)) = true := by rw [bne_iff_ne]; omega
    have HF := hide (show fitsB cs vs = false by unfold fitsB; rw [rowFits_len hlen]; simp)
    clear hlen hC hR hw hv
    go_enter Tryd.func21, Tryd.ntmps21
    go_wp2_with fail
    go_ret
    exact ⟨ret_bool HF.out.symm, Below.refl _ _⟩

/-- The ways that a value can be held or not, as the document's answer asks. -/
theorem held_ways (ty k n : Int) (s : ByteArray) :
    (holdsB ty k n s = false ∧ rightV k n s = false) ∨ (holdsB ty k n s = true ∧ rightV k n s = true ∧ (k != 0) = false) ∨ (holdsB ty k n s = false ∧ rightV k n s = true ∧ (k != 0) = true ∧ (k != ty) = true) ∨
    (holdsB ty k n s = true ∧ rightV k n s = true ∧ (k != 0) = true ∧ (k != ty) = false) := by
  unfold holdsB
  cases rightV k n s
  · simp
  · by_cases h0 : k = 0
    · simp [h0]
    · by_cases h1 : k = ty
      · subst h1
        simp [h0]
      · simp [h0, h1]

end Go.Proofs.YtpohofcfmllghaaDoor
