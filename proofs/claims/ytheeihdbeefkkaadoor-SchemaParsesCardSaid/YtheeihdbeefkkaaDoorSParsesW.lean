/-
  The walk of SchemaParses.
-/
import Derived.Test.YtheeihdbeefkkaaDoorSJoin0
import Derived.Test.YtheeihdbeefkkaaDoorSAwake
import Derived.Test.YtheeihdbeefkkaaDoorSCheckR
namespace Go.Proofs.YtheeihdbeefkkaaDoor.schemaParses
open Go.RowKit

theorem ok_wf {cs : List (ByteArray × Int)} (h : checkC cs = 0) : Wf cs ∧ cs.length ≤ 16 ∧ ∀ c ∈ cs, c.1.size ≤ 16 := by
  obtain ⟨h1, h2, hcl⟩ := checkC_ok h
  have hb : ∀ c ∈ cs, nameB c.1 = true ∧ (c.2 = 1 ∨ c.2 = 2) := fun c hc => by
    obtain ⟨j, hj, e⟩ := List.getElem_of_mem hc
    have := badC_name (hcl j hj)
    rw [List.getD_eq_getElem?_getD, List.getElem?_eq_getElem hj] at this
    simp only [Option.getD_some, e] at this
    exact ⟨this.1, this.2.1⟩
  refine ⟨⟨by unfold maxLen; omega, fun c hc => ?_⟩, h2, fun c hc => (nameB_size (hb c hc).1).2⟩
  have h3 := nameB_size (hb c hc).1
  rcases (hb c hc).2 with h4 | h4 <;> exact ⟨by unfold maxLen; omega, by omega, by omega⟩

set_option maxHeartbeats 1600000 in
set_option maxRecDepth 100000 in
theorem long (t : ByteArray) (w : World) (hm : Mx w) (h : 500 < t.size) : Calls Tryd.prog 6 #[.string t] w fun e w' => e = .returned (.bool true) ∧ Below w.heap.size w w' := by
  have HM := hide hm; clear hm
  go_enter Tryd.func6, Tryd.ntmps6
  go_wp2_with (go_at_call 11; refine (awake_any _ HM.out).mono ?_; rintro e wa ⟨rfl, hba⟩)
  go_ret
  exact ⟨rfl, hba⟩

set_option maxHeartbeats 1600000 in
set_option maxRecDepth 100000 in
theorem short (t : ByteArray) (w : World) (hm : Mx w) (h : t.size ≤ 500) : Calls Tryd.prog 6 #[.string t] w fun e w' => e = .returned (.bool true) ∧ Below w.heap.size w w' := by
  have HM := hide hm; clear hm
  have HPa := hide (fun w hm => parse_any t w (by omega) hm)
  have HSh := hide (fun cs h => parsedC_show (t := t) (cs := cs) h)
  unfold ParseR at HPa
  generalize parsedC t = q at HPa HSh
  cases q with
  | none =>
    go_enter Tryd.func6, Tryd.ntmps6
    go_wp2_with (first | (go_at_call 25; refine (HPa.out _ HM.out).mono ?_; rintro e w1 ⟨rfl, hb1⟩) | (go_at_call 11; refine (awake_any _ (HM.out.stays hb1)).mono ?_; rintro e wa ⟨rfl, hba⟩))
    go_ret
    exact ⟨rfl, hb1.trans (hba.mono hb1.size)⟩
  | some cs =>
    obtain ⟨hsh, hz⟩ := HSh.out cs rfl
    obtain ⟨hwf, hl16, hn16⟩ := ok_wf hz
    have HW := hide hwf
    have hl : cs.length ≤ 65536 := by omega
    have HN := hide (show ∀ c ∈ cs, c.1.size ≤ 100 from fun c hc => Nat.le_trans (hn16 c hc) (by omega))
    have HE := hide (show (checkC cs == 0) = true by rw [hz]; rfl)
    have HT := hide hsh
    clear hwf hn16 hz hsh HSh
    go_enter Tryd.func6, Tryd.ntmps6
    go_wp2_with fail
    refine (HPa.out _ HM.out).mono ?_
    rintro e w1 ⟨⟨A, cap, rfl, hA⟩, hb1⟩
    have HA := hide hA; clear hA
    go_wp2_with fail
    refine (ref_any A cap cs _ HA.out hl).mono ?_
    rintro e w2 ⟨⟨A2, cap2, rfl, hA2⟩, hb2⟩
    have HA2 := hide hA2; clear hA2
    go_wp2_with fail
    refine (refCheck_any A2 cap2 cs _ HA2.out HW.out).mono ?_
    rintro e w3 ⟨rfl, hb3⟩
    rw [show checkC cs = 0 by simpa using HE.out]
    go_wp2_with fail
    refine (ref_any A cap cs _ ((HA.out.on hb2).on hb3) hl).mono ?_
    rintro e w4 ⟨⟨A4, cap4, rfl, hA4⟩, hb4⟩
    have HA4 := hide hA4; clear hA4
    go_wp2_with fail
    refine (refShow_any A4 cap4 cs _ HA4.out hl HN.out).mono ?_
    rintro e w5 ⟨rfl, hb5⟩
    rw [HT.out]
    have hq5 := then_below hb1 (then_below hb2 (then_below hb3 (then_below hb4 hb5)))
    go_wp2_with (go_at_call 11; refine (awake_any _ (HM.out.stays hq5)).mono ?_; rintro e wa ⟨rfl, hba⟩)
    go_ret
    exact ⟨rfl, then_below hq5 hba⟩

theorem schemaParses_walk (t : ByteArray) (w : World) (_ : t.size ≤ maxLen) (hm : Mx w) : Calls Tryd.prog 6 #[.string t] w fun e w' => e = .returned (.bool true) ∧ Below w.heap.size w w' := by
  by_cases h : t.size ≤ 500
  · exact short t w hm h
  · exact long t w hm (by omega)
end Go.Proofs.YtheeihdbeefkkaaDoor.schemaParses
