/-
  LexReads: its walk.
-/
import Derived.Test.YteaaloejjafhlaaDoorLRefW
namespace Go.Proofs.YteaaloejjafhlaaDoor.lexReads
open Go.RowKit Go.Sort LM

set_option maxRecDepth 100000 in
set_option maxHeartbeats 8000000 in
theorem same_any (A B : Option Addr) (c d : Nat) (L : List Tk) (w : World) (hA : ToksAt w.heap.size w A L) (hB : ToksAt w.heap.size w B L) (hl : L.length ≤ 100000) :
    Calls Tryd.prog 11 #[.slice A L.length c, .slice B L.length d] w fun e w' => e = .returned (.bool true) ∧ Below w.heap.size w w' := by
  have HA := hide hA
  have HB := hide hB
  have HB0 := hide (Below.refl w.heap.size w)
  clear hA hB
  go_enter Tryd.func11, Tryd.ntmps11
  go_wp2_with fail
  go_loopw [14] (fun i wr => ∃ j : Nat, i = .int .i64 j ∧ j ≤ L.length ∧ Hid (Below w.heap.size w wr)) (fun i _ => L.length - (intOf i).toNat)
  case atStart => exact ⟨0, rfl, Nat.zero_le _, HB0⟩
  case round =>
    obtain ⟨j, rfl, hj, HBr⟩ := hrel
    have hsz := HBr.out.size
    by_cases hlt : j < L.length
    · obtain ⟨b1, o1, rfl, hb1, c0, c1, c2, c3⟩ := (HA.out.below HBr.out).at hlt
      obtain ⟨b2, o2, rfl, hb2, d0, d1, d2, d3⟩ := (HB.out.below HBr.out).at hlt
      have hb1' : b1 < wr.heap.size := by omega
      have hb2' : b2 < wr.heap.size := by omega
      generalize L[j] = x at *
      go_wp2_with fail
      go_quiet (fail)
      go_wp2_with fail
      go_roundw
      case rel => exact ⟨j + 1, by go_num, by omega, hide ((HBr.out.alloc hsz _).trans (Joins.below_draws _ _ _))⟩
      case measure => simp [intOf]; omega
    · go_wp2_with fail
      go_ret
      exact ⟨rfl, HBr.out⟩
set_option maxRecDepth 100000 in
set_option maxHeartbeats 8000000 in
theorem lexReads_walk (s : ByteArray) (w : World) (hs : s.size ≤ maxLen) (hL : Lw w) :
    Calls Tryd.prog 3 #[.string s] w fun e w' => e = .returned (.bool true) ∧ Below w.heap.size w w' := by
  unfold maxLen at hs
  have HA := hide (fun w1 (hb : Below w.heap.size w w1) => awake_any w1 (hL.on hb))
  have HB0 := hide (Below.refl w.heap.size w)
  by_cases hbig : 20000 < s.size
  · go_enter Tryd.func3, Tryd.ntmps3
    go_wp2_with fail
    refine (HA.out _ HB0.out).mono ?_
    rintro e w1 ⟨rfl, hb⟩
    have HB := hide hb
    clear hb
    go_wp2_with fail
    go_ret
    exact ⟨rfl, HB.out⟩
  have hlen : s.data.toList.length = s.size := Array.length_toList
  have HLx := hide (lex_any s w hL (by omega))
  have HRx := hide (fun w1 => rlex_any s w1 (by omega))
  have hv := (lexA_val s.data.toList).2.2
  rw [hlen] at hv
  have HSm := hide (fun A B c d w1 h1 h2 => same_any A B c d (lexA s.data.toList).1 w1 h1 h2 (by omega))
  generalize lexA s.data.toList = X at *
  obtain ⟨L, p, z⟩ := X
  simp only at hv HSm
  clear hL hlen
  go_enter Tryd.func3, Tryd.ntmps3
  go_wp2_with fail
  refine HLx.out.mono ?_
  rintro e w1 ⟨⟨A, c, rfl, hA⟩, hb⟩
  simp only at hA ⊢
  have HB1 := hide hb
  have HA1 := hide hA
  clear hb HLx hA
  go_wp2_with fail
  refine (HRx.out _).mono ?_
  rintro e w2 ⟨⟨B, d, rfl, hA⟩, hb⟩
  simp only at hA ⊢
  have HB2 := hide (HB1.out.trans (hb.mono HB1.out.size))
  have HA2 := hide hA
  have HA12 := hide (HA1.out.on hb)
  clear hb HRx hA HA1
  go_wp2_with fail
  refine (HSm.out _ _ _ _ _ HA12.out HA2.out).mono ?_
  rintro e w3 ⟨rfl, hb⟩
  have HB3 := hide (HB2.out.trans (hb.mono HB2.out.size))
  clear hb HSm
  go_wp2_with fail
  refine (HA.out _ HB3.out).mono ?_
  rintro e w4 ⟨rfl, hb⟩
  have HB4 := hide (HB3.out.trans (hb.mono HB3.out.size))
  clear hb
  go_wp2_with fail
  go_ret
  exact ⟨rfl, HB4.out⟩
end Go.Proofs.YteaaloejjafhlaaDoor.lexReads
