/-
  LexLines: its walk.
-/
import Derived.Test.YteaaloejjafhlaaDoorLAwake
namespace Go.Proofs.YteaaloejjafhlaaDoor.lexLines
open Go.RowKit Go.Sort LM

set_option maxHeartbeats 4000000 in
theorem lexLines_walk (s : ByteArray) (a : Int) (w : World) (hs : s.size ≤ maxLen) (h1 : -9223372036854775808 ≤ a) (h2 : a ≤ 9223372036854775807) (hL : Lw w) :
    Calls Tryd.prog 6 #[.string s, .int .i64 a] w fun e w' => e = .returned (.bool true) ∧ Below w.heap.size w w' := by
  unfold maxLen at hs
  have HA := hide (fun w1 (hb : Below w.heap.size w w1) => awake_any w1 (hL.on hb))
  have HB0 := hide (Below.refl w.heap.size w)
  clear hL
  by_cases hbig : 5000 < s.size
  · go_enter Tryd.func6, Tryd.ntmps6
    go_wp2_with fail
    refine (HA.out _ HB0.out).mono ?_
    rintro e w1 ⟨rfl, hb⟩
    have HB := hide hb
    clear hb
    go_wp2_with fail
    go_ret
    exact ⟨rfl, HB.out⟩
  have HLn := hide (line_any s a w (by omega) h1 h2)
  by_cases hout : a < 0 ∨ (s.size : Int) < a
  · have HE : Hid (lineE s a = .returned (.tuple #[.int .i64 0, .int .i64 0])) := hide (if_pos hout)
    rw [HE.out] at HLn
    clear HE
    rcases hout with h | h
    · go_enter Tryd.func6, Tryd.ntmps6
      go_wp2_with fail
      refine HLn.out.mono ?_
      rintro e w1 ⟨rfl, hb⟩
      have HB := hide hb
      clear hb
      go_wp2_with fail
      refine (HA.out _ HB.out).mono ?_
      rintro e w2 ⟨rfl, hb⟩
      have HB2 := hide (HB.out.trans (hb.mono HB.out.size))
      clear hb
      go_wp2_with fail
      go_ret
      exact ⟨rfl, HB2.out⟩
    · have h0 : ¬ a < 0 := by omega
      go_enter Tryd.func6, Tryd.ntmps6
      go_wp2_with fail
      refine HLn.out.mono ?_
      rintro e w1 ⟨rfl, hb⟩
      have HB := hide hb
      clear hb
      go_wp2_with fail
      refine (HA.out _ HB.out).mono ?_
      rintro e w2 ⟨rfl, hb⟩
      have HB2 := hide (HB.out.trans (hb.mono HB.out.size))
      clear hb
      go_wp2_with fail
      go_ret
      exact ⟨rfl, HB2.out⟩
  obtain ⟨k, rfl⟩ : ∃ k : Nat, a = k := ⟨a.toNat, by omega⟩
  have hk : k ≤ s.size := by omega
  have HE : Hid (lineE s (k : Int) = .returned (.tuple #[.int .i64 (1 + (cntN s k : Nat)), .int .i64 ((k : Int) - lastN s k)])) := hide (by unfold lineE; rw [if_neg hout, Int.toNat_natCast])
  rw [HE.out] at HLn
  obtain ⟨C, hC⟩ : ∃ C : Int, C = 1 + (cntN s k : Nat) := ⟨_, rfl⟩
  obtain ⟨D, hD⟩ : ∃ D : Int, D = (k : Int) - lastN s k := ⟨_, rfl⟩
  rw [← hC, ← hD] at HLn
  have HC := hide hC
  have HD := hide hD
  have h0 : ¬ (k : Int) < 0 := by omega
  have h3 : ¬ (s.size : Int) < (k : Int) := by omega
  clear HE hout hC hD h1 h2
  go_enter Tryd.func6, Tryd.ntmps6
  go_wp2_with fail
  refine HLn.out.mono ?_
  rintro e w1 ⟨rfl, hb⟩
  have HB := hide hb
  clear hb HLn
  go_wp2_with fail
  go_loopw [7, 8, 38] (fun l c i wr => ∃ j : Nat, i = .int .i64 j ∧ j ≤ k ∧ l = .int .i64 (1 + (cntN s j : Nat)) ∧ c = .int .i64 ((j : Int) - lastN s j) ∧ wr = w1) (fun _ _ i _ => k - (intOf i).toNat)
  case atStart => exact ⟨0, rfl, Nat.zero_le _, rfl, rfl, rfl⟩
  case round =>
    obtain ⟨j, rfl, hj, rfl, rfl, rfl⟩ := hrel
    have hcn := cntN_le s j
    have hln := lastN_lt s j
    by_cases hlt : j < k
    · have hjs : j < s.size := by omega
      have HCs := hide (cntN_succ hjs)
      have HLs := hide (lastN_succ hjs)
      cases h10 : ((s[j].toNat : Int) == 10)
      · rw [h10, if_neg (by simp)] at HCs HLs
        generalize cntN s j = c at *
        generalize lastN s j = l at *
        clear HC HD
        go_wp2_with fail
        go_roundw
        case rel => exact ⟨j + 1, by go_num, by omega, by rw [HCs.out]; go_num, by rw [HLs.out]; go_num, by trivial⟩
        case measure => simp [intOf]; omega
      · rw [h10, if_pos rfl] at HCs HLs
        generalize cntN s j = c at *
        generalize lastN s j = l at *
        clear HC HD
        go_wp2_with fail
        go_roundw
        case rel => exact ⟨j + 1, by go_num, by omega, by rw [HCs.out]; go_num, by rw [HLs.out]; go_num, by trivial⟩
        case measure => simp [intOf]; omega
    · obtain rfl : j = k := by omega
      obtain rfl := HC.out
      obtain rfl := HD.out
      generalize cntN s j = c at *
      generalize lastN s j = l at *
      clear HC HD
      go_wp2_with fail
      refine (HA.out _ HB.out).mono ?_
      rintro e w2 ⟨rfl, hb⟩
      have HB2 := hide (HB.out.trans (hb.mono HB.out.size))
      clear hb
      go_wp2_with fail
      go_ret
      exact ⟨rfl, HB2.out⟩
end Go.Proofs.YteaaloejjafhlaaDoor.lexLines
