/-
  The law's own smallTable: it ends with true or false.
-/
import Derived.Test.YtbjcbgomkhdmmaaDoorTRows
namespace Go.Proofs.YtbjcbgomkhdmmaaDoor
open Go.RowKit

def SmallRes (w : World) (e : Ending) (w' : World) : Prop := ∃ b : Bool, e = .returned (.bool b) ∧ Below w.heap.size w w'
theorem small_ret {w wr W : World} {b : Bool} (h : Below w.heap.size w W) (k : Below W.heap.size W wr) : SmallRes w (.returned (.bool b)) wr := ⟨b, rfl, h.trans (k.mono h.size)⟩
set_option maxHeartbeats 6400000 in
set_option maxRecDepth 100000 in
theorem smallTable_any (S A : Option Addr) (c cap : Nat) (cs : List (ByteArray × Int)) (hs : List RH) (w : World) (hC : ColsAt w.heap.size w S cs) (hR : RowsAt w.heap.size w A hs) (hw : cs.length ≤ maxLen) (hwr : WfT (rowsOf hs)) :
    Calls Tryd.prog 5 #[.agg #[.slice S cs.length c, .slice A hs.length cap]] w (SmallRes w) := by
  have hrl := hwr.1
  rw [rowsOf_len] at hrl
  unfold maxLen at hw hrl
  have hal := (Below.refl w.heap.size w).alloc (Nat.le_refl _) (.cells #[.slice S cs.length c, .slice A hs.length cap] 27)
  have HA := hide hal
  have HC := hide (hC.on hal); have HR := hide (hR.on hal); have HWr := hide hwr
  have hcell : ∀ j, (w.alloc (.cells #[.slice S cs.length c, .slice A hs.length cap] 27)).cell? ⟨w.heap.size, j, none⟩ = (#[Value.slice S cs.length c, Value.slice A hs.length cap] : Array Value)[j]? := fun j => Lib.cell_of_heap (heap_alloc_new w _) j
  have HBox := hide (fun w' (h : Below (w.alloc (.cells #[.slice S cs.length c, .slice A hs.length cap] 27)).heap.size (w.alloc (.cells #[.slice S cs.length c, .slice A hs.length cap] 27)) w') =>
    (⟨(h.cell (p := ⟨w.heap.size, 0, none⟩) (by simp)).trans (hcell 0), (h.cell (p := ⟨w.heap.size, 1, none⟩) (by simp)).trans (hcell 1)⟩ : w'.cell? ⟨w.heap.size, 0, none⟩ = some (.slice S cs.length c) ∧ w'.cell? ⟨w.heap.size, 1, none⟩ = some (.slice A hs.length cap)))
  clear hC hR hwr hal hcell
  generalize hW : w.alloc (.cells #[.slice S cs.length c, .slice A hs.length cap] 27) = W at *
  have HW := hide hW
  have hWs : W.heap.size = w.heap.size + 1 := by rw [← hW]; simp
  have HWs := hide hWs
  clear hW hWs
  obtain ⟨q0, q1⟩ := HBox.out W (Below.refl _ _)
  go_enter Tryd.func5, Tryd.ntmps5
  go_wp2_with fail
  rw [HW.out]
  clear q0 q1
  go_loopw [12] (fun i wr => ∃ k : Nat, k ≤ cs.length ∧ i = .int .i64 k ∧ Below W.heap.size W wr) (fun i _ => cs.length - (intOf i).toNat)
  case atStart => exact ⟨0, Nat.zero_le _, rfl, Below.refl _ _⟩
  case round =>
    obtain ⟨k, hk, rfl, hbw⟩ := hrel
    by_cases hlt : k < cs.length
    · have HLt := hide hlt
      obtain ⟨b, off, rfl, hb, h0, h1⟩ := HC.out.below hbw k hlt
      generalize hcol : cs.getD k (⟨#[]⟩, 0) = col at h0 h1
      obtain ⟨nm, ty⟩ := col
      simp only at h0 h1
      have HBw := hide (hbw.alloc hbw.size (.cells #[.string nm, .int .i64 ty] 53))
      clear hcol hbw hk
      by_cases h5 : nm.size ≤ 50
      · have h5' : ¬ (50 : Int) < (nm.size : Int) := by omega
        clear h5
        go_wp2_with fail
        go_roundw
        case rel => exact ⟨k + 1, HLt.out, by go_num, HBw.out⟩
        case measure => have := HLt.out; simp [intOf]; omega
      · have h5' : (50 : Int) < (nm.size : Int) := by omega
        clear h5
        go_wp2_with fail
        go_ret
        exact small_ret HA.out HBw.out
    · obtain rfl : k = cs.length := by omega
      have HBw := hide hbw
      obtain ⟨q0, q1⟩ := HBox.out wr hbw
      clear hbw hk hlt q0
      obtain ⟨wa, hwa⟩ : ∃ wa, wa = wr := ⟨_, rfl⟩
      subst hwa
      go_wp2_with fail
      clear q1
      go_loopw [24] (fun i wr => ∃ k : Nat, k ≤ hs.length ∧ i = .int .i64 k ∧ Below W.heap.size W wr) (fun i _ => hs.length - (intOf i).toNat)
      case atStart => exact ⟨0, Nat.zero_le _, rfl, HBw.out⟩
      case round =>
        obtain ⟨k, hk, rfl, hbw⟩ := hrel
        by_cases hlt : k < hs.length
        · have HLt := hide hlt
          obtain ⟨b, off, A', c', r, rfl, hb, c0, hr, -, hg⟩ := (HR.out.below hbw).at hlt
          have hrm : r ∈ rowsOf hs := by
            unfold rowsOf
            refine List.mem_map.2 ⟨_, getH_mem hlt, ?_⟩
            rw [hg]
          have hrl2 := (HWr.out.2 r hrm).1
          unfold maxLen at hrl2
          have HRow := hide (fun w' (h : Below W.heap.size W w') => (show RowAt W.heap.size w' A' r from by have := ((HR.out.below h).2 _ (getH_mem hlt)).1; rw [hg] at this; exact this))
          have HBw2 := hide hbw
          clear hbw hr hg hrm hk HBw
          by_cases h5 : r.length ≤ 20
          · have h5' : ¬ (20 : Int) < (r.length : Int) := by omega
            obtain ⟨wb, hwb⟩ : ∃ wb, wb = wr := ⟨_, rfl⟩
            subst hwb
            go_wp2_with fail
            go_loopw [33] (fun i wr => ∃ j : Nat, j ≤ r.length ∧ i = .int .i64 j ∧ Below W.heap.size W wr) (fun i _ => r.length - (intOf i).toNat)
            case atStart => exact ⟨0, Nat.zero_le _, rfl, HBw2.out⟩
            case round =>
              obtain ⟨j, hj, rfl, hbw⟩ := hrel
              by_cases hlt3 : j < r.length
              · have HLj := hide hlt3
                obtain ⟨b2, off2, rfl, hb2, h0, h1, h2⟩ := (HRow.out _ hbw) j hlt3
                generalize hval : r.getD j (0, 0, ⟨#[]⟩) = val at h0 h1 h2
                obtain ⟨k0, n0, s0⟩ := val
                simp only at h0 h1 h2
                have HBw3 := hide (hbw.alloc hbw.size (.cells #[.int .i64 k0, .int .i64 n0, .string s0] 36))
                clear hval hbw hj c0
                by_cases h6 : s0.size ≤ 100
                · have h6' : ¬ (100 : Int) < (s0.size : Int) := by omega
                  clear h6
                  go_wp2_with fail
                  go_roundw
                  case rel => exact ⟨j + 1, HLj.out, by go_num, HBw3.out⟩
                  case measure => have := HLj.out; simp [intOf]; omega
                · have h6' : (100 : Int) < (s0.size : Int) := by omega
                  clear h6
                  go_wp2_with fail
                  go_ret
                  exact small_ret HA.out HBw3.out
              · obtain rfl : j = r.length := by omega
                have HBw3 := hide hbw
                clear hbw hj c0 hlt3
                go_wp2_with fail
                go_roundw
                case rel => exact ⟨k + 1, HLt.out, by go_num, HBw3.out⟩
                case measure => have := HLt.out; simp [intOf]; omega
          · have h5' : (20 : Int) < (r.length : Int) := by omega
            clear h5
            go_wp2_with fail
            go_ret
            exact small_ret HA.out HBw2.out
        · obtain rfl : k = hs.length := by omega
          have HBw2 := hide hbw
          obtain ⟨q0, q1⟩ := HBox.out wr hbw
          clear hbw hk hlt HBw
          by_cases h5 : cs.length ≤ 20
          · have h5' : (cs.length : Int) ≤ 20 := by omega
            go_wp2_with fail
            go_ret
            exact small_ret HA.out HBw2.out
          · have h5' : ¬ (cs.length : Int) ≤ 20 := by omega
            clear h5
            go_wp2_with fail
            go_ret
            exact small_ret HA.out HBw2.out
end Go.Proofs.YtbjcbgomkhdmmaaDoor
