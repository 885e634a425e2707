/-
  The reference's digits.
-/
import Derived.Test.YtggaflihblhapaaDoorHShowP
import Derived.Laws.IdiomStrings
import Derived.Lib.ConvBytes
namespace Go.Proofs.YtggaflihblhapaaDoor
open Go.RowKit Go.Sort CM HM

theorem conv_two (w : World) (a b : UInt8) : (convert 79 9 (.slice (some ⟨w.heap.size, 0, none⟩) 2 2)).run Tryd.prog (w.alloc (.cells #[.int .u8 a.toNat, .int .u8 b.toNat] 5)) = .ok (.string ⟨#[a, b]⟩) (w.alloc (.cells #[.int .u8 a.toNat, .int .u8 b.toNat] 5)) := by
  refine run_convert_bytes_back (w.alloc (.cells #[.int .u8 a.toNat, .int .u8 b.toNat] 5)) 79 9 5 ⟨w.heap.size, 0, none⟩ 2 [a, b] Tryd.underlying79 Tryd.underlying5 Tryd.underlying9 (fun j hj => ?_)
  have hj' : j = 0 ∨ j = 1 := by simp at hj; omega
  rcases hj' with rfl | rfl <;> simp [Addr.add]
theorem rtwo_of (n : Int) (a b : UInt8) (w : World) (h0 : 0 ≤ n) (h1 : n ≤ 99) (ha : (a.toNat : Int) = 48 + n / 10) (hb : (b.toNat : Int) = 48 + n % 10) : Calls Tryd.prog 62 #[.int .i64 n] w fun e w' => e = .returned (.string ⟨#[a, b]⟩) ∧ Below w.heap.size w w' := by
  have hc := conv_two w a b
  rw [ha, hb] at hc
  clear ha hb
  go_enter Tryd.func62, Tryd.ntmps62
  go_wp2_with fail
  go_ret
  exact ⟨rfl, by go_grown⟩
theorem rtwo_any (n : Int) (w : World) (h0 : 0 ≤ n) (h1 : n ≤ 99) : Calls Tryd.prog 62 #[.int .i64 n] w fun e w' => e = .returned (txt (two n)) ∧ Below w.heap.size w w' :=
  rtwo_of n _ _ w h0 h1 (by rw [dig_nat (by omega)]; omega) (by rw [dig_nat (by omega)]; omega)
/-- string([]byte{x}). -/
theorem conv_one (x : Int) (d : UInt8) (hd : (d.toNat : Int) = x) (w : World) :
    (convert 79 9 (.slice (some ⟨w.heap.size, 0, none⟩) 1 1)).run Tryd.prog (w.alloc (.cells #[.int .u8 x] 5)) = .ok (.string ⟨#[d]⟩) (w.alloc (.cells #[.int .u8 x] 5)) := by
  refine run_convert_bytes_back (w.alloc (.cells #[.int .u8 x] 5)) 79 9 5 ⟨w.heap.size, 0, none⟩ 1 [d] Tryd.underlying79 Tryd.underlying5 Tryd.underlying9 ?_
  intro j hj
  obtain rfl : j = 0 := by simpa using hj
  subst hd
  simp [Addr.add]

theorem two_digL {n : Nat} (h0 : 10 ≤ n) (h1 : n < 100) : two (n : Int) = digL n := by
  unfold two digL
  rw [if_neg (by omega), show ((n : Int) / 10).toNat = n / 10 by omega, show ((n : Int) % 10).toNat = n % 10 by omega]
set_option maxHeartbeats 1000000 in
theorem digits_any (n : Nat) (w : World) (h : n < 100) : Calls Tryd.prog 37 #[.int .i64 n] w fun e w' => e = .returned (txt (digL n)) ∧ Below w.heap.size w w' := by
  by_cases h1 : n < 10
  · obtain ⟨d, hd⟩ : ∃ d, d = UInt8.ofNat (48 + n) := ⟨_, rfl⟩
    have hcv := fun w => conv_one (48 + (n : Int)) d (by rw [hd, dig_nat h1]; omega) w
    have HD : Hid (digL n = [d]) := hide (by unfold digL; rw [if_pos h1, hd])
    clear hd
    have h2 : (n : Int) < 10 := by omega
    clear h
    go_enter Tryd.func37, Tryd.ntmps37
    go_wp2_with fail
    go_ret
    exact ⟨by rw [HD.out]; rfl, by go_grown⟩
  · have HT := hide (rtwo_any n w (by omega) (by omega))
    have HD := hide (two_digL (n := n) (by omega) h)
    have h2 : (10 : Int) ≤ (n : Int) := by omega
    clear h
    go_enter Tryd.func37, Tryd.ntmps37
    go_wp2_with fail
    refine HT.out.mono ?_
    rintro e w1 ⟨rfl, hb⟩
    have HB := hide hb
    clear hb
    go_wp2_with fail
    go_ret
    exact ⟨by rw [← HD.out]; rfl, HB.out⟩
end Go.Proofs.YtggaflihblhapaaDoor
