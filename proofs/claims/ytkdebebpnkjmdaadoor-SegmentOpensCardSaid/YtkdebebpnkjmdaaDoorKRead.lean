/-
  The calls of a disk that change nothing.
-/
import Derived.Test.YtkdebebpnkjmdaaDoorKBase
namespace Go.Proofs.YtkdebebpnkjmdaaDoor
open Go.RowKit

abbrev vD (g : Nat) : Value := .pointer (some ⟨g, 0, none⟩)
def fileB (n : Int) : Bool := decide (0 ≤ n) && decide (n < 4)
def capBK (n : Int) : Bool := decide (0 ≤ n) && decide (n ≤ 1073741824)
set_option maxHeartbeats 1600000 in
set_option maxRecDepth 100000 in
theorem fileExists_any (n : Int) (w : World) : Calls Tryd.prog 43 #[.int .i64 n] w fun e w' => e = .returned (.bool (fileB n)) ∧ Below w.heap.size w w' := by
  by_cases h0 : 0 ≤ n
  · by_cases h1 : n < 4
    · have e : fileB n = true := by simp [fileB, h0, h1]
      rw [e]
      go_enter Tryd.func43, Tryd.ntmps43
      go_wp2_with fail
      go_ret
      exact ⟨rfl, Below.refl _ _⟩
    · have e : fileB n = false := by simp [fileB, h0, h1]
      rw [e]
      go_enter Tryd.func43, Tryd.ntmps43
      go_wp2_with fail
      go_ret
      exact ⟨rfl, Below.refl _ _⟩
  · have e : fileB n = false := by simp [fileB, h0]
    rw [e]
    go_enter Tryd.func43, Tryd.ntmps43
    go_wp2_with fail
    go_ret
    exact ⟨rfl, Below.refl _ _⟩
set_option maxHeartbeats 1600000 in
set_option maxRecDepth 100000 in
theorem capacityExists_any (n : Int) (w : World) : Calls Tryd.prog 32 #[.int .i64 n] w fun e w' => e = .returned (.bool (capBK n)) ∧ Below w.heap.size w w' := by
  by_cases h0 : 0 ≤ n
  · by_cases h1 : n ≤ 1073741824
    · have e : capBK n = true := by simp [capBK, h0, h1]
      rw [e]
      go_enter Tryd.func32, Tryd.ntmps32
      go_wp2_with fail
      go_ret
      exact ⟨rfl, Below.refl _ _⟩
    · have e : capBK n = false := by simp [capBK, h0, h1]
      rw [e]
      go_enter Tryd.func32, Tryd.ntmps32
      go_wp2_with fail
      go_ret
      exact ⟨rfl, Below.refl _ _⟩
  · have e : capBK n = false := by simp [capBK, h0]
    rw [e]
    go_enter Tryd.func32, Tryd.ntmps32
    go_wp2_with fail
    go_ret
    exact ⟨rfl, Below.refl _ _⟩
def checkE (D : PD) (n : Int) : Int := if D.down = true then 40 else if fileB n = true then 0 else 30
set_option maxHeartbeats 1600000 in
set_option maxRecDepth 100000 in
theorem check_any {base g : Nat} {D : DS} (n : Int) (w : World) (hD : DiskAt base g w D) : Calls Tryd.prog 33 #[vD g, .int .i64 n] w fun e w' => e = .returned (.int .i64 (checkE D.p n)) ∧ Below w.heap.size w w' := by
  obtain ⟨c0, c1, c2, c3, c4, c5, c6, c7, c8, c9, c10, c11⟩ := hD.cells
  have HF := hide (fileExists_any n w)
  have HE := hide (show checkE D.p n = (if D.p.down = true then 40 else if fileB n = true then 0 else 30) from rfl)
  generalize checkE D.p n = q at *
  generalize fileB n = fb at *
  generalize D.p.down = dn at *
  clear hD
  cases dn
  · cases fb
    · have HQ := hide (show q = 30 by rw [HE.out]; simp)
      go_enter Tryd.func33, Tryd.ntmps33
      go_wp2_with fail
      refine HF.out.mono ?_
      rintro e w2 ⟨rfl, hb2⟩
      have HB := hide hb2
      clear hb2
      go_wp2_with fail
      go_ret
      exact ⟨ret_int HQ.out.symm, HB.out⟩
    · have HQ := hide (show q = 0 by rw [HE.out]; simp)
      go_enter Tryd.func33, Tryd.ntmps33
      go_wp2_with fail
      refine HF.out.mono ?_
      rintro e w2 ⟨rfl, hb2⟩
      have HB := hide hb2
      clear hb2
      go_wp2_with fail
      go_ret
      exact ⟨ret_int HQ.out.symm, HB.out⟩
  · have HQ := hide (show q = 40 by rw [HE.out]; simp)
    go_enter Tryd.func33, Tryd.ntmps33
    go_wp2_with fail
    go_ret
    exact ⟨ret_int HQ.out.symm, Below.refl _ _⟩
set_option maxHeartbeats 1600000 in
set_option maxRecDepth 100000 in
theorem capacity_any {base g : Nat} {D : DS} (w : World) (hD : DiskAt base g w D) : Calls Tryd.prog 21 #[vD g] w fun e w' => e = .returned (.int .i64 D.p.cap) ∧ Below w.heap.size w w' := by
  obtain ⟨c0, c1, c2, c3, c4, c5, c6, c7, c8, c9, c10, c11⟩ := hD.cells
  clear hD
  go_enter Tryd.func21, Tryd.ntmps21
  go_wp2_with fail
  go_ret
  exact ⟨rfl, Below.refl _ _⟩
def sizeD (D : PD) (n : Int) : Int := if fileB n = true then (D.xs n.toNat).length else 0
def safeD (D : PD) (n : Int) : Int := if fileB n = true then D.s n.toNat else 0
theorem fileB_four {n : Int} (h : fileB n = true) : n = 0 ∨ n = 1 ∨ n = 2 ∨ n = 3 := by
  unfold fileB at h
  simp at h
  omega
set_option maxHeartbeats 1600000 in
set_option maxRecDepth 100000 in
theorem size_any {base g : Nat} {D : DS} (n : Int) (w : World) (hD : DiskAt base g w D) : Calls Tryd.prog 12 #[vD g, .int .i64 n] w fun e w' => e = .returned (.int .i64 (sizeD D.p n)) ∧ Below w.heap.size w w' := by
  obtain ⟨c0, c1, c2, c3, c4, c5, c6, c7, c8, c9, c10, c11⟩ := hD.cells
  have HF := hide (fileExists_any n w)
  cases hf : fileB n
  · have HQ := hide (show sizeD D.p n = 0 by unfold sizeD; rw [hf]; rfl)
    rw [hf] at HF
    generalize sizeD D.p n = q at *
    clear hD hf
    go_enter Tryd.func12, Tryd.ntmps12
    go_wp2_with fail
    refine HF.out.mono ?_
    rintro e w2 ⟨rfl, hb2⟩
    have HB := hide hb2
    clear hb2
    go_wp2_with fail
    go_ret
    exact ⟨ret_int HQ.out.symm, HB.out⟩
  · have HQ := hide (show sizeD D.p n = (D.p.xs n.toNat).length by unfold sizeD; rw [hf]; rfl)
    rw [hf] at HF
    generalize sizeD D.p n = q at *
    have HD := hide hD
    clear c0 c1 c2 c3 c4 c5 c6 c7 c8 c9 c10 c11
    rcases fileB_four hf with rfl | rfl | rfl | rfl
    · clear hf
      obtain ⟨A, c, hA, -⟩ := row_slice (hD.row 0 (by decide))
      clear hD
      go_enter Tryd.func12, Tryd.ntmps12
      go_wp2_with fail
      refine HF.out.mono ?_
      rintro e w2 ⟨rfl, hb2⟩
      have HB := hide hb2
      obtain ⟨c0, c1, c2, c3, c4, c5, c6, c7, c8, c9, c10, c11⟩ := (HD.out.below hb2).cells
      clear hb2
      rw [hA] at c0
      clear hA
      go_wp2_with fail
      go_ret
      exact ⟨ret_int HQ.out.symm, HB.out⟩
    · clear hf
      obtain ⟨A, c, hA, -⟩ := row_slice (hD.row 1 (by decide))
      clear hD
      go_enter Tryd.func12, Tryd.ntmps12
      go_wp2_with fail
      refine HF.out.mono ?_
      rintro e w2 ⟨rfl, hb2⟩
      have HB := hide hb2
      obtain ⟨c0, c1, c2, c3, c4, c5, c6, c7, c8, c9, c10, c11⟩ := (HD.out.below hb2).cells
      clear hb2
      rw [hA] at c2
      clear hA
      go_wp2_with fail
      go_ret
      exact ⟨ret_int HQ.out.symm, HB.out⟩
    · clear hf
      obtain ⟨A, c, hA, -⟩ := row_slice (hD.row 2 (by decide))
      clear hD
      go_enter Tryd.func12, Tryd.ntmps12
      go_wp2_with fail
      refine HF.out.mono ?_
      rintro e w2 ⟨rfl, hb2⟩
      have HB := hide hb2
      obtain ⟨c0, c1, c2, c3, c4, c5, c6, c7, c8, c9, c10, c11⟩ := (HD.out.below hb2).cells
      clear hb2
      rw [hA] at c4
      clear hA
      go_wp2_with fail
      go_ret
      exact ⟨ret_int HQ.out.symm, HB.out⟩
    · clear hf
      obtain ⟨A, c, hA, -⟩ := row_slice (hD.row 3 (by decide))
      clear hD
      go_enter Tryd.func12, Tryd.ntmps12
      go_wp2_with fail
      refine HF.out.mono ?_
      rintro e w2 ⟨rfl, hb2⟩
      have HB := hide hb2
      obtain ⟨c0, c1, c2, c3, c4, c5, c6, c7, c8, c9, c10, c11⟩ := (HD.out.below hb2).cells
      clear hb2
      rw [hA] at c6
      clear hA
      go_wp2_with fail
      go_ret
      exact ⟨ret_int HQ.out.symm, HB.out⟩
set_option maxHeartbeats 1600000 in
set_option maxRecDepth 100000 in
theorem safe_any {base g : Nat} {D : DS} (n : Int) (w : World) (hD : DiskAt base g w D) : Calls Tryd.prog 16 #[vD g, .int .i64 n] w fun e w' => e = .returned (.int .i64 (safeD D.p n)) ∧ Below w.heap.size w w' := by
  obtain ⟨c0, c1, c2, c3, c4, c5, c6, c7, c8, c9, c10, c11⟩ := hD.cells
  have HF := hide (fileExists_any n w)
  cases hf : fileB n
  · have HQ := hide (show safeD D.p n = 0 by unfold safeD; rw [hf]; rfl)
    rw [hf] at HF
    generalize safeD D.p n = q at *
    clear hD hf
    go_enter Tryd.func16, Tryd.ntmps16
    go_wp2_with fail
    refine HF.out.mono ?_
    rintro e w2 ⟨rfl, hb2⟩
    have HB := hide hb2
    clear hb2
    go_wp2_with fail
    go_ret
    exact ⟨ret_int HQ.out.symm, HB.out⟩
  · have HQ := hide (show safeD D.p n = D.p.s n.toNat by unfold safeD; rw [hf]; rfl)
    rw [hf] at HF
    generalize safeD D.p n = q at *
    have HD := hide hD
    clear c0 c1 c2 c3 c4 c5 c6 c7 c8 c9 c10 c11
    rcases fileB_four hf with rfl | rfl | rfl | rfl
    · clear hf
      clear hD
      go_enter Tryd.func16, Tryd.ntmps16
      go_wp2_with fail
      refine HF.out.mono ?_
      rintro e w2 ⟨rfl, hb2⟩
      have HB := hide hb2
      obtain ⟨c0, c1, c2, c3, c4, c5, c6, c7, c8, c9, c10, c11⟩ := (HD.out.below hb2).cells
      clear hb2
      go_wp2_with fail
      go_ret
      exact ⟨ret_int HQ.out.symm, HB.out⟩
    · clear hf
      clear hD
      go_enter Tryd.func16, Tryd.ntmps16
      go_wp2_with fail
      refine HF.out.mono ?_
      rintro e w2 ⟨rfl, hb2⟩
      have HB := hide hb2
      obtain ⟨c0, c1, c2, c3, c4, c5, c6, c7, c8, c9, c10, c11⟩ := (HD.out.below hb2).cells
      clear hb2
      go_wp2_with fail
      go_ret
      exact ⟨ret_int HQ.out.symm, HB.out⟩
    · clear hf
      clear hD
      go_enter Tryd.func16, Tryd.ntmps16
      go_wp2_with fail
      refine HF.out.mono ?_
      rintro e w2 ⟨rfl, hb2⟩
      have HB := hide hb2
      obtain ⟨c0, c1, c2, c3, c4, c5, c6, c7, c8, c9, c10, c11⟩ := (HD.out.below hb2).cells
      clear hb2
      go_wp2_with fail
      go_ret
      exact ⟨ret_int HQ.out.symm, HB.out⟩
    · clear hf
      clear hD
      go_enter Tryd.func16, Tryd.ntmps16
      go_wp2_with fail
      refine HF.out.mono ?_
      rintro e w2 ⟨rfl, hb2⟩
      have HB := hide hb2
      obtain ⟨c0, c1, c2, c3, c4, c5, c6, c7, c8, c9, c10, c11⟩ := (HD.out.below hb2).cells
      clear hb2
      go_wp2_with fail
      go_ret
      exact ⟨ret_int HQ.out.symm, HB.out⟩
theorem run_file0 (w : World) (a0 b0 a1 b1 a2 b2 a3 b3 : Value) : (Instr.index 67 (.agg #[a0, b0, a1, b1, a2, b2, a3, b3]) (.int .i64 0)).run Tryd.prog w = .ok (.agg #[a0, b0]) w := by kernel_rfl
theorem run_file1 (w : World) (a0 b0 a1 b1 a2 b2 a3 b3 : Value) : (Instr.index 67 (.agg #[a0, b0, a1, b1, a2, b2, a3, b3]) (.int .i64 1)).run Tryd.prog w = .ok (.agg #[a1, b1]) w := by kernel_rfl
theorem run_file2 (w : World) (a0 b0 a1 b1 a2 b2 a3 b3 : Value) : (Instr.index 67 (.agg #[a0, b0, a1, b1, a2, b2, a3, b3]) (.int .i64 2)).run Tryd.prog w = .ok (.agg #[a2, b2]) w := by kernel_rfl
theorem run_file3 (w : World) (a0 b0 a1 b1 a2 b2 a3 b3 : Value) : (Instr.index 67 (.agg #[a0, b0, a1, b1, a2, b2, a3, b3]) (.int .i64 3)).run Tryd.prog w = .ok (.agg #[a3, b3]) w := by kernel_rfl
set_option maxHeartbeats 1600000 in
set_option maxRecDepth 100000 in
theorem used_any {base g : Nat} {D : DS} (w : World) (hD : DiskAt base g w D) (hO : D.p.Ok) : Calls Tryd.prog 34 #[vD g] w fun e w' => e = .returned (.int .i64 (D.p.used : Nat)) ∧ Below w.heap.size w w' := by
  obtain ⟨c0, c1, c2, c3, c4, c5, c6, c7, c8, c9, c10, c11⟩ := hD.cells
  have HO := hide hO
  obtain ⟨A0, k0, hA0, -⟩ := row_slice (hD.row 0 (by decide))
  obtain ⟨A1, k1, hA1, -⟩ := row_slice (hD.row 1 (by decide))
  obtain ⟨A2, k2, hA2, -⟩ := row_slice (hD.row 2 (by decide))
  obtain ⟨A3, k3, hA3, -⟩ := row_slice (hD.row 3 (by decide))
  rw [hA0] at c0
  rw [hA1] at c2
  rw [hA2] at c4
  rw [hA3] at c6
  have HU := hide (show D.p.used = (D.p.xs 0).length + (D.p.xs 1).length + (D.p.xs 2).length + (D.p.xs 3).length from rfl)
  clear hA0 hA1 hA2 hA3 hD
  go_enter Tryd.func34, Tryd.ntmps34
  go_wp2_with fail
  have rc0 := run_file0; have rc1 := run_file1; have rc2 := run_file2; have rc3 := run_file3
  have hu := hO.used
  clear c0 c1 c2 c3 c4 c5 c6 c7 c8 c9 c10 c11
  go_loopw [3, 10] (fun n i wr => ∃ k : Nat, k ≤ 4 ∧ i = .int .i64 k ∧ n = .int .i64 ((if 0 < k then (D.p.xs 0).length else 0) + (if 1 < k then (D.p.xs 1).length else 0) + (if 2 < k then (D.p.xs 2).length else 0) + (if 3 < k then (D.p.xs 3).length else 0) : Nat) ∧ Below w.heap.size w wr) (fun _ i _ => 4 - (intOf i).toNat)
  case atStart => exact ⟨0, Nat.zero_le _, rfl, rfl, Below.refl _ _⟩
  case round =>
    obtain ⟨k, hk, rfl, rfl, hbw⟩ := hrel
    have HB := hide hbw
    have hs := hbw.size
    rw [HU.out] at hu
    have HU2 := HU
    clear HU hbw
    rcases (by omega : k = 0 ∨ k = 1 ∨ k = 2 ∨ k = 3 ∨ k = 4) with rfl | rfl | rfl | rfl | rfl
    · go_wp2_with fail
      go_roundw
      case rel => exact ⟨1, by omega, by go_num, by simp, HB.out.alloc (by omega) _⟩
      case measure => simp [intOf]
    · go_wp2_with fail
      go_roundw
      case rel => exact ⟨2, by omega, by go_num, by simp, HB.out.alloc (by omega) _⟩
      case measure => simp [intOf]
    · go_wp2_with fail
      go_roundw
      case rel => exact ⟨3, by omega, by go_num, by simp, HB.out.alloc (by omega) _⟩
      case measure => simp [intOf]
    · go_wp2_with fail
      go_roundw
      case rel => exact ⟨4, by omega, by go_num, by simp, HB.out.alloc (by omega) _⟩
      case measure => simp [intOf]
    · go_wp2_with fail
      go_ret
      exact ⟨by rw [HU2.out]; rfl, HB.out⟩
end Go.Proofs.YtkdebebpnkjmdaaDoor
