/-
  The laws' fixed example.
-/
import Derived.Test.YtljoajjlkjjgeaaGreatDoorMLw2
namespace Go.Proofs.YtljoajjlkjjgeaaGreatDoor
open Go.RowKit Go.Sort LM Go

def awT : List UInt8 := [120, 32, 124, 32, 119, 104, 101, 114, 101, 32, 97, 32, 62, 32, 49, 32, 124, 32, 107, 101, 101, 112, 32, 97, 32, 42, 32, 50, 32, 97, 115, 32, 98]
def rowOf : Dt → List (List Dt)
 | .row _ l => l
 | .one _ => []
def awP : Pl := (qryR 16384 (lexA awT)).1
def aw1 : List Dt := awP.args.getD 0 []
def aw2 : List Dt := (rowOf (aw1.getD 2 d0)).getD 0 []
theorem aw_lex : (lexA awT).2 = (33, 0) := by kernel_rfl
theorem aw_ok : (endS (qryR 16384 (lexA awT)).2).b = none := by kernel_rfl
theorem aw_k : awP.k = 3 := by kernel_rfl
theorem aw_args : awP.args = [aw1] := by kernel_rfl
theorem aw_len1 : aw1.length = 16 := by kernel_rfl
theorem aw_k1 : aw1.getD 0 d0 = dI 2 := by kernel_rfl
theorem aw_a1 : aw1.getD 2 d0 = .row 16 [aw2] := by kernel_rfl
theorem aw_len2 : aw2.length = 16 := by kernel_rfl
theorem aw_n2 : aw2.getD 1 d0 = dS (ba [120]) := by kernel_rfl
set_option maxHeartbeats 4000000 in
set_option maxRecDepth 100000 in
theorem awake_any (w : World) (hL : Lw w) : Calls Tryz.prog 10 #[] w fun e w' => e = .returned (.bool true) ∧ Below w.heap.size w w' := by
 have HQ := hide (queryP_any (F := 16384) (by decide) (by decide) (ba awT) w hL (by rw [ba_size]; decide))
 rw [show (ba awT).data.toList = awT by unfold ba; simp] at HQ
 unfold WholeO at HQ
 rw [aw_ok, aw_lex] at HQ
 have hP : (qryR 16384 (lexA awT)).1 = awP := rfl
 rw [hP] at HQ
 clear hP
 unfold ba awT at HQ
 go_enter Tryz.func10, Tryz.ntmps10
 go_wp2_with fail
 refine HQ.out.mono ?_
 rintro e w1 ⟨hb, ⟨h, -⟩ | ⟨-, -, v, rfl, vs, rfl, hv⟩ | ⟨-, c, k, h, -⟩⟩
 ·exact absurd rfl h
 ·have HB := hide hb
  have hvl : vs.length = 16 := hv.1.trans (enc_len _)
  have hone := hv.one_cell
  obtain ⟨x, u2, u10, u11, u12, u13, u14, hu, -, -, r2, -⟩ := plan_cells hv
  rw [aw_k] at hu
  rw [aw_args] at r2
  obtain ⟨A, c, rfl, hA⟩ := r2.elems (fun e he => by rw [List.mem_singleton] at he; rw [he]; exact aw_len1)
  obtain ⟨W, hW⟩ : ∃ W, W = w1.alloc (.cells vs.toArray 41) := ⟨_, rfl⟩
  have hbW : Below w1.heap.size w1 W := by rw [hW]; exact Joins.below_alloc1 w1 _
  obtain ⟨b1, o1, us, rfl, hb1, hl1, hc1, hr1⟩ := hA W hbW 0 (by simp)
  have k0 := (hr1.2 0 (by rw [show ([aw1] : List (List Dt)).getD 0 [] = aw1 from rfl, aw_len1]; decide))
  have k2 := (hr1.2 2 (by rw [show ([aw1] : List (List Dt)).getD 0 [] = aw1 from rfl, aw_len1]; decide))
  rw [show ([aw1] : List (List Dt)).getD 0 [] = aw1 from rfl] at k0 k2
  rw [aw_k1] at k0
  rw [aw_a1] at k2
  have e0 := k0.int
  obtain ⟨A2, c2, e2, hA2⟩ := k2.elems (fun e he => by rw [List.mem_singleton] at he; rw [he]; exact aw_len2)
  obtain ⟨b2, o2, ts, rfl, hb2, hl2, hc2, hr2⟩ := hA2 W hbW 0 (by simp)
  have m1 := (hr2.2 1 (by rw [show ([aw2] : List (List Dt)).getD 0 [] = aw2 from rfl, aw_len2]; decide))
  rw [show ([aw2] : List (List Dt)).getD 0 [] = aw2 from rfl, aw_n2] at m1
  have e1 := m1.str
  have c10 := hc1 0 (by decide)
  have c12 := hc1 2 (by decide)
  have c21 := hc2 1 (by decide)
  rw [e0] at c10
  rw [e2] at c12
  rw [e1] at c21
  simp only [Nat.zero_mul, Nat.add_zero] at c10 c12 c21
  have hH : HoldB w1.heap.size 41 vs W := by rw [hW]; exact heap_alloc_new _ _
  have d0' : W.cell? ⟨w1.heap.size, 0, none⟩ = some (.int .i64 3) := by rw [Lib.cell_of_heap hH 0, hu]; rfl
  have d2' : W.cell? ⟨w1.heap.size, 2, none⟩ = some (.slice (some ⟨b1, o1, none⟩) 1 c) := by rw [Lib.cell_of_heap hH 2, hu]; rfl
  have HW := hide hW
  have HBW := hide (then_below hb hbW)
  clear hA hA2 hc1 hc2 hr1 hr2 k0 k2 m1 e0 e1 e2 hu hv hb hbW hW hH HQ
  simp only [List.length_singleton] at c12 d2'
  unfold ba at c21
  go_wp2_with (first | (refine wpList_storeBig rfl 41 _ _ rfl w1.heap.size 16 vs big_plan hvl hone rfl rfl (box_new _ _ _ rfl) ?_; rw [World.setRow_alloc_new, ← HW.out]))
  go_ret
  exact ⟨rfl, HBW.out⟩
 ·cases h
end Go.Proofs.YtljoajjlkjjgeaaGreatDoor
