/-
  The log's calls that set the files up: trim, begin, prepare.
-/
import Derived.Test.YtkdebebpnkjmdaaDoorGRew
import Derived.Deep.DeepCutAuto
import Derived.Tactics2
import Derived.Deep.RegionHeld3
namespace Go.Proofs.YtkdebebpnkjmdaaDoor
open Go.RowKit

/-- The segment alone is left, and safe. -/
def trimR (p : PD) (L : LV) : Int × PD × LV :=
  if L.size < (p.xs L.f).length then (ctE p L.f L.size, ctP p L.f L.size, L)
  else if p.s L.f < (p.xs L.f).length then (synE p L.f, synP p L.f, L) else (0, p, L)
theorem trimR_L (p : PD) (L : LV) : (trimR p L).2.2 = L := by unfold trimR; split; rfl; split <;> rfl
theorem trimR_ok {p : PD} (h : p.Ok) (L : LV) : (trimR p L).2.1.Ok ∧ p.done ≤ (trimR p L).2.1.done ∧ (trimR p L).2.1.done ≤ p.done + 1 := by
  unfold trimR
  split
  · exact ⟨ct_ok h _ _, ct_done p _ _⟩
  · split
    · exact ⟨syn_okG h _, syn_done p _⟩
    · exact ⟨h, Int.le_refl _, by show p.done ≤ p.done + 1; omega⟩
set_option maxHeartbeats 6400000 in
set_option maxRecDepth 100000 in
theorem trim_any {base h g : Nat} {L : LV} {D : DS} (w : World) (H : LogAt base h g w L D) (hO : D.p.Ok) (hd : D.p.done ≤ 1000000000000) (hf : L.f < 4) :
    Calls Tryd.prog 63 #[vD h] w (LRes base h g D w (trimR D.p L)) := by
  have HH := hide H
  have hs0 := hO.s0 L.f hf
  have hs1 := hO.s1 L.f hf
  have hln := hO.len hf
  have HSz := hide (fun w' (hb : Below w.heap.size w w') => size_any L.f w' (H.disk.below hb))
  rw [sizeD_nat D.p hf] at HSz
  have HSf := hide (fun w' (hb : Below w.heap.size w w') => safe_any L.f w' (H.disk.below hb))
  rw [safeD_nat D.p hf] at HSf
  have HCt := hide (fun w' (hb : Below w.heap.size w w') => cut_any L.f L.size w' (H.disk.below hb) hO hd)
  have HSy := hide (fun w' (hb : Below w.heap.size w w') => sync_any L.f w' (H.disk.below hb) hO hd)
  have HR := hide (show trimR D.p L = if L.size < (D.p.xs L.f).length then (ctE D.p L.f L.size, ctP D.p L.f L.size, L) else if D.p.s L.f < (D.p.xs L.f).length then (synE D.p L.f, synP D.p L.f, L) else (0, D.p, L) from rfl)
  have HB0 := hide ((Below.refl w.heap.size w).drew)
  generalize trimR D.p L = r at *
  generalize hce : ctE D.p L.f L.size = ce at *
  generalize hcp : ctP D.p L.f L.size = cp at *
  generalize hse : synE D.p L.f = se at *
  generalize hsp : synP D.p L.f = sp at *
  clear H hO hd hce hcp hse hsp
  by_cases h1 : L.size < (D.p.xs L.f).length
  · have HQ := hide (show r = (ce, cp, L) by rw [HR.out, if_pos h1])
    clear HR HSf HSy
    go_enter Tryd.func63, Tryd.ntmps63
    go_upto_region 1 with fail
    refine wp_region_held_drew (S := fun w' => w'.heap[h]? = some (.cells (lCells g L) 86 (0, 0))) (by kernel_rfl) ((HH.out.below HB0.out).box) (fun hS => ?_)
    refine wpAnyH_take (i := 0) (oi := ⟨some 4, _, _, _, _, _⟩) (v := ?_) rfl (by kernel_rfl) (by kernel_rfl) (by kernel_rfl) (fun _ _ _ h => h) (Or.inl ⟨by rfl, ?_⟩) hS ?_
    rotate_left 1
    · intro w' hw'
      have k0 := Lib.cell_of_heap hw' 0; have k1 := Lib.cell_of_heap hw' 1; have k2 := Lib.cell_of_heap hw' 2; have k3 := Lib.cell_of_heap hw' 3; have k4 := Lib.cell_of_heap hw' 4; have k5 := Lib.cell_of_heap hw' 5
      go_simp
      all_goals with_reducible rfl
    try simp only [Act.put, List.setIfInBounds_toArray, List.set_cons_zero, List.set_cons_succ]
    refine wpAnyH_take (i := 1) (oi := ⟨some 5, _, _, _, _, _⟩) (v := ?_) rfl (by kernel_rfl) (by kernel_rfl) (by kernel_rfl) (fun _ _ _ h => h) (Or.inl ⟨by rfl, ?_⟩) hS ?_
    rotate_left 1
    · intro w' hw'
      have k0 := Lib.cell_of_heap hw' 0; have k1 := Lib.cell_of_heap hw' 1; have k2 := Lib.cell_of_heap hw' 2; have k3 := Lib.cell_of_heap hw' 3; have k4 := Lib.cell_of_heap hw' 4; have k5 := Lib.cell_of_heap hw' 5
      go_simp
      all_goals with_reducible rfl
    try simp only [Act.put, List.setIfInBounds_toArray, List.set_cons_zero, List.set_cons_succ]
    refine wpAnyH_take (i := 2) (oi := ⟨some 6, _, _, _, _, _⟩) (v := ?_) rfl (by kernel_rfl) (by kernel_rfl) (by kernel_rfl) (fun _ _ _ h => h) (Or.inl ⟨by rfl, ?_⟩) hS ?_
    rotate_left 1
    · intro w' hw'
      have k0 := Lib.cell_of_heap hw' 0; have k1 := Lib.cell_of_heap hw' 1; have k2 := Lib.cell_of_heap hw' 2; have k3 := Lib.cell_of_heap hw' 3; have k4 := Lib.cell_of_heap hw' 4; have k5 := Lib.cell_of_heap hw' 5
      go_simp
      all_goals with_reducible rfl
    try simp only [Act.put, List.setIfInBounds_toArray, List.set_cons_zero, List.set_cons_succ]
    refine wpAnyH_take (i := 3) (oi := ⟨some 7, _, _, _, _, _⟩) (v := ?_) rfl (by kernel_rfl) (by kernel_rfl) (by kernel_rfl) (fun _ _ _ h => h) (Or.inl ⟨by rfl, ?_⟩) hS ?_
    rotate_left 1
    · intro w' hw'
      have k0 := Lib.cell_of_heap hw' 0; have k1 := Lib.cell_of_heap hw' 1; have k2 := Lib.cell_of_heap hw' 2; have k3 := Lib.cell_of_heap hw' 3; have k4 := Lib.cell_of_heap hw' 4; have k5 := Lib.cell_of_heap hw' 5
      go_simp
      all_goals with_reducible rfl
    try simp only [Act.put, List.setIfInBounds_toArray, List.set_cons_zero, List.set_cons_succ]
    refine wpAnyH_take (i := 4) (oi := ⟨some 8, _, _, _, _, _⟩) (v := ?_) rfl (by kernel_rfl) (by kernel_rfl) (by kernel_rfl) (fun _ _ _ h => h) (Or.inl ⟨by rfl, ?_⟩) hS ?_
    rotate_left 1
    · intro w' hw'
      have k0 := Lib.cell_of_heap hw' 0; have k1 := Lib.cell_of_heap hw' 1; have k2 := Lib.cell_of_heap hw' 2; have k3 := Lib.cell_of_heap hw' 3; have k4 := Lib.cell_of_heap hw' 4; have k5 := Lib.cell_of_heap hw' 5
      go_simp
      all_goals with_reducible rfl
    try simp only [Act.put, List.setIfInBounds_toArray, List.set_cons_zero, List.set_cons_succ]
    refine wpAnyH_take (i := 5) (oi := ⟨some 9, _, _, _, _, _⟩) (v := ?_) rfl (by kernel_rfl) (by kernel_rfl) (by kernel_rfl) (fun _ _ _ h => h) (Or.inl ⟨by rfl, ?_⟩) hS ?_
    rotate_left 1
    · intro w' hw'
      have k0 := Lib.cell_of_heap hw' 0; have k1 := Lib.cell_of_heap hw' 1; have k2 := Lib.cell_of_heap hw' 2; have k3 := Lib.cell_of_heap hw' 3; have k4 := Lib.cell_of_heap hw' 4; have k5 := Lib.cell_of_heap hw' 5
      go_simp
      all_goals with_reducible rfl
    try simp only [Act.put, List.setIfInBounds_toArray, List.set_cons_zero, List.set_cons_succ]
    refine wpAnyH_take (i := 6) (oi := ⟨some 10, _, _, _, _, _⟩) (v := ?_) rfl (by kernel_rfl) (by kernel_rfl) (by kernel_rfl) (fun _ _ _ h => h) (Or.inl ⟨by rfl, ?_⟩) hS ?_
    rotate_left 1
    · intro w' hw'
      have k0 := Lib.cell_of_heap hw' 0; have k1 := Lib.cell_of_heap hw' 1; have k2 := Lib.cell_of_heap hw' 2; have k3 := Lib.cell_of_heap hw' 3; have k4 := Lib.cell_of_heap hw' 4; have k5 := Lib.cell_of_heap hw' 5
      go_simp
      all_goals with_reducible rfl
    try simp only [Act.put, List.setIfInBounds_toArray, List.set_cons_zero, List.set_cons_succ]
    refine wpAnyH_take (i := 7) (oi := ⟨some 11, _, _, _, _, _⟩) (v := ?_) rfl (by kernel_rfl) (by kernel_rfl) (by kernel_rfl) (fun _ _ _ h => h) (Or.inl ⟨by rfl, ?_⟩) hS ?_
    rotate_left 1
    · intro w' hw'
      have k0 := Lib.cell_of_heap hw' 0; have k1 := Lib.cell_of_heap hw' 1; have k2 := Lib.cell_of_heap hw' 2; have k3 := Lib.cell_of_heap hw' 3; have k4 := Lib.cell_of_heap hw' 4; have k5 := Lib.cell_of_heap hw' 5
      go_simp
      all_goals with_reducible rfl
    try simp only [Act.put, List.setIfInBounds_toArray, List.set_cons_zero, List.set_cons_succ]
    refine wpAnyH_ready (rs := [8]) (by kernel_rfl) (by simp) ?_
    refine AllReadyH.cons (o := ⟨some 12, _, _, _, _, _⟩) rfl (fun K hK => ?_) AllReadyH.nil
    go_simp
    go_at_call 12
    refine (HSz.out _ HB0.out).mono ?_
    rintro e w1 ⟨rfl, hb1⟩
    have HB1 := hide (then_below HB0.out hb1)
    clear hb1
    refine hK.out _ _ ((HH.out.below HB1.out).box) (fun hS => ?_)
    clear hK K
    try simp only [Act.put, List.setIfInBounds_toArray, List.set_cons_zero, List.set_cons_succ]
    refine wpAnyH_ready (rs := [9]) (by kernel_rfl) (by simp) ?_
    refine AllReadyH.cons (o := ⟨some 3, _, _, _, _, _⟩) rfl (fun K hK => ?_) AllReadyH.nil
    go_simp
    refine hK.out _ _ hS (fun hS => ?_)
    clear hK K
    try simp only [Act.put, List.setIfInBounds_toArray, List.set_cons_zero, List.set_cons_succ]
    refine wpAnyH_done (by kernel_rfl) ?_ _
    have HB2 := hide (HB1.out.drew)
    obtain ⟨q0, q1, q2, q3, q4, q5⟩ := (HH.out.below HB1.out).cells
    go_upto_region 3 with fail
    refine wp_region_held_drew (S := fun w' => w'.heap[h]? = some (.cells (lCells g L) 86 (0, 0))) (by kernel_rfl) ((HH.out.below HB2.out).box) (fun hS => ?_)
    refine wpAnyH_take (i := 0) (oi := ⟨some 19, _, _, _, _, _⟩) (v := ?_) rfl (by kernel_rfl) (by kernel_rfl) (by kernel_rfl) (fun _ _ _ h => h) (Or.inl ⟨by rfl, ?_⟩) hS ?_
    rotate_left 1
    · intro w' hw'
      have k0 := Lib.cell_of_heap hw' 0; have k1 := Lib.cell_of_heap hw' 1; have k2 := Lib.cell_of_heap hw' 2; have k3 := Lib.cell_of_heap hw' 3; have k4 := Lib.cell_of_heap hw' 4; have k5 := Lib.cell_of_heap hw' 5
      go_simp
      all_goals with_reducible rfl
    try simp only [Act.put, List.setIfInBounds_toArray, List.set_cons_zero, List.set_cons_succ]
    refine wpAnyH_take (i := 1) (oi := ⟨some 20, _, _, _, _, _⟩) (v := ?_) rfl (by kernel_rfl) (by kernel_rfl) (by kernel_rfl) (fun _ _ _ h => h) (Or.inl ⟨by rfl, ?_⟩) hS ?_
    rotate_left 1
    · intro w' hw'
      have k0 := Lib.cell_of_heap hw' 0; have k1 := Lib.cell_of_heap hw' 1; have k2 := Lib.cell_of_heap hw' 2; have k3 := Lib.cell_of_heap hw' 3; have k4 := Lib.cell_of_heap hw' 4; have k5 := Lib.cell_of_heap hw' 5
      go_simp
      all_goals with_reducible rfl
    try simp only [Act.put, List.setIfInBounds_toArray, List.set_cons_zero, List.set_cons_succ]
    refine wpAnyH_take (i := 2) (oi := ⟨some 21, _, _, _, _, _⟩) (v := ?_) rfl (by kernel_rfl) (by kernel_rfl) (by kernel_rfl) (fun _ _ _ h => h) (Or.inl ⟨by rfl, ?_⟩) hS ?_
    rotate_left 1
    · intro w' hw'
      have k0 := Lib.cell_of_heap hw' 0; have k1 := Lib.cell_of_heap hw' 1; have k2 := Lib.cell_of_heap hw' 2; have k3 := Lib.cell_of_heap hw' 3; have k4 := Lib.cell_of_heap hw' 4; have k5 := Lib.cell_of_heap hw' 5
      go_simp
      all_goals with_reducible rfl
    try simp only [Act.put, List.setIfInBounds_toArray, List.set_cons_zero, List.set_cons_succ]
    refine wpAnyH_take (i := 3) (oi := ⟨some 22, _, _, _, _, _⟩) (v := ?_) rfl (by kernel_rfl) (by kernel_rfl) (by kernel_rfl) (fun _ _ _ h => h) (Or.inl ⟨by rfl, ?_⟩) hS ?_
    rotate_left 1
    · intro w' hw'
      have k0 := Lib.cell_of_heap hw' 0; have k1 := Lib.cell_of_heap hw' 1; have k2 := Lib.cell_of_heap hw' 2; have k3 := Lib.cell_of_heap hw' 3; have k4 := Lib.cell_of_heap hw' 4; have k5 := Lib.cell_of_heap hw' 5
      go_simp
      all_goals with_reducible rfl
    try simp only [Act.put, List.setIfInBounds_toArray, List.set_cons_zero, List.set_cons_succ]
    refine wpAnyH_take (i := 4) (oi := ⟨some 23, _, _, _, _, _⟩) (v := ?_) rfl (by kernel_rfl) (by kernel_rfl) (by kernel_rfl) (fun _ _ _ h => h) (Or.inl ⟨by rfl, ?_⟩) hS ?_
    rotate_left 1
    · intro w' hw'
      have k0 := Lib.cell_of_heap hw' 0; have k1 := Lib.cell_of_heap hw' 1; have k2 := Lib.cell_of_heap hw' 2; have k3 := Lib.cell_of_heap hw' 3; have k4 := Lib.cell_of_heap hw' 4; have k5 := Lib.cell_of_heap hw' 5
      go_simp
      all_goals with_reducible rfl
    try simp only [Act.put, List.setIfInBounds_toArray, List.set_cons_zero, List.set_cons_succ]
    refine wpAnyH_take (i := 5) (oi := ⟨some 24, _, _, _, _, _⟩) (v := ?_) rfl (by kernel_rfl) (by kernel_rfl) (by kernel_rfl) (fun _ _ _ h => h) (Or.inl ⟨by rfl, ?_⟩) hS ?_
    rotate_left 1
    · intro w' hw'
      have k0 := Lib.cell_of_heap hw' 0; have k1 := Lib.cell_of_heap hw' 1; have k2 := Lib.cell_of_heap hw' 2; have k3 := Lib.cell_of_heap hw' 3; have k4 := Lib.cell_of_heap hw' 4; have k5 := Lib.cell_of_heap hw' 5
      go_simp
      all_goals with_reducible rfl
    try simp only [Act.put, List.setIfInBounds_toArray, List.set_cons_zero, List.set_cons_succ]
    refine wpAnyH_take (i := 6) (oi := ⟨some 25, _, _, _, _, _⟩) (v := ?_) rfl (by kernel_rfl) (by kernel_rfl) (by kernel_rfl) (fun _ _ _ h => h) (Or.inl ⟨by rfl, ?_⟩) hS ?_
    rotate_left 1
    · intro w' hw'
      have k0 := Lib.cell_of_heap hw' 0; have k1 := Lib.cell_of_heap hw' 1; have k2 := Lib.cell_of_heap hw' 2; have k3 := Lib.cell_of_heap hw' 3; have k4 := Lib.cell_of_heap hw' 4; have k5 := Lib.cell_of_heap hw' 5
      go_simp
      all_goals with_reducible rfl
    try simp only [Act.put, List.setIfInBounds_toArray, List.set_cons_zero, List.set_cons_succ]
    refine wpAnyH_take (i := 7) (oi := ⟨some 26, _, _, _, _, _⟩) (v := ?_) rfl (by kernel_rfl) (by kernel_rfl) (by kernel_rfl) (fun _ _ _ h => h) (Or.inl ⟨by rfl, ?_⟩) hS ?_
    rotate_left 1
    · intro w' hw'
      have k0 := Lib.cell_of_heap hw' 0; have k1 := Lib.cell_of_heap hw' 1; have k2 := Lib.cell_of_heap hw' 2; have k3 := Lib.cell_of_heap hw' 3; have k4 := Lib.cell_of_heap hw' 4; have k5 := Lib.cell_of_heap hw' 5
      go_simp
      all_goals with_reducible rfl
    try simp only [Act.put, List.setIfInBounds_toArray, List.set_cons_zero, List.set_cons_succ]
    refine wpAnyH_take (i := 8) (oi := ⟨some 27, _, _, _, _, _⟩) (v := ?_) rfl (by kernel_rfl) (by kernel_rfl) (by kernel_rfl) (fun _ _ _ h => h) (Or.inl ⟨by rfl, ?_⟩) hS ?_
    rotate_left 1
    · intro w' hw'
      have k0 := Lib.cell_of_heap hw' 0; have k1 := Lib.cell_of_heap hw' 1; have k2 := Lib.cell_of_heap hw' 2; have k3 := Lib.cell_of_heap hw' 3; have k4 := Lib.cell_of_heap hw' 4; have k5 := Lib.cell_of_heap hw' 5
      go_simp
      all_goals with_reducible rfl
    try simp only [Act.put, List.setIfInBounds_toArray, List.set_cons_zero, List.set_cons_succ]
    refine wpAnyH_take (i := 9) (oi := ⟨some 28, _, _, _, _, _⟩) (v := ?_) rfl (by kernel_rfl) (by kernel_rfl) (by kernel_rfl) (fun _ _ _ h => h) (Or.inl ⟨by rfl, ?_⟩) hS ?_
    rotate_left 1
    · intro w' hw'
      have k0 := Lib.cell_of_heap hw' 0; have k1 := Lib.cell_of_heap hw' 1; have k2 := Lib.cell_of_heap hw' 2; have k3 := Lib.cell_of_heap hw' 3; have k4 := Lib.cell_of_heap hw' 4; have k5 := Lib.cell_of_heap hw' 5
      go_simp
      all_goals with_reducible rfl
    try simp only [Act.put, List.setIfInBounds_toArray, List.set_cons_zero, List.set_cons_succ]
    refine wpAnyH_take (i := 10) (oi := ⟨some 29, _, _, _, _, _⟩) (v := ?_) rfl (by kernel_rfl) (by kernel_rfl) (by kernel_rfl) (fun _ _ _ h => h) (Or.inl ⟨by rfl, ?_⟩) hS ?_
    rotate_left 1
    · intro w' hw'
      have k0 := Lib.cell_of_heap hw' 0; have k1 := Lib.cell_of_heap hw' 1; have k2 := Lib.cell_of_heap hw' 2; have k3 := Lib.cell_of_heap hw' 3; have k4 := Lib.cell_of_heap hw' 4; have k5 := Lib.cell_of_heap hw' 5
      go_simp
      all_goals with_reducible rfl
    try simp only [Act.put, List.setIfInBounds_toArray, List.set_cons_zero, List.set_cons_succ]
    refine wpAnyH_take (i := 11) (oi := ⟨some 30, _, _, _, _, _⟩) (v := ?_) rfl (by kernel_rfl) (by kernel_rfl) (by kernel_rfl) (fun _ _ _ h => h) (Or.inl ⟨by rfl, ?_⟩) hS ?_
    rotate_left 1
    · intro w' hw'
      have k0 := Lib.cell_of_heap hw' 0; have k1 := Lib.cell_of_heap hw' 1; have k2 := Lib.cell_of_heap hw' 2; have k3 := Lib.cell_of_heap hw' 3; have k4 := Lib.cell_of_heap hw' 4; have k5 := Lib.cell_of_heap hw' 5
      go_simp
      all_goals with_reducible rfl
    try simp only [Act.put, List.setIfInBounds_toArray, List.set_cons_zero, List.set_cons_succ]
    refine wpAnyH_ready (rs := [12]) (by kernel_rfl) (by simp) ?_
    refine AllReadyH.cons (o := ⟨some 31, _, _, _, _, _⟩) rfl (fun K hK => ?_) AllReadyH.nil
    go_simp
    go_at_call 56
    refine (HCt.out _ HB2.out).mono ?_
    rintro e w2 ⟨rfl, D2, rfl, hD2, hT2⟩
    have HL2 := hide ((HH.out.below HB2.out).turn hD2 hT2)
    have HT2 := hide ((LTurn.of_below (h := h) HB2.out).trans (LTurn.of_turned hT2))
    clear hD2 hT2
    refine hK.out _ _ (HL2.out.box) (fun hS => ?_)
    clear hK K
    try simp only [Act.put, List.setIfInBounds_toArray, List.set_cons_zero, List.set_cons_succ]
    refine wpAnyH_ready (rs := [13]) (by kernel_rfl) (by simp) ?_
    refine AllReadyH.cons (o := ⟨some 2, _, _, _, _, _⟩) rfl (fun K hK => ?_) AllReadyH.nil
    go_simp
    refine hK.out _ _ hS (fun hS => ?_)
    clear hK K
    try simp only [Act.put, List.setIfInBounds_toArray, List.set_cons_zero, List.set_cons_succ]
    refine wpAnyH_done (by kernel_rfl) ?_ _
    go_wp2_with fail
    go_ret
    exact res_mk HQ.out rfl HL2.out HT2.out
  · by_cases h2 : D.p.s L.f < (D.p.xs L.f).length
    · have HQ := hide (show r = (se, sp, L) by rw [HR.out, if_neg h1, if_pos h2])
      clear HR HCt
      go_enter Tryd.func63, Tryd.ntmps63
      go_upto_region 1 with fail
      refine wp_region_held_drew (S := fun w' => w'.heap[h]? = some (.cells (lCells g L) 86 (0, 0))) (by kernel_rfl) ((HH.out.below HB0.out).box) (fun hS => ?_)
      refine wpAnyH_take (i := 0) (oi := ⟨some 4, _, _, _, _, _⟩) (v := ?_) rfl (by kernel_rfl) (by kernel_rfl) (by kernel_rfl) (fun _ _ _ h => h) (Or.inl ⟨by rfl, ?_⟩) hS ?_
      rotate_left 1
      · intro w' hw'
        have k0 := Lib.cell_of_heap hw' 0; have k1 := Lib.cell_of_heap hw' 1; have k2 := Lib.cell_of_heap hw' 2; have k3 := Lib.cell_of_heap hw' 3; have k4 := Lib.cell_of_heap hw' 4; have k5 := Lib.cell_of_heap hw' 5
        go_simp
        all_goals with_reducible rfl
      try simp only [Act.put, List.setIfInBounds_toArray, List.set_cons_zero, List.set_cons_succ]
      refine wpAnyH_take (i := 1) (oi := ⟨some 5, _, _, _, _, _⟩) (v := ?_) rfl (by kernel_rfl) (by kernel_rfl) (by kernel_rfl) (fun _ _ _ h => h) (Or.inl ⟨by rfl, ?_⟩) hS ?_
      rotate_left 1
      · intro w' hw'
        have k0 := Lib.cell_of_heap hw' 0; have k1 := Lib.cell_of_heap hw' 1; have k2 := Lib.cell_of_heap hw' 2; have k3 := Lib.cell_of_heap hw' 3; have k4 := Lib.cell_of_heap hw' 4; have k5 := Lib.cell_of_heap hw' 5
        go_simp
        all_goals with_reducible rfl
      try simp only [Act.put, List.setIfInBounds_toArray, List.set_cons_zero, List.set_cons_succ]
      refine wpAnyH_take (i := 2) (oi := ⟨some 6, _, _, _, _, _⟩) (v := ?_) rfl (by kernel_rfl) (by kernel_rfl) (by kernel_rfl) (fun _ _ _ h => h) (Or.inl ⟨by rfl, ?_⟩) hS ?_
      rotate_left 1
      · intro w' hw'
        have k0 := Lib.cell_of_heap hw' 0; have k1 := Lib.cell_of_heap hw' 1; have k2 := Lib.cell_of_heap hw' 2; have k3 := Lib.cell_of_heap hw' 3; have k4 := Lib.cell_of_heap hw' 4; have k5 := Lib.cell_of_heap hw' 5
        go_simp
        all_goals with_reducible rfl
      try simp only [Act.put, List.setIfInBounds_toArray, List.set_cons_zero, List.set_cons_succ]
      refine wpAnyH_take (i := 3) (oi := ⟨some 7, _, _, _, _, _⟩) (v := ?_) rfl (by kernel_rfl) (by kernel_rfl) (by kernel_rfl) (fun _ _ _ h => h) (Or.inl ⟨by rfl, ?_⟩) hS ?_
      rotate_left 1
      · intro w' hw'
        have k0 := Lib.cell_of_heap hw' 0; have k1 := Lib.cell_of_heap hw' 1; have k2 := Lib.cell_of_heap hw' 2; have k3 := Lib.cell_of_heap hw' 3; have k4 := Lib.cell_of_heap hw' 4; have k5 := Lib.cell_of_heap hw' 5
        go_simp
        all_goals with_reducible rfl
      try simp only [Act.put, List.setIfInBounds_toArray, List.set_cons_zero, List.set_cons_succ]
      refine wpAnyH_take (i := 4) (oi := ⟨some 8, _, _, _, _, _⟩) (v := ?_) rfl (by kernel_rfl) (by kernel_rfl) (by kernel_rfl) (fun _ _ _ h => h) (Or.inl ⟨by rfl, ?_⟩) hS ?_
      rotate_left 1
      · intro w' hw'
        have k0 := Lib.cell_of_heap hw' 0; have k1 := Lib.cell_of_heap hw' 1; have k2 := Lib.cell_of_heap hw' 2; have k3 := Lib.cell_of_heap hw' 3; have k4 := Lib.cell_of_heap hw' 4; have k5 := Lib.cell_of_heap hw' 5
        go_simp
        all_goals with_reducible rfl
      try simp only [Act.put, List.setIfInBounds_toArray, List.set_cons_zero, List.set_cons_succ]
      refine wpAnyH_take (i := 5) (oi := ⟨some 9, _, _, _, _, _⟩) (v := ?_) rfl (by kernel_rfl) (by kernel_rfl) (by kernel_rfl) (fun _ _ _ h => h) (Or.inl ⟨by rfl, ?_⟩) hS ?_
      rotate_left 1
      · intro w' hw'
        have k0 := Lib.cell_of_heap hw' 0; have k1 := Lib.cell_of_heap hw' 1; have k2 := Lib.cell_of_heap hw' 2; have k3 := Lib.cell_of_heap hw' 3; have k4 := Lib.cell_of_heap hw' 4; have k5 := Lib.cell_of_heap hw' 5
        go_simp
        all_goals with_reducible rfl
      try simp only [Act.put, List.setIfInBounds_toArray, List.set_cons_zero, List.set_cons_succ]
      refine wpAnyH_take (i := 6) (oi := ⟨some 10, _, _, _, _, _⟩) (v := ?_) rfl (by kernel_rfl) (by kernel_rfl) (by kernel_rfl) (fun _ _ _ h => h) (Or.inl ⟨by rfl, ?_⟩) hS ?_
      rotate_left 1
      · intro w' hw'
        have k0 := Lib.cell_of_heap hw' 0; have k1 := Lib.cell_of_heap hw' 1; have k2 := Lib.cell_of_heap hw' 2; have k3 := Lib.cell_of_heap hw' 3; have k4 := Lib.cell_of_heap hw' 4; have k5 := Lib.cell_of_heap hw' 5
        go_simp
        all_goals with_reducible rfl
      try simp only [Act.put, List.setIfInBounds_toArray, List.set_cons_zero, List.set_cons_succ]
      refine wpAnyH_take (i := 7) (oi := ⟨some 11, _, _, _, _, _⟩) (v := ?_) rfl (by kernel_rfl) (by kernel_rfl) (by kernel_rfl) (fun _ _ _ h => h) (Or.inl ⟨by rfl, ?_⟩) hS ?_
      rotate_left 1
      · intro w' hw'
        have k0 := Lib.cell_of_heap hw' 0; have k1 := Lib.cell_of_heap hw' 1; have k2 := Lib.cell_of_heap hw' 2; have k3 := Lib.cell_of_heap hw' 3; have k4 := Lib.cell_of_heap hw' 4; have k5 := Lib.cell_of_heap hw' 5
        go_simp
        all_goals with_reducible rfl
      try simp only [Act.put, List.setIfInBounds_toArray, List.set_cons_zero, List.set_cons_succ]
      refine wpAnyH_ready (rs := [8]) (by kernel_rfl) (by simp) ?_
      refine AllReadyH.cons (o := ⟨some 12, _, _, _, _, _⟩) rfl (fun K hK => ?_) AllReadyH.nil
      go_simp
      go_at_call 12
      refine (HSz.out _ HB0.out).mono ?_
      rintro e w1 ⟨rfl, hb1⟩
      have HB1 := hide (then_below HB0.out hb1)
      clear hb1
      refine hK.out _ _ ((HH.out.below HB1.out).box) (fun hS => ?_)
      clear hK K
      try simp only [Act.put, List.setIfInBounds_toArray, List.set_cons_zero, List.set_cons_succ]
      refine wpAnyH_ready (rs := [9]) (by kernel_rfl) (by simp) ?_
      refine AllReadyH.cons (o := ⟨some 3, _, _, _, _, _⟩) rfl (fun K hK => ?_) AllReadyH.nil
      go_simp
      refine hK.out _ _ hS (fun hS => ?_)
      clear hK K
      try simp only [Act.put, List.setIfInBounds_toArray, List.set_cons_zero, List.set_cons_succ]
      refine wpAnyH_done (by kernel_rfl) ?_ _
      have HB2 := hide (HB1.out.drew)
      obtain ⟨q0, q1, q2, q3, q4, q5⟩ := (HH.out.below HB1.out).cells
      go_upto_region 4 with fail
      refine wp_region_held_drew (S := fun w' => w'.heap[h]? = some (.cells (lCells g L) 86 (0, 0))) (by kernel_rfl) ((HH.out.below HB2.out).box) (fun hS => ?_)
      refine wpAnyH_take (i := 0) (oi := ⟨some 32, _, _, _, _, _⟩) (v := ?_) rfl (by kernel_rfl) (by kernel_rfl) (by kernel_rfl) (fun _ _ _ h => h) (Or.inl ⟨by rfl, ?_⟩) hS ?_
      rotate_left 1
      · intro w' hw'
        have k0 := Lib.cell_of_heap hw' 0; have k1 := Lib.cell_of_heap hw' 1; have k2 := Lib.cell_of_heap hw' 2; have k3 := Lib.cell_of_heap hw' 3; have k4 := Lib.cell_of_heap hw' 4; have k5 := Lib.cell_of_heap hw' 5
        go_simp
        all_goals with_reducible rfl
      try simp only [Act.put, List.setIfInBounds_toArray, List.set_cons_zero, List.set_cons_succ]
      refine wpAnyH_take (i := 1) (oi := ⟨some 33, _, _, _, _, _⟩) (v := ?_) rfl (by kernel_rfl) (by kernel_rfl) (by kernel_rfl) (fun _ _ _ h => h) (Or.inl ⟨by rfl, ?_⟩) hS ?_
      rotate_left 1
      · intro w' hw'
        have k0 := Lib.cell_of_heap hw' 0; have k1 := Lib.cell_of_heap hw' 1; have k2 := Lib.cell_of_heap hw' 2; have k3 := Lib.cell_of_heap hw' 3; have k4 := Lib.cell_of_heap hw' 4; have k5 := Lib.cell_of_heap hw' 5
        go_simp
        all_goals with_reducible rfl
      try simp only [Act.put, List.setIfInBounds_toArray, List.set_cons_zero, List.set_cons_succ]
      refine wpAnyH_take (i := 2) (oi := ⟨some 34, _, _, _, _, _⟩) (v := ?_) rfl (by kernel_rfl) (by kernel_rfl) (by kernel_rfl) (fun _ _ _ h => h) (Or.inl ⟨by rfl, ?_⟩) hS ?_
      rotate_left 1
      · intro w' hw'
        have k0 := Lib.cell_of_heap hw' 0; have k1 := Lib.cell_of_heap hw' 1; have k2 := Lib.cell_of_heap hw' 2; have k3 := Lib.cell_of_heap hw' 3; have k4 := Lib.cell_of_heap hw' 4; have k5 := Lib.cell_of_heap hw' 5
        go_simp
        all_goals with_reducible rfl
      try simp only [Act.put, List.setIfInBounds_toArray, List.set_cons_zero, List.set_cons_succ]
      refine wpAnyH_take (i := 3) (oi := ⟨some 35, _, _, _, _, _⟩) (v := ?_) rfl (by kernel_rfl) (by kernel_rfl) (by kernel_rfl) (fun _ _ _ h => h) (Or.inl ⟨by rfl, ?_⟩) hS ?_
      rotate_left 1
      · intro w' hw'
        have k0 := Lib.cell_of_heap hw' 0; have k1 := Lib.cell_of_heap hw' 1; have k2 := Lib.cell_of_heap hw' 2; have k3 := Lib.cell_of_heap hw' 3; have k4 := Lib.cell_of_heap hw' 4; have k5 := Lib.cell_of_heap hw' 5
        go_simp
        all_goals with_reducible rfl
      try simp only [Act.put, List.setIfInBounds_toArray, List.set_cons_zero, List.set_cons_succ]
      refine wpAnyH_take (i := 4) (oi := ⟨some 36, _, _, _, _, _⟩) (v := ?_) rfl (by kernel_rfl) (by kernel_rfl) (by kernel_rfl) (fun _ _ _ h => h) (Or.inl ⟨by rfl, ?_⟩) hS ?_
      rotate_left 1
      · intro w' hw'
        have k0 := Lib.cell_of_heap hw' 0; have k1 := Lib.cell_of_heap hw' 1; have k2 := Lib.cell_of_heap hw' 2; have k3 := Lib.cell_of_heap hw' 3; have k4 := Lib.cell_of_heap hw' 4; have k5 := Lib.cell_of_heap hw' 5
        go_simp
        all_goals with_reducible rfl
      try simp only [Act.put, List.setIfInBounds_toArray, List.set_cons_zero, List.set_cons_succ]
      refine wpAnyH_take (i := 5) (oi := ⟨some 37, _, _, _, _, _⟩) (v := ?_) rfl (by kernel_rfl) (by kernel_rfl) (by kernel_rfl) (fun _ _ _ h => h) (Or.inl ⟨by rfl, ?_⟩) hS ?_
      rotate_left 1
      · intro w' hw'
        have k0 := Lib.cell_of_heap hw' 0; have k1 := Lib.cell_of_heap hw' 1; have k2 := Lib.cell_of_heap hw' 2; have k3 := Lib.cell_of_heap hw' 3; have k4 := Lib.cell_of_heap hw' 4; have k5 := Lib.cell_of_heap hw' 5
        go_simp
        all_goals with_reducible rfl
      try simp only [Act.put, List.setIfInBounds_toArray, List.set_cons_zero, List.set_cons_succ]
      refine wpAnyH_take (i := 6) (oi := ⟨some 38, _, _, _, _, _⟩) (v := ?_) rfl (by kernel_rfl) (by kernel_rfl) (by kernel_rfl) (fun _ _ _ h => h) (Or.inl ⟨by rfl, ?_⟩) hS ?_
      rotate_left 1
      · intro w' hw'
        have k0 := Lib.cell_of_heap hw' 0; have k1 := Lib.cell_of_heap hw' 1; have k2 := Lib.cell_of_heap hw' 2; have k3 := Lib.cell_of_heap hw' 3; have k4 := Lib.cell_of_heap hw' 4; have k5 := Lib.cell_of_heap hw' 5
        go_simp
        all_goals with_reducible rfl
      try simp only [Act.put, List.setIfInBounds_toArray, List.set_cons_zero, List.set_cons_succ]
      refine wpAnyH_take (i := 7) (oi := ⟨some 39, _, _, _, _, _⟩) (v := ?_) rfl (by kernel_rfl) (by kernel_rfl) (by kernel_rfl) (fun _ _ _ h => h) (Or.inl ⟨by rfl, ?_⟩) hS ?_
      rotate_left 1
      · intro w' hw'
        have k0 := Lib.cell_of_heap hw' 0; have k1 := Lib.cell_of_heap hw' 1; have k2 := Lib.cell_of_heap hw' 2; have k3 := Lib.cell_of_heap hw' 3; have k4 := Lib.cell_of_heap hw' 4; have k5 := Lib.cell_of_heap hw' 5
        go_simp
        all_goals with_reducible rfl
      try simp only [Act.put, List.setIfInBounds_toArray, List.set_cons_zero, List.set_cons_succ]
      refine wpAnyH_take (i := 9) (oi := ⟨some 41, _, _, _, _, _⟩) (v := ?_) rfl (by kernel_rfl) (by kernel_rfl) (by kernel_rfl) (fun _ _ _ h => h) (Or.inl ⟨by rfl, ?_⟩) hS ?_
      rotate_left 1
      · intro w' hw'
        have k0 := Lib.cell_of_heap hw' 0; have k1 := Lib.cell_of_heap hw' 1; have k2 := Lib.cell_of_heap hw' 2; have k3 := Lib.cell_of_heap hw' 3; have k4 := Lib.cell_of_heap hw' 4; have k5 := Lib.cell_of_heap hw' 5
        go_simp
        all_goals with_reducible rfl
      try simp only [Act.put, List.setIfInBounds_toArray, List.set_cons_zero, List.set_cons_succ]
      refine wpAnyH_ready (rs := [8]) (by kernel_rfl) (by simp) ?_
      refine AllReadyH.cons (o := ⟨some 40, _, _, _, _, _⟩) rfl (fun K hK => ?_) AllReadyH.nil
      go_simp
      go_at_call 16
      refine (HSf.out _ HB2.out).mono ?_
      rintro e w3 ⟨rfl, hb3⟩
      have HB3 := hide (then_below HB2.out hb3)
      clear hb3
      refine hK.out _ _ ((HH.out.below HB3.out).box) (fun hS => ?_)
      clear hK K
      try simp only [Act.put, List.setIfInBounds_toArray, List.set_cons_zero, List.set_cons_succ]
      refine wpAnyH_ready (rs := [10]) (by kernel_rfl) (by simp) ?_
      refine AllReadyH.cons (o := ⟨some 42, _, _, _, _, _⟩) rfl (fun K hK => ?_) AllReadyH.nil
      go_simp
      refine hK.out _ _ hS (fun hS => ?_)
      clear hK K
      try simp only [Act.put, List.setIfInBounds_toArray, List.set_cons_zero, List.set_cons_succ]
      refine wpAnyH_done (by kernel_rfl) ?_ _
      have HB4 := hide (HB3.out.drew)
      go_upto_region 5 with fail
      refine wp_region_held_drew (S := fun w' => w'.heap[h]? = some (.cells (lCells g L) 86 (0, 0))) (by kernel_rfl) ((HH.out.below HB4.out).box) (fun hS => ?_)
      refine wpAnyH_take (i := 0) (oi := ⟨some 43, _, _, _, _, _⟩) (v := ?_) rfl (by kernel_rfl) (by kernel_rfl) (by kernel_rfl) (fun _ _ _ h => h) (Or.inl ⟨by rfl, ?_⟩) hS ?_
      rotate_left 1
      · intro w' hw'
        have k0 := Lib.cell_of_heap hw' 0; have k1 := Lib.cell_of_heap hw' 1; have k2 := Lib.cell_of_heap hw' 2; have k3 := Lib.cell_of_heap hw' 3; have k4 := Lib.cell_of_heap hw' 4; have k5 := Lib.cell_of_heap hw' 5
        go_simp
        all_goals with_reducible rfl
      try simp only [Act.put, List.setIfInBounds_toArray, List.set_cons_zero, List.set_cons_succ]
      refine wpAnyH_take (i := 1) (oi := ⟨some 44, _, _, _, _, _⟩) (v := ?_) rfl (by kernel_rfl) (by kernel_rfl) (by kernel_rfl) (fun _ _ _ h => h) (Or.inl ⟨by rfl, ?_⟩) hS ?_
      rotate_left 1
      · intro w' hw'
        have k0 := Lib.cell_of_heap hw' 0; have k1 := Lib.cell_of_heap hw' 1; have k2 := Lib.cell_of_heap hw' 2; have k3 := Lib.cell_of_heap hw' 3; have k4 := Lib.cell_of_heap hw' 4; have k5 := Lib.cell_of_heap hw' 5
        go_simp
        all_goals with_reducible rfl
      try simp only [Act.put, List.setIfInBounds_toArray, List.set_cons_zero, List.set_cons_succ]
      refine wpAnyH_take (i := 2) (oi := ⟨some 45, _, _, _, _, _⟩) (v := ?_) rfl (by kernel_rfl) (by kernel_rfl) (by kernel_rfl) (fun _ _ _ h => h) (Or.inl ⟨by rfl, ?_⟩) hS ?_
      rotate_left 1
      · intro w' hw'
        have k0 := Lib.cell_of_heap hw' 0; have k1 := Lib.cell_of_heap hw' 1; have k2 := Lib.cell_of_heap hw' 2; have k3 := Lib.cell_of_heap hw' 3; have k4 := Lib.cell_of_heap hw' 4; have k5 := Lib.cell_of_heap hw' 5
        go_simp
        all_goals with_reducible rfl
      try simp only [Act.put, List.setIfInBounds_toArray, List.set_cons_zero, List.set_cons_succ]
      refine wpAnyH_take (i := 3) (oi := ⟨some 46, _, _, _, _, _⟩) (v := ?_) rfl (by kernel_rfl) (by kernel_rfl) (by kernel_rfl) (fun _ _ _ h => h) (Or.inl ⟨by rfl, ?_⟩) hS ?_
      rotate_left 1
      · intro w' hw'
        have k0 := Lib.cell_of_heap hw' 0; have k1 := Lib.cell_of_heap hw' 1; have k2 := Lib.cell_of_heap hw' 2; have k3 := Lib.cell_of_heap hw' 3; have k4 := Lib.cell_of_heap hw' 4; have k5 := Lib.cell_of_heap hw' 5
        go_simp
        all_goals with_reducible rfl
      try simp only [Act.put, List.setIfInBounds_toArray, List.set_cons_zero, List.set_cons_succ]
      refine wpAnyH_take (i := 4) (oi := ⟨some 47, _, _, _, _, _⟩) (v := ?_) rfl (by kernel_rfl) (by kernel_rfl) (by kernel_rfl) (fun _ _ _ h => h) (Or.inl ⟨by rfl, ?_⟩) hS ?_
      rotate_left 1
      · intro w' hw'
        have k0 := Lib.cell_of_heap hw' 0; have k1 := Lib.cell_of_heap hw' 1; have k2 := Lib.cell_of_heap hw' 2; have k3 := Lib.cell_of_heap hw' 3; have k4 := Lib.cell_of_heap hw' 4; have k5 := Lib.cell_of_heap hw' 5
        go_simp
        all_goals with_reducible rfl
      try simp only [Act.put, List.setIfInBounds_toArray, List.set_cons_zero, List.set_cons_succ]
      refine wpAnyH_take (i := 5) (oi := ⟨some 48, _, _, _, _, _⟩) (v := ?_) rfl (by kernel_rfl) (by kernel_rfl) (by kernel_rfl) (fun _ _ _ h => h) (Or.inl ⟨by rfl, ?_⟩) hS ?_
      rotate_left 1
      · intro w' hw'
        have k0 := Lib.cell_of_heap hw' 0; have k1 := Lib.cell_of_heap hw' 1; have k2 := Lib.cell_of_heap hw' 2; have k3 := Lib.cell_of_heap hw' 3; have k4 := Lib.cell_of_heap hw' 4; have k5 := Lib.cell_of_heap hw' 5
        go_simp
        all_goals with_reducible rfl
      try simp only [Act.put, List.setIfInBounds_toArray, List.set_cons_zero, List.set_cons_succ]
      refine wpAnyH_take (i := 6) (oi := ⟨some 49, _, _, _, _, _⟩) (v := ?_) rfl (by kernel_rfl) (by kernel_rfl) (by kernel_rfl) (fun _ _ _ h => h) (Or.inl ⟨by rfl, ?_⟩) hS ?_
      rotate_left 1
      · intro w' hw'
        have k0 := Lib.cell_of_heap hw' 0; have k1 := Lib.cell_of_heap hw' 1; have k2 := Lib.cell_of_heap hw' 2; have k3 := Lib.cell_of_heap hw' 3; have k4 := Lib.cell_of_heap hw' 4; have k5 := Lib.cell_of_heap hw' 5
        go_simp
        all_goals with_reducible rfl
      try simp only [Act.put, List.setIfInBounds_toArray, List.set_cons_zero, List.set_cons_succ]
      refine wpAnyH_take (i := 7) (oi := ⟨some 50, _, _, _, _, _⟩) (v := ?_) rfl (by kernel_rfl) (by kernel_rfl) (by kernel_rfl) (fun _ _ _ h => h) (Or.inl ⟨by rfl, ?_⟩) hS ?_
      rotate_left 1
      · intro w' hw'
        have k0 := Lib.cell_of_heap hw' 0; have k1 := Lib.cell_of_heap hw' 1; have k2 := Lib.cell_of_heap hw' 2; have k3 := Lib.cell_of_heap hw' 3; have k4 := Lib.cell_of_heap hw' 4; have k5 := Lib.cell_of_heap hw' 5
        go_simp
        all_goals with_reducible rfl
      try simp only [Act.put, List.setIfInBounds_toArray, List.set_cons_zero, List.set_cons_succ]
      refine wpAnyH_ready (rs := [8]) (by kernel_rfl) (by simp) ?_
      refine AllReadyH.cons (o := ⟨some 51, _, _, _, _, _⟩) rfl (fun K hK => ?_) AllReadyH.nil
      go_simp
      go_at_call 52
      refine (HSy.out _ HB4.out).mono ?_
      rintro e w5 ⟨rfl, D5, rfl, hD5, hT5⟩
      have HL5 := hide ((HH.out.below HB4.out).turn hD5 hT5)
      have HT5 := hide ((LTurn.of_below (h := h) HB4.out).trans (LTurn.of_turned hT5))
      clear hD5 hT5
      refine hK.out _ _ (HL5.out.box) (fun hS => ?_)
      clear hK K
      try simp only [Act.put, List.setIfInBounds_toArray, List.set_cons_zero, List.set_cons_succ]
      refine wpAnyH_ready (rs := [9]) (by kernel_rfl) (by simp) ?_
      refine AllReadyH.cons (o := ⟨some 2, _, _, _, _, _⟩) rfl (fun K hK => ?_) AllReadyH.nil
      go_simp
      refine hK.out _ _ hS (fun hS => ?_)
      clear hK K
      try simp only [Act.put, List.setIfInBounds_toArray, List.set_cons_zero, List.set_cons_succ]
      refine wpAnyH_done (by kernel_rfl) ?_ _
      go_wp2_with fail
      go_ret
      exact res_mk HQ.out rfl HL5.out HT5.out
    · have HQ := hide (show r = (0, D.p, L) by rw [HR.out, if_neg h1, if_neg h2])
      clear HR HCt HSy
      go_enter Tryd.func63, Tryd.ntmps63
      go_upto_region 1 with fail
      refine wp_region_held_drew (S := fun w' => w'.heap[h]? = some (.cells (lCells g L) 86 (0, 0))) (by kernel_rfl) ((HH.out.below HB0.out).box) (fun hS => ?_)
      refine wpAnyH_take (i := 0) (oi := ⟨some 4, _, _, _, _, _⟩) (v := ?_) rfl (by kernel_rfl) (by kernel_rfl) (by kernel_rfl) (fun _ _ _ h => h) (Or.inl ⟨by rfl, ?_⟩) hS ?_
      rotate_left 1
      · intro w' hw'
        have k0 := Lib.cell_of_heap hw' 0; have k1 := Lib.cell_of_heap hw' 1; have k2 := Lib.cell_of_heap hw' 2; have k3 := Lib.cell_of_heap hw' 3; have k4 := Lib.cell_of_heap hw' 4; have k5 := Lib.cell_of_heap hw' 5
        go_simp
        all_goals with_reducible rfl
      try simp only [Act.put, List.setIfInBounds_toArray, List.set_cons_zero, List.set_cons_succ]
      refine wpAnyH_take (i := 1) (oi := ⟨some 5, _, _, _, _, _⟩) (v := ?_) rfl (by kernel_rfl) (by kernel_rfl) (by kernel_rfl) (fun _ _ _ h => h) (Or.inl ⟨by rfl, ?_⟩) hS ?_
      rotate_left 1
      · intro w' hw'
        have k0 := Lib.cell_of_heap hw' 0; have k1 := Lib.cell_of_heap hw' 1; have k2 := Lib.cell_of_heap hw' 2; have k3 := Lib.cell_of_heap hw' 3; have k4 := Lib.cell_of_heap hw' 4; have k5 := Lib.cell_of_heap hw' 5
        go_simp
        all_goals with_reducible rfl
      try simp only [Act.put, List.setIfInBounds_toArray, List.set_cons_zero, List.set_cons_succ]
      refine wpAnyH_take (i := 2) (oi := ⟨some 6, _, _, _, _, _⟩) (v := ?_) rfl (by kernel_rfl) (by kernel_rfl) (by kernel_rfl) (fun _ _ _ h => h) (Or.inl ⟨by rfl, ?_⟩) hS ?_
      rotate_left 1
      · intro w' hw'
        have k0 := Lib.cell_of_heap hw' 0; have k1 := Lib.cell_of_heap hw' 1; have k2 := Lib.cell_of_heap hw' 2; have k3 := Lib.cell_of_heap hw' 3; have k4 := Lib.cell_of_heap hw' 4; have k5 := Lib.cell_of_heap hw' 5
        go_simp
        all_goals with_reducible rfl
      try simp only [Act.put, List.setIfInBounds_toArray, List.set_cons_zero, List.set_cons_succ]
      refine wpAnyH_take (i := 3) (oi := ⟨some 7, _, _, _, _, _⟩) (v := ?_) rfl (by kernel_rfl) (by kernel_rfl) (by kernel_rfl) (fun _ _ _ h => h) (Or.inl ⟨by rfl, ?_⟩) hS ?_
      rotate_left 1
      · intro w' hw'
        have k0 := Lib.cell_of_heap hw' 0; have k1 := Lib.cell_of_heap hw' 1; have k2 := Lib.cell_of_heap hw' 2; have k3 := Lib.cell_of_heap hw' 3; have k4 := Lib.cell_of_heap hw' 4; have k5 := Lib.cell_of_heap hw' 5
        go_simp
        all_goals with_reducible rfl
      try simp only [Act.put, List.setIfInBounds_toArray, List.set_cons_zero, List.set_cons_succ]
      refine wpAnyH_take (i := 4) (oi := ⟨some 8, _, _, _, _, _⟩) (v := ?_) rfl (by kernel_rfl) (by kernel_rfl) (by kernel_rfl) (fun _ _ _ h => h) (Or.inl ⟨by rfl, ?_⟩) hS ?_
      rotate_left 1
      · intro w' hw'
        have k0 := Lib.cell_of_heap hw' 0; have k1 := Lib.cell_of_heap hw' 1; have k2 := Lib.cell_of_heap hw' 2; have k3 := Lib.cell_of_heap hw' 3; have k4 := Lib.cell_of_heap hw' 4; have k5 := Lib.cell_of_heap hw' 5
        go_simp
        all_goals with_reducible rfl
      try simp only [Act.put, List.setIfInBounds_toArray, List.set_cons_zero, List.set_cons_succ]
      refine wpAnyH_take (i := 5) (oi := ⟨some 9, _, _, _, _, _⟩) (v := ?_) rfl (by kernel_rfl) (by kernel_rfl) (by kernel_rfl) (fun _ _ _ h => h) (Or.inl ⟨by rfl, ?_⟩) hS ?_
      rotate_left 1
      · intro w' hw'
        have k0 := Lib.cell_of_heap hw' 0; have k1 := Lib.cell_of_heap hw' 1; have k2 := Lib.cell_of_heap hw' 2; have k3 := Lib.cell_of_heap hw' 3; have k4 := Lib.cell_of_heap hw' 4; have k5 := Lib.cell_of_heap hw' 5
        go_simp
        all_goals with_reducible rfl
      try simp only [Act.put, List.setIfInBounds_toArray, List.set_cons_zero, List.set_cons_succ]
      refine wpAnyH_take (i := 6) (oi := ⟨some 10, _, _, _, _, _⟩) (v := ?_) rfl (by kernel_rfl) (by kernel_rfl) (by kernel_rfl) (fun _ _ _ h => h) (Or.inl ⟨by rfl, ?_⟩) hS ?_
      rotate_left 1
      · intro w' hw'
        have k0 := Lib.cell_of_heap hw' 0; have k1 := Lib.cell_of_heap hw' 1; have k2 := Lib.cell_of_heap hw' 2; have k3 := Lib.cell_of_heap hw' 3; have k4 := Lib.cell_of_heap hw' 4; have k5 := Lib.cell_of_heap hw' 5
        go_simp
        all_goals with_reducible rfl
      try simp only [Act.put, List.setIfInBounds_toArray, List.set_cons_zero, List.set_cons_succ]
      refine wpAnyH_take (i := 7) (oi := ⟨some 11, _, _, _, _, _⟩) (v := ?_) rfl (by kernel_rfl) (by kernel_rfl) (by kernel_rfl) (fun _ _ _ h => h) (Or.inl ⟨by rfl, ?_⟩) hS ?_
      rotate_left 1
      · intro w' hw'
        have k0 := Lib.cell_of_heap hw' 0; have k1 := Lib.cell_of_heap hw' 1; have k2 := Lib.cell_of_heap hw' 2; have k3 := Lib.cell_of_heap hw' 3; have k4 := Lib.cell_of_heap hw' 4; have k5 := Lib.cell_of_heap hw' 5
        go_simp
        all_goals with_reducible rfl
      try simp only [Act.put, List.setIfInBounds_toArray, List.set_cons_zero, List.set_cons_succ]
      refine wpAnyH_ready (rs := [8]) (by kernel_rfl) (by simp) ?_
      refine AllReadyH.cons (o := ⟨some 12, _, _, _, _, _⟩) rfl (fun K hK => ?_) AllReadyH.nil
      go_simp
      go_at_call 12
      refine (HSz.out _ HB0.out).mono ?_
      rintro e w1 ⟨rfl, hb1⟩
      have HB1 := hide (then_below HB0.out hb1)
      clear hb1
      refine hK.out _ _ ((HH.out.below HB1.out).box) (fun hS => ?_)
      clear hK K
      try simp only [Act.put, List.setIfInBounds_toArray, List.set_cons_zero, List.set_cons_succ]
      refine wpAnyH_ready (rs := [9]) (by kernel_rfl) (by simp) ?_
      refine AllReadyH.cons (o := ⟨some 3, _, _, _, _, _⟩) rfl (fun K hK => ?_) AllReadyH.nil
      go_simp
      refine hK.out _ _ hS (fun hS => ?_)
      clear hK K
      try simp only [Act.put, List.setIfInBounds_toArray, List.set_cons_zero, List.set_cons_succ]
      refine wpAnyH_done (by kernel_rfl) ?_ _
      have HB2 := hide (HB1.out.drew)
      obtain ⟨q0, q1, q2, q3, q4, q5⟩ := (HH.out.below HB1.out).cells
      go_upto_region 4 with fail
      refine wp_region_held_drew (S := fun w' => w'.heap[h]? = some (.cells (lCells g L) 86 (0, 0))) (by kernel_rfl) ((HH.out.below HB2.out).box) (fun hS => ?_)
      refine wpAnyH_take (i := 0) (oi := ⟨some 32, _, _, _, _, _⟩) (v := ?_) rfl (by kernel_rfl) (by kernel_rfl) (by kernel_rfl) (fun _ _ _ h => h) (Or.inl ⟨by rfl, ?_⟩) hS ?_
      rotate_left 1
      · intro w' hw'
        have k0 := Lib.cell_of_heap hw' 0; have k1 := Lib.cell_of_heap hw' 1; have k2 := Lib.cell_of_heap hw' 2; have k3 := Lib.cell_of_heap hw' 3; have k4 := Lib.cell_of_heap hw' 4; have k5 := Lib.cell_of_heap hw' 5
        go_simp
        all_goals with_reducible rfl
      try simp only [Act.put, List.setIfInBounds_toArray, List.set_cons_zero, List.set_cons_succ]
      refine wpAnyH_take (i := 1) (oi := ⟨some 33, _, _, _, _, _⟩) (v := ?_) rfl (by kernel_rfl) (by kernel_rfl) (by kernel_rfl) (fun _ _ _ h => h) (Or.inl ⟨by rfl, ?_⟩) hS ?_
      rotate_left 1
      · intro w' hw'
        have k0 := Lib.cell_of_heap hw' 0; have k1 := Lib.cell_of_heap hw' 1; have k2 := Lib.cell_of_heap hw' 2; have k3 := Lib.cell_of_heap hw' 3; have k4 := Lib.cell_of_heap hw' 4; have k5 := Lib.cell_of_heap hw' 5
        go_simp
        all_goals with_reducible rfl
      try simp only [Act.put, List.setIfInBounds_toArray, List.set_cons_zero, List.set_cons_succ]
      refine wpAnyH_take (i := 2) (oi := ⟨some 34, _, _, _, _, _⟩) (v := ?_) rfl (by kernel_rfl) (by kernel_rfl) (by kernel_rfl) (fun _ _ _ h => h) (Or.inl ⟨by rfl, ?_⟩) hS ?_
      rotate_left 1
      · intro w' hw'
        have k0 := Lib.cell_of_heap hw' 0; have k1 := Lib.cell_of_heap hw' 1; have k2 := Lib.cell_of_heap hw' 2; have k3 := Lib.cell_of_heap hw' 3; have k4 := Lib.cell_of_heap hw' 4; have k5 := Lib.cell_of_heap hw' 5
        go_simp
        all_goals with_reducible rfl
      try simp only [Act.put, List.setIfInBounds_toArray, List.set_cons_zero, List.set_cons_succ]
      refine wpAnyH_take (i := 3) (oi := ⟨some 35, _, _, _, _, _⟩) (v := ?_) rfl (by kernel_rfl) (by kernel_rfl) (by kernel_rfl) (fun _ _ _ h => h) (Or.inl ⟨by rfl, ?_⟩) hS ?_
      rotate_left 1
      · intro w' hw'
        have k0 := Lib.cell_of_heap hw' 0; have k1 := Lib.cell_of_heap hw' 1; have k2 := Lib.cell_of_heap hw' 2; have k3 := Lib.cell_of_heap hw' 3; have k4 := Lib.cell_of_heap hw' 4; have k5 := Lib.cell_of_heap hw' 5
        go_simp
        all_goals with_reducible rfl
      try simp only [Act.put, List.setIfInBounds_toArray, List.set_cons_zero, List.set_cons_succ]
      refine wpAnyH_take (i := 4) (oi := ⟨some 36, _, _, _, _, _⟩) (v := ?_) rfl (by kernel_rfl) (by kernel_rfl) (by kernel_rfl) (fun _ _ _ h => h) (Or.inl ⟨by rfl, ?_⟩) hS ?_
      rotate_left 1
      · intro w' hw'
        have k0 := Lib.cell_of_heap hw' 0; have k1 := Lib.cell_of_heap hw' 1; have k2 := Lib.cell_of_heap hw' 2; have k3 := Lib.cell_of_heap hw' 3; have k4 := Lib.cell_of_heap hw' 4; have k5 := Lib.cell_of_heap hw' 5
        go_simp
        all_goals with_reducible rfl
      try simp only [Act.put, List.setIfInBounds_toArray, List.set_cons_zero, List.set_cons_succ]
      refine wpAnyH_take (i := 5) (oi := ⟨some 37, _, _, _, _, _⟩) (v := ?_) rfl (by kernel_rfl) (by kernel_rfl) (by kernel_rfl) (fun _ _ _ h => h) (Or.inl ⟨by rfl, ?_⟩) hS ?_
      rotate_left 1
      · intro w' hw'
        have k0 := Lib.cell_of_heap hw' 0; have k1 := Lib.cell_of_heap hw' 1; have k2 := Lib.cell_of_heap hw' 2; have k3 := Lib.cell_of_heap hw' 3; have k4 := Lib.cell_of_heap hw' 4; have k5 := Lib.cell_of_heap hw' 5
        go_simp
        all_goals with_reducible rfl
      try simp only [Act.put, List.setIfInBounds_toArray, List.set_cons_zero, List.set_cons_succ]
      refine wpAnyH_take (i := 6) (oi := ⟨some 38, _, _, _, _, _⟩) (v := ?_) rfl (by kernel_rfl) (by kernel_rfl) (by kernel_rfl) (fun _ _ _ h => h) (Or.inl ⟨by rfl, ?_⟩) hS ?_
      rotate_left 1
      · intro w' hw'
        have k0 := Lib.cell_of_heap hw' 0; have k1 := Lib.cell_of_heap hw' 1; have k2 := Lib.cell_of_heap hw' 2; have k3 := Lib.cell_of_heap hw' 3; have k4 := Lib.cell_of_heap hw' 4; have k5 := Lib.cell_of_heap hw' 5
        go_simp
        all_goals with_reducible rfl
      try simp only [Act.put, List.setIfInBounds_toArray, List.set_cons_zero, List.set_cons_succ]
      refine wpAnyH_take (i := 7) (oi := ⟨some 39, _, _, _, _, _⟩) (v := ?_) rfl (by kernel_rfl) (by kernel_rfl) (by kernel_rfl) (fun _ _ _ h => h) (Or.inl ⟨by rfl, ?_⟩) hS ?_
      rotate_left 1
      · intro w' hw'
        have k0 := Lib.cell_of_heap hw' 0; have k1 := Lib.cell_of_heap hw' 1; have k2 := Lib.cell_of_heap hw' 2; have k3 := Lib.cell_of_heap hw' 3; have k4 := Lib.cell_of_heap hw' 4; have k5 := Lib.cell_of_heap hw' 5
        go_simp
        all_goals with_reducible rfl
      try simp only [Act.put, List.setIfInBounds_toArray, List.set_cons_zero, List.set_cons_succ]
      refine wpAnyH_take (i := 9) (oi := ⟨some 41, _, _, _, _, _⟩) (v := ?_) rfl (by kernel_rfl) (by kernel_rfl) (by kernel_rfl) (fun _ _ _ h => h) (Or.inl ⟨by rfl, ?_⟩) hS ?_
      rotate_left 1
      · intro w' hw'
        have k0 := Lib.cell_of_heap hw' 0; have k1 := Lib.cell_of_heap hw' 1; have k2 := Lib.cell_of_heap hw' 2; have k3 := Lib.cell_of_heap hw' 3; have k4 := Lib.cell_of_heap hw' 4; have k5 := Lib.cell_of_heap hw' 5
        go_simp
        all_goals with_reducible rfl
      try simp only [Act.put, List.setIfInBounds_toArray, List.set_cons_zero, List.set_cons_succ]
      refine wpAnyH_ready (rs := [8]) (by kernel_rfl) (by simp) ?_
      refine AllReadyH.cons (o := ⟨some 40, _, _, _, _, _⟩) rfl (fun K hK => ?_) AllReadyH.nil
      go_simp
      go_at_call 16
      refine (HSf.out _ HB2.out).mono ?_
      rintro e w3 ⟨rfl, hb3⟩
      have HB3 := hide (then_below HB2.out hb3)
      clear hb3
      refine hK.out _ _ ((HH.out.below HB3.out).box) (fun hS => ?_)
      clear hK K
      try simp only [Act.put, List.setIfInBounds_toArray, List.set_cons_zero, List.set_cons_succ]
      refine wpAnyH_ready (rs := [10]) (by kernel_rfl) (by simp) ?_
      refine AllReadyH.cons (o := ⟨some 42, _, _, _, _, _⟩) rfl (fun K hK => ?_) AllReadyH.nil
      go_simp
      refine hK.out _ _ hS (fun hS => ?_)
      clear hK K
      try simp only [Act.put, List.setIfInBounds_toArray, List.set_cons_zero, List.set_cons_succ]
      refine wpAnyH_done (by kernel_rfl) ?_ _
      go_wp2_with fail
      go_ret
      exact res_mk HQ.out rfl (HH.out.below HB3.out) (LTurn.of_below HB3.out)
/-- A new log begins. -/
def beginR (p : PD) (L : LV) : Int × PD × LV := if (emptyR p L 1).1 = 0 then rewR (emptyR p L 1).2.1 L 0 1 [] else emptyR p L 1
set_option maxHeartbeats 3200000 in
set_option maxRecDepth 100000 in
theorem begin_any {base h g : Nat} {L : LV} {D : DS} (w : World) (H : LogAt base h g w L D) (hO : D.p.Ok) (hd : D.p.done ≤ 999999998000) (hT : Tab w) (hTo : Off h g D 0) :
    Calls Tryd.prog 62 #[vD h] w (LRes base h g D w (beginR D.p L)) := by
  have HE := hide (empty_any 1 w H hO (by omega) (by omega))
  have HEL := emptyR_L D.p L 1
  obtain ⟨ho1, -, hd1⟩ := emptyR_ok hO L 1
  have HO1 := hide ho1
  have HD1 := hide (show (emptyR D.p L 1).2.1.done ≤ 999999998001 by omega)
  have HR := hide (show beginR D.p L = if (emptyR D.p L 1).1 = 0 then rewR (emptyR D.p L 1).2.1 L 0 1 [] else emptyR D.p L 1 from rfl)
  have HTf := hide (And.intro hT hTo)
  unfold LRes at HE
  rw [show ((1 : Nat) : Int) = 1 from rfl] at HE
  generalize beginR D.p L = r at *
  generalize emptyR D.p L 1 = er at *
  obtain ⟨e1, p1, L1⟩ := er
  simp only at HE HEL HR HO1 HD1
  subst HEL
  clear H hO hd hT hTo ho1 hd1
  by_cases h1 : e1 = 0
  · have HQ := hide (show r = rewR p1 L1 0 1 [] by rw [HR.out, if_pos h1])
    subst h1
    clear HR
    go_enter Tryd.func62, Tryd.ntmps62
    go_wp2_with fail
    refine HE.out.mono ?_
    rintro e w1 ⟨rfl, D1, rfl, hL1, ht1⟩
    have HT1 := hide ht1
    have HRw := hide (rewrite_any 0 1 none 0 [] w1 hL1 HO1.out (by have := HD1.out; omega) (by omega) ⟨by omega, by omega⟩ (BytesIn.nil _ _ _) (HTf.out.1.turn ht1 HTf.out.2) (ht1.off _ HTf.out.2 HTf.out.1.lt).1 (by simp))
    unfold LRes at HRw
    rw [show ((0 : Nat) : Int) = 0 from rfl, show ([] : List UInt8).length = 0 from rfl] at HRw
    generalize rewR D1.p L1 0 1 [] = r2 at *
    obtain ⟨e2, p2, L2⟩ := r2
    clear hL1 ht1 HE
    go_wp2_with fail
    refine HRw.out.mono ?_
    rintro e w2 ⟨rfl, D2, rfl, hL2, ht2⟩
    have HA := hide (And.intro hL2 (HT1.out.trans ht2))
    clear hL2 ht2
    go_wp2_with fail
    go_ret
    exact res_mk HQ.out rfl HA.out.1 HA.out.2
  · have HQ := hide (show r = (e1, p1, L1) by rw [HR.out, if_neg h1])
    have hb := ne_b h1
    clear HR h1
    go_enter Tryd.func62, Tryd.ntmps62
    go_wp2_with fail
    refine HE.out.mono ?_
    rintro e w1 ⟨rfl, D1, rfl, hL1, ht1⟩
    have HA := hide (And.intro hL1 ht1)
    clear hL1 ht1
    go_wp2_with fail
    go_ret
    exact res_mk HQ.out rfl HA.out.1 HA.out.2
/-- The files are set up. -/
def prepR (p : PD) (L : LV) : Int × PD × LV := if L.gen = 0 then beginR p L else if (trimR p L).1 = 0 then emptyR (trimR p L).2.1 L (1 - L.f) else trimR p L
set_option maxHeartbeats 3200000 in
set_option maxRecDepth 100000 in
theorem prepare_any {base h g : Nat} {L : LV} {D : DS} (w : World) (H : LogAt base h g w L D) (hO : D.p.Ok) (hd : D.p.done ≤ 999999998000) (hf : L.f < 2) (hT : Tab w) (hTo : Off h g D 0) :
    Calls Tryd.prog 42 #[vD h] w (LRes base h g D w (prepR D.p L)) := by
  obtain ⟨c0, c1, c2, c3, c4, c5⟩ := H.cells
  have HR := hide (show prepR D.p L = if L.gen = 0 then beginR D.p L else if (trimR D.p L).1 = 0 then emptyR (trimR D.p L).2.1 L (1 - L.f) else trimR D.p L from rfl)
  generalize prepR D.p L = r at *
  by_cases h0 : L.gen = 0
  · have HBg := hide (begin_any w H hO hd hT hTo)
    unfold LRes at HBg
    have HQ := hide (show r = beginR D.p L by rw [HR.out, if_pos h0])
    rw [h0] at c2
    clear H hO hd hf hT hTo HR h0
    generalize beginR D.p L = r2 at *
    obtain ⟨e2, p2, L2⟩ := r2
    go_enter Tryd.func42, Tryd.ntmps42
    go_wp2_with fail
    refine HBg.out.mono ?_
    rintro e w2 ⟨rfl, D2, rfl, hL2, ht2⟩
    have HA := hide (And.intro hL2 ht2)
    clear hL2 ht2
    go_wp2_with fail
    go_ret
    exact res_mk HQ.out rfl HA.out.1 HA.out.2
  · have HTr := hide (trim_any w H hO (by omega) (by omega))
    have HTL := trimR_L D.p L
    obtain ⟨ho1, -, hd1⟩ := trimR_ok hO L
    have HO1 := hide ho1
    have HD1 := hide (show (trimR D.p L).2.1.done ≤ 999999998001 by omega)
    rw [if_neg h0] at HR
    have hb0 : (L.gen == 0) = false := by rw [beq_eq_false_iff_ne]; exact h0
    have HOt := hide (fun w' => other_any L.f w' hf)
    unfold LRes at HTr
    generalize trimR D.p L = er at *
    obtain ⟨e1, p1, L1⟩ := er
    simp only at HTr HTL HR HO1 HD1
    subst HTL
    clear hO hd hT hTo ho1 hd1 h0 H
    have HF := hide hf
    clear hf
    by_cases h1 : e1 = 0
    · have HQ := hide (show r = emptyR p1 L1 (1 - L1.f) by rw [HR.out, if_pos h1])
      subst h1
      clear HR
      go_enter Tryd.func42, Tryd.ntmps42
      go_wp2_with fail
      refine HTr.out.mono ?_
      rintro e w1 ⟨rfl, D1, rfl, hL1, ht1⟩
      have HT1 := hide ht1
      have HE1 := hide (empty_any (1 - L1.f) w1 hL1 HO1.out (by have := HD1.out; omega) (by omega))
      unfold LRes at HE1
      obtain ⟨m0, m1, m2, m3, m4, m5⟩ := hL1.cells
      generalize emptyR D1.p L1 (1 - L1.f) = r2 at *
      obtain ⟨e2, p2, L2⟩ := r2
      clear hL1 ht1 HTr c0 c1 c2 c3 c4 c5
      go_wp2_with fail
      refine (HOt.out w1).mono ?_
      rintro e w2 ⟨rfl, rfl⟩
      go_wp2_with fail
      refine HE1.out.mono ?_
      rintro e w3 ⟨rfl, D2, rfl, hL2, ht2⟩
      have HA := hide (And.intro hL2 (HT1.out.trans ht2))
      clear hL2 ht2
      go_wp2_with fail
      go_ret
      exact res_mk HQ.out rfl HA.out.1 HA.out.2
    · have HQ := hide (show r = (e1, p1, L1) by rw [HR.out, if_neg h1])
      have hb := ne_b h1
      clear HR h1
      go_enter Tryd.func42, Tryd.ntmps42
      go_wp2_with fail
      refine HTr.out.mono ?_
      rintro e w1 ⟨rfl, D1, rfl, hL1, ht1⟩
      have HA := hide (And.intro hL1 ht1)
      clear hL1 ht1
      go_wp2_with fail
      go_ret
      exact res_mk HQ.out rfl HA.out.1 HA.out.2
end Go.Proofs.YtkdebebpnkjmdaaDoor
