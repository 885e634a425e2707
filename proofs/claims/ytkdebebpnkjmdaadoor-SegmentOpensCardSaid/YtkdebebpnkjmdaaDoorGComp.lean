/-
  The log's calls: Compact.
-/
import Derived.Test.YtkdebebpnkjmdaaDoorGCall
namespace Go.Proofs.YtkdebebpnkjmdaaDoor
open Go.RowKit

/-- The checkpoint and all groups are replaced. -/
def compR (p : PD) (L : LV) (cp : List UInt8) : Int × PD × LV :=
  if (rewR p L (1 - L.f) (L.gen + 1) cp).1 = 0 then (ctE (rewR p L (1 - L.f) (L.gen + 1) cp).2.1 L.f 0, ctP (rewR p L (1 - L.f) (L.gen + 1) cp).2.1 L.f 0, (rewR p L (1 - L.f) (L.gen + 1) cp).2.2) else rewR p L (1 - L.f) (L.gen + 1) cp
theorem rewS_ok {p : PD} (h : p.Ok) (L : LV) (f : Nat) (gen : Int) (cp : List UInt8) : (rewS p L f gen cp).2.1.Ok ∧ p.done ≤ (rewS p L f gen cp).2.1.done ∧ (rewS p L f gen cp).2.1.done ≤ p.done + 1 := by
  unfold rewS
  split <;> exact ⟨syn_okG h _, syn_done p _⟩
theorem rewA_ok {p : PD} (h : p.Ok) (L : LV) (f : Nat) (gen : Int) (cp : List UInt8) : (rewA p L f gen cp).2.1.Ok ∧ p.done ≤ (rewA p L f gen cp).2.1.done ∧ (rewA p L f gen cp).2.1.done ≤ p.done + 2 := by
  unfold rewA
  have h1 := app_done p f (headB gen cp)
  split
  · have h2 := rewS_ok (app_ok h f (headB gen cp)) L f gen cp
    exact ⟨h2.1, by omega, by omega⟩
  · exact ⟨app_ok h _ _, h1.1, by show (appP p f (headB gen cp)).done ≤ _; omega⟩
theorem rewR_ok {p : PD} (h : p.Ok) (L : LV) (f : Nat) (gen : Int) (cp : List UInt8) : (rewR p L f gen cp).2.1.Ok ∧ p.done ≤ (rewR p L f gen cp).2.1.done ∧ (rewR p L f gen cp).2.1.done ≤ p.done + 3 := by
  unfold rewR
  have h1 := emptyR_ok h L f
  split
  · have h2 := rewA_ok h1.1 L f gen cp
    exact ⟨h2.1, by omega, by omega⟩
  · exact ⟨h1.1, h1.2.1, by omega⟩
set_option maxHeartbeats 3200000 in
set_option maxRecDepth 100000 in
theorem compC_any {base h g : Nat} {L : LV} {D : DS} (b1 b2 : Nat) (A : Option Addr) (c : Nat) (cp : List UInt8) (w : World) (H : LogAt base h g w L D) (hO : D.p.Ok) (hd : D.p.done ≤ 999999998000) (hf : L.f < 2) (hT : Tab w) (hTo : Off h g D 0) (hg0 : 0 ≤ L.gen) (hg1 : L.gen ≤ 1000000000000)
    (hk1 : w.heap[b1]? = some (.cells #[vD h] 32 (0, 0))) (hk2 : w.heap[b2]? = some (.cells #[.slice A cp.length c] 22 (0, 0))) (ho1 : Off h g D b1) (ho2 : Off h g D b2)
    (hB : BytesIn (Off h g D) w A cp) (hl : cp.length ≤ 1073741824) :
    Calls Tryd.prog 53 #[.pointer (some ⟨b1, 0, none⟩), .pointer (some ⟨b2, 0, none⟩)] w (LRes base h g D w (compR D.p L cp)) := by
  have HH := hide H
  have HR := hide (show compR D.p L cp = if (rewR D.p L (1 - L.f) (L.gen + 1) cp).1 = 0 then (ctE (rewR D.p L (1 - L.f) (L.gen + 1) cp).2.1 L.f 0, ctP (rewR D.p L (1 - L.f) (L.gen + 1) cp).2.1 L.f 0, (rewR D.p L (1 - L.f) (L.gen + 1) cp).2.2) else rewR D.p L (1 - L.f) (L.gen + 1) cp from rfl)
  have hmn : min L.gen 9223372036854775806 = L.gen := by omega
  have HA1 := hide (show Calls Tryd.prog 54 #[vD h, .int .i64 (1 - L.f : Nat), .int .i64 (min L.gen 9223372036854775806 + 1), .slice A cp.length c] w.drew (LRes base h g D w.drew (rewR D.p L (1 - L.f) (L.gen + 1) cp)) by rw [hmn]; exact rewrite_any (1 - L.f) (L.gen + 1) A c cp w.drew (H.below (Below.refl _ _).drew) hO (by omega) (by omega) ⟨by omega, by omega⟩ (hB.below (Below.refl _ _).drew) (hT.on (Below.refl _ _).drew) hTo hl)
  have hm0 : 0 ≤ min L.gen 9223372036854775806 := by omega
  have hm1 : min L.gen 9223372036854775806 ≤ 1000000000000 := by omega
  clear hmn
  unfold LRes at HA1
  have HOt := hide (fun w' => other_any L.f w' hf)
  obtain ⟨ho3, -, hd3⟩ := rewR_ok hO L (1 - L.f) (L.gen + 1) cp
  have HO3 := hide ho3
  have HD3 := hide (show (rewR D.p L (1 - L.f) (L.gen + 1) cp).2.1.done ≤ 999999998003 by omega)
  have HK1 := hide (And.intro (block_lt hk1) hk1)
  have HK2 := hide (And.intro (block_lt hk2) hk2)
  have HO1 := hide ho1
  have HO2 := hide ho2
  have HF := hide hf
  have q1 := Lib.cell_of_heap hk1 0
  have q2 := Lib.cell_of_heap hk2 0
  obtain ⟨c0, c1, c2, c3, c4, c5⟩ := H.cells
  clear H hO hd hk1 hk2 hT hTo hB hl ho3 hd3 c0 c3 c4 c5 hf hg0
  generalize compR D.p L cp = r at *
  generalize rewR D.p L (1 - L.f) (L.gen + 1) cp = r1 at *
  obtain ⟨e1, p1, L1⟩ := r1
  simp only at HR HA1 HO3 HD3
  by_cases h1 : e1 = 0
  · have HQ := hide (HR.out.trans (if_pos h1))
    subst h1
    clear HR
    go_enter Tryd.func53, Tryd.ntmps53
    go_upto_region 3 with fail
    refine wp_region_held_drew (S := fun w' => w'.heap[b1]? = some (.cells #[vD h] 32 (0, 0)) ∧ w'.heap[b2]? = some (.cells #[.slice A cp.length c] 22 (0, 0))) (by kernel_rfl) (⟨((Below.refl w.heap.size w).drew.block _ HK1.out.1).trans HK1.out.2, ((Below.refl w.heap.size w).drew.block _ HK2.out.1).trans HK2.out.2⟩) (fun hS => ?_)
    refine wpAnyH_take (i := 0) (oi := ⟨some 16, _, _, _, _, _⟩) (v := ?_) rfl (by kernel_rfl) (by kernel_rfl) (by kernel_rfl) (fun _ _ _ h => h) (Or.inl ⟨by rfl, ?_⟩) hS ?_
    rotate_left 1
    · intro w' hw'
      have k0 := Lib.cell_of_heap hw'.1 0; have k1 := Lib.cell_of_heap hw'.2 0
      go_simp
      all_goals with_reducible rfl
    try simp only [Act.put, List.setIfInBounds_toArray, List.set_cons_zero, List.set_cons_succ]
    refine wpAnyH_take (i := 1) (oi := ⟨some 17, _, _, _, _, _⟩) (v := ?_) rfl (by kernel_rfl) (by kernel_rfl) (by kernel_rfl) (fun _ _ _ h => h) (Or.inl ⟨by rfl, ?_⟩) hS ?_
    rotate_left 1
    · intro w' hw'
      have k0 := Lib.cell_of_heap hw'.1 0; have k1 := Lib.cell_of_heap hw'.2 0
      go_simp
      all_goals with_reducible rfl
    try simp only [Act.put, List.setIfInBounds_toArray, List.set_cons_zero, List.set_cons_succ]
    refine wpAnyH_take (i := 3) (oi := ⟨some 19, _, _, _, _, _⟩) (v := ?_) rfl (by kernel_rfl) (by kernel_rfl) (by kernel_rfl) (fun _ _ _ h => h) (Or.inl ⟨by rfl, ?_⟩) hS ?_
    rotate_left 1
    · intro w' hw'
      have k0 := Lib.cell_of_heap hw'.1 0; have k1 := Lib.cell_of_heap hw'.2 0
      go_simp
      all_goals with_reducible rfl
    try simp only [Act.put, List.setIfInBounds_toArray, List.set_cons_zero, List.set_cons_succ]
    refine wpAnyH_take (i := 4) (oi := ⟨some 20, _, _, _, _, _⟩) (v := ?_) rfl (by kernel_rfl) (by kernel_rfl) (by kernel_rfl) (fun _ _ _ h => h) (Or.inl ⟨by rfl, ?_⟩) hS ?_
    rotate_left 1
    · intro w' hw'
      have k0 := Lib.cell_of_heap hw'.1 0; have k1 := Lib.cell_of_heap hw'.2 0
      go_simp
      all_goals with_reducible rfl
    try simp only [Act.put, List.setIfInBounds_toArray, List.set_cons_zero, List.set_cons_succ]
    refine wpAnyH_ready (rs := [2]) (by kernel_rfl) (by simp) ?_
    refine AllReadyH.cons (o := ⟨some 18, _, _, _, _, _⟩) rfl (fun K hK => ?_) AllReadyH.nil
    go_simp
    go_at_call 55
    refine (HOt.out _).mono ?_
    rintro e w2 ⟨rfl, rfl⟩
    refine hK.out _ _ (hS) (fun hS => ?_)
    clear hK K
    try simp only [Act.put, List.setIfInBounds_toArray, List.set_cons_zero, List.set_cons_succ]
    refine wpAnyH_ready (rs := [5]) (by kernel_rfl) (by simp) ?_
    refine AllReadyH.cons (o := ⟨some 21, _, _, _, _, _⟩) rfl (fun K hK => ?_) AllReadyH.nil
    go_simp
    go_at_call 54
    refine HA1.out.mono ?_
    rintro e w2 ⟨rfl, D2, rfl, hL2, hT2⟩
    have HL2 := hide hL2
    have HT2 := hide ((LTurn.of_below (h := h) (Below.refl w.heap.size w).drew).trans hT2)
    have HX2 := hide ((HT2.out.off b1 HO1.out HK1.out.1).2.trans HK1.out.2)
    have HX3 := hide ((HT2.out.off b2 HO2.out HK2.out.1).2.trans HK2.out.2)
    clear hL2 hT2
    refine hK.out _ _ (⟨HX2.out, HX3.out⟩) (fun hS => ?_)
    clear hK K
    try simp only [Act.put, List.setIfInBounds_toArray, List.set_cons_zero, List.set_cons_succ]
    refine wpAnyH_ready (rs := [6]) (by kernel_rfl) (by simp) ?_
    refine AllReadyH.cons (o := ⟨some 5, _, _, _, _, _⟩) rfl (fun K hK => ?_) AllReadyH.nil
    go_simp
    refine hK.out _ _ hS (fun hS => ?_)
    clear hK K
    try simp only [Act.put, List.setIfInBounds_toArray, List.set_cons_zero, List.set_cons_succ]
    refine wpAnyH_done (by kernel_rfl) ?_ _
    obtain ⟨m0, m1, m2, m3, m4, m5⟩ := HL2.out.cells
    have n1 := Lib.cell_of_heap HX2.out 0
    have HCt := hide (cut_any L.f 0 w2 HL2.out.disk HO3.out (by have := HD3.out; omega))
    generalize ctE D2.p L.f 0 = ce at *
    generalize ctP D2.p L.f 0 = cq at *
    clear hS c1 c2 q1 q2 HA1
    go_wp2_with fail
    refine HCt.out.mono ?_
    rintro e w3 ⟨rfl, D3, rfl, hD3, hT3⟩
    have HA := hide (And.intro (HL2.out.turn hD3 hT3) (HT2.out.trans (LTurn.of_turned hT3)))
    clear hD3 hT3
    go_wp2_with fail
    go_ret
    exact res_mk HQ.out rfl HA.out.1 HA.out.2
  · have HQ := hide (show r = (e1, p1, L1) by rw [HR.out, if_neg h1])
    have hb := ne_b h1
    clear HR h1
    go_enter Tryd.func53, Tryd.ntmps53
    go_upto_region 3 with fail
    refine wp_region_held_drew (S := fun w' => w'.heap[b1]? = some (.cells #[vD h] 32 (0, 0)) ∧ w'.heap[b2]? = some (.cells #[.slice A cp.length c] 22 (0, 0))) (by kernel_rfl) (⟨((Below.refl w.heap.size w).drew.block _ HK1.out.1).trans HK1.out.2, ((Below.refl w.heap.size w).drew.block _ HK2.out.1).trans HK2.out.2⟩) (fun hS => ?_)
    refine wpAnyH_take (i := 0) (oi := ⟨some 16, _, _, _, _, _⟩) (v := ?_) rfl (by kernel_rfl) (by kernel_rfl) (by kernel_rfl) (fun _ _ _ h => h) (Or.inl ⟨by rfl, ?_⟩) hS ?_
    rotate_left 1
    · intro w' hw'
      have k0 := Lib.cell_of_heap hw'.1 0; have k1 := Lib.cell_of_heap hw'.2 0
      go_simp
      all_goals with_reducible rfl
    try simp only [Act.put, List.setIfInBounds_toArray, List.set_cons_zero, List.set_cons_succ]
    refine wpAnyH_take (i := 1) (oi := ⟨some 17, _, _, _, _, _⟩) (v := ?_) rfl (by kernel_rfl) (by kernel_rfl) (by kernel_rfl) (fun _ _ _ h => h) (Or.inl ⟨by rfl, ?_⟩) hS ?_
    rotate_left 1
    · intro w' hw'
      have k0 := Lib.cell_of_heap hw'.1 0; have k1 := Lib.cell_of_heap hw'.2 0
      go_simp
      all_goals with_reducible rfl
    try simp only [Act.put, List.setIfInBounds_toArray, List.set_cons_zero, List.set_cons_succ]
    refine wpAnyH_take (i := 3) (oi := ⟨some 19, _, _, _, _, _⟩) (v := ?_) rfl (by kernel_rfl) (by kernel_rfl) (by kernel_rfl) (fun _ _ _ h => h) (Or.inl ⟨by rfl, ?_⟩) hS ?_
    rotate_left 1
    · intro w' hw'
      have k0 := Lib.cell_of_heap hw'.1 0; have k1 := Lib.cell_of_heap hw'.2 0
      go_simp
      all_goals with_reducible rfl
    try simp only [Act.put, List.setIfInBounds_toArray, List.set_cons_zero, List.set_cons_succ]
    refine wpAnyH_take (i := 4) (oi := ⟨some 20, _, _, _, _, _⟩) (v := ?_) rfl (by kernel_rfl) (by kernel_rfl) (by kernel_rfl) (fun _ _ _ h => h) (Or.inl ⟨by rfl, ?_⟩) hS ?_
    rotate_left 1
    · intro w' hw'
      have k0 := Lib.cell_of_heap hw'.1 0; have k1 := Lib.cell_of_heap hw'.2 0
      go_simp
      all_goals with_reducible rfl
    try simp only [Act.put, List.setIfInBounds_toArray, List.set_cons_zero, List.set_cons_succ]
    refine wpAnyH_ready (rs := [2]) (by kernel_rfl) (by simp) ?_
    refine AllReadyH.cons (o := ⟨some 18, _, _, _, _, _⟩) rfl (fun K hK => ?_) AllReadyH.nil
    go_simp
    go_at_call 55
    refine (HOt.out _).mono ?_
    rintro e w2 ⟨rfl, rfl⟩
    refine hK.out _ _ (hS) (fun hS => ?_)
    clear hK K
    try simp only [Act.put, List.setIfInBounds_toArray, List.set_cons_zero, List.set_cons_succ]
    refine wpAnyH_ready (rs := [5]) (by kernel_rfl) (by simp) ?_
    refine AllReadyH.cons (o := ⟨some 21, _, _, _, _, _⟩) rfl (fun K hK => ?_) AllReadyH.nil
    go_simp
    go_at_call 54
    refine HA1.out.mono ?_
    rintro e w2 ⟨rfl, D2, rfl, hL2, hT2⟩
    have HL2 := hide hL2
    have HT2 := hide ((LTurn.of_below (h := h) (Below.refl w.heap.size w).drew).trans hT2)
    have HX2 := hide ((HT2.out.off b1 HO1.out HK1.out.1).2.trans HK1.out.2)
    have HX3 := hide ((HT2.out.off b2 HO2.out HK2.out.1).2.trans HK2.out.2)
    clear hL2 hT2
    refine hK.out _ _ (⟨HX2.out, HX3.out⟩) (fun hS => ?_)
    clear hK K
    try simp only [Act.put, List.setIfInBounds_toArray, List.set_cons_zero, List.set_cons_succ]
    refine wpAnyH_ready (rs := [6]) (by kernel_rfl) (by simp) ?_
    refine AllReadyH.cons (o := ⟨some 5, _, _, _, _, _⟩) rfl (fun K hK => ?_) AllReadyH.nil
    go_simp
    refine hK.out _ _ hS (fun hS => ?_)
    clear hK K
    try simp only [Act.put, List.setIfInBounds_toArray, List.set_cons_zero, List.set_cons_succ]
    refine wpAnyH_done (by kernel_rfl) ?_ _
    clear hS c1 c2 q1 q2 HA1
    go_wp2_with fail
    go_ret
    exact res_mk HQ.out rfl HL2.out HT2.out
end Go.Proofs.YtkdebebpnkjmdaaDoor
