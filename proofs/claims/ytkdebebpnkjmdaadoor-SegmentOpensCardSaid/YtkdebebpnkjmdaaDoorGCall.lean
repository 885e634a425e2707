/-
  The log's calls: Append, Sync, Commit, Compact.
-/
import Derived.Test.YtkdebebpnkjmdaaDoorGPrep
namespace Go.Proofs.YtkdebebpnkjmdaaDoor
open Go.RowKit

/-- While the power is there. -/
def powR (p : PD) (L : LV) (r : Int × PD × LV) : Int × PD × LV := if L.down = true then (40, p, L) else (r.1, r.2.1, ⟨r.2.2.f, r.2.2.gen, r.2.2.size, r.2.2.loose, r.1 == 40⟩)
set_option maxHeartbeats 3200000 in
set_option maxRecDepth 100000 in
theorem powA_any {base h g : Nat} {L : LV} {D : DS} {r : Int × PD × LV} (k0 k1 : Value) (w : World) (H : LogAt base h g w L D) (hc : L.down = false → Calls Tryd.prog 50 #[k0, k1] w (LRes base h g D w r)) :
    Calls Tryd.prog 49 #[vD h, .func (.func 50) #[] #[k0, k1]] w (LRes base h g D w (powR D.p L r)) := by
  obtain ⟨c0, c1, c2, c3, c4, c5⟩ := H.cells
  have HH := hide H
  have HR := hide (show powR D.p L r = if L.down = true then (40, D.p, L) else (r.1, r.2.1, ⟨r.2.2.f, r.2.2.gen, r.2.2.size, r.2.2.loose, r.1 == 40⟩) from rfl)
  generalize powR D.p L r = q at *
  clear H c0 c1 c2 c3 c4
  cases hdn : L.down
  · have HC := hide (hc hdn)
    have HQ := hide (show q = (r.1, r.2.1, (⟨r.2.2.f, r.2.2.gen, r.2.2.size, r.2.2.loose, r.1 == 40⟩ : LV)) by rw [HR.out, if_neg (by rw [hdn]; decide)])
    rw [hdn] at c5
    unfold LRes at HC
    obtain ⟨e1, p1, L1⟩ := r
    clear hc HR hdn
    go_enter Tryd.func49, Tryd.ntmps49
    go_wp2_with fail
    go_at_call 50
    refine HC.out.mono ?_
    rintro e w1 ⟨rfl, D1, rfl, hL1, ht1⟩
    have HL1 := hide hL1
    have HT1 := hide ht1
    obtain ⟨m0, m1, m2, m3, m4, m5⟩ := hL1.cells
    have hlt := hL1.lt
    have f5 := hL1.frozen 5
    have HZ := hide (hL1.set 5 (.bool (e1 == 40)) ⟨L1.f, L1.gen, L1.size, L1.loose, e1 == 40⟩ rfl)
    clear hL1 ht1 c5
    go_wp2_with fail
    go_ret
    exact res_mk HQ.out rfl HZ.out.1 (HT1.out.trans HZ.out.2)
  · have HQ := hide (show q = (40, D.p, L) by rw [HR.out, if_pos hdn])
    rw [hdn] at c5
    clear hc HR hdn
    go_enter Tryd.func49, Tryd.ntmps49
    go_wp2_with fail
    go_ret
    exact res_mk HQ.out rfl HH.out (LTurn.of_below (Below.refl _ _))
set_option maxHeartbeats 3200000 in
set_option maxRecDepth 100000 in
theorem powS_any {base h g : Nat} {L : LV} {D : DS} {r : Int × PD × LV} (k0 : Value) (w : World) (H : LogAt base h g w L D) (hc : L.down = false → Calls Tryd.prog 51 #[k0] w (LRes base h g D w r)) :
    Calls Tryd.prog 49 #[vD h, .func (.func 51) #[] #[k0]] w (LRes base h g D w (powR D.p L r)) := by
  obtain ⟨c0, c1, c2, c3, c4, c5⟩ := H.cells
  have HH := hide H
  have HR := hide (show powR D.p L r = if L.down = true then (40, D.p, L) else (r.1, r.2.1, ⟨r.2.2.f, r.2.2.gen, r.2.2.size, r.2.2.loose, r.1 == 40⟩) from rfl)
  generalize powR D.p L r = q at *
  clear H c0 c1 c2 c3 c4
  cases hdn : L.down
  · have HC := hide (hc hdn)
    have HQ := hide (show q = (r.1, r.2.1, (⟨r.2.2.f, r.2.2.gen, r.2.2.size, r.2.2.loose, r.1 == 40⟩ : LV)) by rw [HR.out, if_neg (by rw [hdn]; decide)])
    rw [hdn] at c5
    unfold LRes at HC
    obtain ⟨e1, p1, L1⟩ := r
    clear hc HR hdn
    go_enter Tryd.func49, Tryd.ntmps49
    go_wp2_with fail
    go_at_call 51
    refine HC.out.mono ?_
    rintro e w1 ⟨rfl, D1, rfl, hL1, ht1⟩
    have HL1 := hide hL1
    have HT1 := hide ht1
    obtain ⟨m0, m1, m2, m3, m4, m5⟩ := hL1.cells
    have hlt := hL1.lt
    have f5 := hL1.frozen 5
    have HZ := hide (hL1.set 5 (.bool (e1 == 40)) ⟨L1.f, L1.gen, L1.size, L1.loose, e1 == 40⟩ rfl)
    clear hL1 ht1 c5
    go_wp2_with fail
    go_ret
    exact res_mk HQ.out rfl HZ.out.1 (HT1.out.trans HZ.out.2)
  · have HQ := hide (show q = (40, D.p, L) by rw [HR.out, if_pos hdn])
    rw [hdn] at c5
    clear hc HR hdn
    go_enter Tryd.func49, Tryd.ntmps49
    go_wp2_with fail
    go_ret
    exact res_mk HQ.out rfl HH.out (LTurn.of_below (Below.refl _ _))
set_option maxHeartbeats 3200000 in
set_option maxRecDepth 100000 in
theorem powC_any {base h g : Nat} {L : LV} {D : DS} {r : Int × PD × LV} (k0 k1 : Value) (w : World) (H : LogAt base h g w L D) (hc : L.down = false → Calls Tryd.prog 53 #[k0, k1] w (LRes base h g D w r)) :
    Calls Tryd.prog 49 #[vD h, .func (.func 53) #[] #[k0, k1]] w (LRes base h g D w (powR D.p L r)) := by
  obtain ⟨c0, c1, c2, c3, c4, c5⟩ := H.cells
  have HH := hide H
  have HR := hide (show powR D.p L r = if L.down = true then (40, D.p, L) else (r.1, r.2.1, ⟨r.2.2.f, r.2.2.gen, r.2.2.size, r.2.2.loose, r.1 == 40⟩) from rfl)
  generalize powR D.p L r = q at *
  clear H c0 c1 c2 c3 c4
  cases hdn : L.down
  · have HC := hide (hc hdn)
    have HQ := hide (show q = (r.1, r.2.1, (⟨r.2.2.f, r.2.2.gen, r.2.2.size, r.2.2.loose, r.1 == 40⟩ : LV)) by rw [HR.out, if_neg (by rw [hdn]; decide)])
    rw [hdn] at c5
    unfold LRes at HC
    obtain ⟨e1, p1, L1⟩ := r
    clear hc HR hdn
    go_enter Tryd.func49, Tryd.ntmps49
    go_wp2_with fail
    go_at_call 53
    refine HC.out.mono ?_
    rintro e w1 ⟨rfl, D1, rfl, hL1, ht1⟩
    have HL1 := hide hL1
    have HT1 := hide ht1
    obtain ⟨m0, m1, m2, m3, m4, m5⟩ := hL1.cells
    have hlt := hL1.lt
    have f5 := hL1.frozen 5
    have HZ := hide (hL1.set 5 (.bool (e1 == 40)) ⟨L1.f, L1.gen, L1.size, L1.loose, e1 == 40⟩ rfl)
    clear hL1 ht1 c5
    go_wp2_with fail
    go_ret
    exact res_mk HQ.out rfl HZ.out.1 (HT1.out.trans HZ.out.2)
  · have HQ := hide (show q = (40, D.p, L) by rw [HR.out, if_pos hdn])
    rw [hdn] at c5
    clear hc HR hdn
    go_enter Tryd.func49, Tryd.ntmps49
    go_wp2_with fail
    go_ret
    exact res_mk HQ.out rfl HH.out (LTurn.of_below (Below.refl _ _))
/-- A group is appended. -/
def appR (p : PD) (L : LV) (rs : List (List UInt8)) : Int × PD × LV :=
  if rs.length = 0 then (0, p, L)
  else if appE p L.f (groupB rs).length = 0 then (0, appP p L.f (groupB rs), ⟨L.f, L.gen, L.size + (groupB rs).length, true, L.down⟩)
  else (appE p L.f (groupB rs).length, appP p L.f (groupB rs), L)
theorem block_lt {w : World} {b : Nat} {o : Obj} (h : w.heap[b]? = some o) : b < w.heap.size := (Array.getElem?_eq_some_iff.1 h).1
set_option maxHeartbeats 6400000 in
set_option maxRecDepth 100000 in
theorem appC_any {base h g : Nat} {L : LV} {D : DS} (b1 b2 : Nat) (A : Option Addr) (c : Nat) (rs : List BH) (w : World) (H : LogAt base h g w L D) (hO : D.p.Ok) (hd : D.p.done ≤ 999999998000) (hz : L.size ≤ 1073741824) (hT : Tab w)
    (hk1 : w.heap[b1]? = some (.cells #[vD h] 32 (0, 0))) (hk2 : w.heap[b2]? = some (.cells #[.slice A rs.length c] 46 (0, 0))) (ho1 : Off h g D b1)
    (hR : RecsIn (Off h g D) w A rs) (hl : rs.length ≤ 2000) (hm : ∀ j, j < rs.length → (rs.getD j dH).l.length ≤ 2000) :
    Calls Tryd.prog 50 #[.pointer (some ⟨b2, 0, none⟩), .pointer (some ⟨b1, 0, none⟩)] w (LRes base h g D w (appR D.p L (lsOf rs))) := by
  have HH := hide H
  have HGf := hide (groupFrame_any A c rs w hR hT hl hm)
  unfold OwnRes at HGf
  have hmm : ∀ r ∈ lsOf rs, r.length ≤ 2000 := fun r hr => by
    obtain ⟨j, hj, e⟩ := List.getElem_of_mem hr
    have h := hm j (by rw [lsOf_len] at hj; exact hj)
    rw [← lsOf_get (by rw [lsOf_len] at hj; exact hj), List.getD_eq_getElem?_getD, List.getElem?_eq_getElem hj, e] at h
    exact h
  have hgb := (groupB_bd (lsOf rs) 2000 hmm).2
  rw [lsOf_len] at hgb
  have hgm : (groupB (lsOf rs)).length ≤ 5000000 := by omega
  have HR := hide (show appR D.p L (lsOf rs) = if rs.length = 0 then (0, D.p, L) else if appE D.p L.f (groupB (lsOf rs)).length = 0 then (0, appP D.p L.f (groupB (lsOf rs)), (⟨L.f, L.gen, L.size + (groupB (lsOf rs)).length, true, L.down⟩ : LV)) else (appE D.p L.f (groupB (lsOf rs)).length, appP D.p L.f (groupB (lsOf rs)), L) by unfold appR; rw [lsOf_len])
  have HAp := hide (fun (B : Option Addr) (d : Nat) (w2 : World) (hb : Below w.heap.size w w2) (h1 : BytesAt w2.heap.size w2 B (groupB (lsOf rs))) (h2 : B = none → d = 0) => append_any L.f B d (groupB (lsOf rs)) w2 (H.disk.below hb) hO (by omega) h1 h2 (by omega))
  have HK1 := hide (And.intro (block_lt hk1) hk1)
  have HO1 := hide ho1
  have q1 := Lib.cell_of_heap hk1 0
  have q2 := Lib.cell_of_heap hk2 0
  clear hR hT hm hmm hgb H hO hd
  generalize appR D.p L (lsOf rs) = r at *
  generalize groupB (lsOf rs) = fb at *
  by_cases h0 : rs.length = 0
  · have HQ := hide (show r = (0, D.p, L) by rw [HR.out, if_pos h0])
    rw [h0] at q2
    clear HR HGf HAp h0 hk1 hk2
    go_enter Tryd.func50, Tryd.ntmps50
    go_wp2_with fail
    go_ret
    exact res_mk HQ.out rfl HH.out (LTurn.of_below (Below.refl _ _))
  · have hpos : 0 < rs.length := by omega
    rw [if_neg h0] at HR
    clear h0
    generalize hae : appE D.p L.f fb.length = ae at *
    generalize hap : appP D.p L.f fb = ap at *
    clear hae hap
    by_cases h1 : ae = 0
    · have HQ := hide (show r = (0, ap, (⟨L.f, L.gen, L.size + fb.length, true, L.down⟩ : LV)) by rw [HR.out, if_pos h1])
      subst h1
      clear HR hk1 hk2
      go_enter Tryd.func50, Tryd.ntmps50
      go_wp2_with fail
      refine HGf.out.mono ?_
      rintro e w1 ⟨v1, rfl, hr1, hb1⟩
      obtain ⟨A1, d1, rfl, hy1, -, hn1, -⟩ := bytes_of_row hr1
      have HB1 := hide hb1
      have HA1 := hide (HAp.out A1 d1 w1.drew hb1.drew (hy1.on (Below.refl _ _).drew) hn1)
      clear hr1 hy1 hn1 hb1 HAp HGf q1 q2
      go_upto_region 4 with fail
      refine wp_region_held_drew (S := fun w' => w'.heap[h]? = some (.cells (lCells g L) 86 (0, 0)) ∧ w'.heap[b1]? = some (.cells #[vD h] 32 (0, 0))) (by kernel_rfl) (⟨(HH.out.below HB1.out.drew).box, (HB1.out.drew.block _ HK1.out.1).trans HK1.out.2⟩) (fun hS => ?_)
      refine wpAnyH_take (i := 0) (oi := ⟨some 10, _, _, _, _, _⟩) (v := ?_) rfl (by kernel_rfl) (by kernel_rfl) (by kernel_rfl) (fun _ _ _ h => h) (Or.inl ⟨by rfl, ?_⟩) hS ?_
      rotate_left 1
      · intro w' hw'
        have k0 := Lib.cell_of_heap hw'.1 0; have k1 := Lib.cell_of_heap hw'.1 1; have k2 := Lib.cell_of_heap hw'.2 0
        go_simp
        all_goals with_reducible rfl
      try simp only [Act.put, List.setIfInBounds_toArray, List.set_cons_zero, List.set_cons_succ]
      refine wpAnyH_take (i := 1) (oi := ⟨some 11, _, _, _, _, _⟩) (v := ?_) rfl (by kernel_rfl) (by kernel_rfl) (by kernel_rfl) (fun _ _ _ h => h) (Or.inl ⟨by rfl, ?_⟩) hS ?_
      rotate_left 1
      · intro w' hw'
        have k0 := Lib.cell_of_heap hw'.1 0; have k1 := Lib.cell_of_heap hw'.1 1; have k2 := Lib.cell_of_heap hw'.2 0
        go_simp
        all_goals with_reducible rfl
      try simp only [Act.put, List.setIfInBounds_toArray, List.set_cons_zero, List.set_cons_succ]
      refine wpAnyH_take (i := 2) (oi := ⟨some 12, _, _, _, _, _⟩) (v := ?_) rfl (by kernel_rfl) (by kernel_rfl) (by kernel_rfl) (fun _ _ _ h => h) (Or.inl ⟨by rfl, ?_⟩) hS ?_
      rotate_left 1
      · intro w' hw'
        have k0 := Lib.cell_of_heap hw'.1 0; have k1 := Lib.cell_of_heap hw'.1 1; have k2 := Lib.cell_of_heap hw'.2 0
        go_simp
        all_goals with_reducible rfl
      try simp only [Act.put, List.setIfInBounds_toArray, List.set_cons_zero, List.set_cons_succ]
      refine wpAnyH_take (i := 3) (oi := ⟨some 13, _, _, _, _, _⟩) (v := ?_) rfl (by kernel_rfl) (by kernel_rfl) (by kernel_rfl) (fun _ _ _ h => h) (Or.inl ⟨by rfl, ?_⟩) hS ?_
      rotate_left 1
      · intro w' hw'
        have k0 := Lib.cell_of_heap hw'.1 0; have k1 := Lib.cell_of_heap hw'.1 1; have k2 := Lib.cell_of_heap hw'.2 0
        go_simp
        all_goals with_reducible rfl
      try simp only [Act.put, List.setIfInBounds_toArray, List.set_cons_zero, List.set_cons_succ]
      refine wpAnyH_take (i := 4) (oi := ⟨some 14, _, _, _, _, _⟩) (v := ?_) rfl (by kernel_rfl) (by kernel_rfl) (by kernel_rfl) (fun _ _ _ h => h) (Or.inl ⟨by rfl, ?_⟩) hS ?_
      rotate_left 1
      · intro w' hw'
        have k0 := Lib.cell_of_heap hw'.1 0; have k1 := Lib.cell_of_heap hw'.1 1; have k2 := Lib.cell_of_heap hw'.2 0
        go_simp
        all_goals with_reducible rfl
      try simp only [Act.put, List.setIfInBounds_toArray, List.set_cons_zero, List.set_cons_succ]
      refine wpAnyH_take (i := 5) (oi := ⟨some 15, _, _, _, _, _⟩) (v := ?_) rfl (by kernel_rfl) (by kernel_rfl) (by kernel_rfl) (fun _ _ _ h => h) (Or.inl ⟨by rfl, ?_⟩) hS ?_
      rotate_left 1
      · intro w' hw'
        have k0 := Lib.cell_of_heap hw'.1 0; have k1 := Lib.cell_of_heap hw'.1 1; have k2 := Lib.cell_of_heap hw'.2 0
        go_simp
        all_goals with_reducible rfl
      try simp only [Act.put, List.setIfInBounds_toArray, List.set_cons_zero, List.set_cons_succ]
      refine wpAnyH_take (i := 6) (oi := ⟨some 16, _, _, _, _, _⟩) (v := ?_) rfl (by kernel_rfl) (by kernel_rfl) (by kernel_rfl) (fun _ _ _ h => h) (Or.inl ⟨by rfl, ?_⟩) hS ?_
      rotate_left 1
      · intro w' hw'
        have k0 := Lib.cell_of_heap hw'.1 0; have k1 := Lib.cell_of_heap hw'.1 1; have k2 := Lib.cell_of_heap hw'.2 0
        go_simp
        all_goals with_reducible rfl
      try simp only [Act.put, List.setIfInBounds_toArray, List.set_cons_zero, List.set_cons_succ]
      refine wpAnyH_take (i := 7) (oi := ⟨some 17, _, _, _, _, _⟩) (v := ?_) rfl (by kernel_rfl) (by kernel_rfl) (by kernel_rfl) (fun _ _ _ h => h) (Or.inl ⟨by rfl, ?_⟩) hS ?_
      rotate_left 1
      · intro w' hw'
        have k0 := Lib.cell_of_heap hw'.1 0; have k1 := Lib.cell_of_heap hw'.1 1; have k2 := Lib.cell_of_heap hw'.2 0
        go_simp
        all_goals with_reducible rfl
      try simp only [Act.put, List.setIfInBounds_toArray, List.set_cons_zero, List.set_cons_succ]
      refine wpAnyH_take (i := 8) (oi := ⟨some 18, _, _, _, _, _⟩) (v := ?_) rfl (by kernel_rfl) (by kernel_rfl) (by kernel_rfl) (fun _ _ _ h => h) (Or.inl ⟨by rfl, ?_⟩) hS ?_
      rotate_left 1
      · intro w' hw'
        have k0 := Lib.cell_of_heap hw'.1 0; have k1 := Lib.cell_of_heap hw'.1 1; have k2 := Lib.cell_of_heap hw'.2 0
        go_simp
        all_goals with_reducible rfl
      try simp only [Act.put, List.setIfInBounds_toArray, List.set_cons_zero, List.set_cons_succ]
      refine wpAnyH_ready (rs := [9]) (by kernel_rfl) (by simp) ?_
      refine AllReadyH.cons (o := ⟨some 19, _, _, _, _, _⟩) rfl (fun K hK => ?_) AllReadyH.nil
      go_simp
      go_at_call 9
      refine HA1.out.mono ?_
      rintro e w2 ⟨rfl, D2, rfl, hD2, hT2⟩
      have HL2 := hide ((HH.out.below HB1.out.drew).turn hD2 hT2)
      have HT2 := hide ((LTurn.of_below (h := h) HB1.out.drew).trans (LTurn.of_turned hT2))
      have HX2 := hide ((HT2.out.off b1 HO1.out HK1.out.1).2.trans HK1.out.2)
      clear hD2 hT2
      refine hK.out _ _ (⟨HL2.out.box, HX2.out⟩) (fun hS => ?_)
      clear hK K
      try simp only [Act.put, List.setIfInBounds_toArray, List.set_cons_zero, List.set_cons_succ]
      refine wpAnyH_ready (rs := [10]) (by kernel_rfl) (by simp) ?_
      refine AllReadyH.cons (o := ⟨some 4, _, _, _, _, _⟩) rfl (fun K hK => ?_) AllReadyH.nil
      go_simp
      refine hK.out _ _ hS (fun hS => ?_)
      clear hK K
      try simp only [Act.put, List.setIfInBounds_toArray, List.set_cons_zero, List.set_cons_succ]
      refine wpAnyH_done (by kernel_rfl) ?_ _
      obtain ⟨m0, m1, m2, m3, m4, m5⟩ := HL2.out.cells
      have hlt := HL2.out.lt
      have n1 := Lib.cell_of_heap HX2.out 0
      have f3 := HL2.out.frozen 3
      have f4 := HL2.out.frozen 4
      have HZ := hide (HL2.out.set 3 (.int .i64 ((L.size + fb.length : Nat) : Int)) ⟨L.f, L.gen, L.size + fb.length, L.loose, L.down⟩ rfl)
      have HZ2 := hide (HZ.out.1.set 4 (.bool true) ⟨L.f, L.gen, L.size + fb.length, true, L.down⟩ rfl)
      have hne : b1 ≠ h := HO1.out.1
      clear hS
      go_wp2_with fail
      go_ret
      exact res_mk HQ.out rfl (by have h := HZ2.out.1; simpa using h) (by have h := (HT2.out.trans HZ.out.2).trans HZ2.out.2; simpa using h)
    · have HQ := hide (show r = (ae, ap, L) by rw [HR.out, if_neg h1])
      have hb := ne_b h1
      clear HR h1 hk1 hk2
      go_enter Tryd.func50, Tryd.ntmps50
      go_wp2_with fail
      refine HGf.out.mono ?_
      rintro e w1 ⟨v1, rfl, hr1, hb1⟩
      obtain ⟨A1, d1, rfl, hy1, -, hn1, -⟩ := bytes_of_row hr1
      have HB1 := hide hb1
      have HA1 := hide (HAp.out A1 d1 w1.drew hb1.drew (hy1.on (Below.refl _ _).drew) hn1)
      clear hr1 hy1 hn1 hb1 HAp HGf q1 q2
      go_upto_region 4 with fail
      refine wp_region_held_drew (S := fun w' => w'.heap[h]? = some (.cells (lCells g L) 86 (0, 0)) ∧ w'.heap[b1]? = some (.cells #[vD h] 32 (0, 0))) (by kernel_rfl) (⟨(HH.out.below HB1.out.drew).box, (HB1.out.drew.block _ HK1.out.1).trans HK1.out.2⟩) (fun hS => ?_)
      refine wpAnyH_take (i := 0) (oi := ⟨some 10, _, _, _, _, _⟩) (v := ?_) rfl (by kernel_rfl) (by kernel_rfl) (by kernel_rfl) (fun _ _ _ h => h) (Or.inl ⟨by rfl, ?_⟩) hS ?_
      rotate_left 1
      · intro w' hw'
        have k0 := Lib.cell_of_heap hw'.1 0; have k1 := Lib.cell_of_heap hw'.1 1; have k2 := Lib.cell_of_heap hw'.2 0
        go_simp
        all_goals with_reducible rfl
      try simp only [Act.put, List.setIfInBounds_toArray, List.set_cons_zero, List.set_cons_succ]
      refine wpAnyH_take (i := 1) (oi := ⟨some 11, _, _, _, _, _⟩) (v := ?_) rfl (by kernel_rfl) (by kernel_rfl) (by kernel_rfl) (fun _ _ _ h => h) (Or.inl ⟨by rfl, ?_⟩) hS ?_
      rotate_left 1
      · intro w' hw'
        have k0 := Lib.cell_of_heap hw'.1 0; have k1 := Lib.cell_of_heap hw'.1 1; have k2 := Lib.cell_of_heap hw'.2 0
        go_simp
        all_goals with_reducible rfl
      try simp only [Act.put, List.setIfInBounds_toArray, List.set_cons_zero, List.set_cons_succ]
      refine wpAnyH_take (i := 2) (oi := ⟨some 12, _, _, _, _, _⟩) (v := ?_) rfl (by kernel_rfl) (by kernel_rfl) (by kernel_rfl) (fun _ _ _ h => h) (Or.inl ⟨by rfl, ?_⟩) hS ?_
      rotate_left 1
      · intro w' hw'
        have k0 := Lib.cell_of_heap hw'.1 0; have k1 := Lib.cell_of_heap hw'.1 1; have k2 := Lib.cell_of_heap hw'.2 0
        go_simp
        all_goals with_reducible rfl
      try simp only [Act.put, List.setIfInBounds_toArray, List.set_cons_zero, List.set_cons_succ]
      refine wpAnyH_take (i := 3) (oi := ⟨some 13, _, _, _, _, _⟩) (v := ?_) rfl (by kernel_rfl) (by kernel_rfl) (by kernel_rfl) (fun _ _ _ h => h) (Or.inl ⟨by rfl, ?_⟩) hS ?_
      rotate_left 1
      · intro w' hw'
        have k0 := Lib.cell_of_heap hw'.1 0; have k1 := Lib.cell_of_heap hw'.1 1; have k2 := Lib.cell_of_heap hw'.2 0
        go_simp
        all_goals with_reducible rfl
      try simp only [Act.put, List.setIfInBounds_toArray, List.set_cons_zero, List.set_cons_succ]
      refine wpAnyH_take (i := 4) (oi := ⟨some 14, _, _, _, _, _⟩) (v := ?_) rfl (by kernel_rfl) (by kernel_rfl) (by kernel_rfl) (fun _ _ _ h => h) (Or.inl ⟨by rfl, ?_⟩) hS ?_
      rotate_left 1
      · intro w' hw'
        have k0 := Lib.cell_of_heap hw'.1 0; have k1 := Lib.cell_of_heap hw'.1 1; have k2 := Lib.cell_of_heap hw'.2 0
        go_simp
        all_goals with_reducible rfl
      try simp only [Act.put, List.setIfInBounds_toArray, List.set_cons_zero, List.set_cons_succ]
      refine wpAnyH_take (i := 5) (oi := ⟨some 15, _, _, _, _, _⟩) (v := ?_) rfl (by kernel_rfl) (by kernel_rfl) (by kernel_rfl) (fun _ _ _ h => h) (Or.inl ⟨by rfl, ?_⟩) hS ?_
      rotate_left 1
      · intro w' hw'
        have k0 := Lib.cell_of_heap hw'.1 0; have k1 := Lib.cell_of_heap hw'.1 1; have k2 := Lib.cell_of_heap hw'.2 0
        go_simp
        all_goals with_reducible rfl
      try simp only [Act.put, List.setIfInBounds_toArray, List.set_cons_zero, List.set_cons_succ]
      refine wpAnyH_take (i := 6) (oi := ⟨some 16, _, _, _, _, _⟩) (v := ?_) rfl (by kernel_rfl) (by kernel_rfl) (by kernel_rfl) (fun _ _ _ h => h) (Or.inl ⟨by rfl, ?_⟩) hS ?_
      rotate_left 1
      · intro w' hw'
        have k0 := Lib.cell_of_heap hw'.1 0; have k1 := Lib.cell_of_heap hw'.1 1; have k2 := Lib.cell_of_heap hw'.2 0
        go_simp
        all_goals with_reducible rfl
      try simp only [Act.put, List.setIfInBounds_toArray, List.set_cons_zero, List.set_cons_succ]
      refine wpAnyH_take (i := 7) (oi := ⟨some 17, _, _, _, _, _⟩) (v := ?_) rfl (by kernel_rfl) (by kernel_rfl) (by kernel_rfl) (fun _ _ _ h => h) (Or.inl ⟨by rfl, ?_⟩) hS ?_
      rotate_left 1
      · intro w' hw'
        have k0 := Lib.cell_of_heap hw'.1 0; have k1 := Lib.cell_of_heap hw'.1 1; have k2 := Lib.cell_of_heap hw'.2 0
        go_simp
        all_goals with_reducible rfl
      try simp only [Act.put, List.setIfInBounds_toArray, List.set_cons_zero, List.set_cons_succ]
      refine wpAnyH_take (i := 8) (oi := ⟨some 18, _, _, _, _, _⟩) (v := ?_) rfl (by kernel_rfl) (by kernel_rfl) (by kernel_rfl) (fun _ _ _ h => h) (Or.inl ⟨by rfl, ?_⟩) hS ?_
      rotate_left 1
      · intro w' hw'
        have k0 := Lib.cell_of_heap hw'.1 0; have k1 := Lib.cell_of_heap hw'.1 1; have k2 := Lib.cell_of_heap hw'.2 0
        go_simp
        all_goals with_reducible rfl
      try simp only [Act.put, List.setIfInBounds_toArray, List.set_cons_zero, List.set_cons_succ]
      refine wpAnyH_ready (rs := [9]) (by kernel_rfl) (by simp) ?_
      refine AllReadyH.cons (o := ⟨some 19, _, _, _, _, _⟩) rfl (fun K hK => ?_) AllReadyH.nil
      go_simp
      go_at_call 9
      refine HA1.out.mono ?_
      rintro e w2 ⟨rfl, D2, rfl, hD2, hT2⟩
      have HL2 := hide ((HH.out.below HB1.out.drew).turn hD2 hT2)
      have HT2 := hide ((LTurn.of_below (h := h) HB1.out.drew).trans (LTurn.of_turned hT2))
      have HX2 := hide ((HT2.out.off b1 HO1.out HK1.out.1).2.trans HK1.out.2)
      clear hD2 hT2
      refine hK.out _ _ (⟨HL2.out.box, HX2.out⟩) (fun hS => ?_)
      clear hK K
      try simp only [Act.put, List.setIfInBounds_toArray, List.set_cons_zero, List.set_cons_succ]
      refine wpAnyH_ready (rs := [10]) (by kernel_rfl) (by simp) ?_
      refine AllReadyH.cons (o := ⟨some 4, _, _, _, _, _⟩) rfl (fun K hK => ?_) AllReadyH.nil
      go_simp
      refine hK.out _ _ hS (fun hS => ?_)
      clear hK K
      try simp only [Act.put, List.setIfInBounds_toArray, List.set_cons_zero, List.set_cons_succ]
      refine wpAnyH_done (by kernel_rfl) ?_ _
      clear hS
      go_wp2_with fail
      go_ret
      exact res_mk HQ.out rfl HL2.out HT2.out
/-- What is loose is synced. -/
def synR (p : PD) (L : LV) : Int × PD × LV := if L.loose = true then (synE p L.f, synP p L.f, ⟨L.f, L.gen, L.size, synE p L.f != 0, L.down⟩) else (0, p, L)
set_option maxHeartbeats 3200000 in
set_option maxRecDepth 100000 in
theorem synC_any {base h g : Nat} {L : LV} {D : DS} (b1 : Nat) (w : World) (H : LogAt base h g w L D) (hO : D.p.Ok) (hd : D.p.done ≤ 999999998000)
    (hk1 : w.heap[b1]? = some (.cells #[vD h] 32 (0, 0))) (ho1 : Off h g D b1) :
    Calls Tryd.prog 51 #[.pointer (some ⟨b1, 0, none⟩)] w (LRes base h g D w (synR D.p L)) := by
  have HH := hide H
  have HR := hide (show synR D.p L = if L.loose = true then (synE D.p L.f, synP D.p L.f, (⟨L.f, L.gen, L.size, synE D.p L.f != 0, L.down⟩ : LV)) else (0, D.p, L) from rfl)
  have HA1 := hide (sync_any L.f w.drew (H.disk.below (Below.refl _ _).drew) hO (by omega))
  have HK1 := hide (And.intro (block_lt hk1) hk1)
  have HO1 := hide ho1
  have q1 := Lib.cell_of_heap hk1 0
  obtain ⟨c0, c1, c2, c3, c4, c5⟩ := H.cells
  clear H hO hd hk1 c0 c1 c2 c3 c5
  generalize synR D.p L = r at *
  generalize hae : synE D.p L.f = ae at *
  generalize hap : synP D.p L.f = ap at *
  clear hae hap
  cases hlo : L.loose
  · have HQ := hide (show r = (0, D.p, L) by rw [HR.out, if_neg (by rw [hlo]; decide)])
    rw [hlo] at c4
    clear HR HA1 hlo
    go_enter Tryd.func51, Tryd.ntmps51
    go_wp2_with fail
    go_ret
    exact res_mk HQ.out rfl HH.out (LTurn.of_below (Below.refl _ _))
  · have HQ := hide (show r = (ae, ap, (⟨L.f, L.gen, L.size, ae != 0, L.down⟩ : LV)) by rw [HR.out, if_pos hlo])
    rw [hlo] at c4
    clear HR hlo
    go_enter Tryd.func51, Tryd.ntmps51
    go_upto_region 3 with fail
    refine wp_region_held_drew (S := fun w' => w'.heap[h]? = some (.cells (lCells g L) 86 (0, 0)) ∧ w'.heap[b1]? = some (.cells #[vD h] 32 (0, 0))) (by kernel_rfl) (⟨(HH.out.below (Below.refl _ _).drew).box, ((Below.refl w.heap.size w).drew.block _ HK1.out.1).trans HK1.out.2⟩) (fun hS => ?_)
    refine wpAnyH_take (i := 0) (oi := ⟨some 8, _, _, _, _, _⟩) (v := ?_) rfl (by kernel_rfl) (by kernel_rfl) (by kernel_rfl) (fun _ _ _ h => h) (Or.inl ⟨by rfl, ?_⟩) hS ?_
    rotate_left 1
    · intro w' hw'
      have k0 := Lib.cell_of_heap hw'.1 0; have k1 := Lib.cell_of_heap hw'.1 1; have k2 := Lib.cell_of_heap hw'.2 0
      go_simp
      all_goals with_reducible rfl
    try simp only [Act.put, List.setIfInBounds_toArray, List.set_cons_zero, List.set_cons_succ]
    refine wpAnyH_take (i := 1) (oi := ⟨some 9, _, _, _, _, _⟩) (v := ?_) rfl (by kernel_rfl) (by kernel_rfl) (by kernel_rfl) (fun _ _ _ h => h) (Or.inl ⟨by rfl, ?_⟩) hS ?_
    rotate_left 1
    · intro w' hw'
      have k0 := Lib.cell_of_heap hw'.1 0; have k1 := Lib.cell_of_heap hw'.1 1; have k2 := Lib.cell_of_heap hw'.2 0
      go_simp
      all_goals with_reducible rfl
    try simp only [Act.put, List.setIfInBounds_toArray, List.set_cons_zero, List.set_cons_succ]
    refine wpAnyH_take (i := 2) (oi := ⟨some 10, _, _, _, _, _⟩) (v := ?_) rfl (by kernel_rfl) (by kernel_rfl) (by kernel_rfl) (fun _ _ _ h => h) (Or.inl ⟨by rfl, ?_⟩) hS ?_
    rotate_left 1
    · intro w' hw'
      have k0 := Lib.cell_of_heap hw'.1 0; have k1 := Lib.cell_of_heap hw'.1 1; have k2 := Lib.cell_of_heap hw'.2 0
      go_simp
      all_goals with_reducible rfl
    try simp only [Act.put, List.setIfInBounds_toArray, List.set_cons_zero, List.set_cons_succ]
    refine wpAnyH_take (i := 3) (oi := ⟨some 11, _, _, _, _, _⟩) (v := ?_) rfl (by kernel_rfl) (by kernel_rfl) (by kernel_rfl) (fun _ _ _ h => h) (Or.inl ⟨by rfl, ?_⟩) hS ?_
    rotate_left 1
    · intro w' hw'
      have k0 := Lib.cell_of_heap hw'.1 0; have k1 := Lib.cell_of_heap hw'.1 1; have k2 := Lib.cell_of_heap hw'.2 0
      go_simp
      all_goals with_reducible rfl
    try simp only [Act.put, List.setIfInBounds_toArray, List.set_cons_zero, List.set_cons_succ]
    refine wpAnyH_take (i := 4) (oi := ⟨some 12, _, _, _, _, _⟩) (v := ?_) rfl (by kernel_rfl) (by kernel_rfl) (by kernel_rfl) (fun _ _ _ h => h) (Or.inl ⟨by rfl, ?_⟩) hS ?_
    rotate_left 1
    · intro w' hw'
      have k0 := Lib.cell_of_heap hw'.1 0; have k1 := Lib.cell_of_heap hw'.1 1; have k2 := Lib.cell_of_heap hw'.2 0
      go_simp
      all_goals with_reducible rfl
    try simp only [Act.put, List.setIfInBounds_toArray, List.set_cons_zero, List.set_cons_succ]
    refine wpAnyH_take (i := 5) (oi := ⟨some 13, _, _, _, _, _⟩) (v := ?_) rfl (by kernel_rfl) (by kernel_rfl) (by kernel_rfl) (fun _ _ _ h => h) (Or.inl ⟨by rfl, ?_⟩) hS ?_
    rotate_left 1
    · intro w' hw'
      have k0 := Lib.cell_of_heap hw'.1 0; have k1 := Lib.cell_of_heap hw'.1 1; have k2 := Lib.cell_of_heap hw'.2 0
      go_simp
      all_goals with_reducible rfl
    try simp only [Act.put, List.setIfInBounds_toArray, List.set_cons_zero, List.set_cons_succ]
    refine wpAnyH_take (i := 6) (oi := ⟨some 14, _, _, _, _, _⟩) (v := ?_) rfl (by kernel_rfl) (by kernel_rfl) (by kernel_rfl) (fun _ _ _ h => h) (Or.inl ⟨by rfl, ?_⟩) hS ?_
    rotate_left 1
    · intro w' hw'
      have k0 := Lib.cell_of_heap hw'.1 0; have k1 := Lib.cell_of_heap hw'.1 1; have k2 := Lib.cell_of_heap hw'.2 0
      go_simp
      all_goals with_reducible rfl
    try simp only [Act.put, List.setIfInBounds_toArray, List.set_cons_zero, List.set_cons_succ]
    refine wpAnyH_take (i := 7) (oi := ⟨some 15, _, _, _, _, _⟩) (v := ?_) rfl (by kernel_rfl) (by kernel_rfl) (by kernel_rfl) (fun _ _ _ h => h) (Or.inl ⟨by rfl, ?_⟩) hS ?_
    rotate_left 1
    · intro w' hw'
      have k0 := Lib.cell_of_heap hw'.1 0; have k1 := Lib.cell_of_heap hw'.1 1; have k2 := Lib.cell_of_heap hw'.2 0
      go_simp
      all_goals with_reducible rfl
    try simp only [Act.put, List.setIfInBounds_toArray, List.set_cons_zero, List.set_cons_succ]
    refine wpAnyH_ready (rs := [8]) (by kernel_rfl) (by simp) ?_
    refine AllReadyH.cons (o := ⟨some 16, _, _, _, _, _⟩) rfl (fun K hK => ?_) AllReadyH.nil
    go_simp
    go_at_call 52
    refine HA1.out.mono ?_
    rintro e w2 ⟨rfl, D2, rfl, hD2, hT2⟩
    have HL2 := hide ((HH.out.below (Below.refl _ _).drew).turn hD2 hT2)
    have HT2 := hide ((LTurn.of_below (h := h) (Below.refl w.heap.size w).drew).trans (LTurn.of_turned hT2))
    have HX2 := hide ((HT2.out.off b1 HO1.out HK1.out.1).2.trans HK1.out.2)
    clear hD2 hT2
    refine hK.out _ _ (⟨HL2.out.box, HX2.out⟩) (fun hS => ?_)
    clear hK K
    try simp only [Act.put, List.setIfInBounds_toArray, List.set_cons_zero, List.set_cons_succ]
    refine wpAnyH_ready (rs := [9]) (by kernel_rfl) (by simp) ?_
    refine AllReadyH.cons (o := ⟨some 2, _, _, _, _, _⟩) rfl (fun K hK => ?_) AllReadyH.nil
    go_simp
    refine hK.out _ _ hS (fun hS => ?_)
    clear hK K
    try simp only [Act.put, List.setIfInBounds_toArray, List.set_cons_zero, List.set_cons_succ]
    refine wpAnyH_done (by kernel_rfl) ?_ _
    obtain ⟨m0, m1, m2, m3, m4, m5⟩ := HL2.out.cells
    have hlt := HL2.out.lt
    have n1 := Lib.cell_of_heap HX2.out 0
    have f4 := HL2.out.frozen 4
    have HZ := hide (HL2.out.set 4 (.bool (ae != 0)) ⟨L.f, L.gen, L.size, ae != 0, L.down⟩ rfl)
    clear hS c4 q1
    go_wp2_with fail
    go_ret
    exact res_mk HQ.out rfl HZ.out.1 (HT2.out.trans HZ.out.2)
end Go.Proofs.YtkdebebpnkjmdaaDoor
