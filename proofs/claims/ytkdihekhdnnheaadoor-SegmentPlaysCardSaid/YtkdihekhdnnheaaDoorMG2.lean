/-
  The log's calls: Append, Sync, Commit, Compact.
  The log's calls: Compact.
  The log's calls, whole.
-/
import Derived.Test.YtkdihekhdnnheaaDoorMG1
namespace Go.Proofs.YtkdihekhdnnheaaDoor
open Go.RowKit

/-- While the power is there. -/
def powR (p : PD) (L : LV) (r : Int × PD × LV) : Int × PD × LV := if L.down = true then (40, p, L) else (r.1, r.2.1, ⟨r.2.2.f, r.2.2.gen, r.2.2.size, r.2.2.loose, r.1 == 40⟩)
set_option maxHeartbeats 3200000 in
set_option maxRecDepth 100000 in
theorem powA_any {base h g : Nat} {L : LV} {D : DS} {r : Int × PD × LV} (k0 k1 : Value) (w : World) (H : LogAt base h g w L D) (hc : L.down = false → Calls Tryd.prog 33 #[k0, k1] w (LRes base h g D w r)) :
    Calls Tryd.prog 32 #[vD h, .func (.func 33) #[] #[k0, k1]] w (LRes base h g D w (powR D.p L r)) := by
  obtain ⟨c0, c1, c2, c3, c4, c5⟩ := H.cells
  have HH := hide H
  have HR := hide (show powR D.p L r = if L.down = true then (40, D.p, L) else (r.1, r.2.1, ⟨r.2.2.f, r.2.2.gen, r.2.2.size, r.2.2.loose, r.1 == 40⟩) from rfl)
  generalize powR D.p L r = q at *
  clear H c0 c1 c2 c3 c4
  cases hdn : L.down
  · have HC := hide (hc hdn)
    have HQ := hide (show q = (r.1, r.2.1, (⟨r.2.2.f, r.2.2.gen, r.2.2.size, r.2.2.loose, r.1 == 40⟩ : LV)) by rw [HR.out, if_neg (by rw [hdn]; decide)])
    rw [hdn] at c5
    unfold LRes at HC
    obtain ⟨e1, p1, L1⟩ := r
    clear hc HR hdn
    go_enter Tryd.func32, Tryd.ntmps32
    go_wp2_with fail
    go_at_call 33
    refine HC.out.mono ?_
    rintro e w1 ⟨rfl, D1, rfl, hL1, ht1⟩
    have HL1 := hide hL1
    have HT1 := hide ht1
    obtain ⟨m0, m1, m2, m3, m4, m5⟩ := hL1.cells
    have hlt := hL1.lt
    have f5 := hL1.frozen 5
    have HZ := hide (hL1.set 5 (.bool (e1 == 40)) ⟨L1.f, L1.gen, L1.size, L1.loose, e1 == 40⟩ rfl)
    clear hL1 ht1 c5
    go_wp2_with fail
    go_ret
    exact res_mk HQ.out rfl HZ.out.1 (HT1.out.trans HZ.out.2)
  · have HQ := hide (show q = (40, D.p, L) by rw [HR.out, if_pos hdn])
    rw [hdn] at c5
    clear hc HR hdn
    go_enter Tryd.func32, Tryd.ntmps32
    go_wp2_with fail
    go_ret
    exact res_mk HQ.out rfl HH.out (LTurn.of_below (Below.refl _ _))
set_option maxHeartbeats 3200000 in
set_option maxRecDepth 100000 in
theorem powS_any {base h g : Nat} {L : LV} {D : DS} {r : Int × PD × LV} (k0 : Value) (w : World) (H : LogAt base h g w L D) (hc : L.down = false → Calls Tryd.prog 35 #[k0] w (LRes base h g D w r)) :
    Calls Tryd.prog 32 #[vD h, .func (.func 35) #[] #[k0]] w (LRes base h g D w (powR D.p L r)) := by
  obtain ⟨c0, c1, c2, c3, c4, c5⟩ := H.cells
  have HH := hide H
  have HR := hide (show powR D.p L r = if L.down = true then (40, D.p, L) else (r.1, r.2.1, ⟨r.2.2.f, r.2.2.gen, r.2.2.size, r.2.2.loose, r.1 == 40⟩) from rfl)
  generalize powR D.p L r = q at *
  clear H c0 c1 c2 c3 c4
  cases hdn : L.down
  · have HC := hide (hc hdn)
    have HQ := hide (show q = (r.1, r.2.1, (⟨r.2.2.f, r.2.2.gen, r.2.2.size, r.2.2.loose, r.1 == 40⟩ : LV)) by rw [HR.out, if_neg (by rw [hdn]; decide)])
    rw [hdn] at c5
    unfold LRes at HC
    obtain ⟨e1, p1, L1⟩ := r
    clear hc HR hdn
    go_enter Tryd.func32, Tryd.ntmps32
    go_wp2_with fail
    go_at_call 35
    refine HC.out.mono ?_
    rintro e w1 ⟨rfl, D1, rfl, hL1, ht1⟩
    have HL1 := hide hL1
    have HT1 := hide ht1
    obtain ⟨m0, m1, m2, m3, m4, m5⟩ := hL1.cells
    have hlt := hL1.lt
    have f5 := hL1.frozen 5
    have HZ := hide (hL1.set 5 (.bool (e1 == 40)) ⟨L1.f, L1.gen, L1.size, L1.loose, e1 == 40⟩ rfl)
    clear hL1 ht1 c5
    go_wp2_with fail
    go_ret
    exact res_mk HQ.out rfl HZ.out.1 (HT1.out.trans HZ.out.2)
  · have HQ := hide (show q = (40, D.p, L) by rw [HR.out, if_pos hdn])
    rw [hdn] at c5
    clear hc HR hdn
    go_enter Tryd.func32, Tryd.ntmps32
    go_wp2_with fail
    go_ret
    exact res_mk HQ.out rfl HH.out (LTurn.of_below (Below.refl _ _))
set_option maxHeartbeats 3200000 in
set_option maxRecDepth 100000 in
theorem powC_any {base h g : Nat} {L : LV} {D : DS} {r : Int × PD × LV} (k0 k1 : Value) (w : World) (H : LogAt base h g w L D) (hc : L.down = false → Calls Tryd.prog 37 #[k0, k1] w (LRes base h g D w r)) :
    Calls Tryd.prog 32 #[vD h, .func (.func 37) #[] #[k0, k1]] w (LRes base h g D w (powR D.p L r)) := by
  obtain ⟨c0, c1, c2, c3, c4, c5⟩ := H.cells
  have HH := hide H
  have HR := hide (show powR D.p L r = if L.down = true then (40, D.p, L) else (r.1, r.2.1, ⟨r.2.2.f, r.2.2.gen, r.2.2.size, r.2.2.loose, r.1 == 40⟩) from rfl)
  generalize powR D.p L r = q at *
  clear H c0 c1 c2 c3 c4
  cases hdn : L.down
  · have HC := hide (hc hdn)
    have HQ := hide (show q = (r.1, r.2.1, (⟨r.2.2.f, r.2.2.gen, r.2.2.size, r.2.2.loose, r.1 == 40⟩ : LV)) by rw [HR.out, if_neg (by rw [hdn]; decide)])
    rw [hdn] at c5
    unfold LRes at HC
    obtain ⟨e1, p1, L1⟩ := r
    clear hc HR hdn
    go_enter Tryd.func32, Tryd.ntmps32
    go_wp2_with fail
    go_at_call 37
    refine HC.out.mono ?_
    rintro e w1 ⟨rfl, D1, rfl, hL1, ht1⟩
    have HL1 := hide hL1
    have HT1 := hide ht1
    obtain ⟨m0, m1, m2, m3, m4, m5⟩ := hL1.cells
    have hlt := hL1.lt
    have f5 := hL1.frozen 5
    have HZ := hide (hL1.set 5 (.bool (e1 == 40)) ⟨L1.f, L1.gen, L1.size, L1.loose, e1 == 40⟩ rfl)
    clear hL1 ht1 c5
    go_wp2_with fail
    go_ret
    exact res_mk HQ.out rfl HZ.out.1 (HT1.out.trans HZ.out.2)
  · have HQ := hide (show q = (40, D.p, L) by rw [HR.out, if_pos hdn])
    rw [hdn] at c5
    clear hc HR hdn
    go_enter Tryd.func32, Tryd.ntmps32
    go_wp2_with fail
    go_ret
    exact res_mk HQ.out rfl HH.out (LTurn.of_below (Below.refl _ _))
/-- A group is appended. -/
def appR (p : PD) (L : LV) (rs : List (List UInt8)) : Int × PD × LV :=
  if rs.length = 0 then (0, p, L)
  else if appE p L.f (groupB rs).length = 0 then (0, appP p L.f (groupB rs), ⟨L.f, L.gen, L.size + (groupB rs).length, true, L.down⟩)
  else (appE p L.f (groupB rs).length, appP p L.f (groupB rs), L)
theorem block_lt {w : World} {b : Nat} {o : Obj} (h : w.heap[b]? = some o) : b < w.heap.size := (Array.getElem?_eq_some_iff.1 h).1
set_option maxHeartbeats 6400000 in
set_option maxRecDepth 100000 in
theorem appC_any {base h g : Nat} {L : LV} {D : DS} (b1 b2 : Nat) (A : Option Addr) (c : Nat) (rs : List BH) (w : World) (H : LogAt base h g w L D) (hO : D.p.Ok) (hd : D.p.done ≤ 999999998000) (hz : L.size ≤ 1073741824) (hT : Tab w)
    (hk1 : w.heap[b1]? = some (.cells #[vD h] 27 (0, 0))) (hk2 : w.heap[b2]? = some (.cells #[.slice A rs.length c] 36 (0, 0))) (ho1 : Off h g D b1)
    (hR : RecsIn (Off h g D) w A rs) (hl : rs.length ≤ 2000) (hm : ∀ j, j < rs.length → (rs.getD j dH).l.length ≤ 2000) :
    Calls Tryd.prog 33 #[.pointer (some ⟨b2, 0, none⟩), .pointer (some ⟨b1, 0, none⟩)] w (LRes base h g D w (appR D.p L (lsOf rs))) := by
  have HH := hide H
  have HGf := hide (groupFrame_any A c rs w hR hT hl hm)
  unfold OwnRes at HGf
  have hmm : ∀ r ∈ lsOf rs, r.length ≤ 2000 := fun r hr => by
    obtain ⟨j, hj, e⟩ := List.getElem_of_mem hr
    have h := hm j (by rw [lsOf_len] at hj; exact hj)
    rw [← lsOf_get (by rw [lsOf_len] at hj; exact hj), List.getD_eq_getElem?_getD, List.getElem?_eq_getElem hj, e] at h
    exact h
  have hgb := (groupB_bd (lsOf rs) 2000 hmm).2
  rw [lsOf_len] at hgb
  have hgm : (groupB (lsOf rs)).length ≤ 5000000 := by omega
  have HR := hide (show appR D.p L (lsOf rs) = if rs.length = 0 then (0, D.p, L) else if appE D.p L.f (groupB (lsOf rs)).length = 0 then (0, appP D.p L.f (groupB (lsOf rs)), (⟨L.f, L.gen, L.size + (groupB (lsOf rs)).length, true, L.down⟩ : LV)) else (appE D.p L.f (groupB (lsOf rs)).length, appP D.p L.f (groupB (lsOf rs)), L) by unfold appR; rw [lsOf_len])
  have HAp := hide (fun (B : Option Addr) (d : Nat) (w2 : World) (hb : Below w.heap.size w w2) (h1 : BytesAt w2.heap.size w2 B (groupB (lsOf rs))) (h2 : B = none → d = 0) => append_any L.f B d (groupB (lsOf rs)) w2 (H.disk.below hb) hO (by omega) h1 h2 (by omega))
  have HK1 := hide (And.intro (block_lt hk1) hk1)
  have HO1 := hide ho1
  have q1 := Lib.cell_of_heap hk1 0
  have q2 := Lib.cell_of_heap hk2 0
  clear hR hT hm hmm hgb H hO hd
  generalize appR D.p L (lsOf rs) = r at *
  generalize groupB (lsOf rs) = fb at *
  by_cases h0 : rs.length = 0
  · have HQ := hide (show r = (0, D.p, L) by rw [HR.out, if_pos h0])
    rw [h0] at q2
    clear HR HGf HAp h0 hk1 hk2
    go_enter Tryd.func33, Tryd.ntmps33
    go_wp2_with fail
    go_ret
    exact res_mk HQ.out rfl HH.out (LTurn.of_below (Below.refl _ _))
  · have hpos : 0 < rs.length := by omega
    rw [if_neg h0] at HR
    clear h0
    generalize hae : appE D.p L.f fb.length = ae at *
    generalize hap : appP D.p L.f fb = ap at *
    clear hae hap
    by_cases h1 : ae = 0
    · have HQ := hide (show r = (0, ap, (⟨L.f, L.gen, L.size + fb.length, true, L.down⟩ : LV)) by rw [HR.out, if_pos h1])
      subst h1
      clear HR hk1 hk2
      go_enter Tryd.func33, Tryd.ntmps33
      go_wp2_with fail
      refine HGf.out.mono ?_
      rintro e w1 ⟨v1, rfl, hr1, hb1⟩
      obtain ⟨A1, d1, rfl, hy1, -, hn1, -⟩ := bytes_of_row hr1
      have HB1 := hide hb1
      have HA1 := hide (HAp.out A1 d1 w1.drew hb1.drew (hy1.on (Below.refl _ _).drew) hn1)
      clear hr1 hy1 hn1 hb1 HAp HGf q1 q2
      go_upto_region 4 with fail
      refine wp_region_held_drew (S := fun w' => w'.heap[h]? = some (.cells (lCells g L) 66 (0, 0)) ∧ w'.heap[b1]? = some (.cells #[vD h] 27 (0, 0))) (by kernel_rfl) (⟨(HH.out.below HB1.out.drew).box, (HB1.out.drew.block _ HK1.out.1).trans HK1.out.2⟩) (fun hS => ?_)
      refine wpAnyH_take (i := 0) (oi := ⟨some 10, _, _, _, _, _⟩) (v := ?_) rfl (by kernel_rfl) (by kernel_rfl) (by kernel_rfl) (fun _ _ _ h => h) (Or.inl ⟨by rfl, ?_⟩) hS ?_
      rotate_left 1
      · intro w' hw'
        have k0 := Lib.cell_of_heap hw'.1 0; have k1 := Lib.cell_of_heap hw'.1 1; have k2 := Lib.cell_of_heap hw'.2 0
        go_simp
        all_goals with_reducible rfl
      try simp only [Act.put, List.setIfInBounds_toArray, List.set_cons_zero, List.set_cons_succ]
      refine wpAnyH_take (i := 1) (oi := ⟨some 11, _, _, _, _, _⟩) (v := ?_) rfl (by kernel_rfl) (by kernel_rfl) (by kernel_rfl) (fun _ _ _ h => h) (Or.inl ⟨by rfl, ?_⟩) hS ?_
      rotate_left 1
      · intro w' hw'
        have k0 := Lib.cell_of_heap hw'.1 0; have k1 := Lib.cell_of_heap hw'.1 1; have k2 := Lib.cell_of_heap hw'.2 0
        go_simp
        all_goals with_reducible rfl
      try simp only [Act.put, List.setIfInBounds_toArray, List.set_cons_zero, List.set_cons_succ]
      refine wpAnyH_take (i := 2) (oi := ⟨some 12, _, _, _, _, _⟩) (v := ?_) rfl (by kernel_rfl) (by kernel_rfl) (by kernel_rfl) (fun _ _ _ h => h) (Or.inl ⟨by rfl, ?_⟩) hS ?_
      rotate_left 1
      · intro w' hw'
        have k0 := Lib.cell_of_heap hw'.1 0; have k1 := Lib.cell_of_heap hw'.1 1; have k2 := Lib.cell_of_heap hw'.2 0
        go_simp
        all_goals with_reducible rfl
      try simp only [Act.put, List.setIfInBounds_toArray, List.set_cons_zero, List.set_cons_succ]
      refine wpAnyH_take (i := 3) (oi := ⟨some 13, _, _, _, _, _⟩) (v := ?_) rfl (by kernel_rfl) (by kernel_rfl) (by kernel_rfl) (fun _ _ _ h => h) (Or.inl ⟨by rfl, ?_⟩) hS ?_
      rotate_left 1
      · intro w' hw'
        have k0 := Lib.cell_of_heap hw'.1 0; have k1 := Lib.cell_of_heap hw'.1 1; have k2 := Lib.cell_of_heap hw'.2 0
        go_simp
        all_goals with_reducible rfl
      try simp only [Act.put, List.setIfInBounds_toArray, List.set_cons_zero, List.set_cons_succ]
      refine wpAnyH_take (i := 4) (oi := ⟨some 14, _, _, _, _, _⟩) (v := ?_) rfl (by kernel_rfl) (by kernel_rfl) (by kernel_rfl) (fun _ _ _ h => h) (Or.inl ⟨by rfl, ?_⟩) hS ?_
      rotate_left 1
      · intro w' hw'
        have k0 := Lib.cell_of_heap hw'.1 0; have k1 := Lib.cell_of_heap hw'.1 1; have k2 := Lib.cell_of_heap hw'.2 0
        go_simp
        all_goals with_reducible rfl
      try simp only [Act.put, List.setIfInBounds_toArray, List.set_cons_zero, List.set_cons_succ]
      refine wpAnyH_take (i := 5) (oi := ⟨some 15, _, _, _, _, _⟩) (v := ?_) rfl (by kernel_rfl) (by kernel_rfl) (by kernel_rfl) (fun _ _ _ h => h) (Or.inl ⟨by rfl, ?_⟩) hS ?_
      rotate_left 1
      · intro w' hw'
        have k0 := Lib.cell_of_heap hw'.1 0; have k1 := Lib.cell_of_heap hw'.1 1; have k2 := Lib.cell_of_heap hw'.2 0
        go_simp
        all_goals with_reducible rfl
      try simp only [Act.put, List.setIfInBounds_toArray, List.set_cons_zero, List.set_cons_succ]
      refine wpAnyH_take (i := 6) (oi := ⟨some 16, _, _, _, _, _⟩) (v := ?_) rfl (by kernel_rfl) (by kernel_rfl) (by kernel_rfl) (fun _ _ _ h => h) (Or.inl ⟨by rfl, ?_⟩) hS ?_
      rotate_left 1
      · intro w' hw'
        have k0 := Lib.cell_of_heap hw'.1 0; have k1 := Lib.cell_of_heap hw'.1 1; have k2 := Lib.cell_of_heap hw'.2 0
        go_simp
        all_goals with_reducible rfl
      try simp only [Act.put, List.setIfInBounds_toArray, List.set_cons_zero, List.set_cons_succ]
      refine wpAnyH_take (i := 7) (oi := ⟨some 17, _, _, _, _, _⟩) (v := ?_) rfl (by kernel_rfl) (by kernel_rfl) (by kernel_rfl) (fun _ _ _ h => h) (Or.inl ⟨by rfl, ?_⟩) hS ?_
      rotate_left 1
      · intro w' hw'
        have k0 := Lib.cell_of_heap hw'.1 0; have k1 := Lib.cell_of_heap hw'.1 1; have k2 := Lib.cell_of_heap hw'.2 0
        go_simp
        all_goals with_reducible rfl
      try simp only [Act.put, List.setIfInBounds_toArray, List.set_cons_zero, List.set_cons_succ]
      refine wpAnyH_take (i := 8) (oi := ⟨some 18, _, _, _, _, _⟩) (v := ?_) rfl (by kernel_rfl) (by kernel_rfl) (by kernel_rfl) (fun _ _ _ h => h) (Or.inl ⟨by rfl, ?_⟩) hS ?_
      rotate_left 1
      · intro w' hw'
        have k0 := Lib.cell_of_heap hw'.1 0; have k1 := Lib.cell_of_heap hw'.1 1; have k2 := Lib.cell_of_heap hw'.2 0
        go_simp
        all_goals with_reducible rfl
      try simp only [Act.put, List.setIfInBounds_toArray, List.set_cons_zero, List.set_cons_succ]
      refine wpAnyH_ready (rs := [9]) (by kernel_rfl) (by simp) ?_
      refine AllReadyH.cons (o := ⟨some 19, _, _, _, _, _⟩) rfl (fun K hK => ?_) AllReadyH.nil
      go_simp
      go_at_call 34
      refine HA1.out.mono ?_
      rintro e w2 ⟨rfl, D2, rfl, hD2, hT2⟩
      have HL2 := hide ((HH.out.below HB1.out.drew).turn hD2 hT2)
      have HT2 := hide ((LTurn.of_below (h := h) HB1.out.drew).trans (LTurn.of_turned hT2))
      have HX2 := hide ((HT2.out.off b1 HO1.out HK1.out.1).2.trans HK1.out.2)
      clear hD2 hT2
      refine hK.out _ _ (⟨HL2.out.box, HX2.out⟩) (fun hS => ?_)
      clear hK K
      try simp only [Act.put, List.setIfInBounds_toArray, List.set_cons_zero, List.set_cons_succ]
      refine wpAnyH_ready (rs := [10]) (by kernel_rfl) (by simp) ?_
      refine AllReadyH.cons (o := ⟨some 4, _, _, _, _, _⟩) rfl (fun K hK => ?_) AllReadyH.nil
      go_simp
      refine hK.out _ _ hS (fun hS => ?_)
      clear hK K
      try simp only [Act.put, List.setIfInBounds_toArray, List.set_cons_zero, List.set_cons_succ]
      refine wpAnyH_done (by kernel_rfl) ?_ _
      obtain ⟨m0, m1, m2, m3, m4, m5⟩ := HL2.out.cells
      have hlt := HL2.out.lt
      have n1 := Lib.cell_of_heap HX2.out 0
      have f3 := HL2.out.frozen 3
      have f4 := HL2.out.frozen 4
      have HZ := hide (HL2.out.set 3 (.int .i64 ((L.size + fb.length : Nat) : Int)) ⟨L.f, L.gen, L.size + fb.length, L.loose, L.down⟩ rfl)
      have HZ2 := hide (HZ.out.1.set 4 (.bool true) ⟨L.f, L.gen, L.size + fb.length, true, L.down⟩ rfl)
      have hne : b1 ≠ h := HO1.out.1
      clear hS
      go_wp2_with fail
      go_ret
      exact res_mk HQ.out rfl (by have h := HZ2.out.1; simpa using h) (by have h := (HT2.out.trans HZ.out.2).trans HZ2.out.2; simpa using h)
    · have HQ := hide (show r = (ae, ap, L) by rw [HR.out, if_neg h1])
      have hb := ne_b h1
      clear HR h1 hk1 hk2
      go_enter Tryd.func33, Tryd.ntmps33
      go_wp2_with fail
      refine HGf.out.mono ?_
      rintro e w1 ⟨v1, rfl, hr1, hb1⟩
      obtain ⟨A1, d1, rfl, hy1, -, hn1, -⟩ := bytes_of_row hr1
      have HB1 := hide hb1
      have HA1 := hide (HAp.out A1 d1 w1.drew hb1.drew (hy1.on (Below.refl _ _).drew) hn1)
      clear hr1 hy1 hn1 hb1 HAp HGf q1 q2
      go_upto_region 4 with fail
      refine wp_region_held_drew (S := fun w' => w'.heap[h]? = some (.cells (lCells g L) 66 (0, 0)) ∧ w'.heap[b1]? = some (.cells #[vD h] 27 (0, 0))) (by kernel_rfl) (⟨(HH.out.below HB1.out.drew).box, (HB1.out.drew.block _ HK1.out.1).trans HK1.out.2⟩) (fun hS => ?_)
      refine wpAnyH_take (i := 0) (oi := ⟨some 10, _, _, _, _, _⟩) (v := ?_) rfl (by kernel_rfl) (by kernel_rfl) (by kernel_rfl) (fun _ _ _ h => h) (Or.inl ⟨by rfl, ?_⟩) hS ?_
      rotate_left 1
      · intro w' hw'
        have k0 := Lib.cell_of_heap hw'.1 0; have k1 := Lib.cell_of_heap hw'.1 1; have k2 := Lib.cell_of_heap hw'.2 0
        go_simp
        all_goals with_reducible rfl
      try simp only [Act.put, List.setIfInBounds_toArray, List.set_cons_zero, List.set_cons_succ]
      refine wpAnyH_take (i := 1) (oi := ⟨some 11, _, _, _, _, _⟩) (v := ?_) rfl (by kernel_rfl) (by kernel_rfl) (by kernel_rfl) (fun _ _ _ h => h) (Or.inl ⟨by rfl, ?_⟩) hS ?_
      rotate_left 1
      · intro w' hw'
        have k0 := Lib.cell_of_heap hw'.1 0; have k1 := Lib.cell_of_heap hw'.1 1; have k2 := Lib.cell_of_heap hw'.2 0
        go_simp
        all_goals with_reducible rfl
      try simp only [Act.put, List.setIfInBounds_toArray, List.set_cons_zero, List.set_cons_succ]
      refine wpAnyH_take (i := 2) (oi := ⟨some 12, _, _, _, _, _⟩) (v := ?_) rfl (by kernel_rfl) (by kernel_rfl) (by kernel_rfl) (fun _ _ _ h => h) (Or.inl ⟨by rfl, ?_⟩) hS ?_
      rotate_left 1
      · intro w' hw'
        have k0 := Lib.cell_of_heap hw'.1 0; have k1 := Lib.cell_of_heap hw'.1 1; have k2 := Lib.cell_of_heap hw'.2 0
        go_simp
        all_goals with_reducible rfl
      try simp only [Act.put, List.setIfInBounds_toArray, List.set_cons_zero, List.set_cons_succ]
      refine wpAnyH_take (i := 3) (oi := ⟨some 13, _, _, _, _, _⟩) (v := ?_) rfl (by kernel_rfl) (by kernel_rfl) (by kernel_rfl) (fun _ _ _ h => h) (Or.inl ⟨by rfl, ?_⟩) hS ?_
      rotate_left 1
      · intro w' hw'
        have k0 := Lib.cell_of_heap hw'.1 0; have k1 := Lib.cell_of_heap hw'.1 1; have k2 := Lib.cell_of_heap hw'.2 0
        go_simp
        all_goals with_reducible rfl
      try simp only [Act.put, List.setIfInBounds_toArray, List.set_cons_zero, List.set_cons_succ]
      refine wpAnyH_take (i := 4) (oi := ⟨some 14, _, _, _, _, _⟩) (v := ?_) rfl (by kernel_rfl) (by kernel_rfl) (by kernel_rfl) (fun _ _ _ h => h) (Or.inl ⟨by rfl, ?_⟩) hS ?_
      rotate_left 1
      · intro w' hw'
        have k0 := Lib.cell_of_heap hw'.1 0; have k1 := Lib.cell_of_heap hw'.1 1; have k2 := Lib.cell_of_heap hw'.2 0
        go_simp
        all_goals with_reducible rfl
      try simp only [Act.put, List.setIfInBounds_toArray, List.set_cons_zero, List.set_cons_succ]
      refine wpAnyH_take (i := 5) (oi := ⟨some 15, _, _, _, _, _⟩) (v := ?_) rfl (by kernel_rfl) (by kernel_rfl) (by kernel_rfl) (fun _ _ _ h => h) (Or.inl ⟨by rfl, ?_⟩) hS ?_
      rotate_left 1
      · intro w' hw'
        have k0 := Lib.cell_of_heap hw'.1 0; have k1 := Lib.cell_of_heap hw'.1 1; have k2 := Lib.cell_of_heap hw'.2 0
        go_simp
        all_goals with_reducible rfl
      try simp only [Act.put, List.setIfInBounds_toArray, List.set_cons_zero, List.set_cons_succ]
      refine wpAnyH_take (i := 6) (oi := ⟨some 16, _, _, _, _, _⟩) (v := ?_) rfl (by kernel_rfl) (by kernel_rfl) (by kernel_rfl) (fun _ _ _ h => h) (Or.inl ⟨by rfl, ?_⟩) hS ?_
      rotate_left 1
      · intro w' hw'
        have k0 := Lib.cell_of_heap hw'.1 0; have k1 := Lib.cell_of_heap hw'.1 1; have k2 := Lib.cell_of_heap hw'.2 0
        go_simp
        all_goals with_reducible rfl
      try simp only [Act.put, List.setIfInBounds_toArray, List.set_cons_zero, List.set_cons_succ]
      refine wpAnyH_take (i := 7) (oi := ⟨some 17, _, _, _, _, _⟩) (v := ?_) rfl (by kernel_rfl) (by kernel_rfl) (by kernel_rfl) (fun _ _ _ h => h) (Or.inl ⟨by rfl, ?_⟩) hS ?_
      rotate_left 1
      · intro w' hw'
        have k0 := Lib.cell_of_heap hw'.1 0; have k1 := Lib.cell_of_heap hw'.1 1; have k2 := Lib.cell_of_heap hw'.2 0
        go_simp
        all_goals with_reducible rfl
      try simp only [Act.put, List.setIfInBounds_toArray, List.set_cons_zero, List.set_cons_succ]
      refine wpAnyH_take (i := 8) (oi := ⟨some 18, _, _, _, _, _⟩) (v := ?_) rfl (by kernel_rfl) (by kernel_rfl) (by kernel_rfl) (fun _ _ _ h => h) (Or.inl ⟨by rfl, ?_⟩) hS ?_
      rotate_left 1
      · intro w' hw'
        have k0 := Lib.cell_of_heap hw'.1 0; have k1 := Lib.cell_of_heap hw'.1 1; have k2 := Lib.cell_of_heap hw'.2 0
        go_simp
        all_goals with_reducible rfl
      try simp only [Act.put, List.setIfInBounds_toArray, List.set_cons_zero, List.set_cons_succ]
      refine wpAnyH_ready (rs := [9]) (by kernel_rfl) (by simp) ?_
      refine AllReadyH.cons (o := ⟨some 19, _, _, _, _, _⟩) rfl (fun K hK => ?_) AllReadyH.nil
      go_simp
      go_at_call 34
      refine HA1.out.mono ?_
      rintro e w2 ⟨rfl, D2, rfl, hD2, hT2⟩
      have HL2 := hide ((HH.out.below HB1.out.drew).turn hD2 hT2)
      have HT2 := hide ((LTurn.of_below (h := h) HB1.out.drew).trans (LTurn.of_turned hT2))
      have HX2 := hide ((HT2.out.off b1 HO1.out HK1.out.1).2.trans HK1.out.2)
      clear hD2 hT2
      refine hK.out _ _ (⟨HL2.out.box, HX2.out⟩) (fun hS => ?_)
      clear hK K
      try simp only [Act.put, List.setIfInBounds_toArray, List.set_cons_zero, List.set_cons_succ]
      refine wpAnyH_ready (rs := [10]) (by kernel_rfl) (by simp) ?_
      refine AllReadyH.cons (o := ⟨some 4, _, _, _, _, _⟩) rfl (fun K hK => ?_) AllReadyH.nil
      go_simp
      refine hK.out _ _ hS (fun hS => ?_)
      clear hK K
      try simp only [Act.put, List.setIfInBounds_toArray, List.set_cons_zero, List.set_cons_succ]
      refine wpAnyH_done (by kernel_rfl) ?_ _
      clear hS
      go_wp2_with fail
      go_ret
      exact res_mk HQ.out rfl HL2.out HT2.out
/-- What is loose is synced. -/
def synR (p : PD) (L : LV) : Int × PD × LV := if L.loose = true then (synE p L.f, synP p L.f, ⟨L.f, L.gen, L.size, synE p L.f != 0, L.down⟩) else (0, p, L)
set_option maxHeartbeats 3200000 in
set_option maxRecDepth 100000 in
theorem synC_any {base h g : Nat} {L : LV} {D : DS} (b1 : Nat) (w : World) (H : LogAt base h g w L D) (hO : D.p.Ok) (hd : D.p.done ≤ 999999998000)
    (hk1 : w.heap[b1]? = some (.cells #[vD h] 27 (0, 0))) (ho1 : Off h g D b1) :
    Calls Tryd.prog 35 #[.pointer (some ⟨b1, 0, none⟩)] w (LRes base h g D w (synR D.p L)) := by
  have HH := hide H
  have HR := hide (show synR D.p L = if L.loose = true then (synE D.p L.f, synP D.p L.f, (⟨L.f, L.gen, L.size, synE D.p L.f != 0, L.down⟩ : LV)) else (0, D.p, L) from rfl)
  have HA1 := hide (sync_any L.f w.drew (H.disk.below (Below.refl _ _).drew) hO (by omega))
  have HK1 := hide (And.intro (block_lt hk1) hk1)
  have HO1 := hide ho1
  have q1 := Lib.cell_of_heap hk1 0
  obtain ⟨c0, c1, c2, c3, c4, c5⟩ := H.cells
  clear H hO hd hk1 c0 c1 c2 c3 c5
  generalize synR D.p L = r at *
  generalize hae : synE D.p L.f = ae at *
  generalize hap : synP D.p L.f = ap at *
  clear hae hap
  cases hlo : L.loose
  · have HQ := hide (show r = (0, D.p, L) by rw [HR.out, if_neg (by rw [hlo]; decide)])
    rw [hlo] at c4
    clear HR HA1 hlo
    go_enter Tryd.func35, Tryd.ntmps35
    go_wp2_with fail
    go_ret
    exact res_mk HQ.out rfl HH.out (LTurn.of_below (Below.refl _ _))
  · have HQ := hide (show r = (ae, ap, (⟨L.f, L.gen, L.size, ae != 0, L.down⟩ : LV)) by rw [HR.out, if_pos hlo])
    rw [hlo] at c4
    clear HR hlo
    go_enter Tryd.func35, Tryd.ntmps35
    go_upto_region 3 with fail
    refine wp_region_held_drew (S := fun w' => w'.heap[h]? = some (.cells (lCells g L) 66 (0, 0)) ∧ w'.heap[b1]? = some (.cells #[vD h] 27 (0, 0))) (by kernel_rfl) (⟨(HH.out.below (Below.refl _ _).drew).box, ((Below.refl w.heap.size w).drew.block _ HK1.out.1).trans HK1.out.2⟩) (fun hS => ?_)
    refine wpAnyH_take (i := 0) (oi := ⟨some 8, _, _, _, _, _⟩) (v := ?_) rfl (by kernel_rfl) (by kernel_rfl) (by kernel_rfl) (fun _ _ _ h => h) (Or.inl ⟨by rfl, ?_⟩) hS ?_
    rotate_left 1
    · intro w' hw'
      have k0 := Lib.cell_of_heap hw'.1 0; have k1 := Lib.cell_of_heap hw'.1 1; have k2 := Lib.cell_of_heap hw'.2 0
      go_simp
      all_goals with_reducible rfl
    try simp only [Act.put, List.setIfInBounds_toArray, List.set_cons_zero, List.set_cons_succ]
    refine wpAnyH_take (i := 1) (oi := ⟨some 9, _, _, _, _, _⟩) (v := ?_) rfl (by kernel_rfl) (by kernel_rfl) (by kernel_rfl) (fun _ _ _ h => h) (Or.inl ⟨by rfl, ?_⟩) hS ?_
    rotate_left 1
    · intro w' hw'
      have k0 := Lib.cell_of_heap hw'.1 0; have k1 := Lib.cell_of_heap hw'.1 1; have k2 := Lib.cell_of_heap hw'.2 0
      go_simp
      all_goals with_reducible rfl
    try simp only [Act.put, List.setIfInBounds_toArray, List.set_cons_zero, List.set_cons_succ]
    refine wpAnyH_take (i := 2) (oi := ⟨some 10, _, _, _, _, _⟩) (v := ?_) rfl (by kernel_rfl) (by kernel_rfl) (by kernel_rfl) (fun _ _ _ h => h) (Or.inl ⟨by rfl, ?_⟩) hS ?_
    rotate_left 1
    · intro w' hw'
      have k0 := Lib.cell_of_heap hw'.1 0; have k1 := Lib.cell_of_heap hw'.1 1; have k2 := Lib.cell_of_heap hw'.2 0
      go_simp
      all_goals with_reducible rfl
    try simp only [Act.put, List.setIfInBounds_toArray, List.set_cons_zero, List.set_cons_succ]
    refine wpAnyH_take (i := 3) (oi := ⟨some 11, _, _, _, _, _⟩) (v := ?_) rfl (by kernel_rfl) (by kernel_rfl) (by kernel_rfl) (fun _ _ _ h => h) (Or.inl ⟨by rfl, ?_⟩) hS ?_
    rotate_left 1
    · intro w' hw'
      have k0 := Lib.cell_of_heap hw'.1 0; have k1 := Lib.cell_of_heap hw'.1 1; have k2 := Lib.cell_of_heap hw'.2 0
      go_simp
      all_goals with_reducible rfl
    try simp only [Act.put, List.setIfInBounds_toArray, List.set_cons_zero, List.set_cons_succ]
    refine wpAnyH_take (i := 4) (oi := ⟨some 12, _, _, _, _, _⟩) (v := ?_) rfl (by kernel_rfl) (by kernel_rfl) (by kernel_rfl) (fun _ _ _ h => h) (Or.inl ⟨by rfl, ?_⟩) hS ?_
    rotate_left 1
    · intro w' hw'
      have k0 := Lib.cell_of_heap hw'.1 0; have k1 := Lib.cell_of_heap hw'.1 1; have k2 := Lib.cell_of_heap hw'.2 0
      go_simp
      all_goals with_reducible rfl
    try simp only [Act.put, List.setIfInBounds_toArray, List.set_cons_zero, List.set_cons_succ]
    refine wpAnyH_take (i := 5) (oi := ⟨some 13, _, _, _, _, _⟩) (v := ?_) rfl (by kernel_rfl) (by kernel_rfl) (by kernel_rfl) (fun _ _ _ h => h) (Or.inl ⟨by rfl, ?_⟩) hS ?_
    rotate_left 1
    · intro w' hw'
      have k0 := Lib.cell_of_heap hw'.1 0; have k1 := Lib.cell_of_heap hw'.1 1; have k2 := Lib.cell_of_heap hw'.2 0
      go_simp
      all_goals with_reducible rfl
    try simp only [Act.put, List.setIfInBounds_toArray, List.set_cons_zero, List.set_cons_succ]
    refine wpAnyH_take (i := 6) (oi := ⟨some 14, _, _, _, _, _⟩) (v := ?_) rfl (by kernel_rfl) (by kernel_rfl) (by kernel_rfl) (fun _ _ _ h => h) (Or.inl ⟨by rfl, ?_⟩) hS ?_
    rotate_left 1
    · intro w' hw'
      have k0 := Lib.cell_of_heap hw'.1 0; have k1 := Lib.cell_of_heap hw'.1 1; have k2 := Lib.cell_of_heap hw'.2 0
      go_simp
      all_goals with_reducible rfl
    try simp only [Act.put, List.setIfInBounds_toArray, List.set_cons_zero, List.set_cons_succ]
    refine wpAnyH_take (i := 7) (oi := ⟨some 15, _, _, _, _, _⟩) (v := ?_) rfl (by kernel_rfl) (by kernel_rfl) (by kernel_rfl) (fun _ _ _ h => h) (Or.inl ⟨by rfl, ?_⟩) hS ?_
    rotate_left 1
    · intro w' hw'
      have k0 := Lib.cell_of_heap hw'.1 0; have k1 := Lib.cell_of_heap hw'.1 1; have k2 := Lib.cell_of_heap hw'.2 0
      go_simp
      all_goals with_reducible rfl
    try simp only [Act.put, List.setIfInBounds_toArray, List.set_cons_zero, List.set_cons_succ]
    refine wpAnyH_ready (rs := [8]) (by kernel_rfl) (by simp) ?_
    refine AllReadyH.cons (o := ⟨some 16, _, _, _, _, _⟩) rfl (fun K hK => ?_) AllReadyH.nil
    go_simp
    go_at_call 36
    refine HA1.out.mono ?_
    rintro e w2 ⟨rfl, D2, rfl, hD2, hT2⟩
    have HL2 := hide ((HH.out.below (Below.refl _ _).drew).turn hD2 hT2)
    have HT2 := hide ((LTurn.of_below (h := h) (Below.refl w.heap.size w).drew).trans (LTurn.of_turned hT2))
    have HX2 := hide ((HT2.out.off b1 HO1.out HK1.out.1).2.trans HK1.out.2)
    clear hD2 hT2
    refine hK.out _ _ (⟨HL2.out.box, HX2.out⟩) (fun hS => ?_)
    clear hK K
    try simp only [Act.put, List.setIfInBounds_toArray, List.set_cons_zero, List.set_cons_succ]
    refine wpAnyH_ready (rs := [9]) (by kernel_rfl) (by simp) ?_
    refine AllReadyH.cons (o := ⟨some 2, _, _, _, _, _⟩) rfl (fun K hK => ?_) AllReadyH.nil
    go_simp
    refine hK.out _ _ hS (fun hS => ?_)
    clear hK K
    try simp only [Act.put, List.setIfInBounds_toArray, List.set_cons_zero, List.set_cons_succ]
    refine wpAnyH_done (by kernel_rfl) ?_ _
    obtain ⟨m0, m1, m2, m3, m4, m5⟩ := HL2.out.cells
    have hlt := HL2.out.lt
    have n1 := Lib.cell_of_heap HX2.out 0
    have f4 := HL2.out.frozen 4
    have HZ := hide (HL2.out.set 4 (.bool (ae != 0)) ⟨L.f, L.gen, L.size, ae != 0, L.down⟩ rfl)
    clear hS c4 q1
    go_wp2_with fail
    go_ret
    exact res_mk HQ.out rfl HZ.out.1 (HT2.out.trans HZ.out.2)
end Go.Proofs.YtkdihekhdnnheaaDoor
namespace Go.Proofs.YtkdihekhdnnheaaDoor
open Go.RowKit

/-- The checkpoint and all groups are replaced. -/
def compR (p : PD) (L : LV) (cp : List UInt8) : Int × PD × LV :=
  if (rewR p L (1 - L.f) (L.gen + 1) cp).1 = 0 then (ctE (rewR p L (1 - L.f) (L.gen + 1) cp).2.1 L.f 0, ctP (rewR p L (1 - L.f) (L.gen + 1) cp).2.1 L.f 0, (rewR p L (1 - L.f) (L.gen + 1) cp).2.2) else rewR p L (1 - L.f) (L.gen + 1) cp
theorem rewS_ok {p : PD} (h : p.Ok) (L : LV) (f : Nat) (gen : Int) (cp : List UInt8) : (rewS p L f gen cp).2.1.Ok ∧ p.done ≤ (rewS p L f gen cp).2.1.done ∧ (rewS p L f gen cp).2.1.done ≤ p.done + 1 := by
  unfold rewS
  split <;> exact ⟨syn_okG h _, syn_done p _⟩
theorem rewA_ok {p : PD} (h : p.Ok) (L : LV) (f : Nat) (gen : Int) (cp : List UInt8) : (rewA p L f gen cp).2.1.Ok ∧ p.done ≤ (rewA p L f gen cp).2.1.done ∧ (rewA p L f gen cp).2.1.done ≤ p.done + 2 := by
  unfold rewA
  have h1 := app_done p f (headB gen cp)
  split
  · have h2 := rewS_ok (app_ok h f (headB gen cp)) L f gen cp
    exact ⟨h2.1, by omega, by omega⟩
  · exact ⟨app_ok h _ _, h1.1, by show (appP p f (headB gen cp)).done ≤ _; omega⟩
theorem rewR_ok {p : PD} (h : p.Ok) (L : LV) (f : Nat) (gen : Int) (cp : List UInt8) : (rewR p L f gen cp).2.1.Ok ∧ p.done ≤ (rewR p L f gen cp).2.1.done ∧ (rewR p L f gen cp).2.1.done ≤ p.done + 3 := by
  unfold rewR
  have h1 := emptyR_ok h L f
  split
  · have h2 := rewA_ok h1.1 L f gen cp
    exact ⟨h2.1, by omega, by omega⟩
  · exact ⟨h1.1, h1.2.1, by omega⟩
set_option maxHeartbeats 3200000 in
set_option maxRecDepth 100000 in
theorem compC_any {base h g : Nat} {L : LV} {D : DS} (b1 b2 : Nat) (A : Option Addr) (c : Nat) (cp : List UInt8) (w : World) (H : LogAt base h g w L D) (hO : D.p.Ok) (hd : D.p.done ≤ 999999998000) (hf : L.f < 2) (hT : Tab w) (hTo : Off h g D 0) (hg0 : 0 ≤ L.gen) (hg1 : L.gen ≤ 1000000000000)
    (hk1 : w.heap[b1]? = some (.cells #[vD h] 27 (0, 0))) (hk2 : w.heap[b2]? = some (.cells #[.slice A cp.length c] 28 (0, 0))) (ho1 : Off h g D b1) (ho2 : Off h g D b2)
    (hB : BytesIn (Off h g D) w A cp) (hl : cp.length ≤ 1073741824) :
    Calls Tryd.prog 37 #[.pointer (some ⟨b1, 0, none⟩), .pointer (some ⟨b2, 0, none⟩)] w (LRes base h g D w (compR D.p L cp)) := by
  have HH := hide H
  have HR := hide (show compR D.p L cp = if (rewR D.p L (1 - L.f) (L.gen + 1) cp).1 = 0 then (ctE (rewR D.p L (1 - L.f) (L.gen + 1) cp).2.1 L.f 0, ctP (rewR D.p L (1 - L.f) (L.gen + 1) cp).2.1 L.f 0, (rewR D.p L (1 - L.f) (L.gen + 1) cp).2.2) else rewR D.p L (1 - L.f) (L.gen + 1) cp from rfl)
  have hmn : min L.gen 9223372036854775806 = L.gen := by omega
  have HA1 := hide (show Calls Tryd.prog 38 #[vD h, .int .i64 (1 - L.f : Nat), .int .i64 (min L.gen 9223372036854775806 + 1), .slice A cp.length c] w.drew (LRes base h g D w.drew (rewR D.p L (1 - L.f) (L.gen + 1) cp)) by rw [hmn]; exact rewrite_any (1 - L.f) (L.gen + 1) A c cp w.drew (H.below (Below.refl _ _).drew) hO (by omega) (by omega) ⟨by omega, by omega⟩ (hB.below (Below.refl _ _).drew) (hT.on (Below.refl _ _).drew) hTo hl)
  have hm0 : 0 ≤ min L.gen 9223372036854775806 := by omega
  have hm1 : min L.gen 9223372036854775806 ≤ 1000000000000 := by omega
  clear hmn
  unfold LRes at HA1
  have HOt := hide (fun w' => other_any L.f w' hf)
  obtain ⟨ho3, -, hd3⟩ := rewR_ok hO L (1 - L.f) (L.gen + 1) cp
  have HO3 := hide ho3
  have HD3 := hide (show (rewR D.p L (1 - L.f) (L.gen + 1) cp).2.1.done ≤ 999999998003 by omega)
  have HK1 := hide (And.intro (block_lt hk1) hk1)
  have HK2 := hide (And.intro (block_lt hk2) hk2)
  have HO1 := hide ho1
  have HO2 := hide ho2
  have HF := hide hf
  have q1 := Lib.cell_of_heap hk1 0
  have q2 := Lib.cell_of_heap hk2 0
  obtain ⟨c0, c1, c2, c3, c4, c5⟩ := H.cells
  clear H hO hd hk1 hk2 hT hTo hB hl ho3 hd3 c0 c3 c4 c5 hf hg0
  generalize compR D.p L cp = r at *
  generalize rewR D.p L (1 - L.f) (L.gen + 1) cp = r1 at *
  obtain ⟨e1, p1, L1⟩ := r1
  simp only at HR HA1 HO3 HD3
  by_cases h1 : e1 = 0
  · have HQ := hide (HR.out.trans (if_pos h1))
    subst h1
    clear HR
    go_enter Tryd.func37, Tryd.ntmps37
    go_upto_region 3 with fail
    refine wp_region_held_drew (S := fun w' => w'.heap[b1]? = some (.cells #[vD h] 27 (0, 0)) ∧ w'.heap[b2]? = some (.cells #[.slice A cp.length c] 28 (0, 0))) (by kernel_rfl) (⟨((Below.refl w.heap.size w).drew.block _ HK1.out.1).trans HK1.out.2, ((Below.refl w.heap.size w).drew.block _ HK2.out.1).trans HK2.out.2⟩) (fun hS => ?_)
    refine wpAnyH_take (i := 0) (oi := ⟨some 16, _, _, _, _, _⟩) (v := ?_) rfl (by kernel_rfl) (by kernel_rfl) (by kernel_rfl) (fun _ _ _ h => h) (Or.inl ⟨by rfl, ?_⟩) hS ?_
    rotate_left 1
    · intro w' hw'
      have k0 := Lib.cell_of_heap hw'.1 0; have k1 := Lib.cell_of_heap hw'.2 0
      go_simp
      all_goals with_reducible rfl
    try simp only [Act.put, List.setIfInBounds_toArray, List.set_cons_zero, List.set_cons_succ]
    refine wpAnyH_take (i := 1) (oi := ⟨some 17, _, _, _, _, _⟩) (v := ?_) rfl (by kernel_rfl) (by kernel_rfl) (by kernel_rfl) (fun _ _ _ h => h) (Or.inl ⟨by rfl, ?_⟩) hS ?_
    rotate_left 1
    · intro w' hw'
      have k0 := Lib.cell_of_heap hw'.1 0; have k1 := Lib.cell_of_heap hw'.2 0
      go_simp
      all_goals with_reducible rfl
    try simp only [Act.put, List.setIfInBounds_toArray, List.set_cons_zero, List.set_cons_succ]
    refine wpAnyH_take (i := 3) (oi := ⟨some 19, _, _, _, _, _⟩) (v := ?_) rfl (by kernel_rfl) (by kernel_rfl) (by kernel_rfl) (fun _ _ _ h => h) (Or.inl ⟨by rfl, ?_⟩) hS ?_
    rotate_left 1
    · intro w' hw'
      have k0 := Lib.cell_of_heap hw'.1 0; have k1 := Lib.cell_of_heap hw'.2 0
      go_simp
      all_goals with_reducible rfl
    try simp only [Act.put, List.setIfInBounds_toArray, List.set_cons_zero, List.set_cons_succ]
    refine wpAnyH_take (i := 4) (oi := ⟨some 20, _, _, _, _, _⟩) (v := ?_) rfl (by kernel_rfl) (by kernel_rfl) (by kernel_rfl) (fun _ _ _ h => h) (Or.inl ⟨by rfl, ?_⟩) hS ?_
    rotate_left 1
    · intro w' hw'
      have k0 := Lib.cell_of_heap hw'.1 0; have k1 := Lib.cell_of_heap hw'.2 0
      go_simp
      all_goals with_reducible rfl
    try simp only [Act.put, List.setIfInBounds_toArray, List.set_cons_zero, List.set_cons_succ]
    refine wpAnyH_ready (rs := [2]) (by kernel_rfl) (by simp) ?_
    refine AllReadyH.cons (o := ⟨some 18, _, _, _, _, _⟩) rfl (fun K hK => ?_) AllReadyH.nil
    go_simp
    go_at_call 39
    refine (HOt.out _).mono ?_
    rintro e w2 ⟨rfl, rfl⟩
    refine hK.out _ _ (hS) (fun hS => ?_)
    clear hK K
    try simp only [Act.put, List.setIfInBounds_toArray, List.set_cons_zero, List.set_cons_succ]
    refine wpAnyH_ready (rs := [5]) (by kernel_rfl) (by simp) ?_
    refine AllReadyH.cons (o := ⟨some 21, _, _, _, _, _⟩) rfl (fun K hK => ?_) AllReadyH.nil
    go_simp
    go_at_call 38
    refine HA1.out.mono ?_
    rintro e w2 ⟨rfl, D2, rfl, hL2, hT2⟩
    have HL2 := hide hL2
    have HT2 := hide ((LTurn.of_below (h := h) (Below.refl w.heap.size w).drew).trans hT2)
    have HX2 := hide ((HT2.out.off b1 HO1.out HK1.out.1).2.trans HK1.out.2)
    have HX3 := hide ((HT2.out.off b2 HO2.out HK2.out.1).2.trans HK2.out.2)
    clear hL2 hT2
    refine hK.out _ _ (⟨HX2.out, HX3.out⟩) (fun hS => ?_)
    clear hK K
    try simp only [Act.put, List.setIfInBounds_toArray, List.set_cons_zero, List.set_cons_succ]
    refine wpAnyH_ready (rs := [6]) (by kernel_rfl) (by simp) ?_
    refine AllReadyH.cons (o := ⟨some 5, _, _, _, _, _⟩) rfl (fun K hK => ?_) AllReadyH.nil
    go_simp
    refine hK.out _ _ hS (fun hS => ?_)
    clear hK K
    try simp only [Act.put, List.setIfInBounds_toArray, List.set_cons_zero, List.set_cons_succ]
    refine wpAnyH_done (by kernel_rfl) ?_ _
    obtain ⟨m0, m1, m2, m3, m4, m5⟩ := HL2.out.cells
    have n1 := Lib.cell_of_heap HX2.out 0
    have HCt := hide (cut_any L.f 0 w2 HL2.out.disk HO3.out (by have := HD3.out; omega))
    generalize ctE D2.p L.f 0 = ce at *
    generalize ctP D2.p L.f 0 = cq at *
    clear hS c1 c2 q1 q2 HA1
    go_wp2_with fail
    refine HCt.out.mono ?_
    rintro e w3 ⟨rfl, D3, rfl, hD3, hT3⟩
    have HA := hide (And.intro (HL2.out.turn hD3 hT3) (HT2.out.trans (LTurn.of_turned hT3)))
    clear hD3 hT3
    go_wp2_with fail
    go_ret
    exact res_mk HQ.out rfl HA.out.1 HA.out.2
  · have HQ := hide (show r = (e1, p1, L1) by rw [HR.out, if_neg h1])
    have hb := ne_b h1
    clear HR h1
    go_enter Tryd.func37, Tryd.ntmps37
    go_upto_region 3 with fail
    refine wp_region_held_drew (S := fun w' => w'.heap[b1]? = some (.cells #[vD h] 27 (0, 0)) ∧ w'.heap[b2]? = some (.cells #[.slice A cp.length c] 28 (0, 0))) (by kernel_rfl) (⟨((Below.refl w.heap.size w).drew.block _ HK1.out.1).trans HK1.out.2, ((Below.refl w.heap.size w).drew.block _ HK2.out.1).trans HK2.out.2⟩) (fun hS => ?_)
    refine wpAnyH_take (i := 0) (oi := ⟨some 16, _, _, _, _, _⟩) (v := ?_) rfl (by kernel_rfl) (by kernel_rfl) (by kernel_rfl) (fun _ _ _ h => h) (Or.inl ⟨by rfl, ?_⟩) hS ?_
    rotate_left 1
    · intro w' hw'
      have k0 := Lib.cell_of_heap hw'.1 0; have k1 := Lib.cell_of_heap hw'.2 0
      go_simp
      all_goals with_reducible rfl
    try simp only [Act.put, List.setIfInBounds_toArray, List.set_cons_zero, List.set_cons_succ]
    refine wpAnyH_take (i := 1) (oi := ⟨some 17, _, _, _, _, _⟩) (v := ?_) rfl (by kernel_rfl) (by kernel_rfl) (by kernel_rfl) (fun _ _ _ h => h) (Or.inl ⟨by rfl, ?_⟩) hS ?_
    rotate_left 1
    · intro w' hw'
      have k0 := Lib.cell_of_heap hw'.1 0; have k1 := Lib.cell_of_heap hw'.2 0
      go_simp
      all_goals with_reducible rfl
    try simp only [Act.put, List.setIfInBounds_toArray, List.set_cons_zero, List.set_cons_succ]
    refine wpAnyH_take (i := 3) (oi := ⟨some 19, _, _, _, _, _⟩) (v := ?_) rfl (by kernel_rfl) (by kernel_rfl) (by kernel_rfl) (fun _ _ _ h => h) (Or.inl ⟨by rfl, ?_⟩) hS ?_
    rotate_left 1
    · intro w' hw'
      have k0 := Lib.cell_of_heap hw'.1 0; have k1 := Lib.cell_of_heap hw'.2 0
      go_simp
      all_goals with_reducible rfl
    try simp only [Act.put, List.setIfInBounds_toArray, List.set_cons_zero, List.set_cons_succ]
    refine wpAnyH_take (i := 4) (oi := ⟨some 20, _, _, _, _, _⟩) (v := ?_) rfl (by kernel_rfl) (by kernel_rfl) (by kernel_rfl) (fun _ _ _ h => h) (Or.inl ⟨by rfl, ?_⟩) hS ?_
    rotate_left 1
    · intro w' hw'
      have k0 := Lib.cell_of_heap hw'.1 0; have k1 := Lib.cell_of_heap hw'.2 0
      go_simp
      all_goals with_reducible rfl
    try simp only [Act.put, List.setIfInBounds_toArray, List.set_cons_zero, List.set_cons_succ]
    refine wpAnyH_ready (rs := [2]) (by kernel_rfl) (by simp) ?_
    refine AllReadyH.cons (o := ⟨some 18, _, _, _, _, _⟩) rfl (fun K hK => ?_) AllReadyH.nil
    go_simp
    go_at_call 39
    refine (HOt.out _).mono ?_
    rintro e w2 ⟨rfl, rfl⟩
    refine hK.out _ _ (hS) (fun hS => ?_)
    clear hK K
    try simp only [Act.put, List.setIfInBounds_toArray, List.set_cons_zero, List.set_cons_succ]
    refine wpAnyH_ready (rs := [5]) (by kernel_rfl) (by simp) ?_
    refine AllReadyH.cons (o := ⟨some 21, _, _, _, _, _⟩) rfl (fun K hK => ?_) AllReadyH.nil
    go_simp
    go_at_call 38
    refine HA1.out.mono ?_
    rintro e w2 ⟨rfl, D2, rfl, hL2, hT2⟩
    have HL2 := hide hL2
    have HT2 := hide ((LTurn.of_below (h := h) (Below.refl w.heap.size w).drew).trans hT2)
    have HX2 := hide ((HT2.out.off b1 HO1.out HK1.out.1).2.trans HK1.out.2)
    have HX3 := hide ((HT2.out.off b2 HO2.out HK2.out.1).2.trans HK2.out.2)
    clear hL2 hT2
    refine hK.out _ _ (⟨HX2.out, HX3.out⟩) (fun hS => ?_)
    clear hK K
    try simp only [Act.put, List.setIfInBounds_toArray, List.set_cons_zero, List.set_cons_succ]
    refine wpAnyH_ready (rs := [6]) (by kernel_rfl) (by simp) ?_
    refine AllReadyH.cons (o := ⟨some 5, _, _, _, _, _⟩) rfl (fun K hK => ?_) AllReadyH.nil
    go_simp
    refine hK.out _ _ hS (fun hS => ?_)
    clear hK K
    try simp only [Act.put, List.setIfInBounds_toArray, List.set_cons_zero, List.set_cons_succ]
    refine wpAnyH_done (by kernel_rfl) ?_ _
    clear hS c1 c2 q1 q2 HA1
    go_wp2_with fail
    go_ret
    exact res_mk HQ.out rfl HL2.out HT2.out
end Go.Proofs.YtkdihekhdnnheaaDoor
namespace Go.Proofs.YtkdihekhdnnheaaDoor
open Go.RowKit

def appendR (p : PD) (L : LV) (rs : List (List UInt8)) : Int × PD × LV := powR p L (appR p L rs)
def syncR (p : PD) (L : LV) : Int × PD × LV := powR p L (synR p L)
def compactR (p : PD) (L : LV) (cp : List UInt8) : Int × PD × LV := powR p L (compR p L cp)
def commitR (p : PD) (L : LV) (rs : List (List UInt8)) : Int × PD × LV := if (appendR p L rs).1 = 0 then syncR (appendR p L rs).2.1 (appendR p L rs).2.2 else appendR p L rs
theorem powR_g (p : PD) (L : LV) (r : Int × PD × LV) : (powR p L r).2.1 = p ∨ (powR p L r).2.1 = r.2.1 := by unfold powR; split <;> simp
theorem appR_ok {p : PD} (h : p.Ok) (L : LV) (rs : List (List UInt8)) : (appR p L rs).2.1.Ok ∧ p.done ≤ (appR p L rs).2.1.done ∧ (appR p L rs).2.1.done ≤ p.done + 1 := by
  unfold appR
  split
  · exact ⟨h, Int.le_refl _, by show p.done ≤ p.done + 1; omega⟩
  · split <;> exact ⟨app_ok h _ _, app_done p _ _⟩
theorem appendR_ok {p : PD} (h : p.Ok) (L : LV) (rs : List (List UInt8)) : (appendR p L rs).2.1.Ok ∧ p.done ≤ (appendR p L rs).2.1.done ∧ (appendR p L rs).2.1.done ≤ p.done + 1 := by
  rcases powR_g p L (appR p L rs) with e | e
  · unfold appendR; rw [e]; exact ⟨h, Int.le_refl _, by omega⟩
  · unfold appendR; rw [e]; exact appR_ok h L rs
theorem synR_ok {p : PD} (h : p.Ok) (L : LV) : (synR p L).2.1.Ok ∧ p.done ≤ (synR p L).2.1.done ∧ (synR p L).2.1.done ≤ p.done + 1 := by
  unfold synR
  split
  · exact ⟨syn_okG h _, syn_done p _⟩
  · exact ⟨h, Int.le_refl _, by show p.done ≤ p.done + 1; omega⟩
theorem syncR_ok {p : PD} (h : p.Ok) (L : LV) : (syncR p L).2.1.Ok ∧ p.done ≤ (syncR p L).2.1.done ∧ (syncR p L).2.1.done ≤ p.done + 1 := by
  rcases powR_g p L (synR p L) with e | e
  · unfold syncR; rw [e]; exact ⟨h, Int.le_refl _, by omega⟩
  · unfold syncR; rw [e]; exact synR_ok h L
theorem commitR_ok {p : PD} (h : p.Ok) (L : LV) (rs : List (List UInt8)) : (commitR p L rs).2.1.Ok ∧ p.done ≤ (commitR p L rs).2.1.done ∧ (commitR p L rs).2.1.done ≤ p.done + 2 := by
  have h1 := appendR_ok h L rs
  unfold commitR
  split
  · have h2 := syncR_ok h1.1 (appendR p L rs).2.2
    exact ⟨h2.1, by omega, by omega⟩
  · exact ⟨h1.1, h1.2.1, by omega⟩
theorem compR_ok {p : PD} (h : p.Ok) (L : LV) (cp : List UInt8) : (compR p L cp).2.1.Ok ∧ p.done ≤ (compR p L cp).2.1.done ∧ (compR p L cp).2.1.done ≤ p.done + 4 := by
  have h1 := rewR_ok h L (1 - L.f) (L.gen + 1) cp
  unfold compR
  split
  · have h2 := ct_done (rewR p L (1 - L.f) (L.gen + 1) cp).2.1 L.f 0
    exact ⟨ct_ok h1.1 _ _, by show p.done ≤ (ctP _ _ _).done; omega, by show (ctP _ _ _).done ≤ _; omega⟩
  · exact ⟨h1.1, h1.2.1, by omega⟩
theorem compactR_ok {p : PD} (h : p.Ok) (L : LV) (cp : List UInt8) : (compactR p L cp).2.1.Ok ∧ p.done ≤ (compactR p L cp).2.1.done ∧ (compactR p L cp).2.1.done ≤ p.done + 4 := by
  rcases powR_g p L (compR p L cp) with e | e
  · unfold compactR; rw [e]; exact ⟨h, Int.le_refl _, by omega⟩
  · unfold compactR; rw [e]; exact compR_ok h L cp
theorem LRes.after {base h g : Nat} {D : DS} {w w1 : World} {r : Int × PD × LV} {e : Ending} {w' : World} (hb : Below w.heap.size w w1) (k : LRes base h g D w1 r e w') : LRes base h g D w r e w' := by
  obtain ⟨h1, D', h2, h3, h4⟩ := k
  exact ⟨h1, D', h2, h3, (LTurn.of_below hb).trans h4⟩
set_option maxHeartbeats 3200000 in
set_option maxRecDepth 100000 in
theorem logAppend_any {base h g : Nat} {L : LV} {D : DS} (A : Option Addr) (c : Nat) (rs : List BH) (w : World) (H : LogAt base h g w L D) (hO : D.p.Ok) (hd : D.p.done ≤ 999999998000) (hz : L.size ≤ 1073741824) (hT : Tab w)
    (hR : RecsIn (Off h g D) w A rs) (hl : rs.length ≤ 2000) (hm : ∀ j, j < rs.length → (rs.getD j dH).l.length ≤ 2000) :
    Calls Tryd.prog 12 #[vD h, .slice A rs.length c] w (LRes base h g D w (appendR D.p L (lsOf rs))) := by
  have hmf : ∀ (fn : Fn) (first cap : Array Value) (w : World), (Instr.makeFunc fn first cap).run Tryd.prog w = .ok (.func fn first cap) w := fun _ _ _ _ => rfl
  have HB := hide (Joins.below_alloc2 w (.cells #[vD h] 27) (.cells #[.slice A rs.length c] 36))
  have hk1 : ((w.alloc (.cells #[vD h] 27)).alloc (.cells #[.slice A rs.length c] 36)).heap[w.heap.size]? = some (.cells #[vD h] 27 (0, 0)) := (Below.heap_alloc _ _ _ (by simp)).trans (heap_alloc_new w _)
  have hk2 : ((w.alloc (.cells #[vD h] 27)).alloc (.cells #[.slice A rs.length c] 36)).heap[w.heap.size + 1]? = some (.cells #[.slice A rs.length c] 36 (0, 0)) := by
    have h := heap_alloc_new (w.alloc (.cells #[vD h] 27)) (.cells #[.slice A rs.length c] 36)
    simpa using h
  have HP := hide (powA_any (.pointer (some ⟨w.heap.size + 1, 0, none⟩)) (.pointer (some ⟨w.heap.size, 0, none⟩)) _ (H.below HB.out) fun _ =>
    appC_any w.heap.size (w.heap.size + 1) A c rs _ (H.below HB.out) hO hd hz (hT.on HB.out) hk1 hk2 (H.off_new (Nat.le_refl _)) (hR.below HB.out) hl hm)
  have HLt := hide H.lt
  have HQ := hide (show appendR D.p L (lsOf rs) = powR D.p L (appR D.p L (lsOf rs)) from rfl)
  unfold LRes at HP
  have q1 := Lib.cell_of_heap hk1 0
  generalize appendR D.p L (lsOf rs) = r at *
  generalize powR D.p L (appR D.p L (lsOf rs)) = r2 at *
  obtain ⟨e2, p2, L2⟩ := r2
  clear H hO hd hz hT hR hl hm hk1 hk2
  go_enter Tryd.func12, Tryd.ntmps12
  go_wp2_with fail
  refine HP.out.mono ?_
  rintro e w2 ⟨rfl, D2, rfl, hL2, ht2⟩
  have HA := hide (And.intro hL2 ((LTurn.of_below (h := h) HB.out).trans ht2))
  clear hL2 ht2 q1
  go_wp2_with fail
  go_ret
  exact res_mk HQ.out rfl HA.out.1 HA.out.2
set_option maxHeartbeats 3200000 in
set_option maxRecDepth 100000 in
theorem logSync_any {base h g : Nat} {L : LV} {D : DS} (w : World) (H : LogAt base h g w L D) (hO : D.p.Ok) (hd : D.p.done ≤ 999999998000) :
    Calls Tryd.prog 14 #[vD h] w (LRes base h g D w (syncR D.p L)) := by
  have hmf : ∀ (fn : Fn) (first cap : Array Value) (w : World), (Instr.makeFunc fn first cap).run Tryd.prog w = .ok (.func fn first cap) w := fun _ _ _ _ => rfl
  have HB := hide ((Below.refl w.heap.size w).alloc (Nat.le_refl _) (.cells #[vD h] 27))
  have hk1 : (w.alloc (.cells #[vD h] 27)).heap[w.heap.size]? = some (.cells #[vD h] 27 (0, 0)) := heap_alloc_new w _
  have HP := hide (powS_any (.pointer (some ⟨w.heap.size, 0, none⟩)) _ (H.below HB.out) fun _ =>
    synC_any w.heap.size _ (H.below HB.out) hO hd hk1 (H.off_new (Nat.le_refl _)))
  have HQ := hide (show syncR D.p L = powR D.p L (synR D.p L) from rfl)
  unfold LRes at HP
  have q1 := Lib.cell_of_heap hk1 0
  generalize syncR D.p L = r at *
  generalize powR D.p L (synR D.p L) = r2 at *
  obtain ⟨e2, p2, L2⟩ := r2
  clear H hO hd hk1
  go_enter Tryd.func14, Tryd.ntmps14
  go_wp2_with fail
  refine HP.out.mono ?_
  rintro e w2 ⟨rfl, D2, rfl, hL2, ht2⟩
  have HA := hide (And.intro hL2 ((LTurn.of_below (h := h) HB.out).trans ht2))
  clear hL2 ht2 q1
  go_wp2_with fail
  go_ret
  exact res_mk HQ.out rfl HA.out.1 HA.out.2
set_option maxHeartbeats 3200000 in
set_option maxRecDepth 100000 in
theorem logCompact_any {base h g : Nat} {L : LV} {D : DS} (A : Option Addr) (c : Nat) (cp : List UInt8) (w : World) (H : LogAt base h g w L D) (hO : D.p.Ok) (hd : D.p.done ≤ 999999998000) (hf : L.f < 2) (hT : Tab w) (hTo : Off h g D 0) (hg0 : 0 ≤ L.gen) (hg1 : L.gen ≤ 1000000000000)
    (hB : BytesIn (Off h g D) w A cp) (hl : cp.length ≤ 1073741824) :
    Calls Tryd.prog 15 #[vD h, .slice A cp.length c] w (LRes base h g D w (compactR D.p L cp)) := by
  have hmf : ∀ (fn : Fn) (first cap : Array Value) (w : World), (Instr.makeFunc fn first cap).run Tryd.prog w = .ok (.func fn first cap) w := fun _ _ _ _ => rfl
  have HB := hide (Joins.below_alloc2 w (.cells #[vD h] 27) (.cells #[.slice A cp.length c] 28))
  have hk1 : ((w.alloc (.cells #[vD h] 27)).alloc (.cells #[.slice A cp.length c] 28)).heap[w.heap.size]? = some (.cells #[vD h] 27 (0, 0)) := (Below.heap_alloc _ _ _ (by simp)).trans (heap_alloc_new w _)
  have hk2 : ((w.alloc (.cells #[vD h] 27)).alloc (.cells #[.slice A cp.length c] 28)).heap[w.heap.size + 1]? = some (.cells #[.slice A cp.length c] 28 (0, 0)) := by
    have h := heap_alloc_new (w.alloc (.cells #[vD h] 27)) (.cells #[.slice A cp.length c] 28)
    simpa using h
  have HP := hide (powC_any (.pointer (some ⟨w.heap.size, 0, none⟩)) (.pointer (some ⟨w.heap.size + 1, 0, none⟩)) _ (H.below HB.out) fun _ =>
    compC_any w.heap.size (w.heap.size + 1) A c cp _ (H.below HB.out) hO hd hf (hT.on HB.out) hTo hg0 hg1 hk1 hk2 (H.off_new (Nat.le_refl _)) (H.off_new (by omega)) (hB.below HB.out) hl)
  have HQ := hide (show compactR D.p L cp = powR D.p L (compR D.p L cp) from rfl)
  unfold LRes at HP
  have q1 := Lib.cell_of_heap hk1 0
  generalize compactR D.p L cp = r at *
  generalize powR D.p L (compR D.p L cp) = r2 at *
  obtain ⟨e2, p2, L2⟩ := r2
  clear H hO hd hf hT hTo hg0 hg1 hB hl hk1 hk2
  go_enter Tryd.func15, Tryd.ntmps15
  go_wp2_with fail
  refine HP.out.mono ?_
  rintro e w2 ⟨rfl, D2, rfl, hL2, ht2⟩
  have HA := hide (And.intro hL2 ((LTurn.of_below (h := h) HB.out).trans ht2))
  clear hL2 ht2 q1
  go_wp2_with fail
  go_ret
  exact res_mk HQ.out rfl HA.out.1 HA.out.2
set_option maxHeartbeats 3200000 in
set_option maxRecDepth 100000 in
theorem logCommit_any {base h g : Nat} {L : LV} {D : DS} (A : Option Addr) (c : Nat) (rs : List BH) (w : World) (H : LogAt base h g w L D) (hO : D.p.Ok) (hd : D.p.done ≤ 999999997000) (hz : L.size ≤ 1073741824) (hT : Tab w)
    (hR : RecsIn (Off h g D) w A rs) (hl : rs.length ≤ 2000) (hm : ∀ j, j < rs.length → (rs.getD j dH).l.length ≤ 2000) :
    Calls Tryd.prog 13 #[vD h, .slice A rs.length c] w (LRes base h g D w (commitR D.p L (lsOf rs))) := by
  have HAp := hide (logAppend_any A c rs w H hO (by omega) hz hT hR hl hm)
  obtain ⟨ho1, -, hd1⟩ := appendR_ok hO L (lsOf rs)
  have HO1 := hide ho1
  have HD1 := hide (show (appendR D.p L (lsOf rs)).2.1.done ≤ 999999997001 by omega)
  have HR := hide (show commitR D.p L (lsOf rs) = if (appendR D.p L (lsOf rs)).1 = 0 then syncR (appendR D.p L (lsOf rs)).2.1 (appendR D.p L (lsOf rs)).2.2 else appendR D.p L (lsOf rs) from rfl)
  unfold LRes at HAp
  generalize commitR D.p L (lsOf rs) = r at *
  generalize appendR D.p L (lsOf rs) = r1 at *
  obtain ⟨e1, p1, L1⟩ := r1
  simp only at HR HAp HO1 HD1
  clear H hO hd hz hT hR hl hm ho1 hd1
  by_cases h1 : e1 = 0
  · have HQ := hide (HR.out.trans (if_pos h1))
    subst h1
    clear HR
    go_enter Tryd.func13, Tryd.ntmps13
    go_wp2_with fail
    refine HAp.out.mono ?_
    rintro e w1 ⟨rfl, D1, rfl, hL1, ht1⟩
    have HT1 := hide ht1
    have HS := hide (logSync_any w1 hL1 HO1.out (by have := HD1.out; omega))
    unfold LRes at HS
    generalize syncR D1.p L1 = r2 at *
    obtain ⟨e2, p2, L2⟩ := r2
    clear hL1 ht1 HAp
    go_wp2_with fail
    refine HS.out.mono ?_
    rintro e w2 ⟨rfl, D2, rfl, hL2, ht2⟩
    have HA := hide (And.intro hL2 (HT1.out.trans ht2))
    clear hL2 ht2
    go_wp2_with fail
    go_ret
    exact res_mk HQ.out rfl HA.out.1 HA.out.2
  · have HQ := hide (HR.out.trans (if_neg h1))
    have hb := ne_b h1
    clear HR h1
    go_enter Tryd.func13, Tryd.ntmps13
    go_wp2_with fail
    refine HAp.out.mono ?_
    rintro e w1 ⟨rfl, D1, rfl, hL1, ht1⟩
    have HA := hide (And.intro hL1 ht1)
    clear hL1 ht1 HAp
    go_wp2_with fail
    go_ret
    exact res_mk HQ.out rfl HA.out.1 HA.out.2
end Go.Proofs.YtkdihekhdnnheaaDoor
