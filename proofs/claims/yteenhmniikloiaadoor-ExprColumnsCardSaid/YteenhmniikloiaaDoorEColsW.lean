/-
  The walk of ExprColumns.
-/
import Derived.Test.YteenhmniikloiaaDoorEColsL
import Derived.Test.YteenhmniikloiaaDoorEBuildW
import Derived.Test.YteenhmniikloiaaDoorMTypes
import Derived.Test.YteenhmniikloiaaDoorMAwake
import Derived.Test.YteenhmniikloiaaDoorMEval
import Derived.Deep.RegionLaw
import Derived.Lib.QuietBelow
import Derived.BigQuiet
namespace Go.Proofs.YteenhmniikloiaaDoor
open Go.RowKit Go.Maps

set_option maxHeartbeats 12800000 in
set_option maxRecDepth 100000 in
theorem exprColumns_walk (A : Option Addr) (c : Nat) (l : List PL) (S : Option Addr) (k : Nat) (cs : List (ByteArray × Int)) (RA : Option Addr) (ka : Nat) (ra : List (Int × Int × ByteArray)) (RB : Option Addr) (kb : Nat) (rb : List (Int × Int × ByteArray)) (w : World) (hP : PlainsAt w.heap.size w A l ∧ l.length ≤ c) (hw : wfP l) (hC : ColsAt w.heap.size w S cs) (hwc : Wf cs) (hRA : RowAt w.heap.size w RA ra) (hwA : WfR ra) (hRB : RowAt w.heap.size w RB rb) (hwB : WfR rb) (hnB : RB = none → kb = 0) (hR : Rls w) (hM : Cmps w) :
    Calls Tryd.prog 5 #[.agg #[.slice A l.length c, .slice S cs.length k, .slice RA ra.length ka, .slice RB rb.length kb]] w fun e w' => e = .returned (.bool true) ∧ Below w.heap.size w w' := by
  have HSm := hide (fun w' (h : Below w.heap.size w w') => small_any A c l w' (hP.1.on h) hw)
  have HSs := hide (fun w' (h : Below w.heap.size w w') => smallSchema_any S k cs w' (hC.on h) hwc.1 (fun j hj => (hwc.at hj).1))
  have HAw := hide (fun w' (h : Below w.heap.size w w') => awake_any w' (hR.stays h) (hM.stays h))
  have HFA := hide (fun w' (h : Below w.heap.size w w') => fits_any S RA k ka cs ra w' (hC.on h) (hRA.on h) hwc hwA)
  have HFB := hide (fun w' (h : Below w.heap.size w w') => fits_any S RB k kb cs rb w' (hC.on h) (hRB.on h) hwc hwB)
  have HL := hide (Joins.below_alloc1 w (.cells #[.slice A l.length c, .slice S cs.length k, .slice RA ra.length ka, .slice RB rb.length kb] 56))
  have HZ := hide (fun w' => zW_at (w := w) (a := .slice A l.length c) (b := .slice S cs.length k) (c := .slice RA ra.length ka) (d := .slice RB rb.length kb) (w' := w'))
  obtain ⟨W, hW⟩ : ∃ W, W = w.alloc (.cells #[.slice A l.length c, .slice S cs.length k, .slice RA ra.length ka, .slice RB rb.length kb] 56) := ⟨_, rfl⟩
  have HWE := hide hW
  rw [← hW] at HL HZ
  clear hW
  have HP := hide hP.1
  have HC := hide hP.2
  have HW := hide hw
  have HCs := hide hC
  have HWc := hide hwc
  have HRA := hide hRA
  have HWA := hide hwA
  have HRB := hide hRB
  have HWB := hide hwB
  have HNB := hide hnB
  have HR := hide hR
  have HM := hide hM
  cases hg : smallP l
  · rw [hg] at HSm
    clear hP hw hC hwc hRA hwA hRB hwB hR hM hnB HSs
    go_enter Tryd.func5, Tryd.ntmps5
    go_wp2_with fail
    rw [← HWE.out]
    refine (HSm.out _ HL.out).mono ?_
    rintro e w1 ⟨rfl, hb1⟩
    have HB1z := hide hb1
    have HB1 := hide (then_below HL.out hb1)
    clear hb1
    obtain ⟨m0, m1, m2, m3, mz⟩ := HZ.out _ HB1z.out
    go_wp2_with fail
    refine (HAw.out _ HB1.out).mono ?_
    rintro e w9 ⟨rfl, hb9⟩
    have HB9 := hide (then_below HB1.out hb9)
    clear hb9
    go_wp2_with fail
    go_ret
    exact ⟨rfl, HB9.out⟩
  have hlen := smallP_len hg
  by_cases h40 : 40 < l.length
  · have h40' : (40 : Int) < (l.length : Int) := by omega
    rw [hg] at HSm
    clear hP hw hC hwc hRA hwA hRB hwB hR hM hnB HSs hg hlen
    go_enter Tryd.func5, Tryd.ntmps5
    go_wp2_with fail
    rw [← HWE.out]
    refine (HSm.out _ HL.out).mono ?_
    rintro e w1 ⟨rfl, hb1⟩
    have HB1z := hide hb1
    have HB1 := hide (then_below HL.out hb1)
    clear hb1
    obtain ⟨m0, m1, m2, m3, mz⟩ := HZ.out _ HB1z.out
    go_wp2_with fail
    refine (HAw.out _ HB1.out).mono ?_
    rintro e w9 ⟨rfl, hb9⟩
    have HB9 := hide (then_below HB1.out hb9)
    clear hb9
    go_wp2_with fail
    go_ret
    exact ⟨rfl, HB9.out⟩
  have h40' : ¬ (40 : Int) < (l.length : Int) := by omega
  have h40'' : (l.length : Int) ≤ 40 := by omega
  cases hs : smallC cs
  · rw [hg] at HSm
    rw [hs] at HSs
    clear hP hw hC hwc hRA hwA hRB hwB hR hM hnB hg hlen h40
    go_enter Tryd.func5, Tryd.ntmps5
    go_wp2_with fail
    rw [← HWE.out]
    refine (HSm.out _ HL.out).mono ?_
    rintro e w1 ⟨rfl, hb1⟩
    have HB1z := hide hb1
    have HB1 := hide (then_below HL.out hb1)
    clear hb1
    obtain ⟨m0, m1, m2, m3, mz⟩ := HZ.out _ HB1z.out
    go_wp2_with fail
    refine (HSs.out _ HB1.out).mono ?_
    rintro e w2 ⟨rfl, hb2⟩
    have HB2z := hide (then_below HB1z.out hb2)
    have HB2 := hide (then_below HB1.out hb2)
    clear hb2
    clear m0 m1 m2 m3 mz
    obtain ⟨m0, m1, m2, m3, mz⟩ := HZ.out _ HB2z.out
    go_wp2_with fail
    refine (HAw.out _ HB2.out).mono ?_
    rintro e w9 ⟨rfl, hb9⟩
    have HB9 := hide (then_below HB2.out hb9)
    clear hb9
    go_wp2_with fail
    go_ret
    exact ⟨rfl, HB9.out⟩
  obtain ⟨h0, h300⟩ := smallP_len hg
  obtain ⟨b, off, rfl, hb, -⟩ := hP.1 0 h0
  have hl2 := smallC_len hs
  have HWf := hide (fun x (h : stripX x = (nodeP 60 l).1) => built_wf hg HW.out h)
  have hne : l ≠ [] := by intro e; rw [e] at h0; simp at h0
  have hbd := nodeP_bound 60 l hne
  have HNm := hide (fun x (h : stripX x = (nodeP 60 l).1) => ((namesX_strip x).symm.trans (congrArg namesX h)).trans (names_node 60 l hne))
  have HPn := hide (fun j (hj : j < l.length) => (smallP_at hg (HW.out.at hj)))
  rw [hg] at HSm
  rw [hs] at HSs
  clear hP hw hC hwc hRA hwA hRB hwB hR hM hnB hg hs hlen h40 hne
  go_enter Tryd.func5, Tryd.ntmps5
  go_wp2_with fail
  rw [← HWE.out]
  refine (HSm.out _ HL.out).mono ?_
  rintro e w1 ⟨rfl, hb1⟩
  have HB1z := hide hb1
  have HB1 := hide (then_below HL.out hb1)
  clear hb1
  obtain ⟨m0, m1, m2, m3, mz⟩ := HZ.out _ HB1z.out
  go_wp2_with fail
  refine (HSs.out _ HB1.out).mono ?_
  rintro e w2 ⟨rfl, hb2⟩
  have HB2z := hide (then_below HB1z.out hb2)
  have HB2 := hide (then_below HB1.out hb2)
  clear hb2
  clear m0 m1 m2 m3 mz
  obtain ⟨m0, m1, m2, m3, mz⟩ := HZ.out _ HB2z.out
  go_wp2_with fail
  refine (build_any l b off c w2 h0 h300 HC.out (HP.out.on HB2.out)).mono ?_
  rintro e w3 ⟨⟨x, rfl, hst, hlx, -⟩, hb3⟩
  have HB3 := hide (then_below HB2.out hb3)
  have HB3z := hide (then_below HB2z.out hb3)
  have HWx := hide (HWf.out x hst)
  have HSx := hide (tree_sz hst h0 h300)
  have HNx := hide (HNm.out x hst)
  have HLx := hide (hlx.on (boxE_below w3 x))
  have HB4 := hide (then_below HB3.out (boxE_below w3 x))
  have HB4z := hide (then_below HB3z.out (boxE_below w3 x))
  have HBox := hide (fun w' => boxE_at (w := w3) (x := x) (w' := w'))
  have HWE3 := hide (show boxE w3 x = w3.alloc (.cells #[.int .i64 x.kind, .string x.name, .int .i64 x.val.1, .int .i64 x.val.2.1, .string x.val.2.2, .string x.op, .slice x.adr x.args.length x.cap] 32) from rfl)
  rw [show vX x = .agg #[.int .i64 x.kind, .string x.name, .int .i64 x.val.1, .int .i64 x.val.2.1, .string x.val.2.2, .string x.op, .slice x.adr x.args.length x.cap] from rfl]
  have HCo := hide (fun w' (h : Below (boxE w3 x).heap.size (boxE w3 x) w') => columns_any x w' HSx.out (HLx.out.on h))
  have HEv := hide (fun R kr (row : List (Int × Int × ByteArray)) w' (h : Below (boxE w3 x).heap.size (boxE w3 x) w') (hr : RowAt w'.heap.size w' R row) (hwr : WfR row) => evalTop_any S k cs HWc.out R kr row hwr x w' HSx.out (HLx.out.on h) HWx.out.1 HWx.out.2 (HCs.out.on (then_below HB4.out h)) hr (HM.out.stays (then_below HB4.out h)) (HR.out.stays (then_below HB4.out h)))
  rw [show vX x = .agg #[.int .i64 x.kind, .string x.name, .int .i64 x.val.1, .int .i64 x.val.2.1, .string x.val.2.2, .string x.op, .slice x.adr x.args.length x.cap] from rfl] at HCo HEv
  have HAl := hide (fun (B C : List (Int × Int × ByteArray)) h1 h2 h3 => evalTop_alike (cs := cs) (A := B) (B := C) (x := x) h1 h2 h3)
  rw [HNx.out] at HCo HAl
  generalize (nodeP 60 l).2 = n at *
  clear hst hlx hb3
  clear m0 m1 m2 m3 mz
  obtain ⟨c0, c1, c2, c3, c4, c5, c6, cz⟩ := HBox.out _ (Below.refl _ _)
  go_wp2_with fail
  rw [← HWE3.out]
  generalize boxE w3 x = V at *
  clear HWE3 c0 c1 c2 c3 c4 c5 c6 cz
  generalize w3.heap.size = P at *
  refine (HCo.out _ (Below.refl _ _)).mono ?_
  rintro e w4 ⟨⟨NA, nc, rfl, hN⟩, hb4⟩
  have HV4 := hide hb4
  have HN4 := hide hN
  obtain ⟨N, hNe⟩ : ∃ N, N = colsB (kindsP (l.take n)) := ⟨_, rfl⟩
  rw [← hNe] at HN4
  have HRi := hide (fun i (h0 : 0 < i) (hi : i < N.length) => (by rw [hNe] at hi ⊢; exact cols_rising h0 hi : cmpS (N.getD (i - 1) ⟨#[]⟩) (N.getD i ⟨#[]⟩) < 0))
  have HMe := hide (fun s => (by rw [hNe]; exact cols_mem (kindsP (l.take n)) s : inN N s = true ↔ s ∈ kindsP (l.take n)))
  have HNs := hide (show ∀ i, i < N.length → (N.getD i ⟨#[]⟩).size ≤ 50 from fun i hi => by
    have hm : inN N (N.getD i ⟨#[]⟩) = true := by
      unfold inN
      refine List.any_eq_true.2 ⟨N.getD i ⟨#[]⟩, ?_, by simp⟩
      rw [List.getD_eq_getElem?_getD, List.getElem?_eq_getElem hi]
      exact List.getElem_mem hi
    have h := (HMe.out _).1 hm
    unfold kindsP at h
    obtain ⟨p, hp, h'⟩ := List.mem_flatMap.1 h
    obtain ⟨j, hj, e⟩ := List.getElem_of_mem (List.mem_of_mem_take hp)
    have hs := (HPn.out j hj).1
    rw [List.getD_eq_getElem?_getD, List.getElem?_eq_getElem hj, Option.getD_some, e] at hs
    split at h'
    · rw [List.mem_singleton.1 h']; exact hs
    · simp at h')
  have HSz := hide (show Maps.size (setB (kindsP (l.take n))) = N.length from by rw [hNe]; exact size_setB _)
  have hNl : N.length ≤ 300 := by
    rw [hNe]
    refine Nat.le_trans (cols_le _) (Nat.le_trans (kinds_len _) ?_)
    rw [List.length_take]; omega
  rw [← hNe]
  clear hb4 hN hNe
  go_wp2_with fail
  go_loopw [6] (fun i wr => ∃ q : Nat, 1 ≤ q ∧ i = .int .i64 q ∧ (q ≤ N.length ∨ q = 1) ∧ Below w4.heap.size w4 wr) (fun i _ => N.length - (intOf i).toNat)
  case atStart => exact ⟨1, Nat.le_refl _, rfl, .inr rfl, Below.refl _ _⟩
  case round =>
    obtain ⟨q, hq1, rfl, hq2, hbr⟩ := hrel
    have HBr := hide hbr
    clear hbr
    by_cases hlt : q < N.length
    · have hi1 : (1 : Int) ≤ (q : Int) := by omega
      have hi2 : (q : Int) < (N.length : Int) := by omega
      have hi3 : (q : Int) - 1 < (N.length : Int) := by omega
      have hi4 : (0 : Int) ≤ (q : Int) - 1 := by omega
      have hqe : (q : Int) - 1 = ((q - 1 : Nat) : Int) := by omega
      obtain ⟨bn, on, hNA, hbn, n1⟩ := HN4.out.below HBr.out q hlt
      obtain ⟨bn', on', hNA', -, n0⟩ := HN4.out.below HBr.out (q - 1) (by omega)
      subst hNA
      injection hNA' with hNA'
      injection hNA' with e1 e2
      subst e1 e2
      have hcm := HRi.out q (by omega) hlt
      have hsz := HNs.out (q - 1) (by omega)
      have HBy := hide (fun w' => bytes_any (N.getD (q - 1) ⟨#[]⟩) (N.getD q ⟨#[]⟩) w' (by unfold maxLen; omega))
      generalize N.getD (q - 1) ⟨#[]⟩ = s0 at *
      generalize N.getD q ⟨#[]⟩ = s1 at *
      generalize cmpS s0 s1 = z at *
      have hz : ¬ (0 : Int) ≤ z := by omega
      generalize hqm : q - 1 = qm at *
      obtain rfl : q = qm + 1 := by omega
      clear hcm hsz hqm hqe
      have r0 := fun d os => cell_regrown n0 d os
      have r1 := fun d os => cell_regrown n1 d os
      clear n0 n1
      go_wp2_with fail
      refine wp_region_quiet_below (by kernel_rfl) (by kernel_rfl) ?_
      repeat (go_big_quiet_step (first | (go_at_call 23; exact Calls.regrown_of (HBy.out _))))
      refine wpQuiet_nil ?_
      intro _ hw'
      obtain ⟨⟨dq, osq⟩, hw''⟩ := hw'
      subst hw''
      have HA := hide (then_below HBr.out (below_regrown _ dq osq))
      go_wp2_with fail
      go_roundw
      case rel => exact ⟨qm + 1 + 1, by omega, by go_num, .inl (by omega), HA.out⟩
      case measure => simp [intOf]; omega
    · have HB4w := hide (then_below HB4.out HV4.out)
      have HZ4w := hide (then_below HB4z.out HV4.out)
      have hm1 := HBr.out.size
      have HS0 := hide (made_set wr)
      have HB6 := hide (HBr.out.alloc HBr.out.size (.map #[] 0))
      have hm1l : wr.heap.size < (wr.alloc (.map #[] 0)).heap.size := by simp
      have hmm := @run_makeMap Tryd.prog
      clear hq1 hq2 HRi
      go_wp2_with fail
      clear hlt
      generalize (wr.alloc (.map #[] 0)) = U at *
      generalize wr.heap.size = bk1 at *
      go_loopw [65] (fun i wq => ∃ q : Nat, q ≤ N.length ∧ i = .int .i64 q ∧ ownsSet wq bk1 q (N.take q) ∧ Below w4.heap.size w4 wq) (fun i _ => N.length - (intOf i).toNat)
      case atStart => exact ⟨0, Nat.zero_le _, rfl, by rw [List.take_zero]; exact HS0.out, HB6.out⟩
      case round =>
        obtain ⟨q2, hq, rfl, hset, hbq⟩ := hrel
        have HSt := hide hset
        have HBq := hide hbq
        clear hset hbq
        by_cases hlt : q2 < N.length
        · obtain ⟨bn, on, hNA, hbn, n1⟩ := HN4.out.below HBq.out q2 hlt
          have hsz : (N.getD q2 ⟨#[]⟩).size ≤ maxLen := by have := HNs.out q2 hlt; unfold maxLen; omega
          have HTk := hide (show N.take (q2 + 1) = N.take q2 ++ [N.getD q2 ⟨#[]⟩] from by rw [List.take_add_one, List.getElem?_eq_getElem hlt, List.getD_eq_getElem?_getD, List.getElem?_eq_getElem hlt]; rfl)
          subst hNA
          generalize N.getD q2 ⟨#[]⟩ = s0 at *
          clear hmm
          go_wp2_with (at_mapUpdate; go_must (refine wpList_put_set _ rfl _ _ _ rfl bk1 q2 (N.take q2) rfl HSt.out (by unfold maxLen; omega) s0 rfl rfl hsz ?_))
          intro w6 hset6 hgr6
          have HS6 := hide hset6
          have HB7 := hide (HBq.out.grown hgr6 HBq.out.size (fun j hj => by cases hj; exact hm1))
          clear hset6 hgr6
          go_wp2_with fail
          go_roundw
          case rel => exact ⟨q2 + 1, by omega, by go_num, by rw [HTk.out]; exact HS6.out, HB7.out⟩
          case measure => simp [intOf]; omega
        · obtain rfl : q2 = N.length := by omega
          rw [List.take_length] at HSt
          clear HS0 HB6
          have hml := HSt.out.lt
          have hqs := HBq.out.size
          have HS2 := hide (made_set wr)
          have HS1 := hide (HSt.out.alloc (.map #[] 0))
          have HB8 := hide (HBq.out.alloc HBq.out.size (.map #[] 0))
          obtain ⟨m0, m1, m2, m3, mz⟩ := HZ.out _ (then_below HZ4w.out HB8.out)
          have hn0 : (0 : Int) ≤ (n : Int) := by omega
          have hnl := HC.out
          have hnc : (n : Int) ≤ (c : Int) := by omega
          go_wp2_with fail
          clear hlt
          have hm12 : bk1 ≠ wr.heap.size := by omega
          have hm2 : w4.heap.size ≤ wr.heap.size := hqs
          clear hmm
          generalize (wr.alloc (.map #[] 0)) = U2 at *
          generalize wr.heap.size = bk2 at *
          clear m0 m1 m2 m3 mz
          go_loopw [78] (fun i wq => ∃ q : Nat, q ≤ n ∧ i = .int .i64 q ∧ ownsSet wq bk1 N.length N ∧ ownsSet wq bk2 q (kindsP (l.take q)) ∧ Below w4.heap.size w4 wq) (fun i _ => n - (intOf i).toNat)
          case atStart => exact ⟨0, Nat.zero_le _, rfl, HS1.out, by rw [List.take_zero]; exact HS2.out, HB8.out⟩
          case round =>
            obtain ⟨q3, hq3, rfl, hs1, hs2, hbq3⟩ := hrel
            have HA1 := hide hs1
            have HA2 := hide hs2
            have HBz := hide hbq3
            clear hs1 hs2 hbq3 HS1 HS2 HB8 HSt HBq
            by_cases hlt3 : q3 < n
            · have hbw := then_below HB4w.out HBz.out
              obtain ⟨b2, off2, he2, hb2, h7⟩ := (HP.out.on hbw) q3 (by omega)
              injection he2 with he2
              injection he2 with e1 e2
              subst e1 e2
              have HKt := hide (kinds_take (l := l) (k := q3) (by omega))
              have HKm := hide (fun hk => kinds_mem (l := l) (k := q3) (n := n) hlt3 hbd.2 hk)
              have hps := (HPn.out q3 (by omega)).1
              have HBox := hide True.intro
              clear HBox
              generalize l.getD q3 dP = p at *
              obtain ⟨g0, g1, g2, g3, g4, g5, g6⟩ := h7
              have hpm : p.n.size ≤ maxLen := by unfold maxLen; omega
              have hal := Joins.below_alloc1 wr (.cells (pCells p) 62)
              have HB9 := hide (HBz.out.trans (hal.mono HBz.out.size))
              have HA3 := hide (HA1.out.alloc (.cells (pCells p) 62))
              have HA4 := hide (HA2.out.alloc (.cells (pCells p) 62))
              have hml1 := HA1.out.lt
              have hml2 := HA2.out.lt
              have hn1 : (wr.alloc (.cells (pCells p) 62)).cell? ⟨wr.heap.size, 1, none⟩ = some (.string p.n) := by simp [pCells]
              clear hal hbw
              by_cases hk : p.k = 1
              · have bk : (p.k == 1) = true := by rw [beq_iff_eq]; exact hk
                have hin : inN N p.n = true := (HMe.out _).2 (HKm.out hk)
                have HKs := hide (show kindsP (l.take (q3 + 1)) = kindsP (l.take q3) ++ [p.n] from by rw [HKt.out, if_pos hk])
                clear hk HKt HKm
                go_wp2_with (first
                  | (at_mapUpdate; go_must (refine wpList_put_set _ rfl _ _ _ rfl bk2 q3 (kindsP (l.take q3)) rfl HA4.out (by unfold maxLen; omega) p.n rfl rfl hpm ?_; intro w8 hset8 hgr8; have HA5 := hide hset8; have HA6 := hide (HA3.out.kept hgr8 (by intro e; injection e with e; exact hm12 e)); have hc8 := hgr8.cell hn1 (by intro e; injection e with e; simp only at e; omega); have HB10 := hide (HB9.out.grown hgr8 HB9.out.size (fun j hj => by cases hj; exact hm2)); clear hset8 hgr8))
                  | (at_lookup; go_must (refine wpList_lookup_set _ rfl _ _ rfl bk1 N.length N rfl HA6.out p.n rfl hpm ?_; rw [hin])))
                go_roundw
                case rel => exact ⟨q3 + 1, by omega, by go_num, HA6.out, by rw [HKs.out]; exact HA5.out, HB10.out⟩
                case measure => simp [intOf]; omega
              · have bk : (p.k == 1) = false := by rw [beq_eq_false_iff_ne]; exact hk
                have HKs := hide (show kindsP (l.take (q3 + 1)) = kindsP (l.take q3) from by rw [HKt.out, if_neg hk, List.append_nil])
                clear hk HKt HKm
                go_wp2_with fail
                go_roundw
                case rel => exact ⟨q3 + 1, by omega, by go_num, HA3.out, by rw [HKs.out]; exact HA4.out.mono (Nat.le_succ _), HB9.out⟩
                case measure => simp [intOf]; omega
            · obtain rfl : q3 = n := by omega
              have HBw := hide (then_below HB4w.out HBz.out)
              have HZw := hide (then_below HZ4w.out HBz.out)
              have HVw := hide (then_below HV4.out HBz.out)
              obtain ⟨y0, y1, y2, y3, yz⟩ := HZ.out _ HZw.out
              go_wp2_with (at_len; refine wpList_len_own _ rfl _ 60 rfl 9 4 Tryd.underlying60 _ bk2 _ _ rfl HA2.out ?_; rw [HSz.out])
              refine (HFA.out _ HBw.out).mono ?_
              rintro e w10 ⟨rfl, hb10⟩
              have HB10 := hide (then_below HBz.out hb10)
              have HBw2 := hide (then_below HBw.out hb10)
              have HS10 := hide (HA1.out.kept (Lib.grownBy_below (grownBy_refl _ none) hb10) (by simp))
              clear hb10 HA1 HA2 HBz HBw HZw HVw hlt3
              cases hfa : fitsB cs ra
              · clear HFB
                go_wp2_with fail
                refine (HAw.out _ HBw2.out).mono ?_
                rintro e w20 ⟨rfl, hb20⟩
                have HB20 := hide (then_below HBw2.out hb20)
                clear hb20
                go_wp2_with fail
                go_ret
                exact ⟨rfl, HB20.out⟩
              clear y0 y1 y2 y3 yz
              obtain ⟨y0, y1, y2, y3, yz⟩ := HZ.out _ (then_below HZ4w.out HB10.out)
              go_wp2_with fail
              refine (HFB.out _ HBw2.out).mono ?_
              rintro e w11 ⟨rfl, hb11⟩
              have HB11 := hide (then_below HB10.out hb11)
              have HBw3 := hide (then_below HBw2.out hb11)
              have HS11 := hide (HS10.out.kept (Lib.grownBy_below (grownBy_refl _ none) hb11) (by simp))
              clear hb11 HS10 HBw2 HB10
              cases hfb : fitsB cs rb
              · go_wp2_with fail
                refine (HAw.out _ HBw3.out).mono ?_
                rintro e w21 ⟨rfl, hb21⟩
                have HB21 := hide (then_below HBw3.out hb21)
                clear hb21
                go_wp2_with fail
                go_ret
                exact ⟨rfl, HB21.out⟩
              have hla1 := Nat.le_of_eq (fits_len (fitsB_row hfa))
              have hla2 := Nat.le_of_eq (fits_len (fitsB_row hfa)).symm
              have hlb1 := Nat.le_of_eq (fits_len (fitsB_row hfb))
              have hlb2 := Nat.le_of_eq (fits_len (fitsB_row hfb)).symm
              have HFa := hide hfa
              have HFb := hide hfb
              have hcl : 0 < cs.length := by
                have h := hfa
                unfold fitsB at h
                simp only [Bool.and_eq_true, decide_eq_true_eq] at h
                exact (checkC_ok h.1).1
              clear hfa hfb
              clear y0 y1 y2 y3 yz
              obtain ⟨y0, y1, y2, y3, yz⟩ := HZ.out _ (then_below HZ4w.out HB11.out)
              have hl11 := HB11.out.size
              have hs11 := HS11.out.lt
              have hrbl : rb.length ≤ 20 := by omega
              go_wp2_with (at_builtin; go_must (refine append_vals rfl _ _ rfl w11.heap.size _ 0 [] rb rfl (own_empty w11) w.heap.size RB kb rfl (HRB.out.below (then_below HBw3.out (Joins.below_alloc1 w11 _))) HNB.out (by omega) (by simp) ?_))
              intro v12 w12 hown12 hgr12
              have HO12 := hide hown12
              have HG12 := hide hgr12
              clear hown12 hgr12
              obtain ⟨g, cap, rfl, hgb, hgl, hmix⟩ := own_mix (n := rb.length) (xs := rb) (by simpa using HO12.out) (by omega) rfl
              have HB12 := hide ((HB11.out.alloc HB11.out.size (.cells #[] 29)).grown HG12.out (by simp; omega) (fun j hj => by have e : w11.heap.size = j := Option.some.inj hj; omega))
              have HS12 := hide ((HS11.out.alloc (.cells #[] 29)).kept HG12.out (by intro e; have e' : bk1 = w11.heap.size := Option.some.inj e; omega))
              have HM12 := hide hmix
              obtain ⟨x0, x1, x2, x3, xz⟩ := HZ.out _ (then_below HZ4w.out HB12.out)
              clear hmix HO12 HG12
              go_wp2_with fail
              have hgk : bk1 ≠ g := by omega
              have hg4 : w4.heap.size ≤ g := by omega
              clear hgb hs11 hl11 HB11 HS11 HBw3 HFA HFB
              clear y0 y1 y2 y3 yz
              go_loopw [121] (fun i wq => ∃ q : Nat, q ≤ cs.length ∧ i = .int .i64 q ∧ MixAt wq g (mixR N cs ra rb q) ∧ ownsSet wq bk1 N.length N ∧ Below w4.heap.size w4 wq ∧ g < wq.heap.size) (fun i _ => cs.length - (intOf i).toNat)
              case atStart => exact ⟨0, Nat.zero_le _, rfl, by rw [mixR_zero]; exact HM12.out, HS12.out, HB12.out, hgl⟩
              case round =>
                obtain ⟨q4, hq4, rfl, hmix, hset, hbq, hgl4⟩ := hrel
                have HMx := hide hmix
                have HSt4 := hide hset
                have HB4q := hide hbq
                clear hmix hset hbq HM12 HS12 HB12 x0 x1 x2 x3 xz
                by_cases hlt4 : q4 < cs.length
                · have hbw := then_below HB4w.out HB4q.out
                  obtain ⟨bs, os, hSS, hbs, cc0, cc1⟩ := HCs.out.below hbw q4 hlt4
                  have hcs := (HWc.out.at hlt4).1
                  have HMs := hide (mixR_succ (N := N) (cs := cs) (A := ra) (B := rb) (q := q4) (by omega))
                  obtain ⟨y0, y1, y2, y3, yz⟩ := HZ.out _ (then_below HZ4w.out HB4q.out)
                  have hbs' : bs < wr.heap.size := Nat.lt_of_lt_of_le hbs hbw.size
                  generalize cs.getD q4 (⟨#[]⟩, 0) = col at cc0 cc1 hcs HMs
                  have hal := Joins.below_alloc1 wr (.cells #[.string col.1, .int .i64 col.2] 64)
                  have HB13 := hide (HB4q.out.trans (hal.mono HB4q.out.size))
                  have HS13 := hide (HSt4.out.alloc (.cells #[.string col.1, .int .i64 col.2] 64))
                  have HM13 := hide (HMx.out.on hal hgl4)
                  obtain ⟨ba, oa, hRAA, hba, ra0, ra1, ra2⟩ := HRA.out.below hbw q4 (by omega)
                  rw [show ra.getD q4 (0, 0, ⟨#[]⟩) = ra.getD q4 d3 from rfl] at ra0 ra1 ra2
                  have hba' : ba < wr.heap.size := Nat.lt_of_lt_of_le hba hbw.size
                  have hbag : ba ≠ g := by have := hbw.size; have := HB4w.out.size; omega
                  have hql : q4 < (mixR N cs ra rb q4).length := by rw [mixR_len]; omega
                  obtain ⟨mx0, mx1, mx2, mf0, mf1, mf2⟩ := HMx.out q4 hql
                  have hqr : (q4 : Int) < (rb.length : Int) := by omega
                  have hqa : (q4 : Int) < (ra.length : Int) := by omega
                  have hgl5 : g < (wr.alloc (.cells #[.string col.1, .int .i64 col.2] 64)).heap.size := by simp; omega
                  generalize ra.getD q4 d3 = av at *
                  subst hSS
                  subst hRAA
                  clear hal hbw
                  cases hin : inN N col.1
                  · rw [hin, if_neg (by decide)] at HMs
                    clear mx0 mx1 mx2 mf0 mf1 mf2 ra0 ra1 ra2
                    go_wp2_with (at_lookup; go_must (refine wpList_lookup_set _ rfl _ _ rfl bk1 N.length N rfl HS13.out col.1 rfl hcs ?_; rw [hin]))
                    go_roundw
                    case rel => exact ⟨q4 + 1, by omega, by go_num, by rw [HMs.out]; exact HM13.out, HS13.out, HB13.out, hgl5⟩
                    case measure => simp [intOf]; omega
                  · rw [hin, if_pos rfl] at HMs
                    go_wp2_with (at_lookup; go_must (refine wpList_lookup_set _ rfl _ _ rfl bk1 N.length N rfl HS13.out col.1 rfl hcs ?_; rw [hin]))
                    go_roundw
                    case rel =>
                      refine ⟨q4 + 1, by omega, by go_num, ?_, ?_, ?_, by simp; omega⟩
                      · rw [HMs.out]
                        exact (mix_store HMx.out av hql).on (Joins.below_alloc1 _ _) (by simp; exact hgl4)
                      · exact (((HSt4.out.kept (Lib.grownBy_setCell wr g (q4 * 3) _) (fun e => hgk (Option.some.inj e))).kept (Lib.grownBy_setCell _ g (q4 * 3 + 1) _) (fun e => hgk (Option.some.inj e))).kept (Lib.grownBy_setCell _ g (q4 * 3 + 2) _) (fun e => hgk (Option.some.inj e))).alloc _
                      · have h3 := ((HB4q.out.setCell (p := ⟨g, q4 * 3, none⟩) hg4 (.int .i64 av.1)).setCell (p := ⟨g, q4 * 3 + 1, none⟩) hg4 (.int .i64 av.2.1)).setCell (p := ⟨g, q4 * 3 + 2, none⟩) hg4 (.string av.2.2)
                        exact h3.alloc h3.size _
                    case measure => simp [intOf]; omega
                · obtain rfl : q4 = cs.length := by omega
                  have HBw5 := hide (then_below HB4w.out HB4q.out)
                  have HZ5 := hide (then_below HZ4w.out HB4q.out)
                  have HV5 := hide (then_below HV4.out HB4q.out)
                  have HMixR := hide (HMx.out.row hgl4)
                  have HWm := hide (mixR_wf (N := N) (cs := cs) (k := cs.length) HWA.out HWB.out (by omega))
                  have HFm := hide (mixR_fits (N := N) (k := cs.length) HFa.out HFb.out)
                  have HEq := hide (HAl.out ra (mixR N cs ra rb cs.length) HFa.out HFm.out (fun n hn => mixR_names (by omega) (by omega) ((HMe.out n).2 hn)))
                  have HE1 := hide (HEv.out RA ka ra wr HV5.out (HRA.out.on HBw5.out) HWA.out)
                  have HE2 := hide (fun w' (h : Below wr.heap.size wr w') => HEv.out (some ⟨g, 0, none⟩) cap (mixR N cs ra rb cs.length) w' (then_below HV5.out h) (HMixR.out.on h) HWm.out)
                  rw [← HEq.out, mixR_len] at HE2
                  clear HMixR HWm HFm HEq HAl HEv HMx HSt4
                  generalize evalTop cs ra x = z at *
                  obtain ⟨⟨z1, z2, z3⟩, ze⟩ := z
                  simp only at HE1 HE2
                  have hqv : ∀ w : World, (binOp .eql 29 (vVal z1 z2 z3) (vVal z1 z2 z3)).run Tryd.prog w = .ok (.bool true) w := fun w => (run_eql_val z1 z2 z1 z2 z3 z3 w).trans (by simp)
                  have hgv := fun u u' w => run_guard_val z1 z2 z1 z2 z3 z3 u u' w
                  obtain ⟨c0, c1, c2, c3, c4, c5, c6, cz⟩ := HBox.out _ HV5.out
                  obtain ⟨y0, y1, y2, y3, yz⟩ := HZ.out _ HZ5.out
                  go_wp2_with fail
                  refine HE1.out.mono ?_
                  rintro e w14 ⟨rfl, hb14⟩
                  have hb15 := Joins.below_alloc1 w14 (.cells #[.int .i64 z1, .int .i64 z2, .string z3] 29)
                  have HB15 := hide (then_below hb14 hb15)
                  have HT15 := hide (show At3 (w14.alloc (.cells #[.int .i64 z1, .int .i64 z2, .string z3] 29)) w14.heap.size (z1, z2, z3) from ⟨by simp, by simp, by simp, by simp⟩)
                  have HV14 := hide (then_below HV5.out hb14)
                  have HZ14 := hide (then_below HZ5.out hb14)
                  clear c0 c1 c2 c3 c4 c5 c6 cz y0 y1 y2 y3 yz hb14 hb15
                  obtain ⟨c0, c1, c2, c3, c4, c5, c6, cz⟩ := HBox.out _ HV14.out
                  obtain ⟨y0, y1, y2, y3, yz⟩ := HZ.out _ HZ14.out
                  go_wp2_with fail
                  generalize (w14.alloc (.cells #[.int .i64 z1, .int .i64 z2, .string z3] 29)) = w15 at *
                  generalize w14.heap.size = f1 at *
                  refine (HE2.out _ HB15.out).mono ?_
                  rintro e w16 ⟨rfl, hb16⟩
                  have HT16 := hide (HT15.out.on hb16)
                  have HB16 := hide (then_below HB15.out hb16)
                  have HBf := hide (then_below HBw5.out HB16.out)
                  clear hb16 c0 c1 c2 c3 c4 c5 c6 cz y0 y1 y2 y3 yz
                  obtain ⟨t0, t1, t2, tz⟩ := HT16.out
                  simp only at t0 t1 t2
                  have HBg := hide (HBf.out.alloc HBf.out.size (.cells #[.int .i64 z1, .int .i64 z2, .string z3] 29))
                  go_wp2_with fail
                  refine (HAw.out _ HBg.out).mono ?_
                  rintro e w30 ⟨rfl, hb30⟩
                  have HB30 := hide (then_below HBg.out hb30)
                  clear hb30
                  go_wp2_with fail
                  go_ret
                  exact ⟨rfl, HB30.out⟩
end Go.Proofs.YteenhmniikloiaaDoor
