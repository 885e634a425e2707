/-
  Cut, Limit; New; Read.
-/
import Derived.Test.YtkdihekhdnnheaaDoorMK
import Derived.Lib.Walk
namespace Go.Proofs.YtkdihekhdnnheaaDoor
open Go.RowKit

/-- What Cut tells and leaves. -/
def ctE (p : PD) (n m : Int) : Int := if checkE p n = 0 then (if 0 ≤ m ∧ m ≤ (p.xs n.toNat).length then cmdE p else 30) else checkE p n
def ctP (p : PD) (n m : Int) : PD := if checkE p n = 0 then (if 0 ≤ m ∧ m ≤ (p.xs n.toNat).length then secP p n.toNat m.toNat else p) else p
set_option maxHeartbeats 3200000 in
set_option maxRecDepth 100000 in
theorem cut_any {base g : Nat} {D : DS} (n m : Int) (w : World) (hD : DiskAt base g w D) (hO : D.p.Ok) (hd : D.p.done ≤ 1000000000000) :
    Calls Tryd.prog 40 #[vD g, .int .i64 n, .int .i64 m] w fun e w' => e = .returned (.int .i64 (ctE D.p n m)) ∧ ∃ D' : DS, D'.p = ctP D.p n m ∧ DiskAt base g w' D' ∧ Turned g D D' w w' := by
  have HC := hide (check_any n w hD)
  have HE := hide (show ctE D.p n m = (if checkE D.p n = 0 then (if 0 ≤ m ∧ m ≤ (D.p.xs n.toNat).length then cmdE D.p else 30) else checkE D.p n) from rfl)
  have HP := hide (show ctP D.p n m = (if checkE D.p n = 0 then (if 0 ≤ m ∧ m ≤ (D.p.xs n.toNat).length then secP D.p n.toNat m.toNat else D.p) else D.p) from rfl)
  have HD := hide hD
  generalize ctE D.p n m = qe at *
  generalize ctP D.p n m = qp at *
  by_cases h0 : checkE D.p n = 0
  · obtain ⟨_, hf⟩ := checkE_zero h0
    have hn := fileB_four hf
    have hi : n.toNat < 4 := by omega
    have HSz := hide (fun w' (h : Below w.heap.size w w') => size_any n w' (hD.below h))
    rw [show sizeD D.p n = ((D.p.xs n.toNat).length : Int) by unfold sizeD; rw [hf]; rfl] at HSz
    rw [if_pos h0] at HE HP
    rw [h0] at HC
    by_cases hm : 0 ≤ m ∧ m ≤ (D.p.xs n.toNat).length
    · rw [if_pos hm] at HE HP
      have HSe := hide (fun w' (h : Below w.heap.size w w') => secure_any n.toNat m.toNat w' hi (by omega) (hD.below h) hO hd)
      rw [show ((n.toNat : Nat) : Int) = n by omega, show ((m.toNat : Nat) : Int) = m by omega] at HSe
      obtain ⟨m0, m1⟩ := hm
      have m2 : ¬ ((D.p.xs n.toNat).length : Int) < m := by omega
      have m3 : ¬ m < 0 := by omega
      clear hD hO hd hf hn hi h0
      go_enter Tryd.func40, Tryd.ntmps40
      go_wp2_with fail
      refine HC.out.mono ?_
      rintro e w1 ⟨rfl, hb1⟩
      have HB1 := hide hb1
      clear hb1
      go_wp2_with fail
      refine (HSz.out _ HB1.out).mono ?_
      rintro e w2 ⟨rfl, hb2⟩
      have HB2 := hide (then_below HB1.out hb2)
      clear hb2
      go_wp2_with fail
      refine (HSe.out _ HB2.out).mono ?_
      rintro e w3 ⟨rfl, D3, e3, hD3, hT3⟩
      have HF := hide (show ∃ D' : DS, D'.p = qp ∧ DiskAt base g w3 D' ∧ Turned g D D' w w3 from ⟨D3, by rw [e3, HP.out], hD3, (Turned.of_below HB2.out).trans hT3⟩)
      clear e3 hD3 hT3
      go_wp2_with fail
      go_ret
      exact ⟨ret_int HE.out.symm, HF.out⟩
    · rw [if_neg hm] at HE HP
      by_cases m0 : m < 0
      · clear hD hO hd hf hn hi h0 hm
        go_enter Tryd.func40, Tryd.ntmps40
        go_wp2_with fail
        refine HC.out.mono ?_
        rintro e w1 ⟨rfl, hb1⟩
        have HB1 := hide hb1
        clear hb1
        go_wp2_with fail
        go_ret
        exact ⟨ret_int HE.out.symm, D, HP.out.symm, HD.out.below HB1.out, Turned.of_below HB1.out⟩
      · have m2 : ((D.p.xs n.toNat).length : Int) < m := by omega
        clear hD hO hd hf hn hi h0 hm
        go_enter Tryd.func40, Tryd.ntmps40
        go_wp2_with fail
        refine HC.out.mono ?_
        rintro e w1 ⟨rfl, hb1⟩
        have HB1 := hide hb1
        clear hb1
        go_wp2_with fail
        refine (HSz.out _ HB1.out).mono ?_
        rintro e w2 ⟨rfl, hb2⟩
        have HB2 := hide (then_below HB1.out hb2)
        clear hb2
        go_wp2_with fail
        go_ret
        exact ⟨ret_int HE.out.symm, D, HP.out.symm, HD.out.below HB2.out, Turned.of_below HB2.out⟩
  · have hb : (checkE D.p n != 0) = true := by rw [bne_iff_ne]; exact h0
    rw [if_neg h0] at HE HP
    generalize checkE D.p n = ce at *
    clear hD hO hd h0
    go_enter Tryd.func40, Tryd.ntmps40
    go_wp2_with fail
    refine HC.out.mono ?_
    rintro e w1 ⟨rfl, hb1⟩
    have HB1 := hide hb1
    clear hb1
    go_wp2_with fail
    go_ret
    exact ⟨ret_int HE.out.symm, D, HP.out.symm, HD.out.below HB1.out, Turned.of_below HB1.out⟩
def limP (p : PD) (n : Int) : PD := if capBK n = true then { p with cap := n } else p
set_option maxHeartbeats 3200000 in
set_option maxRecDepth 100000 in
theorem limit_any {base g : Nat} {D : DS} (n : Int) (w : World) (hD : DiskAt base g w D) : Calls Tryd.prog 16 #[vD g, .int .i64 n] w fun e w' => e = .returned (.tuple #[]) ∧ ∃ D' : DS, D'.p = limP D.p n ∧ DiskAt base g w' D' ∧ Turned g D D' w w' := by
  have HC := hide (capacityExists_any n w)
  have HD := hide hD
  cases hc : capBK n
  · have HP := hide (show limP D.p n = D.p by unfold limP; rw [hc]; rfl)
    rw [hc] at HC
    clear hD hc
    go_enter Tryd.func16, Tryd.ntmps16
    go_wp2_with fail
    refine HC.out.mono ?_
    rintro e w1 ⟨rfl, hb1⟩
    have HB1 := hide hb1
    clear hb1
    go_wp2_with fail
    refine bodyPost_end (results_none rfl _ _ _) rfl ?_
    exact ⟨rfl, D, HP.out.symm, HD.out.below HB1.out, Turned.of_below HB1.out⟩
  · have HP := hide (show limP D.p n = { D.p with cap := n } by unfold limP; rw [hc]; rfl)
    rw [hc] at HC
    clear hD hc
    go_enter Tryd.func16, Tryd.ntmps16
    go_wp2_with fail
    refine HC.out.mono ?_
    rintro e w1 ⟨rfl, hb1⟩
    have HB1 := hide hb1
    have HS := hide ((HD.out.below hb1).set 8 (.int .i64 n) { D.p with cap := n } rfl (by simp))
    obtain ⟨c0, c1, c2, c3, c4, c5, c6, c7, c8, c9, c10, c11⟩ := (HD.out.below hb1).cells
    have f8 := (HD.out.below hb1).frozen 8
    have hlt := (HD.out.below hb1).lt
    clear hb1
    go_wp2_with fail
    refine bodyPost_end (results_none rfl _ _ _) rfl ?_
    exact ⟨rfl, ⟨_, D.v⟩, HP.out.symm, HS.out.1, (Turned.of_below HB1.out).trans HS.out.2⟩
def newP (cap : Int) : PD := ⟨fun _ => [], fun _ => 0, cap, 0, -1, false⟩
theorem new_ok {cap : Int} (h : capBK cap = true) : (newP cap).Ok := by
  unfold capBK at h
  simp at h
  exact ⟨h.1, h.2, by unfold PD.used newP; simp, fun _ _ => Int.le_refl _, fun _ _ => by show (0 : Int) ≤ _; simp [newP], Int.le_refl _, by show _ ≤ (-1 : Int); decide, by show (-1 : Int) ≤ _; decide⟩
def newD (cap : Int) : DS := ⟨newP cap, fun _ => .slice none 0 0⟩
theorem new_at {w w1 : World} {cap : Int} (hb : Below w.heap.size w w1) : DiskAt w.heap.size w1.heap.size (w1.alloc (.cells (dCells (newD cap)) 58)) (newD cap) :=
  ⟨hb.size, heap_alloc_new w1 _, fun i _ => World.ownsRow_nil _ _ _ _, fun i _ b e => (by cases e), fun i j _ _ _ b e => (by cases e)⟩
set_option maxHeartbeats 3200000 in
set_option maxRecDepth 100000 in
theorem new_no (n : Int) (w : World) (h : capBK n = false) : Calls Tryd.prog 6 #[.int .i64 n] w fun e w' => e = .returned (.pointer none) ∧ Below w.heap.size w w' := by
  have HC := hide (capacityExists_any n w)
  rw [h] at HC
  go_enter Tryd.func6, Tryd.ntmps6
  go_wp2_with fail
  refine HC.out.mono ?_
  rintro e w1 ⟨rfl, hb1⟩
  have HB1 := hide hb1
  clear hb1
  go_wp2_with fail
  go_ret
  exact ⟨rfl, HB1.out⟩
set_option maxHeartbeats 3200000 in
set_option maxRecDepth 100000 in
theorem new_yes (n : Int) (w : World) (h : capBK n = true) : Calls Tryd.prog 6 #[.int .i64 n] w fun e w' => (∃ g, e = .returned (vD g) ∧ DiskAt w.heap.size g w' (newD n)) ∧ Below w.heap.size w w' := by
  have HC := hide (capacityExists_any n w)
  rw [h] at HC
  go_enter Tryd.func6, Tryd.ntmps6
  go_wp2_with fail
  refine HC.out.mono ?_
  rintro e w1 ⟨rfl, hb1⟩
  have HB1 := hide hb1
  clear hb1
  go_wp2_with fail
  go_ret
  exact ⟨⟨w1.heap.size, rfl, new_at HB1.out⟩, HB1.out.alloc HB1.out.size _⟩
set_option maxHeartbeats 3200000 in
set_option maxRecDepth 100000 in
theorem clone_anyK (A : Option Addr) (c : Nat) (l : List UInt8) (w : World) (hB : BytesAt w.heap.size w A l) (hnil : A = none → c = 0) (hl : l.length ≤ 4294967296) :
    Calls Tryd.prog 42 #[.slice A l.length c] w fun e w' => (∃ A' c', e = .returned (.slice A' l.length c') ∧ BytesAt w'.heap.size w' A' l ∧ (∀ a, A' = some a → w.heap.size ≤ a.block) ∧ (A' = none → c' = 0)) ∧ Below w.heap.size w w' := by
  have q := fun (w : World) (a : Option Addr) (n c n' c' : Nat) => Lib.run_eql_slice_nil (P := Tryd.prog) w _ _ a n c n' c' Tryd.underlying28
  cases A with
  | none =>
    have hv : l = [] := by
      rcases l with _ | ⟨y, r⟩
      · rfl
      · obtain ⟨_, _, e, _⟩ := hB 0 (by simp); cases e
    subst hv
    have hc := hnil rfl
    subst hc
    go_enter Tryd.func42, Tryd.ntmps42
    go_wp2_with fail
    go_ret
    exact ⟨⟨none, 0, rfl, (fun j hj => by simp at hj), (fun a e => by cases e), (fun _ => rfl)⟩, Below.refl _ _⟩
  | some a =>
    have HB := hide hB
    have HN := hide hnil
    clear hB hnil
    have HO := hide (World.ownsRow_made (base := w.heap.size) (e := 5) (size := 1) w #[] 0 (Nat.le_refl _) (Nat.zero_le _) rfl)
    have hal := Joins.below_alloc1 w (.cells #[] 5)
    have HAl := hide hal
    clear hal
    go_enter Tryd.func42, Tryd.ntmps42
    go_wp2_with (at_builtin; go_must (refine append_bytesK rfl _ _ rfl w.heap.size (.slice (some ⟨w.heap.size, 0, none⟩) 0 0) [] l 0 rfl HO.out _ (some a) c rfl (HB.out.on HAl.out) HN.out (by omega) (by simp) ?_))
    intro v' w3 hown3 hgrow3 hat3

    have HB3 := hide (show Below w.heap.size w w3 from HAl.out.grown hgrow3 (by simp) (fun k e => by simp [Value.ownBlock] at e; omega))
    obtain ⟨A', c', rfl, h1, h2, h3⟩ := bytes_of_rowK hown3
    have HR := hide h1
    have HR2 := hide h2
    have HR3 := hide h3
    clear hown3 hgrow3 hat3 h1 h2 h3
    go_wp2_with fail
    go_ret
    exact ⟨⟨A', c', rfl, HR.out, HR2.out, HR3.out⟩, HB3.out⟩
def rdL (p : PD) (n : Int) : List UInt8 := if checkE p n = 0 then p.xs n.toNat else []
set_option maxHeartbeats 3200000 in
set_option maxRecDepth 100000 in
theorem read_any {base g : Nat} {D : DS} (n : Int) (w : World) (hD : DiskAt base g w D) (hO : D.p.Ok) :
    Calls Tryd.prog 17 #[vD g, .int .i64 n] w fun e w' => (∃ A c, e = .returned (.tuple #[.slice A (rdL D.p n).length c, .int .i64 (checkE D.p n)]) ∧ BytesAt w'.heap.size w' A (rdL D.p n) ∧ (∀ a, A = some a → w.heap.size ≤ a.block) ∧ (A = none → c = 0)) ∧ Below w.heap.size w w' := by
  have HC := hide (check_any n w hD)
  have HD := hide hD
  by_cases h0 : checkE D.p n = 0
  · obtain ⟨_, hf⟩ := checkE_zero h0
    have hn := fileB_four hf
    have hi : n.toNat < 4 := by omega
    have hlen := hO.len hi
    have HL := hide (show rdL D.p n = D.p.xs n.toNat from if_pos h0)
    rw [h0] at HC
    rw [h0]
    generalize rdL D.p n = l at *
    clear hf h0
    rcases hn with rfl | rfl | rfl | rfl
    · have HL2 := hide (show l = D.p.xs 0 from HL.out)
      have hlen' : (D.p.xs 0).length ≤ 1073741824 := hlen
      rw [← HL2.out] at hlen'
      have HRow := hide (fun w' (h : Below w.heap.size w w') => bytes_of_rowK ((HD.out.below h).row 0 (by decide)))
      rw [← HL2.out] at HRow
      clear hD hO hlen HL
      go_enter Tryd.func17, Tryd.ntmps17
      go_wp2_with fail
      refine HC.out.mono ?_
      rintro e w1 ⟨rfl, hb1⟩
      have HB1 := hide hb1
      obtain ⟨A, c, hA, hBy, -, hnl⟩ := HRow.out w1 hb1
      obtain ⟨c0, c1, c2, c3, c4, c5, c6, c7, c8, c9, c10, c11⟩ := (HD.out.below hb1).cells
      rw [hA] at c0
      have HCl := hide (clone_anyK A c l w1 hBy hnl (by omega))
      have hlt := (HD.out.below hb1).lt
      clear hb1 hA hBy hnl HRow
      go_wp2_with fail
      refine HCl.out.mono ?_
      rintro e w2 ⟨⟨A2, k2, rfl, h1, h2, h3⟩, hb2⟩
      have HF := hide (show ∃ A' c', Value.slice A2 l.length k2 = .slice A' l.length c' ∧ BytesAt w2.heap.size w2 A' l ∧ (∀ a, A' = some a → w.heap.size ≤ a.block) ∧ (A' = none → c' = 0) from ⟨A2, k2, rfl, h1, (fun a e => Nat.le_trans HB1.out.size (h2 a e)), h3⟩)
      have HB2 := hide (then_below HB1.out hb2)
      clear h1 h2 h3 hb2
      go_wp2_with fail
      go_ret2
      obtain ⟨A', c', e, h1, h2, h3⟩ := HF.out
      injection e with e1 e2 e3
      subst e1 e3
      exact ⟨⟨A2, k2, rfl, h1, h2, h3⟩, HB2.out⟩
    · have HL2 := hide (show l = D.p.xs 1 from HL.out)
      have hlen' : (D.p.xs 1).length ≤ 1073741824 := hlen
      rw [← HL2.out] at hlen'
      have HRow := hide (fun w' (h : Below w.heap.size w w') => bytes_of_rowK ((HD.out.below h).row 1 (by decide)))
      rw [← HL2.out] at HRow
      clear hD hO hlen HL
      go_enter Tryd.func17, Tryd.ntmps17
      go_wp2_with fail
      refine HC.out.mono ?_
      rintro e w1 ⟨rfl, hb1⟩
      have HB1 := hide hb1
      obtain ⟨A, c, hA, hBy, -, hnl⟩ := HRow.out w1 hb1
      obtain ⟨c0, c1, c2, c3, c4, c5, c6, c7, c8, c9, c10, c11⟩ := (HD.out.below hb1).cells
      rw [hA] at c2
      have HCl := hide (clone_anyK A c l w1 hBy hnl (by omega))
      have hlt := (HD.out.below hb1).lt
      clear hb1 hA hBy hnl HRow
      go_wp2_with fail
      refine HCl.out.mono ?_
      rintro e w2 ⟨⟨A2, k2, rfl, h1, h2, h3⟩, hb2⟩
      have HF := hide (show ∃ A' c', Value.slice A2 l.length k2 = .slice A' l.length c' ∧ BytesAt w2.heap.size w2 A' l ∧ (∀ a, A' = some a → w.heap.size ≤ a.block) ∧ (A' = none → c' = 0) from ⟨A2, k2, rfl, h1, (fun a e => Nat.le_trans HB1.out.size (h2 a e)), h3⟩)
      have HB2 := hide (then_below HB1.out hb2)
      clear h1 h2 h3 hb2
      go_wp2_with fail
      go_ret2
      obtain ⟨A', c', e, h1, h2, h3⟩ := HF.out
      injection e with e1 e2 e3
      subst e1 e3
      exact ⟨⟨A2, k2, rfl, h1, h2, h3⟩, HB2.out⟩
    · have HL2 := hide (show l = D.p.xs 2 from HL.out)
      have hlen' : (D.p.xs 2).length ≤ 1073741824 := hlen
      rw [← HL2.out] at hlen'
      have HRow := hide (fun w' (h : Below w.heap.size w w') => bytes_of_rowK ((HD.out.below h).row 2 (by decide)))
      rw [← HL2.out] at HRow
      clear hD hO hlen HL
      go_enter Tryd.func17, Tryd.ntmps17
      go_wp2_with fail
      refine HC.out.mono ?_
      rintro e w1 ⟨rfl, hb1⟩
      have HB1 := hide hb1
      obtain ⟨A, c, hA, hBy, -, hnl⟩ := HRow.out w1 hb1
      obtain ⟨c0, c1, c2, c3, c4, c5, c6, c7, c8, c9, c10, c11⟩ := (HD.out.below hb1).cells
      rw [hA] at c4
      have HCl := hide (clone_anyK A c l w1 hBy hnl (by omega))
      have hlt := (HD.out.below hb1).lt
      clear hb1 hA hBy hnl HRow
      go_wp2_with fail
      refine HCl.out.mono ?_
      rintro e w2 ⟨⟨A2, k2, rfl, h1, h2, h3⟩, hb2⟩
      have HF := hide (show ∃ A' c', Value.slice A2 l.length k2 = .slice A' l.length c' ∧ BytesAt w2.heap.size w2 A' l ∧ (∀ a, A' = some a → w.heap.size ≤ a.block) ∧ (A' = none → c' = 0) from ⟨A2, k2, rfl, h1, (fun a e => Nat.le_trans HB1.out.size (h2 a e)), h3⟩)
      have HB2 := hide (then_below HB1.out hb2)
      clear h1 h2 h3 hb2
      go_wp2_with fail
      go_ret2
      obtain ⟨A', c', e, h1, h2, h3⟩ := HF.out
      injection e with e1 e2 e3
      subst e1 e3
      exact ⟨⟨A2, k2, rfl, h1, h2, h3⟩, HB2.out⟩
    · have HL2 := hide (show l = D.p.xs 3 from HL.out)
      have hlen' : (D.p.xs 3).length ≤ 1073741824 := hlen
      rw [← HL2.out] at hlen'
      have HRow := hide (fun w' (h : Below w.heap.size w w') => bytes_of_rowK ((HD.out.below h).row 3 (by decide)))
      rw [← HL2.out] at HRow
      clear hD hO hlen HL
      go_enter Tryd.func17, Tryd.ntmps17
      go_wp2_with fail
      refine HC.out.mono ?_
      rintro e w1 ⟨rfl, hb1⟩
      have HB1 := hide hb1
      obtain ⟨A, c, hA, hBy, -, hnl⟩ := HRow.out w1 hb1
      obtain ⟨c0, c1, c2, c3, c4, c5, c6, c7, c8, c9, c10, c11⟩ := (HD.out.below hb1).cells
      rw [hA] at c6
      have HCl := hide (clone_anyK A c l w1 hBy hnl (by omega))
      have hlt := (HD.out.below hb1).lt
      clear hb1 hA hBy hnl HRow
      go_wp2_with fail
      refine HCl.out.mono ?_
      rintro e w2 ⟨⟨A2, k2, rfl, h1, h2, h3⟩, hb2⟩
      have HF := hide (show ∃ A' c', Value.slice A2 l.length k2 = .slice A' l.length c' ∧ BytesAt w2.heap.size w2 A' l ∧ (∀ a, A' = some a → w.heap.size ≤ a.block) ∧ (A' = none → c' = 0) from ⟨A2, k2, rfl, h1, (fun a e => Nat.le_trans HB1.out.size (h2 a e)), h3⟩)
      have HB2 := hide (then_below HB1.out hb2)
      clear h1 h2 h3 hb2
      go_wp2_with fail
      go_ret2
      obtain ⟨A', c', e, h1, h2, h3⟩ := HF.out
      injection e with e1 e2 e3
      subst e1 e3
      exact ⟨⟨A2, k2, rfl, h1, h2, h3⟩, HB2.out⟩
  · have hb : (checkE D.p n != 0) = true := by rw [bne_iff_ne]; exact h0
    have HL := hide (show rdL D.p n = [] from if_neg h0)
    generalize rdL D.p n = l at *
    obtain rfl := HL.out
    generalize checkE D.p n = ce at *
    clear hD hO h0 HL
    go_enter Tryd.func17, Tryd.ntmps17
    go_wp2_with fail
    refine HC.out.mono ?_
    rintro e w1 ⟨rfl, hb1⟩
    have HB1 := hide hb1
    clear hb1
    go_wp2_with fail
    go_ret2
    exact ⟨⟨none, 0, rfl, (fun j hj => by simp at hj), (fun a e => by cases e), (fun _ => rfl)⟩, HB1.out⟩
end Go.Proofs.YtkdihekhdnnheaaDoor
