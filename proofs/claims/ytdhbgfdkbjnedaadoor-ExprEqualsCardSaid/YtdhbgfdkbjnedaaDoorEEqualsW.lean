/-
  The walk of ExprEquals.
-/
import Derived.Test.YtdhbgfdkbjnedaaDoorMPlain
import Derived.Test.YtdhbgfdkbjnedaaDoorEAwake
namespace Go.Proofs.YtdhbgfdkbjnedaaDoor
open Go.RowKit

theorem xor_ne (k : Int) : bits .xor .i64 k 1 ≠ k := by
  intro h
  have e : bits .xor .i64 k 1 = IntKind.i64.wrap (((BitVec.ofInt 64 k ^^^ BitVec.ofInt 64 1).toNat : Nat) : Int) := rfl
  rw [e, BitVec.toNat_xor, BitVec.toNat_ofInt, BitVec.toNat_ofInt] at h
  rw [show (((2 ^ 64 : Nat) : Int)) = 18446744073709551616 by decide, show (((1 : Int) % 18446744073709551616).toNat) = 1 by decide] at h
  have hz : ((k % 18446744073709551616).toNat : Int) = k % 18446744073709551616 := Int.toNat_of_nonneg (Int.emod_nonneg _ (by decide))
  generalize (k % 18446744073709551616).toNat = y at *
  have hb : (y ^^^ 1).testBit 0 = !(y.testBit 0) := by
    simp
    rcases Nat.mod_two_eq_zero_or_one y with h | h <;> simp [h]
  rw [Nat.testBit_zero, Nat.testBit_zero] at hb
  generalize y ^^^ 1 = z at *
  have hpar : z % 2 ≠ y % 2 := by
    intro e
    rw [e] at hb
    cases hd : decide (y % 2 = 1) <;> rw [hd] at hb <;> cases hb
  unfold IntKind.wrap at h
  simp [IntKind.signed, IntKind.bits] at h
  omega
theorem more_ne (s : ByteArray) : s ++ ⟨#[120]⟩ ≠ s := by
  intro h
  have := congrArg ByteArray.size h
  rw [ByteArray.size_append] at this
  have h1 : (⟨#[120]⟩ : ByteArray).size = 1 := rfl
  omega
theorem eq_chg {l l' : List PL} {t : Nat} {x y : XT} (hne : l ≠ []) (h : Chg l l' t) (hx : stripX x = (nodeP 60 l).1) (hy : stripX y = (nodeP 60 l').1) :
    ((nodeP 60 l).2 ≤ t → eqX x y = true ∧ eqX y x = true) ∧ (t < (nodeP 60 l).2 → eqX x y = false ∧ eqX y x = false) := by
  obtain ⟨_, h2, h3⟩ := node_chg 60 l l' t hne h
  refine ⟨fun hle => ?_, fun hlt => ?_⟩
  · have e : stripX y = stripX x := by rw [hx, hy]; exact h2 hle
    exact ⟨eqX_iff.2 e.symm, eqX_iff.2 e⟩
  · have e : stripX y ≠ stripX x := by rw [hx, hy]; exact h3 hlt
    constructor
    · cases he : eqX x y
      · rfl
      · exact absurd (eqX_iff.1 he).symm e
    · cases he : eqX y x
      · rfl
      · exact absurd (eqX_iff.1 he) e
theorem build_any (l : List PL) (b off c : Nat) (w : World) (h1 : 0 < l.length) (h2 : l.length ≤ 300) (h3 : l.length ≤ c) (hP : PlainsAt w.heap.size w (some ⟨b, off, none⟩) l) :
    Calls Tryd.prog 12 #[.slice (some ⟨b, off, none⟩) l.length c, .int .i64 0] w fun e w' => (∃ x, e = .returned (.tuple #[vX x, .int .i64 ((nodeP 60 l).2 : Nat)]) ∧ stripX x = (nodeP 60 l).1 ∧ LiesX w'.heap.size w' x ∧ newX w.heap.size x) ∧ Below w.heap.size w w' :=
  build_ok 60 l b off c 0 w (Nat.le_refl _) (by omega) h1 h2 h3 hP
theorem tree_sz {l : List PL} {x : XT} (h : stripX x = (nodeP 60 l).1) (h0 : 0 < l.length) (h1 : l.length ≤ 300) : szX x ≤ 1000000 := by
  have hne : l ≠ [] := by intro e; rw [e] at h0; simp at h0
  have h2 := nodeP_sz 60 l hne
  have h3 := (nodeP_bound 60 l hne).2
  have h4 := szX_strip x
  rw [h, h2] at h4
  omega
theorem plain_info : (Tryd.prog.info? 62).map (fun i => (i.zero, i.size, i.bytes)) = some (some (.agg #[.int .i64 0, .string ⟨#[]⟩, .int .i64 0, .int .i64 0, .string ⟨#[]⟩, .string ⟨#[]⟩, .int .i64 0]), 7, 80) := by kernel_rfl

set_option maxHeartbeats 3200000 in
set_option maxRecDepth 100000 in
theorem exprEquals_walk (A : Option Addr) (c : Nat) (l : List PL) (n m : Int) (w : World) (hP : PlainsAt w.heap.size w A l ∧ l.length ≤ c) (hw : wfP l) (a1 : -9223372036854775808 ≤ n) (a2 : n ≤ 9223372036854775807) (b1 : -9223372036854775808 ≤ m) (b2 : m ≤ 9223372036854775807) (hR : Rls w) (hM : Cmps w) :
    Calls Tryd.prog 7 #[.slice A l.length c, .int .i64 n, .int .i64 m] w fun e w' => e = .returned (.bool true) ∧ Below w.heap.size w w' := by
  have HSm := hide (fun w' h => small_any A c l w' h hw)
  have HAw := hide (fun w' (h : Below w.heap.size w w') => awake_any w' (hR.stays h) (hM.stays h))
  have HP := hide hP.1
  have HC := hide hP.2
  have HW := hide hw
  have hl := hw.1
  unfold maxLen at hl
  by_cases hg : smallP l = true ∧ 0 ≤ n ∧ n < (l.length : Int)
  · obtain ⟨g1, g2, g3⟩ := hg
    obtain ⟨h0, h300⟩ := smallP_len g1
    obtain ⟨b, off, rfl, hb, -⟩ := hP.1 0 h0
    obtain ⟨t, rfl⟩ : ∃ t : Nat, n = t := ⟨n.toNat, by omega⟩
    have ht : t < l.length := by omega
    have ht0 : ¬ (t : Int) < 0 := by omega
    have ht1 : ¬ (l.length : Int) ≤ (t : Int) := by omega
    obtain ⟨i0', hi, hz0, hz1, hz2⟩ := info_parts plain_info
    clear hP hw hR hM a1 a2
    rw [g1] at HSm
    have HG := hide g1
    clear g1
    go_enter Tryd.func7, Tryd.ntmps7
    go_wp2_with fail
    refine (HSm.out _ HP.out).mono ?_
    rintro e w1 ⟨rfl, hb1⟩
    have HB1 := hide hb1
    clear hb1
    go_wp2_with fail
    refine (build_any l b off c w1 h0 h300 HC.out (HP.out.on HB1.out)).mono ?_
    rintro e w2 ⟨⟨x, rfl, hst, hlx, -⟩, hb2⟩
    have HB2 := hide (then_below HB1.out hb2)
    have HSx := hide hst
    have hal2 := Joins.below_alloc1 w2 (.cells (eCells x.kind x.name x.val x.op x.adr x.args.length x.cap) 32)
    have hn2 := heap_alloc_new w2 (.cells (eCells x.kind x.name x.val x.op x.adr x.args.length x.cap) 32)
    have hs2 : (w2.alloc (.cells (eCells x.kind x.name x.val x.op x.adr x.args.length x.cap) 32)).heap.size = w2.heap.size + 1 := by simp
    -- the box of x, and the empty row
    have HLx := hide (hlx.on hal2)
    have hown0 := (World.ownsRow_made (base := w2.heap.size + 1) (e := 62) (size := 7) (w2.alloc (.cells (eCells x.kind x.name x.val x.op x.adr x.args.length x.cap) 32)) #[] 0 (by rw [hs2]; omega) (Nat.zero_le _) rfl)
    rw [hs2] at hown0
    have hbz := HB2.out.size
    have hrun := plains_run ((HP.out.on HB2.out).below (hal2.trans (Joins.below_alloc1 (w2.alloc (.cells (eCells x.kind x.name x.val x.op x.adr x.args.length x.cap) 32)) (.cells #[] 62) |>.mono (by omega))))
    have HBx := hide (show Below (w2.heap.size + 1) (w2.alloc (.cells (eCells x.kind x.name x.val x.op x.adr x.args.length x.cap) 32)) ((w2.alloc (.cells (eCells x.kind x.name x.val x.op x.adr x.args.length x.cap) 32)).alloc (.cells #[] 62)).drew from ((Joins.below_alloc1 (w2.alloc (.cells (eCells x.kind x.name x.val x.op x.adr x.args.length x.cap) 32)) (.cells #[] 62)).mono (by omega)).drew)
    have HA2 := hide hal2
    have HN2 := hide hn2
    clear hb2 hst hlx hal2 hn2
    rw [show vX x = .agg (eCells x.kind x.name x.val x.op x.adr x.args.length x.cap) from rfl]
    go_wp2_with (at_builtin; go_must (refine wpList_append_own_at _ rfl _ _ 22 rfl (w2.heap.size + 1) 62 i0' (.agg #[.int .i64 0, .string ⟨#[]⟩, .int .i64 0, .int .i64 0, .string ⟨#[]⟩, .string ⟨#[]⟩, .int .i64 0]) 7 80 Tryd.underlying22 hi hz0 hz1 hz2 rfl (by decide) _ _ _ rfl hown0.drew ⟨b, off, none⟩ l.length c (flatP l) rfl (flatP_len l) hrun (flatP_one l) (by unfold maxLen; omega) (by omega) (by simp) ?_))
    intro v' w3 hown3 hgrow3 _ _
    have hB3 : Below (w2.heap.size + 1) (w2.alloc (.cells (eCells x.kind x.name x.val x.op x.adr x.args.length x.cap) 32)) w3 := by
      have h1 := (Joins.below_alloc1 (w2.alloc (.cells (eCells x.kind x.name x.val x.op x.adr x.args.length x.cap) 32)) (.cells #[] 62)).mono (show w2.heap.size + 1 ≤ _ by omega)
      exact h1.grown hgrow3 (by simp) (fun k e => by simp [Value.ownBlock] at e; omega)
    obtain ⟨g, cg, rfl, hgb, hcg, hpl, hfz⟩ := plains_of_row h0 hown3
    have HX3 := hide (show LiesX (w2.heap.size + 1) w3 x by have := HLx.out; rw [hs2] at this; exact this.keep hB3)
    have HBx3 := hide (show w3.heap[w2.heap.size]? = some (.cells (eCells x.kind x.name x.val x.op x.adr x.args.length x.cap) 32 (0, 0)) by rw [hB3.block _ (by omega)]; exact HN2.out)
    have HW3 := hide (show Below w.heap.size w w3 from (HB2.out.trans (HA2.out.mono hbz)).trans (hB3.mono (by omega)))
    have HPl := hide hpl; have HFz := hide hfz
    have hsz3 : w2.heap.size + 1 ≤ w3.heap.size := by have := hB3.size; omega
    have hgs : g < w3.heap.size := by obtain ⟨b', off', e, hlt, _⟩ := hpl 0 h0; injection e with e; injection e with e1; omega
    have HSz := hide (tree_sz HSx.out h0 h300)
    have HNe := hide (show l ≠ [] by intro e; rw [e] at h0; simp at h0)
    clear hown3 hgrow3 hB3 hpl hfz hrun hown0 HBx HA2 HN2 HLx hs2
    have ht2 : (t : Int) < (l.length : Int) := by omega
    by_cases m0 : m = 0
    · subst m0
      obtain ⟨p, hp⟩ : ∃ p, p = l.getD t dP := ⟨_, rfl⟩
      obtain ⟨b', off', e, hbg, h7⟩ := HPl.out t ht
      injection e with e
      injection e with eq1 eq2
      subst eq1 eq2
      rw [← hp, Nat.zero_add] at h7
      obtain ⟨d0, d1, d2, d3', d4, d5, d6⟩ := h7
      have z0 : w3.frozen? ⟨g, t * 7, none⟩ = false := HFz.out _ (by omega)
      obtain ⟨s1, s2, s3⟩ := smallP_at HG.out (p := p) (by rw [hp]; exact HW.out.at ht)
      have HPp := hide hp
      have hz5 : (w3.setCell ⟨g, t * 7, none⟩ (.int .i64 (bits .xor .i64 p.k 1))).heap.size = w3.heap.size := by simp
      clear hp
      go_wp2_with fail
      have hcall := build_any (l.set t ⟨bits .xor .i64 p.k 1, p.n, p.v, p.o, p.a⟩) g 0 cg (w3.setCell ⟨g, t * 7, none⟩ (.int .i64 (bits .xor .i64 p.k 1))) (by rw [List.length_set]; omega) (by rw [List.length_set]; omega) (by rw [List.length_set]; omega) (by rw [hz5]; exact plains_set (i := 0) (p' := ⟨bits .xor .i64 p.k 1, p.n, p.v, p.o, p.a⟩) HPl.out ht (by omega) rfl (by rw [← HPp.out]; intro j hj hne; rcases (by omega : j = 0 ∨ j = 1 ∨ j = 2 ∨ j = 3 ∨ j = 4 ∨ j = 5 ∨ j = 6) with rfl | rfl | rfl | rfl | rfl | rfl | rfl <;> first | rfl | exact absurd rfl hne))
      rw [List.length_set] at hcall
      have hB5 : Below (w2.heap.size + 1) w3 (w3.setCell ⟨g, t * 7, none⟩ (.int .i64 (bits .xor .i64 p.k 1))) := (Below.refl _ _).setCell hgb _
      refine hcall.mono ?_
      rintro e w6 ⟨⟨y, rfl, hsty, hly, -⟩, hb6⟩
      have hB6 : Below (w2.heap.size + 1) w3 w6 := hB5.trans (hb6.mono (by have := hB5.size; omega))
      have hs6 := hB6.size
      have HSzy := hide (tree_sz hsty (by rw [List.length_set]; omega) (by rw [List.length_set]; omega))
      have hal6 := Joins.below_alloc1 w6 (.cells (eCells y.kind y.name y.val y.op y.adr y.args.length y.cap) 32)
      have HLy := hide (hly.on hal6)
      have HX6 := hide (((HX3.out.keep hB6).mono (by omega : w2.heap.size + 1 ≤ w6.heap.size)).on hal6)
      have HB6 := hide (show Below w.heap.size w (w6.alloc (.cells (eCells y.kind y.name y.val y.op y.adr y.args.length y.cap) 32)) from (HW3.out.trans (hB6.mono (by omega))).alloc (by omega) _)
      have hx6 := (hB6.block w2.heap.size (by omega)).trans HBx3.out
      have e0 := Lib.cell_of_heap hx6 0; have e1 := Lib.cell_of_heap hx6 1; have e2 := Lib.cell_of_heap hx6 2; have e3 := Lib.cell_of_heap hx6 3; have e4 := Lib.cell_of_heap hx6 4; have e5 := Lib.cell_of_heap hx6 5; have e6 := Lib.cell_of_heap hx6 6
      simp only [eCells, List.getElem?_toArray, List.getElem?_cons_zero, List.getElem?_cons_succ] at e0 e1 e2 e3 e4 e5 e6
      have hw26 : w2.heap.size < w6.heap.size := by omega
      have HChg := hide (eq_chg HNe.out (chg_set (p' := ⟨bits .xor .i64 p.k 1, p.n, p.v, p.o, p.a⟩) ht (by rw [← HPp.out]) (by rw [← HPp.out]; intro h; exact xor_ne p.k (congrArg (fun q : Int × ByteArray × (Int × Int × ByteArray) × ByteArray => q.1) h))) HSx.out hsty)
      by_cases hn : (nodeP 60 l).2 ≤ t
      · have hn' : ((nodeP 60 l).2 : Int) ≤ (t : Int) := by omega
        have HE1 := hide (HChg.out.1 hn).1
        have HE2 := hide (HChg.out.1 hn).2
        clear hcall hB5 hb6 hly hal6 hx6
        have HQ1 := hide (equal_any x y _ HX6.out HLy.out HSz.out HSzy.out)
        have HQ2 := hide (fun w' (h : Below (w6.alloc (.cells (eCells y.kind y.name y.val y.op y.adr y.args.length y.cap) 32)).heap.size (w6.alloc (.cells (eCells y.kind y.name y.val y.op y.adr y.args.length y.cap) 32)) w') => equal_any y x w' (HLy.out.on h) (HX6.out.on h) HSzy.out HSz.out)
        rw [HE1.out] at HQ1
        rw [HE2.out] at HQ2
        rw [show vX y = .agg (eCells y.kind y.name y.val y.op y.adr y.args.length y.cap) from rfl]
        go_wp2_with fail
        refine HQ1.out.mono ?_
        rintro e w8 ⟨rfl, hb8⟩
        have hH6 : (w6.alloc (.cells (eCells y.kind y.name y.val y.op y.adr y.args.length y.cap) 32)).heap.size = w6.heap.size + 1 := by simp
        have hb7 : Below (w6.heap.size + 1) (w6.alloc (.cells (eCells y.kind y.name y.val y.op y.adr y.args.length y.cap) 32)) w8 := by rw [← hH6]; exact hb8
        have hx8 : w8.heap[w2.heap.size]? = some (.cells (eCells x.kind x.name x.val x.op x.adr x.args.length x.cap) 32 (0, 0)) := by
          rw [hb7.block _ (by omega), Below.heap_alloc _ _ _ (by omega), hB6.block _ (by omega)]
          exact HBx3.out
        have hy8 : w8.heap[w6.heap.size]? = some (.cells (eCells y.kind y.name y.val y.op y.adr y.args.length y.cap) 32 (0, 0)) := by
          rw [hb7.block _ (by omega)]
          exact heap_alloc_new w6 _
        have HB8 := hide (show Below w.heap.size w w8 from HB6.out.trans (hb8.mono HB6.out.size))
        have HK8 := hide hb8
        clear e0 e1 e2 e3 e4 e5 e6 hb7 hb8 HQ1 hB6
        have e0 := Lib.cell_of_heap hx8 0; have e1 := Lib.cell_of_heap hx8 1; have e2 := Lib.cell_of_heap hx8 2; have e3 := Lib.cell_of_heap hx8 3; have e4 := Lib.cell_of_heap hx8 4; have e5 := Lib.cell_of_heap hx8 5; have e6 := Lib.cell_of_heap hx8 6
        have j0 := Lib.cell_of_heap hy8 0; have j1 := Lib.cell_of_heap hy8 1; have j2 := Lib.cell_of_heap hy8 2; have j3 := Lib.cell_of_heap hy8 3; have j4 := Lib.cell_of_heap hy8 4; have j5 := Lib.cell_of_heap hy8 5; have j6 := Lib.cell_of_heap hy8 6
        simp only [eCells, List.getElem?_toArray, List.getElem?_cons_zero, List.getElem?_cons_succ] at e0 e1 e2 e3 e4 e5 e6 j0 j1 j2 j3 j4 j5 j6
        clear hx8 hy8
        go_wp2_with fail
        refine (HQ2.out _ HK8.out).mono ?_
        rintro e w9 ⟨rfl, hb9⟩
        have HB9 := hide (show Below w.heap.size w w9 from HB8.out.trans (hb9.mono HB8.out.size))
        clear hb9 e0 e1 e2 e3 e4 e5 e6 j0 j1 j2 j3 j4 j5 j6
        go_wp2_with fail
        refine (HAw.out _ HB9.out).mono ?_
        rintro e w10 ⟨rfl, hb10⟩
        have HB10 := hide (show Below w.heap.size w w10 from HB9.out.trans (hb10.mono HB9.out.size))
        clear hb10
        go_wp2_with fail
        go_ret
        exact ⟨rfl, HB10.out⟩
      · have hn' : ¬ ((nodeP 60 l).2 : Int) ≤ (t : Int) := by omega
        have HE1 := hide (HChg.out.2 (by omega)).1
        have HE2 := hide (HChg.out.2 (by omega)).2
        clear hcall hB5 hb6 hly hal6 hx6
        have HQ1 := hide (equal_any x y _ HX6.out HLy.out HSz.out HSzy.out)
        have HQ2 := hide (fun w' (h : Below (w6.alloc (.cells (eCells y.kind y.name y.val y.op y.adr y.args.length y.cap) 32)).heap.size (w6.alloc (.cells (eCells y.kind y.name y.val y.op y.adr y.args.length y.cap) 32)) w') => equal_any y x w' (HLy.out.on h) (HX6.out.on h) HSzy.out HSz.out)
        rw [HE1.out] at HQ1
        rw [HE2.out] at HQ2
        rw [show vX y = .agg (eCells y.kind y.name y.val y.op y.adr y.args.length y.cap) from rfl]
        go_wp2_with fail
        refine HQ1.out.mono ?_
        rintro e w8 ⟨rfl, hb8⟩
        have hH6 : (w6.alloc (.cells (eCells y.kind y.name y.val y.op y.adr y.args.length y.cap) 32)).heap.size = w6.heap.size + 1 := by simp
        have hb7 : Below (w6.heap.size + 1) (w6.alloc (.cells (eCells y.kind y.name y.val y.op y.adr y.args.length y.cap) 32)) w8 := by rw [← hH6]; exact hb8
        have hx8 : w8.heap[w2.heap.size]? = some (.cells (eCells x.kind x.name x.val x.op x.adr x.args.length x.cap) 32 (0, 0)) := by
          rw [hb7.block _ (by omega), Below.heap_alloc _ _ _ (by omega), hB6.block _ (by omega)]
          exact HBx3.out
        have hy8 : w8.heap[w6.heap.size]? = some (.cells (eCells y.kind y.name y.val y.op y.adr y.args.length y.cap) 32 (0, 0)) := by
          rw [hb7.block _ (by omega)]
          exact heap_alloc_new w6 _
        have HB8 := hide (show Below w.heap.size w w8 from HB6.out.trans (hb8.mono HB6.out.size))
        have HK8 := hide hb8
        clear e0 e1 e2 e3 e4 e5 e6 hb7 hb8 HQ1 hB6
        have e0 := Lib.cell_of_heap hx8 0; have e1 := Lib.cell_of_heap hx8 1; have e2 := Lib.cell_of_heap hx8 2; have e3 := Lib.cell_of_heap hx8 3; have e4 := Lib.cell_of_heap hx8 4; have e5 := Lib.cell_of_heap hx8 5; have e6 := Lib.cell_of_heap hx8 6
        have j0 := Lib.cell_of_heap hy8 0; have j1 := Lib.cell_of_heap hy8 1; have j2 := Lib.cell_of_heap hy8 2; have j3 := Lib.cell_of_heap hy8 3; have j4 := Lib.cell_of_heap hy8 4; have j5 := Lib.cell_of_heap hy8 5; have j6 := Lib.cell_of_heap hy8 6
        simp only [eCells, List.getElem?_toArray, List.getElem?_cons_zero, List.getElem?_cons_succ] at e0 e1 e2 e3 e4 e5 e6 j0 j1 j2 j3 j4 j5 j6
        clear hx8 hy8
        go_wp2_with fail
        refine (HQ2.out _ HK8.out).mono ?_
        rintro e w9 ⟨rfl, hb9⟩
        have HB9 := hide (show Below w.heap.size w w9 from HB8.out.trans (hb9.mono HB8.out.size))
        clear hb9 e0 e1 e2 e3 e4 e5 e6 j0 j1 j2 j3 j4 j5 j6
        go_wp2_with fail
        refine (HAw.out _ HB9.out).mono ?_
        rintro e w10 ⟨rfl, hb10⟩
        have HB10 := hide (show Below w.heap.size w w10 from HB9.out.trans (hb10.mono HB9.out.size))
        clear hb10
        go_wp2_with fail
        go_ret
        exact ⟨rfl, HB10.out⟩
    by_cases m1 : m = 1
    · subst m1
      obtain ⟨p, hp⟩ : ∃ p, p = l.getD t dP := ⟨_, rfl⟩
      obtain ⟨b', off', e, hbg, h7⟩ := HPl.out t ht
      injection e with e
      injection e with eq1 eq2
      subst eq1 eq2
      rw [← hp, Nat.zero_add] at h7
      obtain ⟨d0, d1, d2, d3', d4, d5, d6⟩ := h7
      have z0 : w3.frozen? ⟨g, t * 7 + 1, none⟩ = false := HFz.out _ (by omega)
      obtain ⟨s1, s2, s3⟩ := smallP_at HG.out (p := p) (by rw [hp]; exact HW.out.at ht)
      have HPp := hide hp
      have hz5 : (w3.setCell ⟨g, t * 7 + 1, none⟩ (.string (p.n ++ ⟨#[120]⟩))).heap.size = w3.heap.size := by simp
      clear hp
      go_wp2_with fail
      have hcall := build_any (l.set t ⟨p.k, p.n ++ ⟨#[120]⟩, p.v, p.o, p.a⟩) g 0 cg (w3.setCell ⟨g, t * 7 + 1, none⟩ (.string (p.n ++ ⟨#[120]⟩))) (by rw [List.length_set]; omega) (by rw [List.length_set]; omega) (by rw [List.length_set]; omega) (by rw [hz5]; exact plains_set (i := 1) (p' := ⟨p.k, p.n ++ ⟨#[120]⟩, p.v, p.o, p.a⟩) HPl.out ht (by omega) rfl (by rw [← HPp.out]; intro j hj hne; rcases (by omega : j = 0 ∨ j = 1 ∨ j = 2 ∨ j = 3 ∨ j = 4 ∨ j = 5 ∨ j = 6) with rfl | rfl | rfl | rfl | rfl | rfl | rfl <;> first | rfl | exact absurd rfl hne))
      rw [List.length_set] at hcall
      have hB5 : Below (w2.heap.size + 1) w3 (w3.setCell ⟨g, t * 7 + 1, none⟩ (.string (p.n ++ ⟨#[120]⟩))) := (Below.refl _ _).setCell hgb _
      refine hcall.mono ?_
      rintro e w6 ⟨⟨y, rfl, hsty, hly, -⟩, hb6⟩
      have hB6 : Below (w2.heap.size + 1) w3 w6 := hB5.trans (hb6.mono (by have := hB5.size; omega))
      have hs6 := hB6.size
      have HSzy := hide (tree_sz hsty (by rw [List.length_set]; omega) (by rw [List.length_set]; omega))
      have hal6 := Joins.below_alloc1 w6 (.cells (eCells y.kind y.name y.val y.op y.adr y.args.length y.cap) 32)
      have HLy := hide (hly.on hal6)
      have HX6 := hide (((HX3.out.keep hB6).mono (by omega : w2.heap.size + 1 ≤ w6.heap.size)).on hal6)
      have HB6 := hide (show Below w.heap.size w (w6.alloc (.cells (eCells y.kind y.name y.val y.op y.adr y.args.length y.cap) 32)) from (HW3.out.trans (hB6.mono (by omega))).alloc (by omega) _)
      have hx6 := (hB6.block w2.heap.size (by omega)).trans HBx3.out
      have e0 := Lib.cell_of_heap hx6 0; have e1 := Lib.cell_of_heap hx6 1; have e2 := Lib.cell_of_heap hx6 2; have e3 := Lib.cell_of_heap hx6 3; have e4 := Lib.cell_of_heap hx6 4; have e5 := Lib.cell_of_heap hx6 5; have e6 := Lib.cell_of_heap hx6 6
      simp only [eCells, List.getElem?_toArray, List.getElem?_cons_zero, List.getElem?_cons_succ] at e0 e1 e2 e3 e4 e5 e6
      have hw26 : w2.heap.size < w6.heap.size := by omega
      have HChg := hide (eq_chg HNe.out (chg_set (p' := ⟨p.k, p.n ++ ⟨#[120]⟩, p.v, p.o, p.a⟩) ht (by rw [← HPp.out]) (by rw [← HPp.out]; intro h; exact more_ne p.n (congrArg (fun q : Int × ByteArray × (Int × Int × ByteArray) × ByteArray => q.2.1) h))) HSx.out hsty)
      by_cases hn : (nodeP 60 l).2 ≤ t
      · have hn' : ((nodeP 60 l).2 : Int) ≤ (t : Int) := by omega
        have HE1 := hide (HChg.out.1 hn).1
        have HE2 := hide (HChg.out.1 hn).2
        clear hcall hB5 hb6 hly hal6 hx6
        have HQ1 := hide (equal_any x y _ HX6.out HLy.out HSz.out HSzy.out)
        have HQ2 := hide (fun w' (h : Below (w6.alloc (.cells (eCells y.kind y.name y.val y.op y.adr y.args.length y.cap) 32)).heap.size (w6.alloc (.cells (eCells y.kind y.name y.val y.op y.adr y.args.length y.cap) 32)) w') => equal_any y x w' (HLy.out.on h) (HX6.out.on h) HSzy.out HSz.out)
        rw [HE1.out] at HQ1
        rw [HE2.out] at HQ2
        rw [show vX y = .agg (eCells y.kind y.name y.val y.op y.adr y.args.length y.cap) from rfl]
        go_wp2_with fail
        refine HQ1.out.mono ?_
        rintro e w8 ⟨rfl, hb8⟩
        have hH6 : (w6.alloc (.cells (eCells y.kind y.name y.val y.op y.adr y.args.length y.cap) 32)).heap.size = w6.heap.size + 1 := by simp
        have hb7 : Below (w6.heap.size + 1) (w6.alloc (.cells (eCells y.kind y.name y.val y.op y.adr y.args.length y.cap) 32)) w8 := by rw [← hH6]; exact hb8
        have hx8 : w8.heap[w2.heap.size]? = some (.cells (eCells x.kind x.name x.val x.op x.adr x.args.length x.cap) 32 (0, 0)) := by
          rw [hb7.block _ (by omega), Below.heap_alloc _ _ _ (by omega), hB6.block _ (by omega)]
          exact HBx3.out
        have hy8 : w8.heap[w6.heap.size]? = some (.cells (eCells y.kind y.name y.val y.op y.adr y.args.length y.cap) 32 (0, 0)) := by
          rw [hb7.block _ (by omega)]
          exact heap_alloc_new w6 _
        have HB8 := hide (show Below w.heap.size w w8 from HB6.out.trans (hb8.mono HB6.out.size))
        have HK8 := hide hb8
        clear e0 e1 e2 e3 e4 e5 e6 hb7 hb8 HQ1 hB6
        have e0 := Lib.cell_of_heap hx8 0; have e1 := Lib.cell_of_heap hx8 1; have e2 := Lib.cell_of_heap hx8 2; have e3 := Lib.cell_of_heap hx8 3; have e4 := Lib.cell_of_heap hx8 4; have e5 := Lib.cell_of_heap hx8 5; have e6 := Lib.cell_of_heap hx8 6
        have j0 := Lib.cell_of_heap hy8 0; have j1 := Lib.cell_of_heap hy8 1; have j2 := Lib.cell_of_heap hy8 2; have j3 := Lib.cell_of_heap hy8 3; have j4 := Lib.cell_of_heap hy8 4; have j5 := Lib.cell_of_heap hy8 5; have j6 := Lib.cell_of_heap hy8 6
        simp only [eCells, List.getElem?_toArray, List.getElem?_cons_zero, List.getElem?_cons_succ] at e0 e1 e2 e3 e4 e5 e6 j0 j1 j2 j3 j4 j5 j6
        clear hx8 hy8
        go_wp2_with fail
        refine (HQ2.out _ HK8.out).mono ?_
        rintro e w9 ⟨rfl, hb9⟩
        have HB9 := hide (show Below w.heap.size w w9 from HB8.out.trans (hb9.mono HB8.out.size))
        clear hb9 e0 e1 e2 e3 e4 e5 e6 j0 j1 j2 j3 j4 j5 j6
        go_wp2_with fail
        refine (HAw.out _ HB9.out).mono ?_
        rintro e w10 ⟨rfl, hb10⟩
        have HB10 := hide (show Below w.heap.size w w10 from HB9.out.trans (hb10.mono HB9.out.size))
        clear hb10
        go_wp2_with fail
        go_ret
        exact ⟨rfl, HB10.out⟩
      · have hn' : ¬ ((nodeP 60 l).2 : Int) ≤ (t : Int) := by omega
        have HE1 := hide (HChg.out.2 (by omega)).1
        have HE2 := hide (HChg.out.2 (by omega)).2
        clear hcall hB5 hb6 hly hal6 hx6
        have HQ1 := hide (equal_any x y _ HX6.out HLy.out HSz.out HSzy.out)
        have HQ2 := hide (fun w' (h : Below (w6.alloc (.cells (eCells y.kind y.name y.val y.op y.adr y.args.length y.cap) 32)).heap.size (w6.alloc (.cells (eCells y.kind y.name y.val y.op y.adr y.args.length y.cap) 32)) w') => equal_any y x w' (HLy.out.on h) (HX6.out.on h) HSzy.out HSz.out)
        rw [HE1.out] at HQ1
        rw [HE2.out] at HQ2
        rw [show vX y = .agg (eCells y.kind y.name y.val y.op y.adr y.args.length y.cap) from rfl]
        go_wp2_with fail
        refine HQ1.out.mono ?_
        rintro e w8 ⟨rfl, hb8⟩
        have hH6 : (w6.alloc (.cells (eCells y.kind y.name y.val y.op y.adr y.args.length y.cap) 32)).heap.size = w6.heap.size + 1 := by simp
        have hb7 : Below (w6.heap.size + 1) (w6.alloc (.cells (eCells y.kind y.name y.val y.op y.adr y.args.length y.cap) 32)) w8 := by rw [← hH6]; exact hb8
        have hx8 : w8.heap[w2.heap.size]? = some (.cells (eCells x.kind x.name x.val x.op x.adr x.args.length x.cap) 32 (0, 0)) := by
          rw [hb7.block _ (by omega), Below.heap_alloc _ _ _ (by omega), hB6.block _ (by omega)]
          exact HBx3.out
        have hy8 : w8.heap[w6.heap.size]? = some (.cells (eCells y.kind y.name y.val y.op y.adr y.args.length y.cap) 32 (0, 0)) := by
          rw [hb7.block _ (by omega)]
          exact heap_alloc_new w6 _
        have HB8 := hide (show Below w.heap.size w w8 from HB6.out.trans (hb8.mono HB6.out.size))
        have HK8 := hide hb8
        clear e0 e1 e2 e3 e4 e5 e6 hb7 hb8 HQ1 hB6
        have e0 := Lib.cell_of_heap hx8 0; have e1 := Lib.cell_of_heap hx8 1; have e2 := Lib.cell_of_heap hx8 2; have e3 := Lib.cell_of_heap hx8 3; have e4 := Lib.cell_of_heap hx8 4; have e5 := Lib.cell_of_heap hx8 5; have e6 := Lib.cell_of_heap hx8 6
        have j0 := Lib.cell_of_heap hy8 0; have j1 := Lib.cell_of_heap hy8 1; have j2 := Lib.cell_of_heap hy8 2; have j3 := Lib.cell_of_heap hy8 3; have j4 := Lib.cell_of_heap hy8 4; have j5 := Lib.cell_of_heap hy8 5; have j6 := Lib.cell_of_heap hy8 6
        simp only [eCells, List.getElem?_toArray, List.getElem?_cons_zero, List.getElem?_cons_succ] at e0 e1 e2 e3 e4 e5 e6 j0 j1 j2 j3 j4 j5 j6
        clear hx8 hy8
        go_wp2_with fail
        refine (HQ2.out _ HK8.out).mono ?_
        rintro e w9 ⟨rfl, hb9⟩
        have HB9 := hide (show Below w.heap.size w w9 from HB8.out.trans (hb9.mono HB8.out.size))
        clear hb9 e0 e1 e2 e3 e4 e5 e6 j0 j1 j2 j3 j4 j5 j6
        go_wp2_with fail
        refine (HAw.out _ HB9.out).mono ?_
        rintro e w10 ⟨rfl, hb10⟩
        have HB10 := hide (show Below w.heap.size w w10 from HB9.out.trans (hb10.mono HB9.out.size))
        clear hb10
        go_wp2_with fail
        go_ret
        exact ⟨rfl, HB10.out⟩
    by_cases m2 : m = 2
    · subst m2
      obtain ⟨p, hp⟩ : ∃ p, p = l.getD t dP := ⟨_, rfl⟩
      obtain ⟨b', off', e, hbg, h7⟩ := HPl.out t ht
      injection e with e
      injection e with eq1 eq2
      subst eq1 eq2
      rw [← hp, Nat.zero_add] at h7
      obtain ⟨d0, d1, d2, d3', d4, d5, d6⟩ := h7
      have z0 : w3.frozen? ⟨g, t * 7 + 3, none⟩ = false := HFz.out _ (by omega)
      obtain ⟨s1, s2, s3⟩ := smallP_at HG.out (p := p) (by rw [hp]; exact HW.out.at ht)
      have HPp := hide hp
      have hz5 : (w3.setCell ⟨g, t * 7 + 3, none⟩ (.int .i64 (bits .xor .i64 p.v.2.1 1))).heap.size = w3.heap.size := by simp
      clear hp
      go_wp2_with fail
      have hcall := build_any (l.set t ⟨p.k, p.n, (p.v.1, bits .xor .i64 p.v.2.1 1, p.v.2.2), p.o, p.a⟩) g 0 cg (w3.setCell ⟨g, t * 7 + 3, none⟩ (.int .i64 (bits .xor .i64 p.v.2.1 1))) (by rw [List.length_set]; omega) (by rw [List.length_set]; omega) (by rw [List.length_set]; omega) (by rw [hz5]; exact plains_set (i := 3) (p' := ⟨p.k, p.n, (p.v.1, bits .xor .i64 p.v.2.1 1, p.v.2.2), p.o, p.a⟩) HPl.out ht (by omega) rfl (by rw [← HPp.out]; intro j hj hne; rcases (by omega : j = 0 ∨ j = 1 ∨ j = 2 ∨ j = 3 ∨ j = 4 ∨ j = 5 ∨ j = 6) with rfl | rfl | rfl | rfl | rfl | rfl | rfl <;> first | rfl | exact absurd rfl hne))
      rw [List.length_set] at hcall
      have hB5 : Below (w2.heap.size + 1) w3 (w3.setCell ⟨g, t * 7 + 3, none⟩ (.int .i64 (bits .xor .i64 p.v.2.1 1))) := (Below.refl _ _).setCell hgb _
      refine hcall.mono ?_
      rintro e w6 ⟨⟨y, rfl, hsty, hly, -⟩, hb6⟩
      have hB6 : Below (w2.heap.size + 1) w3 w6 := hB5.trans (hb6.mono (by have := hB5.size; omega))
      have hs6 := hB6.size
      have HSzy := hide (tree_sz hsty (by rw [List.length_set]; omega) (by rw [List.length_set]; omega))
      have hal6 := Joins.below_alloc1 w6 (.cells (eCells y.kind y.name y.val y.op y.adr y.args.length y.cap) 32)
      have HLy := hide (hly.on hal6)
      have HX6 := hide (((HX3.out.keep hB6).mono (by omega : w2.heap.size + 1 ≤ w6.heap.size)).on hal6)
      have HB6 := hide (show Below w.heap.size w (w6.alloc (.cells (eCells y.kind y.name y.val y.op y.adr y.args.length y.cap) 32)) from (HW3.out.trans (hB6.mono (by omega))).alloc (by omega) _)
      have hx6 := (hB6.block w2.heap.size (by omega)).trans HBx3.out
      have e0 := Lib.cell_of_heap hx6 0; have e1 := Lib.cell_of_heap hx6 1; have e2 := Lib.cell_of_heap hx6 2; have e3 := Lib.cell_of_heap hx6 3; have e4 := Lib.cell_of_heap hx6 4; have e5 := Lib.cell_of_heap hx6 5; have e6 := Lib.cell_of_heap hx6 6
      simp only [eCells, List.getElem?_toArray, List.getElem?_cons_zero, List.getElem?_cons_succ] at e0 e1 e2 e3 e4 e5 e6
      have hw26 : w2.heap.size < w6.heap.size := by omega
      have HChg := hide (eq_chg HNe.out (chg_set (p' := ⟨p.k, p.n, (p.v.1, bits .xor .i64 p.v.2.1 1, p.v.2.2), p.o, p.a⟩) ht (by rw [← HPp.out]) (by rw [← HPp.out]; intro h; exact xor_ne p.v.2.1 (congrArg (fun q : Int × ByteArray × (Int × Int × ByteArray) × ByteArray => q.2.2.1.2.1) h))) HSx.out hsty)
      by_cases hn : (nodeP 60 l).2 ≤ t
      · have hn' : ((nodeP 60 l).2 : Int) ≤ (t : Int) := by omega
        have HE1 := hide (HChg.out.1 hn).1
        have HE2 := hide (HChg.out.1 hn).2
        clear hcall hB5 hb6 hly hal6 hx6
        have HQ1 := hide (equal_any x y _ HX6.out HLy.out HSz.out HSzy.out)
        have HQ2 := hide (fun w' (h : Below (w6.alloc (.cells (eCells y.kind y.name y.val y.op y.adr y.args.length y.cap) 32)).heap.size (w6.alloc (.cells (eCells y.kind y.name y.val y.op y.adr y.args.length y.cap) 32)) w') => equal_any y x w' (HLy.out.on h) (HX6.out.on h) HSzy.out HSz.out)
        rw [HE1.out] at HQ1
        rw [HE2.out] at HQ2
        rw [show vX y = .agg (eCells y.kind y.name y.val y.op y.adr y.args.length y.cap) from rfl]
        go_wp2_with fail
        refine HQ1.out.mono ?_
        rintro e w8 ⟨rfl, hb8⟩
        have hH6 : (w6.alloc (.cells (eCells y.kind y.name y.val y.op y.adr y.args.length y.cap) 32)).heap.size = w6.heap.size + 1 := by simp
        have hb7 : Below (w6.heap.size + 1) (w6.alloc (.cells (eCells y.kind y.name y.val y.op y.adr y.args.length y.cap) 32)) w8 := by rw [← hH6]; exact hb8
        have hx8 : w8.heap[w2.heap.size]? = some (.cells (eCells x.kind x.name x.val x.op x.adr x.args.length x.cap) 32 (0, 0)) := by
          rw [hb7.block _ (by omega), Below.heap_alloc _ _ _ (by omega), hB6.block _ (by omega)]
          exact HBx3.out
        have hy8 : w8.heap[w6.heap.size]? = some (.cells (eCells y.kind y.name y.val y.op y.adr y.args.length y.cap) 32 (0, 0)) := by
          rw [hb7.block _ (by omega)]
          exact heap_alloc_new w6 _
        have HB8 := hide (show Below w.heap.size w w8 from HB6.out.trans (hb8.mono HB6.out.size))
        have HK8 := hide hb8
        clear e0 e1 e2 e3 e4 e5 e6 hb7 hb8 HQ1 hB6
        have e0 := Lib.cell_of_heap hx8 0; have e1 := Lib.cell_of_heap hx8 1; have e2 := Lib.cell_of_heap hx8 2; have e3 := Lib.cell_of_heap hx8 3; have e4 := Lib.cell_of_heap hx8 4; have e5 := Lib.cell_of_heap hx8 5; have e6 := Lib.cell_of_heap hx8 6
        have j0 := Lib.cell_of_heap hy8 0; have j1 := Lib.cell_of_heap hy8 1; have j2 := Lib.cell_of_heap hy8 2; have j3 := Lib.cell_of_heap hy8 3; have j4 := Lib.cell_of_heap hy8 4; have j5 := Lib.cell_of_heap hy8 5; have j6 := Lib.cell_of_heap hy8 6
        simp only [eCells, List.getElem?_toArray, List.getElem?_cons_zero, List.getElem?_cons_succ] at e0 e1 e2 e3 e4 e5 e6 j0 j1 j2 j3 j4 j5 j6
        clear hx8 hy8
        go_wp2_with fail
        refine (HQ2.out _ HK8.out).mono ?_
        rintro e w9 ⟨rfl, hb9⟩
        have HB9 := hide (show Below w.heap.size w w9 from HB8.out.trans (hb9.mono HB8.out.size))
        clear hb9 e0 e1 e2 e3 e4 e5 e6 j0 j1 j2 j3 j4 j5 j6
        go_wp2_with fail
        refine (HAw.out _ HB9.out).mono ?_
        rintro e w10 ⟨rfl, hb10⟩
        have HB10 := hide (show Below w.heap.size w w10 from HB9.out.trans (hb10.mono HB9.out.size))
        clear hb10
        go_wp2_with fail
        go_ret
        exact ⟨rfl, HB10.out⟩
      · have hn' : ¬ ((nodeP 60 l).2 : Int) ≤ (t : Int) := by omega
        have HE1 := hide (HChg.out.2 (by omega)).1
        have HE2 := hide (HChg.out.2 (by omega)).2
        clear hcall hB5 hb6 hly hal6 hx6
        have HQ1 := hide (equal_any x y _ HX6.out HLy.out HSz.out HSzy.out)
        have HQ2 := hide (fun w' (h : Below (w6.alloc (.cells (eCells y.kind y.name y.val y.op y.adr y.args.length y.cap) 32)).heap.size (w6.alloc (.cells (eCells y.kind y.name y.val y.op y.adr y.args.length y.cap) 32)) w') => equal_any y x w' (HLy.out.on h) (HX6.out.on h) HSzy.out HSz.out)
        rw [HE1.out] at HQ1
        rw [HE2.out] at HQ2
        rw [show vX y = .agg (eCells y.kind y.name y.val y.op y.adr y.args.length y.cap) from rfl]
        go_wp2_with fail
        refine HQ1.out.mono ?_
        rintro e w8 ⟨rfl, hb8⟩
        have hH6 : (w6.alloc (.cells (eCells y.kind y.name y.val y.op y.adr y.args.length y.cap) 32)).heap.size = w6.heap.size + 1 := by simp
        have hb7 : Below (w6.heap.size + 1) (w6.alloc (.cells (eCells y.kind y.name y.val y.op y.adr y.args.length y.cap) 32)) w8 := by rw [← hH6]; exact hb8
        have hx8 : w8.heap[w2.heap.size]? = some (.cells (eCells x.kind x.name x.val x.op x.adr x.args.length x.cap) 32 (0, 0)) := by
          rw [hb7.block _ (by omega), Below.heap_alloc _ _ _ (by omega), hB6.block _ (by omega)]
          exact HBx3.out
        have hy8 : w8.heap[w6.heap.size]? = some (.cells (eCells y.kind y.name y.val y.op y.adr y.args.length y.cap) 32 (0, 0)) := by
          rw [hb7.block _ (by omega)]
          exact heap_alloc_new w6 _
        have HB8 := hide (show Below w.heap.size w w8 from HB6.out.trans (hb8.mono HB6.out.size))
        have HK8 := hide hb8
        clear e0 e1 e2 e3 e4 e5 e6 hb7 hb8 HQ1 hB6
        have e0 := Lib.cell_of_heap hx8 0; have e1 := Lib.cell_of_heap hx8 1; have e2 := Lib.cell_of_heap hx8 2; have e3 := Lib.cell_of_heap hx8 3; have e4 := Lib.cell_of_heap hx8 4; have e5 := Lib.cell_of_heap hx8 5; have e6 := Lib.cell_of_heap hx8 6
        have j0 := Lib.cell_of_heap hy8 0; have j1 := Lib.cell_of_heap hy8 1; have j2 := Lib.cell_of_heap hy8 2; have j3 := Lib.cell_of_heap hy8 3; have j4 := Lib.cell_of_heap hy8 4; have j5 := Lib.cell_of_heap hy8 5; have j6 := Lib.cell_of_heap hy8 6
        simp only [eCells, List.getElem?_toArray, List.getElem?_cons_zero, List.getElem?_cons_succ] at e0 e1 e2 e3 e4 e5 e6 j0 j1 j2 j3 j4 j5 j6
        clear hx8 hy8
        go_wp2_with fail
        refine (HQ2.out _ HK8.out).mono ?_
        rintro e w9 ⟨rfl, hb9⟩
        have HB9 := hide (show Below w.heap.size w w9 from HB8.out.trans (hb9.mono HB8.out.size))
        clear hb9 e0 e1 e2 e3 e4 e5 e6 j0 j1 j2 j3 j4 j5 j6
        go_wp2_with fail
        refine (HAw.out _ HB9.out).mono ?_
        rintro e w10 ⟨rfl, hb10⟩
        have HB10 := hide (show Below w.heap.size w w10 from HB9.out.trans (hb10.mono HB9.out.size))
        clear hb10
        go_wp2_with fail
        go_ret
        exact ⟨rfl, HB10.out⟩
    by_cases m3 : m = 3
    · subst m3
      obtain ⟨p, hp⟩ : ∃ p, p = l.getD t dP := ⟨_, rfl⟩
      obtain ⟨b', off', e, hbg, h7⟩ := HPl.out t ht
      injection e with e
      injection e with eq1 eq2
      subst eq1 eq2
      rw [← hp, Nat.zero_add] at h7
      obtain ⟨d0, d1, d2, d3', d4, d5, d6⟩ := h7
      have z0 : w3.frozen? ⟨g, t * 7 + 5, none⟩ = false := HFz.out _ (by omega)
      obtain ⟨s1, s2, s3⟩ := smallP_at HG.out (p := p) (by rw [hp]; exact HW.out.at ht)
      have HPp := hide hp
      have hz5 : (w3.setCell ⟨g, t * 7 + 5, none⟩ (.string (p.o ++ ⟨#[120]⟩))).heap.size = w3.heap.size := by simp
      clear hp
      go_wp2_with fail
      have hcall := build_any (l.set t ⟨p.k, p.n, p.v, p.o ++ ⟨#[120]⟩, p.a⟩) g 0 cg (w3.setCell ⟨g, t * 7 + 5, none⟩ (.string (p.o ++ ⟨#[120]⟩))) (by rw [List.length_set]; omega) (by rw [List.length_set]; omega) (by rw [List.length_set]; omega) (by rw [hz5]; exact plains_set (i := 5) (p' := ⟨p.k, p.n, p.v, p.o ++ ⟨#[120]⟩, p.a⟩) HPl.out ht (by omega) rfl (by rw [← HPp.out]; intro j hj hne; rcases (by omega : j = 0 ∨ j = 1 ∨ j = 2 ∨ j = 3 ∨ j = 4 ∨ j = 5 ∨ j = 6) with rfl | rfl | rfl | rfl | rfl | rfl | rfl <;> first | rfl | exact absurd rfl hne))
      rw [List.length_set] at hcall
      have hB5 : Below (w2.heap.size + 1) w3 (w3.setCell ⟨g, t * 7 + 5, none⟩ (.string (p.o ++ ⟨#[120]⟩))) := (Below.refl _ _).setCell hgb _
      refine hcall.mono ?_
      rintro e w6 ⟨⟨y, rfl, hsty, hly, -⟩, hb6⟩
      have hB6 : Below (w2.heap.size + 1) w3 w6 := hB5.trans (hb6.mono (by have := hB5.size; omega))
      have hs6 := hB6.size
      have HSzy := hide (tree_sz hsty (by rw [List.length_set]; omega) (by rw [List.length_set]; omega))
      have hal6 := Joins.below_alloc1 w6 (.cells (eCells y.kind y.name y.val y.op y.adr y.args.length y.cap) 32)
      have HLy := hide (hly.on hal6)
      have HX6 := hide (((HX3.out.keep hB6).mono (by omega : w2.heap.size + 1 ≤ w6.heap.size)).on hal6)
      have HB6 := hide (show Below w.heap.size w (w6.alloc (.cells (eCells y.kind y.name y.val y.op y.adr y.args.length y.cap) 32)) from (HW3.out.trans (hB6.mono (by omega))).alloc (by omega) _)
      have hx6 := (hB6.block w2.heap.size (by omega)).trans HBx3.out
      have e0 := Lib.cell_of_heap hx6 0; have e1 := Lib.cell_of_heap hx6 1; have e2 := Lib.cell_of_heap hx6 2; have e3 := Lib.cell_of_heap hx6 3; have e4 := Lib.cell_of_heap hx6 4; have e5 := Lib.cell_of_heap hx6 5; have e6 := Lib.cell_of_heap hx6 6
      simp only [eCells, List.getElem?_toArray, List.getElem?_cons_zero, List.getElem?_cons_succ] at e0 e1 e2 e3 e4 e5 e6
      have hw26 : w2.heap.size < w6.heap.size := by omega
      have HChg := hide (eq_chg HNe.out (chg_set (p' := ⟨p.k, p.n, p.v, p.o ++ ⟨#[120]⟩, p.a⟩) ht (by rw [← HPp.out]) (by rw [← HPp.out]; intro h; exact more_ne p.o (congrArg (fun q : Int × ByteArray × (Int × Int × ByteArray) × ByteArray => q.2.2.2) h))) HSx.out hsty)
      by_cases hn : (nodeP 60 l).2 ≤ t
      · have hn' : ((nodeP 60 l).2 : Int) ≤ (t : Int) := by omega
        have HE1 := hide (HChg.out.1 hn).1
        have HE2 := hide (HChg.out.1 hn).2
        clear hcall hB5 hb6 hly hal6 hx6
        have HQ1 := hide (equal_any x y _ HX6.out HLy.out HSz.out HSzy.out)
        have HQ2 := hide (fun w' (h : Below (w6.alloc (.cells (eCells y.kind y.name y.val y.op y.adr y.args.length y.cap) 32)).heap.size (w6.alloc (.cells (eCells y.kind y.name y.val y.op y.adr y.args.length y.cap) 32)) w') => equal_any y x w' (HLy.out.on h) (HX6.out.on h) HSzy.out HSz.out)
        rw [HE1.out] at HQ1
        rw [HE2.out] at HQ2
        rw [show vX y = .agg (eCells y.kind y.name y.val y.op y.adr y.args.length y.cap) from rfl]
        go_wp2_with fail
        refine HQ1.out.mono ?_
        rintro e w8 ⟨rfl, hb8⟩
        have hH6 : (w6.alloc (.cells (eCells y.kind y.name y.val y.op y.adr y.args.length y.cap) 32)).heap.size = w6.heap.size + 1 := by simp
        have hb7 : Below (w6.heap.size + 1) (w6.alloc (.cells (eCells y.kind y.name y.val y.op y.adr y.args.length y.cap) 32)) w8 := by rw [← hH6]; exact hb8
        have hx8 : w8.heap[w2.heap.size]? = some (.cells (eCells x.kind x.name x.val x.op x.adr x.args.length x.cap) 32 (0, 0)) := by
          rw [hb7.block _ (by omega), Below.heap_alloc _ _ _ (by omega), hB6.block _ (by omega)]
          exact HBx3.out
        have hy8 : w8.heap[w6.heap.size]? = some (.cells (eCells y.kind y.name y.val y.op y.adr y.args.length y.cap) 32 (0, 0)) := by
          rw [hb7.block _ (by omega)]
          exact heap_alloc_new w6 _
        have HB8 := hide (show Below w.heap.size w w8 from HB6.out.trans (hb8.mono HB6.out.size))
        have HK8 := hide hb8
        clear e0 e1 e2 e3 e4 e5 e6 hb7 hb8 HQ1 hB6
        have e0 := Lib.cell_of_heap hx8 0; have e1 := Lib.cell_of_heap hx8 1; have e2 := Lib.cell_of_heap hx8 2; have e3 := Lib.cell_of_heap hx8 3; have e4 := Lib.cell_of_heap hx8 4; have e5 := Lib.cell_of_heap hx8 5; have e6 := Lib.cell_of_heap hx8 6
        have j0 := Lib.cell_of_heap hy8 0; have j1 := Lib.cell_of_heap hy8 1; have j2 := Lib.cell_of_heap hy8 2; have j3 := Lib.cell_of_heap hy8 3; have j4 := Lib.cell_of_heap hy8 4; have j5 := Lib.cell_of_heap hy8 5; have j6 := Lib.cell_of_heap hy8 6
        simp only [eCells, List.getElem?_toArray, List.getElem?_cons_zero, List.getElem?_cons_succ] at e0 e1 e2 e3 e4 e5 e6 j0 j1 j2 j3 j4 j5 j6
        clear hx8 hy8
        go_wp2_with fail
        refine (HQ2.out _ HK8.out).mono ?_
        rintro e w9 ⟨rfl, hb9⟩
        have HB9 := hide (show Below w.heap.size w w9 from HB8.out.trans (hb9.mono HB8.out.size))
        clear hb9 e0 e1 e2 e3 e4 e5 e6 j0 j1 j2 j3 j4 j5 j6
        go_wp2_with fail
        refine (HAw.out _ HB9.out).mono ?_
        rintro e w10 ⟨rfl, hb10⟩
        have HB10 := hide (show Below w.heap.size w w10 from HB9.out.trans (hb10.mono HB9.out.size))
        clear hb10
        go_wp2_with fail
        go_ret
        exact ⟨rfl, HB10.out⟩
      · have hn' : ¬ ((nodeP 60 l).2 : Int) ≤ (t : Int) := by omega
        have HE1 := hide (HChg.out.2 (by omega)).1
        have HE2 := hide (HChg.out.2 (by omega)).2
        clear hcall hB5 hb6 hly hal6 hx6
        have HQ1 := hide (equal_any x y _ HX6.out HLy.out HSz.out HSzy.out)
        have HQ2 := hide (fun w' (h : Below (w6.alloc (.cells (eCells y.kind y.name y.val y.op y.adr y.args.length y.cap) 32)).heap.size (w6.alloc (.cells (eCells y.kind y.name y.val y.op y.adr y.args.length y.cap) 32)) w') => equal_any y x w' (HLy.out.on h) (HX6.out.on h) HSzy.out HSz.out)
        rw [HE1.out] at HQ1
        rw [HE2.out] at HQ2
        rw [show vX y = .agg (eCells y.kind y.name y.val y.op y.adr y.args.length y.cap) from rfl]
        go_wp2_with fail
        refine HQ1.out.mono ?_
        rintro e w8 ⟨rfl, hb8⟩
        have hH6 : (w6.alloc (.cells (eCells y.kind y.name y.val y.op y.adr y.args.length y.cap) 32)).heap.size = w6.heap.size + 1 := by simp
        have hb7 : Below (w6.heap.size + 1) (w6.alloc (.cells (eCells y.kind y.name y.val y.op y.adr y.args.length y.cap) 32)) w8 := by rw [← hH6]; exact hb8
        have hx8 : w8.heap[w2.heap.size]? = some (.cells (eCells x.kind x.name x.val x.op x.adr x.args.length x.cap) 32 (0, 0)) := by
          rw [hb7.block _ (by omega), Below.heap_alloc _ _ _ (by omega), hB6.block _ (by omega)]
          exact HBx3.out
        have hy8 : w8.heap[w6.heap.size]? = some (.cells (eCells y.kind y.name y.val y.op y.adr y.args.length y.cap) 32 (0, 0)) := by
          rw [hb7.block _ (by omega)]
          exact heap_alloc_new w6 _
        have HB8 := hide (show Below w.heap.size w w8 from HB6.out.trans (hb8.mono HB6.out.size))
        have HK8 := hide hb8
        clear e0 e1 e2 e3 e4 e5 e6 hb7 hb8 HQ1 hB6
        have e0 := Lib.cell_of_heap hx8 0; have e1 := Lib.cell_of_heap hx8 1; have e2 := Lib.cell_of_heap hx8 2; have e3 := Lib.cell_of_heap hx8 3; have e4 := Lib.cell_of_heap hx8 4; have e5 := Lib.cell_of_heap hx8 5; have e6 := Lib.cell_of_heap hx8 6
        have j0 := Lib.cell_of_heap hy8 0; have j1 := Lib.cell_of_heap hy8 1; have j2 := Lib.cell_of_heap hy8 2; have j3 := Lib.cell_of_heap hy8 3; have j4 := Lib.cell_of_heap hy8 4; have j5 := Lib.cell_of_heap hy8 5; have j6 := Lib.cell_of_heap hy8 6
        simp only [eCells, List.getElem?_toArray, List.getElem?_cons_zero, List.getElem?_cons_succ] at e0 e1 e2 e3 e4 e5 e6 j0 j1 j2 j3 j4 j5 j6
        clear hx8 hy8
        go_wp2_with fail
        refine (HQ2.out _ HK8.out).mono ?_
        rintro e w9 ⟨rfl, hb9⟩
        have HB9 := hide (show Below w.heap.size w w9 from HB8.out.trans (hb9.mono HB8.out.size))
        clear hb9 e0 e1 e2 e3 e4 e5 e6 j0 j1 j2 j3 j4 j5 j6
        go_wp2_with fail
        refine (HAw.out _ HB9.out).mono ?_
        rintro e w10 ⟨rfl, hb10⟩
        have HB10 := hide (show Below w.heap.size w w10 from HB9.out.trans (hb10.mono HB9.out.size))
        clear hb10
        go_wp2_with fail
        go_ret
        exact ⟨rfl, HB10.out⟩
    have k0 : (m == 0) = false := by rw [beq_eq_false_iff_ne]; exact m0
    have k1 : (m == 1) = false := by rw [beq_eq_false_iff_ne]; exact m1
    have k2 : (m == 2) = false := by rw [beq_eq_false_iff_ne]; exact m2
    have k3 : (m == 3) = false := by rw [beq_eq_false_iff_ne]; exact m3
    go_wp2_with fail
    have hcall := build_any (l) g 0 cg w3 (by omega) (by omega) (by omega) (HPl.out)
    skip
    have hB5 : Below (w2.heap.size + 1) w3 w3 := Below.refl _ _
    refine hcall.mono ?_
    rintro e w6 ⟨⟨y, rfl, hsty, hly, -⟩, hb6⟩
    have hB6 : Below (w2.heap.size + 1) w3 w6 := hB5.trans (hb6.mono (by have := hB5.size; omega))
    have hs6 := hB6.size
    have HSzy := hide (tree_sz hsty (by omega) (by omega))
    have hal6 := Joins.below_alloc1 w6 (.cells (eCells y.kind y.name y.val y.op y.adr y.args.length y.cap) 32)
    have HLy := hide (hly.on hal6)
    have HX6 := hide (((HX3.out.keep hB6).mono (by omega : w2.heap.size + 1 ≤ w6.heap.size)).on hal6)
    have HB6 := hide (show Below w.heap.size w (w6.alloc (.cells (eCells y.kind y.name y.val y.op y.adr y.args.length y.cap) 32)) from (HW3.out.trans (hB6.mono (by omega))).alloc (by omega) _)
    have hx6 := (hB6.block w2.heap.size (by omega)).trans HBx3.out
    have e0 := Lib.cell_of_heap hx6 0; have e1 := Lib.cell_of_heap hx6 1; have e2 := Lib.cell_of_heap hx6 2; have e3 := Lib.cell_of_heap hx6 3; have e4 := Lib.cell_of_heap hx6 4; have e5 := Lib.cell_of_heap hx6 5; have e6 := Lib.cell_of_heap hx6 6
    simp only [eCells, List.getElem?_toArray, List.getElem?_cons_zero, List.getElem?_cons_succ] at e0 e1 e2 e3 e4 e5 e6
    have hw26 : w2.heap.size < w6.heap.size := by omega
    have HE1 := hide (show eqX x y = true from eqX_iff.2 (HSx.out.trans hsty.symm))
    have HE2 := hide (show eqX y x = true from eqX_iff.2 (hsty.trans HSx.out.symm))
    clear hcall hB5 hb6 hly hal6 hx6
    have HQ1 := hide (equal_any x y _ HX6.out HLy.out HSz.out HSzy.out)
    have HQ2 := hide (fun w' (h : Below (w6.alloc (.cells (eCells y.kind y.name y.val y.op y.adr y.args.length y.cap) 32)).heap.size (w6.alloc (.cells (eCells y.kind y.name y.val y.op y.adr y.args.length y.cap) 32)) w') => equal_any y x w' (HLy.out.on h) (HX6.out.on h) HSzy.out HSz.out)
    rw [HE1.out] at HQ1
    rw [HE2.out] at HQ2
    rw [show vX y = .agg (eCells y.kind y.name y.val y.op y.adr y.args.length y.cap) from rfl]
    go_wp2_with fail
    refine HQ1.out.mono ?_
    rintro e w8 ⟨rfl, hb8⟩
    have hH6 : (w6.alloc (.cells (eCells y.kind y.name y.val y.op y.adr y.args.length y.cap) 32)).heap.size = w6.heap.size + 1 := by simp
    have hb7 : Below (w6.heap.size + 1) (w6.alloc (.cells (eCells y.kind y.name y.val y.op y.adr y.args.length y.cap) 32)) w8 := by rw [← hH6]; exact hb8
    have hx8 : w8.heap[w2.heap.size]? = some (.cells (eCells x.kind x.name x.val x.op x.adr x.args.length x.cap) 32 (0, 0)) := by
      rw [hb7.block _ (by omega), Below.heap_alloc _ _ _ (by omega), hB6.block _ (by omega)]
      exact HBx3.out
    have hy8 : w8.heap[w6.heap.size]? = some (.cells (eCells y.kind y.name y.val y.op y.adr y.args.length y.cap) 32 (0, 0)) := by
      rw [hb7.block _ (by omega)]
      exact heap_alloc_new w6 _
    have HB8 := hide (show Below w.heap.size w w8 from HB6.out.trans (hb8.mono HB6.out.size))
    have HK8 := hide hb8
    clear e0 e1 e2 e3 e4 e5 e6 hb7 hb8 HQ1 hB6
    have e0 := Lib.cell_of_heap hx8 0; have e1 := Lib.cell_of_heap hx8 1; have e2 := Lib.cell_of_heap hx8 2; have e3 := Lib.cell_of_heap hx8 3; have e4 := Lib.cell_of_heap hx8 4; have e5 := Lib.cell_of_heap hx8 5; have e6 := Lib.cell_of_heap hx8 6
    have j0 := Lib.cell_of_heap hy8 0; have j1 := Lib.cell_of_heap hy8 1; have j2 := Lib.cell_of_heap hy8 2; have j3 := Lib.cell_of_heap hy8 3; have j4 := Lib.cell_of_heap hy8 4; have j5 := Lib.cell_of_heap hy8 5; have j6 := Lib.cell_of_heap hy8 6
    simp only [eCells, List.getElem?_toArray, List.getElem?_cons_zero, List.getElem?_cons_succ] at e0 e1 e2 e3 e4 e5 e6 j0 j1 j2 j3 j4 j5 j6
    clear hx8 hy8
    go_wp2_with fail
    refine (HQ2.out _ HK8.out).mono ?_
    rintro e w9 ⟨rfl, hb9⟩
    have HB9 := hide (show Below w.heap.size w w9 from HB8.out.trans (hb9.mono HB8.out.size))
    clear hb9 e0 e1 e2 e3 e4 e5 e6 j0 j1 j2 j3 j4 j5 j6
    go_wp2_with fail
    refine (HAw.out _ HB9.out).mono ?_
    rintro e w10 ⟨rfl, hb10⟩
    have HB10 := hide (show Below w.heap.size w w10 from HB9.out.trans (hb10.mono HB9.out.size))
    clear hb10
    go_wp2_with fail
    go_ret
    exact ⟨rfl, HB10.out⟩
  · clear hR hM
    cases hs : smallP l
    · rw [hs] at HSm
      go_enter Tryd.func7, Tryd.ntmps7
      go_wp2_with fail
      refine (HSm.out _ HP.out).mono ?_
      rintro e w1 ⟨rfl, hb1⟩
      have HB1 := hide hb1
      clear hb1
      go_wp2_with fail
      refine (HAw.out _ HB1.out).mono ?_
      rintro e w2 ⟨rfl, hb2⟩
      have HB2 := hide (then_below HB1.out hb2)
      clear hb2
      go_wp2_with fail
      go_ret
      exact ⟨rfl, HB2.out⟩
    · rw [hs] at HSm
      by_cases hn0 : n < 0
      · clear hg
        go_enter Tryd.func7, Tryd.ntmps7
        go_wp2_with fail
        refine (HSm.out _ HP.out).mono ?_
        rintro e w1 ⟨rfl, hb1⟩
        have HB1 := hide hb1
        clear hb1
        go_wp2_with fail
        refine (HAw.out _ HB1.out).mono ?_
        rintro e w2 ⟨rfl, hb2⟩
        have HB2 := hide (then_below HB1.out hb2)
        clear hb2
        go_wp2_with fail
        go_ret
        exact ⟨rfl, HB2.out⟩
      · have hn1 : (l.length : Int) ≤ n := by
          rcases Int.lt_or_le n (l.length : Int) with h | h
          · exact absurd ⟨hs, by omega, h⟩ hg
          · exact h
        clear hg
        go_enter Tryd.func7, Tryd.ntmps7
        go_wp2_with fail
        refine (HSm.out _ HP.out).mono ?_
        rintro e w1 ⟨rfl, hb1⟩
        have HB1 := hide hb1
        clear hb1
        go_wp2_with fail
        refine (HAw.out _ HB1.out).mono ?_
        rintro e w2 ⟨rfl, hb2⟩
        have HB2 := hide (then_below HB1.out hb2)
        clear hb2
        go_wp2_with fail
        go_ret
        exact ⟨rfl, HB2.out⟩
end Go.Proofs.YtdhbgfdkbjnedaaDoor
