/-
  The walk of ExprMakes.
-/
import Derived.Test.YtpohofcfmllghaaDoorMK
import Derived.Test.YtpohofcfmllghaaDoorEBuildW
import Derived.Test.YtpohofcfmllghaaDoorMPlain
import Derived.Test.YtpohofcfmllghaaDoorMCons
import Derived.Test.YtpohofcfmllghaaDoorECount
import Derived.Test.YtpohofcfmllghaaDoorEAwake
namespace Go.Proofs.YtpohofcfmllghaaDoor
open Go.RowKit

set_option maxHeartbeats 3200000 in
set_option maxRecDepth 100000 in
theorem exprMakes_walk (A : Option Addr) (c : Nat) (l : List PL) (s : ByteArray) (n : Int) (w : World) (hP : PlainsAt w.heap.size w A l ∧ l.length ≤ c) (hw : wfP l) (hs : s.size ≤ maxLen) (_ : -9223372036854775808 ≤ n) (_ : n ≤ 9223372036854775807) (hR : Rls w) (hM : Cmps w) :
    Calls Tryd.prog 3 #[.slice A l.length c, .string s, .int .i64 n] w fun e w' => e = .returned (.bool true) ∧ Below w.heap.size w w' := by
  have HSm := hide (fun w' h => small_any A c l w' h hw)
  have HAw := hide (fun w' (h : Below w.heap.size w w') => awake_any w' (hR.stays h) (hM.stays h))
  have HP := hide hP.1
  have HC := hide hP.2
  have HW := hide hw
  have hl := hw.1
  unfold maxLen at hl hs
  by_cases hg : smallP l = true ∧ l.length ≤ 60 ∧ s.size ≤ 50
  · obtain ⟨g1, g2, g3⟩ := hg
    obtain ⟨h0, h300⟩ := smallP_len g1
    obtain ⟨b, off, rfl, hb, -⟩ := hP.1 0 h0
    clear hP hw hR hM
    rw [g1] at HSm
    have HG := hide g1
    have g2' : ¬ (60 : Int) < (l.length : Int) := by omega
    have g3' : ¬ (50 : Int) < (s.size : Int) := by omega
    clear g1
    go_enter Tryd.func3, Tryd.ntmps3
    go_wp2_with fail
    refine (HSm.out _ HP.out).mono ?_
    rintro e w1 ⟨rfl, hb1⟩
    have HB1 := hide hb1
    clear hb1
    go_wp2_with fail
    refine (build_any l b off c w1 h0 h300 HC.out (HP.out.on HB1.out)).mono ?_
    rintro e w2 ⟨⟨x, rfl, hst, hlx, hnx, hun⟩, hb2⟩
    have HB2 := hide (then_below HB1.out hb2)
    have HSx := hide hst
    have HSz := hide (tree_sz3 hst h0 h300)
    have hal2 := Joins.below_alloc1 w2 (.cells (eCells x.kind x.name x.val x.op x.adr x.args.length x.cap) 29)
    have hn2 := heap_alloc_new w2 (.cells (eCells x.kind x.name x.val x.op x.adr x.args.length x.cap) 29)
    have HLx := hide (hlx.on hal2)
    have HNx := hide hnx
    have HA2 := hide hal2
    have HN2 := hide hn2
    have HUx := hide hun
    have HLx0 := hide hlx
    clear hb2 hst hlx hal2 hn2 hnx hun
    rw [show vX x = .agg (eCells x.kind x.name x.val x.op x.adr x.args.length x.cap) from rfl]
    go_wp2_with fail
    have HE7 := hide (show At7 (w2.alloc (.cells (eCells x.kind x.name x.val x.op x.adr x.args.length x.cap) 29)) w2.heap.size 0 x from ⟨Lib.cell_of_heap HN2.out 0, Lib.cell_of_heap HN2.out 1, Lib.cell_of_heap HN2.out 2, Lib.cell_of_heap HN2.out 3, Lib.cell_of_heap HN2.out 4, Lib.cell_of_heap HN2.out 5, Lib.cell_of_heap HN2.out 6⟩)
    have HBW := hide (show w2.heap.size < (w2.alloc (.cells (eCells x.kind x.name x.val x.op x.adr x.args.length x.cap) 29)).heap.size by simp)
    obtain ⟨W, hW⟩ : ∃ W, W = ({ (w2.alloc (.cells (eCells x.kind x.name x.val x.op x.adr x.args.length x.cap) 29)) with drawn := (w2.alloc (.cells (eCells x.kind x.name x.val x.op x.adr x.args.length x.cap) 29)).drawn + 1 } : World) := ⟨_, rfl⟩
    refine wp_region_inv (I := IM W b off c l s n x w2.heap.size) (by kernel_rfl) ?_ ?_ ?_
    · rw [← hW]
      exact ⟨fun _ => undef, fun _ => dX, fun _ => 0, fun _ => 0, rfl, J.init _ _ _ _⟩
    · have q2 := HA2.out
      have HWb : Hid (Below w2.heap.size w2 W) := hide (by rw [hW]; exact q2.drew)
      have HE7 : Hid (At7 W w2.heap.size 0 x) := hide (by rw [hW]; exact HE7.out)
      have HBW : Hid (w2.heap.size < W.heap.size) := hide (by rw [hW]; exact HBW.out)
      have HLx1 := hide (HLx0.out.keep HWb.out)
      have HUx1 := hide (HUx.out.on HWb.out)
      have HWw := hide (HB2.out.trans (HWb.out.mono HB2.out.size))
      clear hW HA2 HN2 q2 HLx HLx0 HUx
      rintro listed a w3 ⟨v, T, lo, hi', rfl, hJ⟩ hrd
      have hall := all_bits (dep_of (by kernel_rfl)) hJ.size hrd
      obtain ⟨b9, b10, b11, hMk⟩ := hJ.made hall
      have HMk := hide hMk
      have HB3 := hide hJ.bel
      have HW3 := hide (HWw.out.trans (hJ.bel.mono HWw.out.size))
      clear hall hMk hJ hrd
      unfold actM
      rw [b9, b10, b11]
      generalize lo 15 = P9 at *
      generalize lo 16 = P10 at *
      generalize lo 17 = P11 at *
      generalize T 2 = tu at *
      generalize T 8 = tb at *
      generalize T 14 = tc at *
      clear b9 b10 b11
      go_wp2_with fail
      refine (build_any l b off c w3 h0 h300 HC.out (HP.out.on HW3.out)).mono ?_
      rintro e w4 ⟨⟨y, rfl, hsy, hly, hny, -⟩, hb4⟩
      have HSy := hide (hsy.trans HSx.out.symm)
      have HZy := hide (tree_sz3 hsy h0 h300)
      have HB4 := hide hb4
      have hal4 := Joins.below_alloc1 w4 (.cells (eCells y.kind y.name y.val y.op y.adr y.args.length y.cap) 29)
      have hn4 := heap_alloc_new w4 (.cells (eCells y.kind y.name y.val y.op y.adr y.args.length y.cap) 29)
      have HY := hide (show LiesX (w4.alloc (.cells (eCells y.kind y.name y.val y.op y.adr y.args.length y.cap) 29)).heap.size (w4.alloc (.cells (eCells y.kind y.name y.val y.op y.adr y.args.length y.cap) 29)) y ∧ newX w3.heap.size y from ⟨hly.on hal4, hny⟩)
      have HB5 := hide (hb4.trans (hal4.mono hb4.size))
      have HN4 := hide hn4
      have e6 := (hb4.cell (p := ⟨w2.heap.size, 6, none⟩) (by have := HB3.out.size; have := HBW.out; show w2.heap.size < _; omega)).trans ((HB3.out.cell (p := ⟨w2.heap.size, 6, none⟩) HBW.out).trans HE7.out.2.2.2.2.2.2)
      have hB4 : w2.heap.size < w4.heap.size := by have := HB3.out.size; have := HBW.out; have := hb4.size; omega
      clear hsy hly hny hb4 hal4 hn4
      rw [show vX y = .agg (eCells y.kind y.name y.val y.op y.adr y.args.length y.cap) from rfl]
      go_wp2_with fail
      obtain ⟨w5, hw5⟩ : ∃ w5, w5 = w4.alloc (.cells (eCells y.kind y.name y.val y.op y.adr y.args.length y.cap) 29) := ⟨_, rfl⟩
      rw [← hw5] at HY HB5 HN4 ⊢
      have e65 := (HB5.out.cell (p := ⟨w2.heap.size, 6, none⟩) (by have := HB3.out.size; have := HBW.out; show w2.heap.size < _; omega)).trans ((HB3.out.cell (p := ⟨w2.heap.size, 6, none⟩) HBW.out).trans HE7.out.2.2.2.2.2.2)
      have HMk5 := hide (HMk.out.on HB5.out)
      have HYb : Hid (At7 w5 w4.heap.size 0 y ∧ w4.heap.size < w5.heap.size ∧ w3.heap.size ≤ w4.heap.size) := hide ⟨⟨Lib.cell_of_heap HN4.out 0, Lib.cell_of_heap HN4.out 1, Lib.cell_of_heap HN4.out 2, Lib.cell_of_heap HN4.out 3, Lib.cell_of_heap HN4.out 4, Lib.cell_of_heap HN4.out 5, Lib.cell_of_heap HN4.out 6⟩, by rw [hw5]; simp, HB4.out.size⟩
      have HW5 := hide (HW3.out.trans (HB5.out.mono HW3.out.size))
      have HUx5 := hide (HUx1.out.on (HB3.out.trans (HB5.out.mono HB3.out.size)))
      have HXl : Hid (∀ a, x.adr = some a → a.block < W.heap.size ∧ w.heap.size ≤ a.block) := hide fun a ha => ⟨by
        obtain ⟨-, cur, hc, -⟩ := HUx1.out a ha
        exact (Array.getElem?_eq_some_iff.1 hc).1, Nat.le_trans HB1.out.size (newX_adr HNx.out ha)⟩
      have hlen : x.args.length ≤ 300 := by have := HSz.out; have := szX_eq x; have := len_szXs x.args; omega
      have HE65 := hide e65
      have hBw : w2.heap.size < W.heap.size := HBW.out
      clear hw5 e6 hB4 e65 HMk HN4 HB4
      go_loopw [58] (fun u wr => ∃ i : Nat, i ≤ x.args.length ∧ u = .int .i64 i ∧ Sp w.heap.size x w5 wr) (fun u _ => x.args.length - (intOf u).toNat)
      case atStart => exact ⟨0, Nat.zero_le _, rfl, ⟨Below.refl _ _, fun _ _ => rfl, rfl, HUx5.out⟩⟩
      case round =>
        obtain ⟨i, hi, rfl, hS⟩ := hrel
        by_cases hlt : i < x.args.length
        · obtain ⟨g, of', hg, hgl, -, -⟩ := HLx1.out.at hlt
          obtain ⟨he, cur, hc, hn⟩ := hS.unf _ hg
          obtain rfl : of' = 0 := by injection he
          have e6 := (cell_same (hS.same w2.heap.size (fun a ha => by rw [hg] at ha; injection ha with ha; subst ha; simp only; omega)) 6).trans HE65.out
          rw [hg] at e6
          have hsz : w2.heap.size < wr.heap.size := by have := hS.size; have := HB5.out.size; have := HB3.out.size; omega
          have hgz : g < wr.heap.size := (Array.getElem?_eq_some_iff.1 hc).1
          have hL := (HXl.out _ hg).2
          have HSn := hide (hS.set hg hL (i := i * 7 + 1) (.string ⟨#[115, 112, 111, 105, 108, 116]⟩))
          have c1 := Lib.cell_of_heap hc (i * 7 + 1)
          have f1 := Lib.frozen_of_heap hc (i * 7 + 1)
          obtain ⟨u9, hu9⟩ : ∃ u, cur[i * 7 + 1]? = some u := ⟨_, Array.getElem?_eq_getElem (by omega)⟩
          rw [hu9] at c1
          clear hS hc hn hg he hL hu9
          go_wp2_with fail
          go_roundw
          case rel => exact ⟨i + 1, by omega, by go_num, HSn.out⟩
          case measure => simp [intOf]; omega
        · obtain rfl : i = x.args.length := by omega
          have HMk6 := hide (HMk5.out.keep (fun b hb _ => hS.same b (fun a ha => by have := (HXl.out a ha).1; omega)) (Nat.le_of_eq hS.size.symm))
          have HYs : Hid (LiesX wr.heap.size wr y ∧ At7 wr w4.heap.size 0 y ∧ w4.heap.size < wr.heap.size) := hide (by
            have hw3 := HB3.out.size
            refine ⟨?_, HYb.out.1.same (hS.same _ fun a ha => by have := (HXl.out a ha).1; have := HYb.out.2.2; omega), by rw [hS.size]; exact HYb.out.2.1⟩
            rw [hS.size]
            exact HY.out.1.off HY.out.2 (fun b hb _ => hS.same b (fun a ha => by have := (HXl.out a ha).1; omega)))
          have HWr := hide (HW5.out.trans hS.os)
          clear hS HMk5 HY HYb HUx5 HE65
          go_wp2_with fail
          refine (of_any n wr).mono ?_
          rintro e w6 ⟨rfl, hb6⟩
          have HW6 := hide (HWr.out.trans (hb6.mono HWr.out.size))
          have HMk7 := hide (HMk6.out.on hb6)
          have HYs6 : Hid (LiesX w6.heap.size w6 y ∧ At7 w6 w4.heap.size 0 y ∧ w4.heap.size < w6.heap.size) := hide ⟨HYs.out.1.on hb6, HYs.out.2.1.below hb6 HYs.out.2.2, Nat.lt_of_lt_of_le HYs.out.2.2 hb6.size⟩
          clear hb6 HMk6 HYs
          go_wp2_with fail
          obtain ⟨w7, hw7⟩ : ∃ w7, w7 = w6.alloc (.cells #[.int .i64 2, .string ⟨#[]⟩, .int .i64 1, .int .i64 n, .string ⟨#[]⟩, .string ⟨#[]⟩, .slice none 0 0] 29) := ⟨_, rfl⟩
          rw [← hw7]
          have HB7 : Hid (Below w6.heap.size w6 w7) := hide (by rw [hw7]; exact Joins.below_alloc1 w6 _)
          have hn7 : w7.heap[w6.heap.size]? = some (.cells #[.int .i64 2, .string ⟨#[]⟩, .int .i64 1, .int .i64 n, .string ⟨#[]⟩, .string ⟨#[]⟩, .slice none 0 0] 29 (0, 0)) := by rw [hw7]; exact heap_alloc_new w6 _
          have HMk8 := hide (HMk7.out.on HB7.out)
          have HYs7 : Hid (LiesX w7.heap.size w7 y) := hide (HYs6.out.1.on HB7.out)
          have HW7 := hide (HW6.out.trans (HB7.out.mono HW6.out.size))
          have hz4 : w4.heap.size < w7.heap.size := Nat.lt_of_lt_of_le HYs6.out.2.2 HB7.out.size
          have hz6 : w6.heap.size < w7.heap.size := (Array.getElem?_eq_some_iff.1 hn7).1
          have HAt : Hid (At7 w7 w4.heap.size 0 y) := hide (HYs6.out.2.1.below HB7.out HYs6.out.2.2)
          have HAk : Hid (At7 w7 w6.heap.size 0 (constT n)) := hide ⟨Lib.cell_of_heap hn7 0, Lib.cell_of_heap hn7 1, Lib.cell_of_heap hn7 2, Lib.cell_of_heap hn7 3, Lib.cell_of_heap hn7 4, Lib.cell_of_heap hn7 5, Lib.cell_of_heap hn7 6⟩
          have HCl : Hid (∀ w', Below w7.heap.size w7 w' → (w'.cell? ⟨P9, 0, none⟩ = some (.int .i64 tu.kind) ∧ w'.cell? ⟨P9, 1, none⟩ = some (.string tu.name) ∧ w'.cell? ⟨P9, 2, none⟩ = some (.int .i64 tu.val.1) ∧ w'.cell? ⟨P9, 3, none⟩ = some (.int .i64 tu.val.2.1) ∧ w'.cell? ⟨P9, 4, none⟩ = some (.string tu.val.2.2) ∧ w'.cell? ⟨P9, 5, none⟩ = some (.string tu.op) ∧ w'.cell? ⟨P9, 6, none⟩ = some (.slice tu.adr tu.args.length tu.cap)) ∧ (w'.cell? ⟨P10, 0, none⟩ = some (.int .i64 tb.kind) ∧ w'.cell? ⟨P10, 1, none⟩ = some (.string tb.name) ∧ w'.cell? ⟨P10, 2, none⟩ = some (.int .i64 tb.val.1) ∧ w'.cell? ⟨P10, 3, none⟩ = some (.int .i64 tb.val.2.1) ∧ w'.cell? ⟨P10, 4, none⟩ = some (.string tb.val.2.2) ∧ w'.cell? ⟨P10, 5, none⟩ = some (.string tb.op) ∧ w'.cell? ⟨P10, 6, none⟩ = some (.slice tb.adr tb.args.length tb.cap)) ∧ (w'.cell? ⟨P11, 0, none⟩ = some (.int .i64 tc.kind) ∧ w'.cell? ⟨P11, 1, none⟩ = some (.string tc.name) ∧ w'.cell? ⟨P11, 2, none⟩ = some (.int .i64 tc.val.1) ∧ w'.cell? ⟨P11, 3, none⟩ = some (.int .i64 tc.val.2.1) ∧ w'.cell? ⟨P11, 4, none⟩ = some (.string tc.val.2.2) ∧ w'.cell? ⟨P11, 5, none⟩ = some (.string tc.op) ∧ w'.cell? ⟨P11, 6, none⟩ = some (.slice tc.adr tc.args.length tc.cap)) ∧ (w'.cell? ⟨w4.heap.size, 0, none⟩ = some (.int .i64 y.kind) ∧ w'.cell? ⟨w4.heap.size, 1, none⟩ = some (.string y.name) ∧ w'.cell? ⟨w4.heap.size, 2, none⟩ = some (.int .i64 y.val.1) ∧ w'.cell? ⟨w4.heap.size, 3, none⟩ = some (.int .i64 y.val.2.1) ∧ w'.cell? ⟨w4.heap.size, 4, none⟩ = some (.string y.val.2.2) ∧ w'.cell? ⟨w4.heap.size, 5, none⟩ = some (.string y.op) ∧ w'.cell? ⟨w4.heap.size, 6, none⟩ = some (.slice y.adr y.args.length y.cap)) ∧ (w'.cell? ⟨w6.heap.size, 0, none⟩ = some (.int .i64 2) ∧ w'.cell? ⟨w6.heap.size, 1, none⟩ = some (.string ⟨#[]⟩) ∧ w'.cell? ⟨w6.heap.size, 2, none⟩ = some (.int .i64 1) ∧ w'.cell? ⟨w6.heap.size, 3, none⟩ = some (.int .i64 n) ∧ w'.cell? ⟨w6.heap.size, 4, none⟩ = some (.string ⟨#[]⟩) ∧ w'.cell? ⟨w6.heap.size, 5, none⟩ = some (.string ⟨#[]⟩) ∧ w'.cell? ⟨w6.heap.size, 6, none⟩ = some (.slice none 0 0))) := hide (fun w' hb => ⟨(HMk8.out.on hb).a9, (HMk8.out.on hb).a10, (HMk8.out.on hb).a11, HAt.out.below hb hz4, HAk.out.below hb hz6⟩)
          have HQ1 : Hid (∀ w', Below w7.heap.size w7 w' → Calls Tryd.prog 13 #[.agg #[.int .i64 tu.kind, .string tu.name, .int .i64 tu.val.1, .int .i64 tu.val.2.1, .string tu.val.2.2, .string tu.op, .slice tu.adr tu.args.length tu.cap], .agg #[.int .i64 3, .string ⟨#[]⟩, .int .i64 0, .int .i64 0, .string ⟨#[]⟩, .string s, .slice (some ⟨w'.heap.size, 0, none⟩) 1 1]] (w'.alloc (.cells #[.int .i64 y.kind, .string y.name, .int .i64 y.val.1, .int .i64 y.val.2.1, .string y.val.2.2, .string y.op, .slice y.adr y.args.length y.cap] 29)) fun e w'' => e = .returned (.bool true) ∧ Below (w'.alloc (.cells #[.int .i64 y.kind, .string y.name, .int .i64 y.val.1, .int .i64 y.val.2.1, .string y.val.2.2, .string y.op, .slice y.adr y.args.length y.cap] 29)).heap.size (w'.alloc (.cells #[.int .i64 y.kind, .string y.name, .int .i64 y.val.1, .int .i64 y.val.2.1, .string y.val.2.2, .string y.op, .slice y.adr y.args.length y.cap] 29)) w'') := hide (fun w' hb => by
            have hmk := (HMk8.out.on hb).on (Joins.below_alloc1 w' (.cells #[.int .i64 y.kind, .string y.name, .int .i64 y.val.1, .int .i64 y.val.2.1, .string y.val.2.2, .string y.op, .slice y.adr y.args.length y.cap] 29))
            have hly := (HYs7.out.on hb)
            have q := equal_any tu (.mk 3 ⟨#[]⟩ (0, 0, ⟨#[]⟩) s (some ⟨w'.heap.size, 0, none⟩) 1 [y]) (w'.alloc (.cells #[.int .i64 y.kind, .string y.name, .int .i64 y.val.1, .int .i64 y.val.2.1, .string y.val.2.2, .string y.op, .slice y.adr y.args.length y.cap] 29)) hmk.lu (row_one w' y hly _ _ _ _) (by rw [← szX_strip, hmk.su, szX_strip]; have := HSz.out; simp only [szX, szXs]; omega) (by have := HZy.out; simp only [szX, szXs]; omega)
            rw [eqX_iff.2 (by rw [hmk.su]; simp only [stripX, stripXs, HSy.out])] at q
            exact q)
          have HQ2 : Hid (∀ w', Below w7.heap.size w7 w' → Calls Tryd.prog 13 #[.agg #[.int .i64 tb.kind, .string tb.name, .int .i64 tb.val.1, .int .i64 tb.val.2.1, .string tb.val.2.2, .string tb.op, .slice tb.adr tb.args.length tb.cap], .agg #[.int .i64 4, .string ⟨#[]⟩, .int .i64 0, .int .i64 0, .string ⟨#[]⟩, .string s, .slice (some ⟨w'.heap.size, 0, none⟩) 2 2]] (w'.alloc (.cells #[.int .i64 y.kind, .string y.name, .int .i64 y.val.1, .int .i64 y.val.2.1, .string y.val.2.2, .string y.op, .slice y.adr y.args.length y.cap, .int .i64 2, .string ⟨#[]⟩, .int .i64 1, .int .i64 n, .string ⟨#[]⟩, .string ⟨#[]⟩, .slice none 0 0] 29)) fun e w'' => e = .returned (.bool true) ∧ Below (w'.alloc (.cells #[.int .i64 y.kind, .string y.name, .int .i64 y.val.1, .int .i64 y.val.2.1, .string y.val.2.2, .string y.op, .slice y.adr y.args.length y.cap, .int .i64 2, .string ⟨#[]⟩, .int .i64 1, .int .i64 n, .string ⟨#[]⟩, .string ⟨#[]⟩, .slice none 0 0] 29)).heap.size (w'.alloc (.cells #[.int .i64 y.kind, .string y.name, .int .i64 y.val.1, .int .i64 y.val.2.1, .string y.val.2.2, .string y.op, .slice y.adr y.args.length y.cap, .int .i64 2, .string ⟨#[]⟩, .int .i64 1, .int .i64 n, .string ⟨#[]⟩, .string ⟨#[]⟩, .slice none 0 0] 29)) w'') := hide (fun w' hb => by
            have hmk := (HMk8.out.on hb).on (Joins.below_alloc1 w' (.cells #[.int .i64 y.kind, .string y.name, .int .i64 y.val.1, .int .i64 y.val.2.1, .string y.val.2.2, .string y.op, .slice y.adr y.args.length y.cap, .int .i64 2, .string ⟨#[]⟩, .int .i64 1, .int .i64 n, .string ⟨#[]⟩, .string ⟨#[]⟩, .slice none 0 0] 29))
            have hly := (HYs7.out.on hb)
            have q := equal_any tb (.mk 4 ⟨#[]⟩ (0, 0, ⟨#[]⟩) s (some ⟨w'.heap.size, 0, none⟩) 2 [y, constT n]) (w'.alloc (.cells #[.int .i64 y.kind, .string y.name, .int .i64 y.val.1, .int .i64 y.val.2.1, .string y.val.2.2, .string y.op, .slice y.adr y.args.length y.cap, .int .i64 2, .string ⟨#[]⟩, .int .i64 1, .int .i64 n, .string ⟨#[]⟩, .string ⟨#[]⟩, .slice none 0 0] 29)) hmk.lb (row_two w' y (constT n) hly (lies_leaf _ _ _ _ _ _) _ _ _ _) (by rw [← szX_strip, hmk.sb, szX_strip]; have := HSz.out; simp only [szX, szXs]; omega) (by have := HZy.out; simp only [szX, szXs]; omega)
            rw [eqX_iff.2 (by rw [hmk.sb]; simp only [stripX, stripXs, HSy.out])] at q
            exact q)
          have HQ3 : Hid (∀ w', Below w7.heap.size w7 w' → Calls Tryd.prog 13 #[.agg #[.int .i64 tc.kind, .string tc.name, .int .i64 tc.val.1, .int .i64 tc.val.2.1, .string tc.val.2.2, .string tc.op, .slice tc.adr tc.args.length tc.cap], .agg #[.int .i64 5, .string s, .int .i64 0, .int .i64 0, .string ⟨#[]⟩, .string ⟨#[]⟩, .slice (some ⟨w'.heap.size, 0, none⟩) 2 2]] (w'.alloc (.cells #[.int .i64 y.kind, .string y.name, .int .i64 y.val.1, .int .i64 y.val.2.1, .string y.val.2.2, .string y.op, .slice y.adr y.args.length y.cap, .int .i64 1, .string s, .int .i64 0, .int .i64 0, .string ⟨#[]⟩, .string ⟨#[]⟩, .slice none 0 0] 29)) fun e w'' => e = .returned (.bool true) ∧ Below (w'.alloc (.cells #[.int .i64 y.kind, .string y.name, .int .i64 y.val.1, .int .i64 y.val.2.1, .string y.val.2.2, .string y.op, .slice y.adr y.args.length y.cap, .int .i64 1, .string s, .int .i64 0, .int .i64 0, .string ⟨#[]⟩, .string ⟨#[]⟩, .slice none 0 0] 29)).heap.size (w'.alloc (.cells #[.int .i64 y.kind, .string y.name, .int .i64 y.val.1, .int .i64 y.val.2.1, .string y.val.2.2, .string y.op, .slice y.adr y.args.length y.cap, .int .i64 1, .string s, .int .i64 0, .int .i64 0, .string ⟨#[]⟩, .string ⟨#[]⟩, .slice none 0 0] 29)) w'') := hide (fun w' hb => by
            have hmk := (HMk8.out.on hb).on (Joins.below_alloc1 w' (.cells #[.int .i64 y.kind, .string y.name, .int .i64 y.val.1, .int .i64 y.val.2.1, .string y.val.2.2, .string y.op, .slice y.adr y.args.length y.cap, .int .i64 1, .string s, .int .i64 0, .int .i64 0, .string ⟨#[]⟩, .string ⟨#[]⟩, .slice none 0 0] 29))
            have hly := (HYs7.out.on hb)
            have q := equal_any tc (.mk 5 s (0, 0, ⟨#[]⟩) ⟨#[]⟩ (some ⟨w'.heap.size, 0, none⟩) 2 [y, colT s]) (w'.alloc (.cells #[.int .i64 y.kind, .string y.name, .int .i64 y.val.1, .int .i64 y.val.2.1, .string y.val.2.2, .string y.op, .slice y.adr y.args.length y.cap, .int .i64 1, .string s, .int .i64 0, .int .i64 0, .string ⟨#[]⟩, .string ⟨#[]⟩, .slice none 0 0] 29)) hmk.lc (row_two w' y (colT s) hly (lies_leaf _ _ _ _ _ _) _ _ _ _) (by rw [← szX_strip, hmk.sc, szX_strip]; have := HSz.out; simp only [szX, szXs]; omega) (by have := HZy.out; simp only [szX, szXs]; omega)
            rw [eqX_iff.2 (by rw [hmk.sc]; simp only [stripX, stripXs, HSy.out])] at q
            exact q)
          have HS1 : Hid (∀ w', Below w7.heap.size w7 w' → Calls Tryd.prog 14 #[.agg #[.int .i64 tu.kind, .string tu.name, .int .i64 tu.val.1, .int .i64 tu.val.2.1, .string tu.val.2.2, .string tu.op, .slice tu.adr tu.args.length tu.cap]] w' fun e w'' => e = .returned (.int .i64 ((szX y : Int) + 1)) ∧ Below w'.heap.size w' w'') := hide (fun w' hb => by
            have hmk := HMk8.out.on hb
            have e1 : szX tu = szX y + 1 := by
              rw [← szX_strip tu, hmk.su, szX_strip, ← szX_strip y, HSy.out, szX_strip]; simp only [szX, szXs]; omega
            have q := size_any tu w' (by rw [e1]; have := HZy.out; omega) hmk.lu
            rw [e1] at q
            exact q)
          have HS2 : Hid (∀ w', Below w7.heap.size w7 w' → Calls Tryd.prog 14 #[.agg #[.int .i64 y.kind, .string y.name, .int .i64 y.val.1, .int .i64 y.val.2.1, .string y.val.2.2, .string y.op, .slice y.adr y.args.length y.cap]] w' fun e w'' => e = .returned (.int .i64 (szX y : Int)) ∧ Below w'.heap.size w' w'') := hide (fun w' hb => size_any y w' (by have := HZy.out; omega) (HYs7.out.on hb))
          have hy0 : szX y ≤ 300 := HZy.out
          have HAw7 : Hid (∀ w', Below w7.heap.size w7 w' → Calls Tryd.prog 5 #[] w' fun e w'' => e = .returned (.bool true) ∧ Below w'.heap.size w' w'') := hide (fun w' hb => HAw.out w' (HW7.out.trans (hb.mono HW7.out.size)))
          clear hw7 hn7 HB7 HMk7 HMk8 HYs6 HYs7 HAt HAk hz4 hz6 HSx HNx HLx1 HUx1 HXl HB1 HB2 HB3 HB5 HW3 HW5 HWr HWw HWb HE7 HBW HSy HZy HSz HP HAw
          generalize szX y = my at *
          have hy1 : (0 : Int) ≤ (my : Int) ∧ (my : Int) ≤ 300 := by omega
          have HWR : Hid (IntKind.i64.wrap ((my : Int) + 1) = (my : Int) + 1) := hide (wrap_in (by omega) (by omega))
          refine wp_region_held_drew (S := fun w' => Below w7.heap.size w7 w') (by kernel_rfl) ((Below.refl _ _).drew) (fun hS => ?_)
          refine wpAnyH_take (i := 0) (oi := ⟨some 70, _, _, _, _, _⟩) (v := ?_) rfl (by kernel_rfl) (by kernel_rfl) (by kernel_rfl) (fun _ _ _ h => h) (Or.inl ⟨by rfl, ?_⟩) hS ?_
          rotate_left 1
          · intro w' hw'
            obtain ⟨⟨p0, p1, p2, p3, p4, p5, p6⟩, ⟨q0, q1, q2, q3, q4, q5, q6⟩, ⟨r0, r1, r2, r3, r4, r5, r6⟩, ⟨y0, y1, y2, y3, y4, y5, y6⟩, k0, k1, k2, k3, k4, k5, k6⟩ := HCl.out w' hw'
            go_simp
            all_goals with_reducible rfl
          try simp only [Act.put, List.setIfInBounds_toArray, List.set_cons_zero, List.set_cons_succ]
          refine wpAnyH_take (i := 1) (oi := ⟨some 71, _, _, _, _, _⟩) (v := ?_) rfl (by kernel_rfl) (by kernel_rfl) (by kernel_rfl) (fun _ _ _ h => h) (Or.inl ⟨by rfl, ?_⟩) hS ?_
          rotate_left 1
          · intro w' hw'
            obtain ⟨⟨p0, p1, p2, p3, p4, p5, p6⟩, ⟨q0, q1, q2, q3, q4, q5, q6⟩, ⟨r0, r1, r2, r3, r4, r5, r6⟩, ⟨y0, y1, y2, y3, y4, y5, y6⟩, k0, k1, k2, k3, k4, k5, k6⟩ := HCl.out w' hw'
            go_simp
            all_goals with_reducible rfl
          try simp only [Act.put, List.setIfInBounds_toArray, List.set_cons_zero, List.set_cons_succ]
          refine wpAnyH_take (i := 2) (oi := ⟨some 72, _, _, _, _, _⟩) (v := ?_) rfl (by kernel_rfl) (by kernel_rfl) (by kernel_rfl) (fun _ _ _ h => h) (Or.inl ⟨by rfl, ?_⟩) hS ?_
          rotate_left 1
          · intro w' hw'
            obtain ⟨⟨p0, p1, p2, p3, p4, p5, p6⟩, ⟨q0, q1, q2, q3, q4, q5, q6⟩, ⟨r0, r1, r2, r3, r4, r5, r6⟩, ⟨y0, y1, y2, y3, y4, y5, y6⟩, k0, k1, k2, k3, k4, k5, k6⟩ := HCl.out w' hw'
            go_simp
            all_goals with_reducible rfl
          try simp only [Act.put, List.setIfInBounds_toArray, List.set_cons_zero, List.set_cons_succ]
          refine wpAnyH_ready (rs := [3]) (by kernel_rfl) (by simp) ?_
          refine AllReadyH.cons (o := ⟨some 73, _, _, _, _, _⟩) rfl (fun K hK => ?_) AllReadyH.nil
          go_simp
          have hS8 := hS
          refine hK.out _ _ (hS.alloc hS.size _) (fun hS => ?_)
          clear hK K
          try simp only [Act.put, List.setIfInBounds_toArray, List.set_cons_zero, List.set_cons_succ]
          refine wpAnyH_take (i := 4) (oi := ⟨some 74, _, _, _, _, _⟩) (v := ?_) rfl (by kernel_rfl) (by kernel_rfl) (by kernel_rfl) (fun _ _ _ h => h) (Or.inl ⟨by rfl, ?_⟩) hS ?_
          rotate_left 1
          · intro w' hw'
            obtain ⟨⟨p0, p1, p2, p3, p4, p5, p6⟩, ⟨q0, q1, q2, q3, q4, q5, q6⟩, ⟨r0, r1, r2, r3, r4, r5, r6⟩, ⟨y0, y1, y2, y3, y4, y5, y6⟩, k0, k1, k2, k3, k4, k5, k6⟩ := HCl.out w' hw'
            go_simp
            all_goals with_reducible rfl
          try simp only [Act.put, List.setIfInBounds_toArray, List.set_cons_zero, List.set_cons_succ]
          refine wpAnyH_ready (rs := [5]) (by kernel_rfl) (by simp) ?_
          refine AllReadyH.cons (o := ⟨some 75, _, _, _, _, _⟩) rfl (fun K hK => ?_) AllReadyH.nil
          go_simp
          go_at_call 13
          refine (HQ1.out _ hS8).mono ?_
          rintro e w8 ⟨rfl, hb8⟩
          clear hS8
          refine hK.out _ _ (hS.trans (hb8.mono hS.size)) (fun hS => ?_)
          clear hK K
          try simp only [Act.put, List.setIfInBounds_toArray, List.set_cons_zero, List.set_cons_succ]
          refine wpAnyH_take (i := 6) (oi := ⟨some 76, _, _, _, _, _⟩) (v := ?_) rfl (by kernel_rfl) (by kernel_rfl) (by kernel_rfl) (fun _ _ _ h => h) (Or.inl ⟨by rfl, ?_⟩) hS ?_
          rotate_left 1
          · intro w' hw'
            obtain ⟨⟨p0, p1, p2, p3, p4, p5, p6⟩, ⟨q0, q1, q2, q3, q4, q5, q6⟩, ⟨r0, r1, r2, r3, r4, r5, r6⟩, ⟨y0, y1, y2, y3, y4, y5, y6⟩, k0, k1, k2, k3, k4, k5, k6⟩ := HCl.out w' hw'
            go_simp
            all_goals with_reducible rfl
          try simp only [Act.put, List.setIfInBounds_toArray, List.set_cons_zero, List.set_cons_succ]
          refine wpAnyH_take (i := 7) (oi := ⟨some 77, _, _, _, _, _⟩) (v := ?_) rfl (by kernel_rfl) (by kernel_rfl) (by kernel_rfl) (fun _ _ _ h => h) (Or.inl ⟨by rfl, ?_⟩) hS ?_
          rotate_left 1
          · intro w' hw'
            obtain ⟨⟨p0, p1, p2, p3, p4, p5, p6⟩, ⟨q0, q1, q2, q3, q4, q5, q6⟩, ⟨r0, r1, r2, r3, r4, r5, r6⟩, ⟨y0, y1, y2, y3, y4, y5, y6⟩, k0, k1, k2, k3, k4, k5, k6⟩ := HCl.out w' hw'
            go_simp
            all_goals with_reducible rfl
          try simp only [Act.put, List.setIfInBounds_toArray, List.set_cons_zero, List.set_cons_succ]
          refine wpAnyH_take (i := 8) (oi := ⟨some 78, _, _, _, _, _⟩) (v := ?_) rfl (by kernel_rfl) (by kernel_rfl) (by kernel_rfl) (fun _ _ _ h => h) (Or.inl ⟨by rfl, ?_⟩) hS ?_
          rotate_left 1
          · intro w' hw'
            obtain ⟨⟨p0, p1, p2, p3, p4, p5, p6⟩, ⟨q0, q1, q2, q3, q4, q5, q6⟩, ⟨r0, r1, r2, r3, r4, r5, r6⟩, ⟨y0, y1, y2, y3, y4, y5, y6⟩, k0, k1, k2, k3, k4, k5, k6⟩ := HCl.out w' hw'
            go_simp
            all_goals with_reducible rfl
          try simp only [Act.put, List.setIfInBounds_toArray, List.set_cons_zero, List.set_cons_succ]
          refine wpAnyH_take (i := 9) (oi := ⟨some 79, _, _, _, _, _⟩) (v := ?_) rfl (by kernel_rfl) (by kernel_rfl) (by kernel_rfl) (fun _ _ _ h => h) (Or.inl ⟨by rfl, ?_⟩) hS ?_
          rotate_left 1
          · intro w' hw'
            obtain ⟨⟨p0, p1, p2, p3, p4, p5, p6⟩, ⟨q0, q1, q2, q3, q4, q5, q6⟩, ⟨r0, r1, r2, r3, r4, r5, r6⟩, ⟨y0, y1, y2, y3, y4, y5, y6⟩, k0, k1, k2, k3, k4, k5, k6⟩ := HCl.out w' hw'
            go_simp
            all_goals with_reducible rfl
          try simp only [Act.put, List.setIfInBounds_toArray, List.set_cons_zero, List.set_cons_succ]
          refine wpAnyH_take (i := 10) (oi := ⟨some 80, _, _, _, _, _⟩) (v := ?_) rfl (by kernel_rfl) (by kernel_rfl) (by kernel_rfl) (fun _ _ _ h => h) (Or.inl ⟨by rfl, ?_⟩) hS ?_
          rotate_left 1
          · intro w' hw'
            obtain ⟨⟨p0, p1, p2, p3, p4, p5, p6⟩, ⟨q0, q1, q2, q3, q4, q5, q6⟩, ⟨r0, r1, r2, r3, r4, r5, r6⟩, ⟨y0, y1, y2, y3, y4, y5, y6⟩, k0, k1, k2, k3, k4, k5, k6⟩ := HCl.out w' hw'
            go_simp
            all_goals with_reducible rfl
          try simp only [Act.put, List.setIfInBounds_toArray, List.set_cons_zero, List.set_cons_succ]
          refine wpAnyH_ready (rs := [11]) (by kernel_rfl) (by simp) ?_
          refine AllReadyH.cons (o := ⟨some 81, _, _, _, _, _⟩) rfl (fun K hK => ?_) AllReadyH.nil
          go_simp
          have hS8 := hS
          refine hK.out _ _ (hS.alloc hS.size _) (fun hS => ?_)
          clear hK K
          try simp only [Act.put, List.setIfInBounds_toArray, List.set_cons_zero, List.set_cons_succ]
          refine wpAnyH_take (i := 12) (oi := ⟨some 82, _, _, _, _, _⟩) (v := ?_) rfl (by kernel_rfl) (by kernel_rfl) (by kernel_rfl) (fun _ _ _ h => h) (Or.inl ⟨by rfl, ?_⟩) hS ?_
          rotate_left 1
          · intro w' hw'
            obtain ⟨⟨p0, p1, p2, p3, p4, p5, p6⟩, ⟨q0, q1, q2, q3, q4, q5, q6⟩, ⟨r0, r1, r2, r3, r4, r5, r6⟩, ⟨y0, y1, y2, y3, y4, y5, y6⟩, k0, k1, k2, k3, k4, k5, k6⟩ := HCl.out w' hw'
            go_simp
            all_goals with_reducible rfl
          try simp only [Act.put, List.setIfInBounds_toArray, List.set_cons_zero, List.set_cons_succ]
          refine wpAnyH_ready (rs := [13]) (by kernel_rfl) (by simp) ?_
          refine AllReadyH.cons (o := ⟨some 83, _, _, _, _, _⟩) rfl (fun K hK => ?_) AllReadyH.nil
          go_simp
          go_at_call 13
          refine (HQ2.out _ hS8).mono ?_
          rintro e w8 ⟨rfl, hb8⟩
          clear hS8
          refine hK.out _ _ (hS.trans (hb8.mono hS.size)) (fun hS => ?_)
          clear hK K
          try simp only [Act.put, List.setIfInBounds_toArray, List.set_cons_zero, List.set_cons_succ]
          refine wpAnyH_take (i := 14) (oi := ⟨some 84, _, _, _, _, _⟩) (v := ?_) rfl (by kernel_rfl) (by kernel_rfl) (by kernel_rfl) (fun _ _ _ h => h) (Or.inl ⟨by rfl, ?_⟩) hS ?_
          rotate_left 1
          · intro w' hw'
            obtain ⟨⟨p0, p1, p2, p3, p4, p5, p6⟩, ⟨q0, q1, q2, q3, q4, q5, q6⟩, ⟨r0, r1, r2, r3, r4, r5, r6⟩, ⟨y0, y1, y2, y3, y4, y5, y6⟩, k0, k1, k2, k3, k4, k5, k6⟩ := HCl.out w' hw'
            go_simp
            all_goals with_reducible rfl
          try simp only [Act.put, List.setIfInBounds_toArray, List.set_cons_zero, List.set_cons_succ]
          refine wpAnyH_take (i := 15) (oi := ⟨some 85, _, _, _, _, _⟩) (v := ?_) rfl (by kernel_rfl) (by kernel_rfl) (by kernel_rfl) (fun _ _ _ h => h) (Or.inl ⟨by rfl, ?_⟩) hS ?_
          rotate_left 1
          · intro w' hw'
            obtain ⟨⟨p0, p1, p2, p3, p4, p5, p6⟩, ⟨q0, q1, q2, q3, q4, q5, q6⟩, ⟨r0, r1, r2, r3, r4, r5, r6⟩, ⟨y0, y1, y2, y3, y4, y5, y6⟩, k0, k1, k2, k3, k4, k5, k6⟩ := HCl.out w' hw'
            go_simp
            all_goals with_reducible rfl
          try simp only [Act.put, List.setIfInBounds_toArray, List.set_cons_zero, List.set_cons_succ]
          refine wpAnyH_take (i := 16) (oi := ⟨some 86, _, _, _, _, _⟩) (v := ?_) rfl (by kernel_rfl) (by kernel_rfl) (by kernel_rfl) (fun _ _ _ h => h) (Or.inl ⟨by rfl, ?_⟩) hS ?_
          rotate_left 1
          · intro w' hw'
            obtain ⟨⟨p0, p1, p2, p3, p4, p5, p6⟩, ⟨q0, q1, q2, q3, q4, q5, q6⟩, ⟨r0, r1, r2, r3, r4, r5, r6⟩, ⟨y0, y1, y2, y3, y4, y5, y6⟩, k0, k1, k2, k3, k4, k5, k6⟩ := HCl.out w' hw'
            go_simp
            all_goals with_reducible rfl
          try simp only [Act.put, List.setIfInBounds_toArray, List.set_cons_zero, List.set_cons_succ]
          refine wpAnyH_take (i := 17) (oi := ⟨some 87, _, _, _, _, _⟩) (v := ?_) rfl (by kernel_rfl) (by kernel_rfl) (by kernel_rfl) (fun _ _ _ h => h) (Or.inl ⟨by rfl, ?_⟩) hS ?_
          rotate_left 1
          · intro w' hw'
            obtain ⟨⟨p0, p1, p2, p3, p4, p5, p6⟩, ⟨q0, q1, q2, q3, q4, q5, q6⟩, ⟨r0, r1, r2, r3, r4, r5, r6⟩, ⟨y0, y1, y2, y3, y4, y5, y6⟩, k0, k1, k2, k3, k4, k5, k6⟩ := HCl.out w' hw'
            go_simp
            all_goals with_reducible rfl
          try simp only [Act.put, List.setIfInBounds_toArray, List.set_cons_zero, List.set_cons_succ]
          refine wpAnyH_take (i := 18) (oi := ⟨some 88, _, _, _, _, _⟩) (v := ?_) rfl (by kernel_rfl) (by kernel_rfl) (by kernel_rfl) (fun _ _ _ h => h) (Or.inl ⟨by rfl, ?_⟩) hS ?_
          rotate_left 1
          · intro w' hw'
            obtain ⟨⟨p0, p1, p2, p3, p4, p5, p6⟩, ⟨q0, q1, q2, q3, q4, q5, q6⟩, ⟨r0, r1, r2, r3, r4, r5, r6⟩, ⟨y0, y1, y2, y3, y4, y5, y6⟩, k0, k1, k2, k3, k4, k5, k6⟩ := HCl.out w' hw'
            go_simp
            all_goals with_reducible rfl
          try simp only [Act.put, List.setIfInBounds_toArray, List.set_cons_zero, List.set_cons_succ]
          refine wpAnyH_take (i := 19) (oi := ⟨some 89, _, _, _, _, _⟩) (v := ?_) rfl (by kernel_rfl) (by kernel_rfl) (by kernel_rfl) (fun _ _ _ h => h) (Or.inl ⟨by rfl, ?_⟩) hS ?_
          rotate_left 1
          · intro w' hw'
            obtain ⟨⟨p0, p1, p2, p3, p4, p5, p6⟩, ⟨q0, q1, q2, q3, q4, q5, q6⟩, ⟨r0, r1, r2, r3, r4, r5, r6⟩, ⟨y0, y1, y2, y3, y4, y5, y6⟩, k0, k1, k2, k3, k4, k5, k6⟩ := HCl.out w' hw'
            go_simp
            all_goals with_reducible rfl
          try simp only [Act.put, List.setIfInBounds_toArray, List.set_cons_zero, List.set_cons_succ]
          refine wpAnyH_take (i := 20) (oi := ⟨some 90, _, _, _, _, _⟩) (v := ?_) rfl (by kernel_rfl) (by kernel_rfl) (by kernel_rfl) (fun _ _ _ h => h) (Or.inl ⟨by rfl, ?_⟩) hS ?_
          rotate_left 1
          · intro w' hw'
            obtain ⟨⟨p0, p1, p2, p3, p4, p5, p6⟩, ⟨q0, q1, q2, q3, q4, q5, q6⟩, ⟨r0, r1, r2, r3, r4, r5, r6⟩, ⟨y0, y1, y2, y3, y4, y5, y6⟩, k0, k1, k2, k3, k4, k5, k6⟩ := HCl.out w' hw'
            go_simp
            all_goals with_reducible rfl
          try simp only [Act.put, List.setIfInBounds_toArray, List.set_cons_zero, List.set_cons_succ]
          refine wpAnyH_ready (rs := [21]) (by kernel_rfl) (by simp) ?_
          refine AllReadyH.cons (o := ⟨some 91, _, _, _, _, _⟩) rfl (fun K hK => ?_) AllReadyH.nil
          go_simp
          have hS8 := hS
          refine hK.out _ _ (hS.alloc hS.size _) (fun hS => ?_)
          clear hK K
          try simp only [Act.put, List.setIfInBounds_toArray, List.set_cons_zero, List.set_cons_succ]
          refine wpAnyH_take (i := 22) (oi := ⟨some 92, _, _, _, _, _⟩) (v := ?_) rfl (by kernel_rfl) (by kernel_rfl) (by kernel_rfl) (fun _ _ _ h => h) (Or.inl ⟨by rfl, ?_⟩) hS ?_
          rotate_left 1
          · intro w' hw'
            obtain ⟨⟨p0, p1, p2, p3, p4, p5, p6⟩, ⟨q0, q1, q2, q3, q4, q5, q6⟩, ⟨r0, r1, r2, r3, r4, r5, r6⟩, ⟨y0, y1, y2, y3, y4, y5, y6⟩, k0, k1, k2, k3, k4, k5, k6⟩ := HCl.out w' hw'
            go_simp
            all_goals with_reducible rfl
          try simp only [Act.put, List.setIfInBounds_toArray, List.set_cons_zero, List.set_cons_succ]
          refine wpAnyH_ready (rs := [23]) (by kernel_rfl) (by simp) ?_
          refine AllReadyH.cons (o := ⟨some 93, _, _, _, _, _⟩) rfl (fun K hK => ?_) AllReadyH.nil
          go_simp
          go_at_call 13
          refine (HQ3.out _ hS8).mono ?_
          rintro e w8 ⟨rfl, hb8⟩
          clear hS8
          refine hK.out _ _ (hS.trans (hb8.mono hS.size)) (fun hS => ?_)
          clear hK K
          try simp only [Act.put, List.setIfInBounds_toArray, List.set_cons_zero, List.set_cons_succ]
          refine wpAnyH_take (i := 24) (oi := ⟨some 94, _, _, _, _, _⟩) (v := ?_) rfl (by kernel_rfl) (by kernel_rfl) (by kernel_rfl) (fun _ _ _ h => h) (Or.inl ⟨by rfl, ?_⟩) hS ?_
          rotate_left 1
          · intro w' hw'
            obtain ⟨⟨p0, p1, p2, p3, p4, p5, p6⟩, ⟨q0, q1, q2, q3, q4, q5, q6⟩, ⟨r0, r1, r2, r3, r4, r5, r6⟩, ⟨y0, y1, y2, y3, y4, y5, y6⟩, k0, k1, k2, k3, k4, k5, k6⟩ := HCl.out w' hw'
            go_simp
            all_goals with_reducible rfl
          try simp only [Act.put, List.setIfInBounds_toArray, List.set_cons_zero, List.set_cons_succ]
          refine wpAnyH_take (i := 25) (oi := ⟨some 95, _, _, _, _, _⟩) (v := ?_) rfl (by kernel_rfl) (by kernel_rfl) (by kernel_rfl) (fun _ _ _ h => h) (Or.inl ⟨by rfl, ?_⟩) hS ?_
          rotate_left 1
          · intro w' hw'
            obtain ⟨⟨p0, p1, p2, p3, p4, p5, p6⟩, ⟨q0, q1, q2, q3, q4, q5, q6⟩, ⟨r0, r1, r2, r3, r4, r5, r6⟩, ⟨y0, y1, y2, y3, y4, y5, y6⟩, k0, k1, k2, k3, k4, k5, k6⟩ := HCl.out w' hw'
            go_simp
            all_goals with_reducible rfl
          try simp only [Act.put, List.setIfInBounds_toArray, List.set_cons_zero, List.set_cons_succ]
          refine wpAnyH_take (i := 26) (oi := ⟨some 96, _, _, _, _, _⟩) (v := ?_) rfl (by kernel_rfl) (by kernel_rfl) (by kernel_rfl) (fun _ _ _ h => h) (Or.inl ⟨by rfl, ?_⟩) hS ?_
          rotate_left 1
          · intro w' hw'
            obtain ⟨⟨p0, p1, p2, p3, p4, p5, p6⟩, ⟨q0, q1, q2, q3, q4, q5, q6⟩, ⟨r0, r1, r2, r3, r4, r5, r6⟩, ⟨y0, y1, y2, y3, y4, y5, y6⟩, k0, k1, k2, k3, k4, k5, k6⟩ := HCl.out w' hw'
            go_simp
            all_goals with_reducible rfl
          try simp only [Act.put, List.setIfInBounds_toArray, List.set_cons_zero, List.set_cons_succ]
          refine wpAnyH_take (i := 28) (oi := ⟨some 98, _, _, _, _, _⟩) (v := ?_) rfl (by kernel_rfl) (by kernel_rfl) (by kernel_rfl) (fun _ _ _ h => h) (Or.inl ⟨by rfl, ?_⟩) hS ?_
          rotate_left 1
          · intro w' hw'
            obtain ⟨⟨p0, p1, p2, p3, p4, p5, p6⟩, ⟨q0, q1, q2, q3, q4, q5, q6⟩, ⟨r0, r1, r2, r3, r4, r5, r6⟩, ⟨y0, y1, y2, y3, y4, y5, y6⟩, k0, k1, k2, k3, k4, k5, k6⟩ := HCl.out w' hw'
            go_simp
            all_goals with_reducible rfl
          try simp only [Act.put, List.setIfInBounds_toArray, List.set_cons_zero, List.set_cons_succ]
          refine wpAnyH_ready (rs := [27]) (by kernel_rfl) (by simp) ?_
          refine AllReadyH.cons (o := ⟨some 97, _, _, _, _, _⟩) rfl (fun K hK => ?_) AllReadyH.nil
          go_simp
          go_at_call 14
          refine (HS1.out _ hS).mono ?_
          rintro e w8 ⟨rfl, hb8⟩
          refine hK.out _ _ (hS.trans (hb8.mono hS.size)) (fun hS => ?_)
          clear hK K
          try simp only [Act.put, List.setIfInBounds_toArray, List.set_cons_zero, List.set_cons_succ]
          refine wpAnyH_ready (rs := [29]) (by kernel_rfl) (by simp) ?_
          refine AllReadyH.cons (o := ⟨some 99, _, _, _, _, _⟩) rfl (fun K hK => ?_) AllReadyH.nil
          go_simp
          go_at_call 14
          refine (HS2.out _ hS).mono ?_
          rintro e w8 ⟨rfl, hb8⟩
          refine hK.out _ _ (hS.trans (hb8.mono hS.size)) (fun hS => ?_)
          clear hK K
          try simp only [Act.put, List.setIfInBounds_toArray, List.set_cons_zero, List.set_cons_succ]
          refine wpAnyH_take (i := 30) (oi := ⟨some 100, _, _, _, _, _⟩) (v := ?_) rfl (by kernel_rfl) (by kernel_rfl) (by kernel_rfl) (fun _ _ _ h => h) (Or.inl ⟨by rfl, ?_⟩) hS ?_
          rotate_left 1
          · intro w' hw'
            obtain ⟨⟨p0, p1, p2, p3, p4, p5, p6⟩, ⟨q0, q1, q2, q3, q4, q5, q6⟩, ⟨r0, r1, r2, r3, r4, r5, r6⟩, ⟨y0, y1, y2, y3, y4, y5, y6⟩, k0, k1, k2, k3, k4, k5, k6⟩ := HCl.out w' hw'
            go_simp
            all_goals with_reducible rfl
          try simp only [Act.put, List.setIfInBounds_toArray, List.set_cons_zero, List.set_cons_succ]
          refine wpAnyH_take (i := 31) (oi := ⟨some 101, _, _, _, _, _⟩) (v := ?_) rfl (by kernel_rfl) (by kernel_rfl) (by kernel_rfl) (fun _ _ _ h => h) (Or.inl ⟨by rfl, ?_⟩) hS ?_
          rotate_left 1
          · intro w' hw'
            obtain ⟨⟨p0, p1, p2, p3, p4, p5, p6⟩, ⟨q0, q1, q2, q3, q4, q5, q6⟩, ⟨r0, r1, r2, r3, r4, r5, r6⟩, ⟨y0, y1, y2, y3, y4, y5, y6⟩, k0, k1, k2, k3, k4, k5, k6⟩ := HCl.out w' hw'
            go_simp
            all_goals with_reducible rfl
          try simp only [Act.put, List.setIfInBounds_toArray, List.set_cons_zero, List.set_cons_succ]
          try simp only [HWR.out, beq_self_eq_true]
          refine wpAnyH_take (i := 32) (oi := ⟨some 102, _, _, _, _, _⟩) (v := ?_) rfl (by kernel_rfl) (by kernel_rfl) (by kernel_rfl) (fun _ _ _ h => h) (Or.inl ⟨by rfl, ?_⟩) hS ?_
          rotate_left 1
          · intro w' hw'
            obtain ⟨⟨p0, p1, p2, p3, p4, p5, p6⟩, ⟨q0, q1, q2, q3, q4, q5, q6⟩, ⟨r0, r1, r2, r3, r4, r5, r6⟩, ⟨y0, y1, y2, y3, y4, y5, y6⟩, k0, k1, k2, k3, k4, k5, k6⟩ := HCl.out w' hw'
            go_simp
            all_goals with_reducible rfl
          try simp only [Act.put, List.setIfInBounds_toArray, List.set_cons_zero, List.set_cons_succ]
          refine wpAnyH_take (i := 33) (oi := ⟨some 103, _, _, _, _, _⟩) (v := ?_) rfl (by kernel_rfl) (by kernel_rfl) (by kernel_rfl) (fun _ _ _ h => h) (Or.inl ⟨by rfl, ?_⟩) hS ?_
          rotate_left 1
          · intro w' hw'
            obtain ⟨⟨p0, p1, p2, p3, p4, p5, p6⟩, ⟨q0, q1, q2, q3, q4, q5, q6⟩, ⟨r0, r1, r2, r3, r4, r5, r6⟩, ⟨y0, y1, y2, y3, y4, y5, y6⟩, k0, k1, k2, k3, k4, k5, k6⟩ := HCl.out w' hw'
            go_simp
            all_goals with_reducible rfl
          try simp only [Act.put, List.setIfInBounds_toArray, List.set_cons_zero, List.set_cons_succ]
          refine wpAnyH_ready (rs := [34]) (by kernel_rfl) (by simp) ?_
          refine AllReadyH.cons (o := ⟨some 104, _, _, _, _, _⟩) rfl (fun K hK => ?_) AllReadyH.nil
          go_simp
          go_at_call 5
          refine (HAw7.out _ hS).mono ?_
          rintro e w8 ⟨rfl, hb8⟩
          refine hK.out _ _ (hS.trans (hb8.mono hS.size)) (fun hS => ?_)
          clear hK K
          try simp only [Act.put, List.setIfInBounds_toArray, List.set_cons_zero, List.set_cons_succ]
          refine wpAnyH_take (i := 35) (oi := ⟨some 105, _, _, _, _, _⟩) (v := ?_) rfl (by kernel_rfl) (by kernel_rfl) (by kernel_rfl) (fun _ _ _ h => h) (Or.inl ⟨by rfl, ?_⟩) hS ?_
          rotate_left 1
          · intro w' hw'
            obtain ⟨⟨p0, p1, p2, p3, p4, p5, p6⟩, ⟨q0, q1, q2, q3, q4, q5, q6⟩, ⟨r0, r1, r2, r3, r4, r5, r6⟩, ⟨y0, y1, y2, y3, y4, y5, y6⟩, k0, k1, k2, k3, k4, k5, k6⟩ := HCl.out w' hw'
            go_simp
            all_goals with_reducible rfl
          try simp only [Act.put, List.setIfInBounds_toArray, List.set_cons_zero, List.set_cons_succ]
          refine wpAnyH_ready (rs := [36]) (by kernel_rfl) (by simp) ?_
          refine AllReadyH.cons (o := ⟨some 6, _, _, _, _, _⟩) rfl (fun K hK => ?_) AllReadyH.nil
          go_simp
          refine hK.out _ _ hS (fun hS => ?_)
          clear hK K
          try simp only [Act.put, List.setIfInBounds_toArray, List.set_cons_zero, List.set_cons_succ]
          refine wpAnyH_done (by kernel_rfl) ?_ _
          go_wp2_with fail
          go_ret
          exact ⟨rfl, HW7.out.trans (hS.mono HW7.out.size)⟩
    · rw [show (w2.alloc (.cells (eCells x.kind x.name x.val x.op x.adr x.args.length x.cap) 29)) = (w2.alloc (.cells (eCells x.kind x.name x.val x.op x.adr x.args.length x.cap) 29)) from rfl] at HE7
      have HE7 : Hid (At7 W w2.heap.size 0 x) := hide (by rw [hW]; exact HE7.out)
      have HBW : Hid (w2.heap.size < W.heap.size) := hide (by rw [hW]; exact HBW.out)
      have HLx : Hid (LiesX W.heap.size W x) := hide (by rw [hW]; exact HLx.out.keep ((Below.refl (w2.alloc (.cells (eCells x.kind x.name x.val x.op x.adr x.args.length x.cap) 29)).heap.size (w2.alloc (.cells (eCells x.kind x.name x.val x.op x.adr x.args.length x.cap) 29))).drew))
      clear hW HA2 HN2
      rintro listed a w i ⟨v, T, lo, hi', rfl, hJ⟩ hi
      have hr := ready_bits hi
      have hp := hr.2.2
      have hlt : i < 21 := hr.1
      rcases (by omega : i = 0 ∨ i = 1 ∨ i = 2 ∨ i = 3 ∨ i = 4 ∨ i = 5 ∨ i = 6 ∨ i = 7 ∨ i = 8 ∨ i = 9 ∨ i = 10 ∨ i = 11 ∨ i = 12 ∨ i = 13 ∨ i = 14 ∨ i = 15 ∨ i = 16 ∨ i = 17 ∨ i = 18 ∨ i = 19 ∨ i = 20) with rfl | rfl | rfl | rfl | rfl | rfl | rfl | rfl | rfl | rfl | rfl | rfl | rfl | rfl | rfl | rfl | rfl | rfl | rfl | rfl | rfl
      · have hp := hp _ rfl
        refine wpOp_go (o := _) rfl rfl ?_
        unfold actM
        go_simp
        exact ⟨upd v 0 (.string s), upd T 0 dX, _, _, by simp [actM, upd], hJ.step (by omega) hr.2.1 (Below.refl _ _) (.string s) dX rfl⟩
      · have hp := hp _ rfl
        obtain ⟨e0, e1, e2, e3, e4, e5, e6⟩ := HE7.out.below hJ.bel HBW.out
        simp only [Nat.zero_add] at e0 e1 e2 e3 e4 e5 e6
        refine wpOp_go (o := _) rfl rfl ?_
        unfold actM
        go_simp
        exact ⟨upd v 1 (vX x), upd T 1 dX, _, _, by simp [actM, upd, vX], hJ.step (by omega) hr.2.1 (Below.refl _ _) (vX x) dX rfl⟩
      · have hp := hp _ rfl
        have p0 : listed.getD 0 false = true := hp ⟨0, .data⟩ (by simp) rfl
        have p1 : listed.getD 1 false = true := hp ⟨1, .data⟩ (by simp) rfl
        have f0 : v 0 = .string s := (hJ.fact 0 (by omega) p0).1
        have f1 : v 1 = vX x := (hJ.fact 1 (by omega) p1).1
        have hc := unary_any s x w (by have := HSz.out; omega) ((HLx.out.keep hJ.bel).mono hJ.bel.size)
        rw [← f0, ← f1] at hc
        have HC := hide hc
        clear hc f0 f1
        refine wpOp_go (o := _) rfl rfl ?_
        unfold actM
        go_simp
        go_at_call 7
        refine HC.out.mono ?_
        rintro e w7 ⟨⟨A', c', x', rfl, hs1, hl1, hn1⟩, hb7⟩
        go_simp
        exact ⟨upd v 2 (vX (.mk 3 ⟨#[]⟩ (0, 0, ⟨#[]⟩) s A' c' [x'])), upd T 2 (.mk 3 ⟨#[]⟩ (0, 0, ⟨#[]⟩) s A' c' [x']), _, _, by simp [actM, upd], hJ.step (by omega) hr.2.1 hb7 (vX (.mk 3 ⟨#[]⟩ (0, 0, ⟨#[]⟩) s A' c' [x'])) (.mk 3 ⟨#[]⟩ (0, 0, ⟨#[]⟩) s A' c' [x']) (show TreeF _ _ _ _ _ _ from ⟨rfl, by simp [stripX, stripXs, hs1], hl1, hn1⟩)⟩
      · have hp := hp _ rfl
        refine wpOp_go (o := _) rfl rfl ?_
        unfold actM
        go_simp
        exact ⟨upd v 3 (.string s), upd T 3 dX, _, _, by simp [actM, upd], hJ.step (by omega) hr.2.1 (Below.refl _ _) (.string s) dX rfl⟩
      · have hp := hp _ rfl
        obtain ⟨e0, e1, e2, e3, e4, e5, e6⟩ := HE7.out.below hJ.bel HBW.out
        simp only [Nat.zero_add] at e0 e1 e2 e3 e4 e5 e6
        refine wpOp_go (o := _) rfl rfl ?_
        unfold actM
        go_simp
        exact ⟨upd v 4 (vX x), upd T 4 dX, _, _, by simp [actM, upd, vX], hJ.step (by omega) hr.2.1 (Below.refl _ _) (vX x) dX rfl⟩
      · have hp := hp _ rfl
        refine wpOp_go (o := _) rfl rfl ?_
        unfold actM
        go_simp
        exact ⟨upd v 5 (.int .i64 n), upd T 5 dX, _, _, by simp [actM, upd], hJ.step (by omega) hr.2.1 (Below.refl _ _) (.int .i64 n) dX rfl⟩
      · have hp := hp _ rfl
        have p5 : listed.getD 5 false = true := hp ⟨5, .data⟩ (by simp) rfl
        have f5 : v 5 = .int .i64 n := (hJ.fact 5 (by omega) p5).1
        have hc := of_any n w
        rw [← f5] at hc
        have HC := hide hc
        clear hc f5
        refine wpOp_go (o := _) rfl rfl ?_
        unfold actM
        go_simp
        go_at_call 10
        refine HC.out.mono ?_
        rintro e w7 ⟨rfl, hb7⟩
        go_simp
        exact ⟨upd v 6 (vVal 1 n ⟨#[]⟩), upd T 6 dX, _, _, by simp [actM, upd], hJ.step (by omega) hr.2.1 hb7 (vVal 1 n ⟨#[]⟩) dX rfl⟩
      · have hp := hp _ rfl
        have p6 : listed.getD 6 false = true := hp ⟨6, .data⟩ (by simp) rfl
        have f6 : v 6 = vVal 1 n ⟨#[]⟩ := (hJ.fact 6 (by omega) p6).1
        have hc := const_any 1 n ⟨#[]⟩ w
        rw [← f6] at hc
        have HC := hide hc
        clear hc f6
        refine wpOp_go (o := _) rfl rfl ?_
        unfold actM
        go_simp
        go_at_call 9
        refine HC.out.mono ?_
        rintro e w7 ⟨rfl, hb7⟩
        go_simp
        exact ⟨upd v 7 (vX (constT n)), upd T 7 dX, _, _, by simp [actM, upd], hJ.step (by omega) hr.2.1 hb7 (vX (constT n)) dX rfl⟩
      · have hp := hp _ rfl
        have p3 : listed.getD 3 false = true := hp ⟨3, .data⟩ (by simp) rfl
        have p4 : listed.getD 4 false = true := hp ⟨4, .data⟩ (by simp) rfl
        have p7 : listed.getD 7 false = true := hp ⟨7, .data⟩ (by simp) rfl
        have f3 : v 3 = .string s := (hJ.fact 3 (by omega) p3).1
        have f4 : v 4 = vX x := (hJ.fact 4 (by omega) p4).1
        have f7 : v 7 = vX (constT n) := (hJ.fact 7 (by omega) p7).1
        have hc := binary_any s x (constT n) w (by have := HSz.out; simp only [szX, szXs]; omega) ((HLx.out.keep hJ.bel).mono hJ.bel.size) (lies_leaf _ _ _ _ _ _)
        rw [← f3, ← f4, ← f7] at hc
        have HC := hide hc
        clear hc f3 f4 f7
        refine wpOp_go (o := _) rfl rfl ?_
        unfold actM
        go_simp
        go_at_call 8
        refine HC.out.mono ?_
        rintro e w7 ⟨⟨A', c', x', y', rfl, hs1, hs2, hl1, hn1⟩, hb7⟩
        go_simp
        exact ⟨upd v 8 (vX (.mk 4 ⟨#[]⟩ (0, 0, ⟨#[]⟩) s A' c' [x', y'])), upd T 8 (.mk 4 ⟨#[]⟩ (0, 0, ⟨#[]⟩) s A' c' [x', y']), _, _, by simp [actM, upd], hJ.step (by omega) hr.2.1 hb7 (vX (.mk 4 ⟨#[]⟩ (0, 0, ⟨#[]⟩) s A' c' [x', y'])) (.mk 4 ⟨#[]⟩ (0, 0, ⟨#[]⟩) s A' c' [x', y']) (show TreeF _ _ _ _ _ _ from ⟨rfl, by simp only [stripX, stripXs, hs1, hs2], hl1, hn1⟩)⟩
      · have hp := hp _ rfl
        refine wpOp_go (o := _) rfl rfl ?_
        unfold actM
        go_simp
        exact ⟨upd v 9 (.string s), upd T 9 dX, _, _, by simp [actM, upd], hJ.step (by omega) hr.2.1 (Below.refl _ _) (.string s) dX rfl⟩
      · have hp := hp _ rfl
        obtain ⟨e0, e1, e2, e3, e4, e5, e6⟩ := HE7.out.below hJ.bel HBW.out
        simp only [Nat.zero_add] at e0 e1 e2 e3 e4 e5 e6
        refine wpOp_go (o := _) rfl rfl ?_
        unfold actM
        go_simp
        exact ⟨upd v 10 (vX x), upd T 10 dX, _, _, by simp [actM, upd, vX], hJ.step (by omega) hr.2.1 (Below.refl _ _) (vX x) dX rfl⟩
      · have hp := hp _ rfl
        refine wpOp_go (o := _) rfl rfl ?_
        unfold actM
        go_simp
        exact ⟨upd v 11 (.string s), upd T 11 dX, _, _, by simp [actM, upd], hJ.step (by omega) hr.2.1 (Below.refl _ _) (.string s) dX rfl⟩
      · have hp := hp _ rfl
        have p11 : listed.getD 11 false = true := hp ⟨11, .data⟩ (by simp) rfl
        have f11 : v 11 = .string s := (hJ.fact 11 (by omega) p11).1
        have hc := column_any s w
        rw [← f11] at hc
        have HC := hide hc
        clear hc f11
        refine wpOp_go (o := _) rfl rfl ?_
        unfold actM
        go_simp
        go_at_call 12
        refine HC.out.mono ?_
        rintro e w7 ⟨rfl, hb7⟩
        go_simp
        exact ⟨upd v 12 (vX (colT s)), upd T 12 dX, _, _, by simp [actM, upd], hJ.step (by omega) hr.2.1 hb7 (vX (colT s)) dX rfl⟩
      · have hp := hp _ rfl
        have p10 : listed.getD 10 false = true := hp ⟨10, .data⟩ (by simp) rfl
        have p12 : listed.getD 12 false = true := hp ⟨12, .data⟩ (by simp) rfl
        have f10 : v 10 = vX x := (hJ.fact 10 (by omega) p10).1
        have f12 : v 12 = vX (colT s) := (hJ.fact 12 (by omega) p12).1
        refine wpOp_go (o := _) rfl rfl ?_
        unfold actM
        rw [f10, f12]
        simp only [vX]
        go_simp
        have hal := Joins.below_alloc1 w (.cells #[.int .i64 x.kind, .string x.name, .int .i64 x.val.1, .int .i64 x.val.2.1, .string x.val.2.2, .string x.op, .slice x.adr x.args.length x.cap, .int .i64 1, .string s, .int .i64 0, .int .i64 0, .string ⟨#[]⟩, .string ⟨#[]⟩, .slice none 0 0] 29)
        have hn := heap_alloc_new w (.cells #[.int .i64 x.kind, .string x.name, .int .i64 x.val.1, .int .i64 x.val.2.1, .string x.val.2.2, .string x.op, .slice x.adr x.args.length x.cap, .int .i64 1, .string s, .int .i64 0, .int .i64 0, .string ⟨#[]⟩, .string ⟨#[]⟩, .slice none 0 0] 29)
        refine ⟨upd v 13 (.slice (some ⟨w.heap.size, 0, none⟩) 2 2), upd T 13 dX, _, _, by simp [actM, upd, f10, f12, vX], hJ.step (by omega) hr.2.1 hal _ dX (show RowF _ _ _ _ _ _ from ⟨rfl, by simp, ?_, ?_⟩)⟩
        · exact ⟨Lib.cell_of_heap hn 0, Lib.cell_of_heap hn 1, Lib.cell_of_heap hn 2, Lib.cell_of_heap hn 3, Lib.cell_of_heap hn 4, Lib.cell_of_heap hn 5, Lib.cell_of_heap hn 6⟩
        · exact ⟨Lib.cell_of_heap hn 7, Lib.cell_of_heap hn 8, Lib.cell_of_heap hn 9, Lib.cell_of_heap hn 10, Lib.cell_of_heap hn 11, Lib.cell_of_heap hn 12, Lib.cell_of_heap hn 13⟩
      · have hp := hp _ rfl
        have p9 : listed.getD 9 false = true := hp ⟨9, .data⟩ (by simp) rfl
        have p13 : listed.getD 13 false = true := hp ⟨13, .data⟩ (by simp) rfl
        have f9 : v 9 = .string s := (hJ.fact 9 (by omega) p9).1
        obtain ⟨r1, r2, r3, r4⟩ : RowF x s (v 13) (lo 13) (hi' 13) w := (hJ.fact 13 (by omega) p13).1
        have hlt := (hJ.fact 13 (by omega) p13).2.2.2
        have hc := call_any s (some ⟨lo 13, 0, none⟩) 2 [x, colT s] w (by have := HSz.out; simp only [szX, szXs]; omega) (fun j hj => by
          have hj2 : j < 2 := hj
          rcases (by omega : j = 0 ∨ j = 1) with rfl | rfl
          · exact ⟨lo 13, 0, rfl, by omega, r3, ((HLx.out.keep hJ.bel).mono hJ.bel.size)⟩
          · exact ⟨lo 13, 0, rfl, by omega, r4, lies_leaf _ _ _ _ _ _⟩)
        rw [show (Value.slice (some ⟨lo 13, 0, none⟩) [x, colT s].length 2) = v 13 from r1.symm, ← f9] at hc
        have HC := hide hc
        clear hc f9 r1 r2 r3 r4
        refine wpOp_go (o := _) rfl rfl ?_
        unfold actM
        go_simp
        go_at_call 11
        refine HC.out.mono ?_
        rintro e w7 ⟨⟨A', c', us, rfl, hs1, hl1, hn1⟩, hb7⟩
        go_simp
        exact ⟨upd v 14 (vX (.mk 5 s (0, 0, ⟨#[]⟩) ⟨#[]⟩ A' c' us)), upd T 14 (.mk 5 s (0, 0, ⟨#[]⟩) ⟨#[]⟩ A' c' us), _, _, by simp [actM, upd], hJ.step (by omega) hr.2.1 hb7 _ _ (show TreeF _ _ _ _ _ _ from ⟨rfl, by simp only [stripX, hs1], hl1, hn1⟩)⟩
      · have hp := hp _ rfl
        refine wpOp_go (o := _) rfl rfl ?_
        unfold actM
        go_simp
        exact ⟨upd v 15 (.pointer (some ⟨w.heap.size, 0, none⟩)), upd T 15 dX, _, _, by simp [actM, upd], hJ.step (by omega) hr.2.1 (Joins.below_alloc1 w _) _ dX (show BoxF _ _ _ _ from ⟨rfl, by simp, _, heap_alloc_new w _, rfl⟩)⟩
      · have hp := hp _ rfl
        refine wpOp_go (o := _) rfl rfl ?_
        unfold actM
        go_simp
        exact ⟨upd v 16 (.pointer (some ⟨w.heap.size, 0, none⟩)), upd T 16 dX, _, _, by simp [actM, upd], hJ.step (by omega) hr.2.1 (Joins.below_alloc1 w _) _ dX (show BoxF _ _ _ _ from ⟨rfl, by simp, _, heap_alloc_new w _, rfl⟩)⟩
      · have hp := hp _ rfl
        refine wpOp_go (o := _) rfl rfl ?_
        unfold actM
        go_simp
        exact ⟨upd v 17 (.pointer (some ⟨w.heap.size, 0, none⟩)), upd T 17 dX, _, _, by simp [actM, upd], hJ.step (by omega) hr.2.1 (Joins.below_alloc1 w _) _ dX (show BoxF _ _ _ _ from ⟨rfl, by simp, _, heap_alloc_new w _, rfl⟩)⟩
      · have hp := hp _ rfl
        have p15 : listed.getD 15 false = true := hp ⟨15, .data⟩ (by simp) rfl
        have p2 : listed.getD 2 false = true := hp ⟨2, .data⟩ (by simp) rfl
        obtain ⟨b1, b2, b3⟩ : BoxF (v 15) (lo 15) (hi' 15) w := (hJ.fact 15 (by omega) p15).1
        obtain ⟨t1, -⟩ : TreeF (unT s x) (v 2) (T 2) (lo 2) (hi' 2) w := (hJ.fact 2 (by omega) p2).1
        have hst := hJ.store (q := 0) (by omega) hr.2.1 p15 p2
        have hcl := fun i (hi : i < 7) => b3.cell hi
        obtain ⟨⟨_, k0⟩, g0⟩ := hcl 0 (by omega); obtain ⟨⟨_, k1⟩, g1⟩ := hcl 1 (by omega); obtain ⟨⟨_, k2⟩, g2⟩ := hcl 2 (by omega); obtain ⟨⟨_, k3⟩, g3⟩ := hcl 3 (by omega); obtain ⟨⟨_, k4⟩, g4⟩ := hcl 4 (by omega); obtain ⟨⟨_, k5⟩, g5⟩ := hcl 5 (by omega); obtain ⟨⟨_, k6⟩, g6⟩ := hcl 6 (by omega)
        refine wpOp_go (o := _) rfl rfl ?_
        unfold actM
        rw [b1, t1]
        simp only [vX]
        go_simp
        exact ⟨v, T, lo, hi', by simp [actM, b1, t1, vX], hst⟩
      · have hp := hp _ rfl
        have p16 : listed.getD 16 false = true := hp ⟨16, .data⟩ (by simp) rfl
        have p8 : listed.getD 8 false = true := hp ⟨8, .data⟩ (by simp) rfl
        obtain ⟨b1, b2, b3⟩ : BoxF (v 16) (lo 16) (hi' 16) w := (hJ.fact 16 (by omega) p16).1
        obtain ⟨t1, -⟩ : TreeF (binT s x n) (v 8) (T 8) (lo 8) (hi' 8) w := (hJ.fact 8 (by omega) p8).1
        have hst := hJ.store (q := 1) (by omega) hr.2.1 p16 p8
        have hcl := fun i (hi : i < 7) => b3.cell hi
        obtain ⟨⟨_, k0⟩, g0⟩ := hcl 0 (by omega); obtain ⟨⟨_, k1⟩, g1⟩ := hcl 1 (by omega); obtain ⟨⟨_, k2⟩, g2⟩ := hcl 2 (by omega); obtain ⟨⟨_, k3⟩, g3⟩ := hcl 3 (by omega); obtain ⟨⟨_, k4⟩, g4⟩ := hcl 4 (by omega); obtain ⟨⟨_, k5⟩, g5⟩ := hcl 5 (by omega); obtain ⟨⟨_, k6⟩, g6⟩ := hcl 6 (by omega)
        refine wpOp_go (o := _) rfl rfl ?_
        unfold actM
        rw [b1, t1]
        simp only [vX]
        go_simp
        exact ⟨v, T, lo, hi', by simp [actM, b1, t1, vX], hst⟩
      · have hp := hp _ rfl
        have p17 : listed.getD 17 false = true := hp ⟨17, .data⟩ (by simp) rfl
        have p14 : listed.getD 14 false = true := hp ⟨14, .data⟩ (by simp) rfl
        obtain ⟨b1, b2, b3⟩ : BoxF (v 17) (lo 17) (hi' 17) w := (hJ.fact 17 (by omega) p17).1
        obtain ⟨t1, -⟩ : TreeF (callT s x) (v 14) (T 14) (lo 14) (hi' 14) w := (hJ.fact 14 (by omega) p14).1
        have hst := hJ.store (q := 2) (by omega) hr.2.1 p17 p14
        have hcl := fun i (hi : i < 7) => b3.cell hi
        obtain ⟨⟨_, k0⟩, g0⟩ := hcl 0 (by omega); obtain ⟨⟨_, k1⟩, g1⟩ := hcl 1 (by omega); obtain ⟨⟨_, k2⟩, g2⟩ := hcl 2 (by omega); obtain ⟨⟨_, k3⟩, g3⟩ := hcl 3 (by omega); obtain ⟨⟨_, k4⟩, g4⟩ := hcl 4 (by omega); obtain ⟨⟨_, k5⟩, g5⟩ := hcl 5 (by omega); obtain ⟨⟨_, k6⟩, g6⟩ := hcl 6 (by omega)
        refine wpOp_go (o := _) rfl rfl ?_
        unfold actM
        rw [b1, t1]
        simp only [vX]
        go_simp
        exact ⟨v, T, lo, hi', by simp [actM, b1, t1, vX], hst⟩
  · clear hP hR hM
    have HSm2 : Hid (∀ w', Below w.heap.size w w' → Calls Tryd.prog 4 #[.slice A l.length c] w' fun e w'' => e = .returned (.bool (smallP l)) ∧ Below w'.heap.size w' w'') := hide (fun w' hb => small_any A c l w' (HP.out.on hb) HW.out)
    have HB0 := hide (Below.refl w.heap.size w)
    cases g1 : smallP l
    · rw [g1] at HSm2
      clear hg g1 HSm
      go_enter Tryd.func3, Tryd.ntmps3
      go_wp2_with fail
      refine (HSm2.out _ HB0.out).mono ?_
      rintro e w1 ⟨rfl, hb1⟩
      have HB1 := hide (HB0.out.trans hb1)
      clear hb1
      go_wp2_with fail
      refine (HAw.out _ HB1.out).mono ?_
      rintro e w2 ⟨rfl, hb2⟩
      have HB2 := hide (then_below HB1.out hb2)
      clear hb2
      go_wp2_with fail
      go_ret
      exact ⟨rfl, HB2.out⟩
    · rw [g1] at HSm2
      by_cases g2 : l.length ≤ 60
      · have g3 : 50 < s.size := by
          rcases Nat.lt_or_ge 50 s.size with h | h
          · exact h
          · exact absurd ⟨g1, g2, h⟩ hg
        have g2' : (l.length : Int) ≤ 60 := by omega
        have g3' : (50 : Int) < (s.size : Int) := by omega
        clear hg g1 HSm g2 g3
        go_enter Tryd.func3, Tryd.ntmps3
        go_wp2_with fail
        refine (HSm2.out _ HB0.out).mono ?_
        rintro e w1 ⟨rfl, hb1⟩
        have HB1 := hide (HB0.out.trans hb1)
        clear hb1
        go_wp2_with fail
        refine (HAw.out _ HB1.out).mono ?_
        rintro e w2 ⟨rfl, hb2⟩
        have HB2 := hide (then_below HB1.out hb2)
        clear hb2
        go_wp2_with fail
        go_ret
        exact ⟨rfl, HB2.out⟩
      · have g2' : (60 : Int) < (l.length : Int) := by omega
        clear hg g1 HSm g2
        go_enter Tryd.func3, Tryd.ntmps3
        go_wp2_with fail
        refine (HSm2.out _ HB0.out).mono ?_
        rintro e w1 ⟨rfl, hb1⟩
        have HB1 := hide (HB0.out.trans hb1)
        clear hb1
        go_wp2_with fail
        refine (HAw.out _ HB1.out).mono ?_
        rintro e w2 ⟨rfl, hb2⟩
        have HB2 := hide (then_below HB1.out hb2)
        clear hb2
        go_wp2_with fail
        go_ret
        exact ⟨rfl, HB2.out⟩
end Go.Proofs.YtpohofcfmllghaaDoor
