/-
  Read, with the row that it makes.
-/
import Derived.Test.YtpjibiimakclfabPStepC
namespace Go.Proofs.Ytpjibiimakclfab
open Go.RowKit

set_option maxHeartbeats 3200000 in
set_option maxRecDepth 100000 in
theorem clone_row (A : Option Addr) (c : Nat) (l : List UInt8) (w : World) (hB : BytesAt w.heap.size w A l) (hnil : A = none → c = 0) (hl : l.length ≤ 4294967296) :
    Calls Try.prog 33 #[.slice A l.length c] w fun e w' => (∃ A' c', e = .returned (.slice A' l.length c') ∧ w'.ownsRow w.heap.size 5 1 (.slice A' l.length c') l.length (byC l)) ∧ Below w.heap.size w w' := by
  have q := fun (w : World) (a : Option Addr) (n c n' c' : Nat) => Lib.run_eql_slice_nil (P := Try.prog) w _ _ a n c n' c' Try.underlying28
  cases A with
  | none =>
    have hv : l = [] := by
      rcases l with _ | ⟨y, r⟩
      · rfl
      · obtain ⟨_, _, e, _⟩ := hB 0 (by simp); cases e
    subst hv
    have hc := hnil rfl
    subst hc
    go_enter Try.func33, Try.ntmps33
    go_wp2_with fail
    go_ret
    exact ⟨⟨none, 0, rfl, World.ownsRow_nil _ _ _ _⟩, Below.refl _ _⟩
  | some a =>
    have HB := hide hB
    have HN := hide hnil
    clear hB hnil
    have HO := hide (World.ownsRow_made (base := w.heap.size) (e := 5) (size := 1) w #[] 0 (Nat.le_refl _) (Nat.zero_le _) rfl)
    have hal := Joins.below_alloc1 w (.cells #[] 5)
    have HAl := hide hal
    clear hal
    go_enter Try.func33, Try.ntmps33
    go_wp2_with (at_builtin; go_must (refine append_bytes rfl _ _ rfl w.heap.size (.slice (some ⟨w.heap.size, 0, none⟩) 0 0) [] l 0 rfl HO.out _ (some a) c rfl (HB.out.on HAl.out) HN.out (by omega) (by simp) ?_))
    intro v' w3 hown3 hgrow3 hat3

    have HB3 := hide (show Below w.heap.size w w3 from HAl.out.grown hgrow3 (by simp) (fun k e => by simp [Value.ownBlock] at e; omega))
    have hown3 : w3.ownsRow w.heap.size 5 1 v' l.length (byC l) := by simpa using hown3
    obtain ⟨A', c', rfl, -⟩ := bytes_of_row hown3
    have HR := hide hown3
    clear hown3 hgrow3 hat3
    go_wp2_with fail
    go_ret
    exact ⟨⟨A', c', rfl, HR.out⟩, HB3.out⟩
set_option maxHeartbeats 3200000 in
set_option maxRecDepth 100000 in
theorem read_row {base g : Nat} {D : DS} (n : Int) (w : World) (hD : DiskAt base g w D) (hO : D.p.Ok) :
    Calls Try.prog 20 #[vD g, .int .i64 n] w fun e w' => (∃ A c, e = .returned (.tuple #[.slice A (rdL D.p n).length c, .int .i64 (checkE D.p n)]) ∧ w'.ownsRow w.heap.size 5 1 (.slice A (rdL D.p n).length c) (rdL D.p n).length (byC (rdL D.p n))) ∧ Below w.heap.size w w' := by
  have HC := hide (check_any n w hD)
  have HD := hide hD
  by_cases h0 : checkE D.p n = 0
  · obtain ⟨_, hf⟩ := checkE_zero h0
    have hn := fileB_four hf
    have hi : n.toNat < 4 := by omega
    have hlen := hO.len hi
    have HL := hide (show rdL D.p n = D.p.xs n.toNat from if_pos h0)
    rw [h0] at HC
    rw [h0]
    generalize rdL D.p n = l at *
    clear hf h0
    rcases hn with rfl | rfl | rfl | rfl
    · have HL2 := hide (show l = D.p.xs 0 from HL.out)
      have hlen' : (D.p.xs 0).length ≤ 1073741824 := hlen
      rw [← HL2.out] at hlen'
      have HRow := hide (fun w' (h : Below w.heap.size w w') => bytes_of_row ((HD.out.below h).row 0 (by decide)))
      rw [← HL2.out] at HRow
      clear hD hO hlen HL
      go_enter Try.func20, Try.ntmps20
      go_wp2_with fail
      refine HC.out.mono ?_
      rintro e w1 ⟨rfl, hb1⟩
      have HB1 := hide hb1
      obtain ⟨A, c, hA, hBy, -, hnl⟩ := HRow.out w1 hb1
      obtain ⟨c0, c1, c2, c3, c4, c5, c6, c7, c8, c9, c10, c11⟩ := (HD.out.below hb1).cells
      rw [hA] at c0
      have HCl := hide (clone_row A c l w1 hBy hnl (by omega))
      have hlt := (HD.out.below hb1).lt
      clear hb1 hA hBy hnl HRow
      go_wp2_with fail
      refine HCl.out.mono ?_
      rintro e w2 ⟨⟨A2, k2, rfl, h1⟩, hb2⟩
      have HF := hide (own_mono h1 HB1.out.size)
      have HB2 := hide (then_below HB1.out hb2)
      clear h1 hb2
      go_wp2_with fail
      go_ret2
      exact ⟨⟨A2, k2, rfl, HF.out⟩, HB2.out⟩
    · have HL2 := hide (show l = D.p.xs 1 from HL.out)
      have hlen' : (D.p.xs 1).length ≤ 1073741824 := hlen
      rw [← HL2.out] at hlen'
      have HRow := hide (fun w' (h : Below w.heap.size w w') => bytes_of_row ((HD.out.below h).row 1 (by decide)))
      rw [← HL2.out] at HRow
      clear hD hO hlen HL
      go_enter Try.func20, Try.ntmps20
      go_wp2_with fail
      refine HC.out.mono ?_
      rintro e w1 ⟨rfl, hb1⟩
      have HB1 := hide hb1
      obtain ⟨A, c, hA, hBy, -, hnl⟩ := HRow.out w1 hb1
      obtain ⟨c0, c1, c2, c3, c4, c5, c6, c7, c8, c9, c10, c11⟩ := (HD.out.below hb1).cells
      rw [hA] at c2
      have HCl := hide (clone_row A c l w1 hBy hnl (by omega))
      have hlt := (HD.out.below hb1).lt
      clear hb1 hA hBy hnl HRow
      go_wp2_with fail
      refine HCl.out.mono ?_
      rintro e w2 ⟨⟨A2, k2, rfl, h1⟩, hb2⟩
      have HF := hide (own_mono h1 HB1.out.size)
      have HB2 := hide (then_below HB1.out hb2)
      clear h1 hb2
      go_wp2_with fail
      go_ret2
      exact ⟨⟨A2, k2, rfl, HF.out⟩, HB2.out⟩
    · have HL2 := hide (show l = D.p.xs 2 from HL.out)
      have hlen' : (D.p.xs 2).length ≤ 1073741824 := hlen
      rw [← HL2.out] at hlen'
      have HRow := hide (fun w' (h : Below w.heap.size w w') => bytes_of_row ((HD.out.below h).row 2 (by decide)))
      rw [← HL2.out] at HRow
      clear hD hO hlen HL
      go_enter Try.func20, Try.ntmps20
      go_wp2_with fail
      refine HC.out.mono ?_
      rintro e w1 ⟨rfl, hb1⟩
      have HB1 := hide hb1
      obtain ⟨A, c, hA, hBy, -, hnl⟩ := HRow.out w1 hb1
      obtain ⟨c0, c1, c2, c3, c4, c5, c6, c7, c8, c9, c10, c11⟩ := (HD.out.below hb1).cells
      rw [hA] at c4
      have HCl := hide (clone_row A c l w1 hBy hnl (by omega))
      have hlt := (HD.out.below hb1).lt
      clear hb1 hA hBy hnl HRow
      go_wp2_with fail
      refine HCl.out.mono ?_
      rintro e w2 ⟨⟨A2, k2, rfl, h1⟩, hb2⟩
      have HF := hide (own_mono h1 HB1.out.size)
      have HB2 := hide (then_below HB1.out hb2)
      clear h1 hb2
      go_wp2_with fail
      go_ret2
      exact ⟨⟨A2, k2, rfl, HF.out⟩, HB2.out⟩
    · have HL2 := hide (show l = D.p.xs 3 from HL.out)
      have hlen' : (D.p.xs 3).length ≤ 1073741824 := hlen
      rw [← HL2.out] at hlen'
      have HRow := hide (fun w' (h : Below w.heap.size w w') => bytes_of_row ((HD.out.below h).row 3 (by decide)))
      rw [← HL2.out] at HRow
      clear hD hO hlen HL
      go_enter Try.func20, Try.ntmps20
      go_wp2_with fail
      refine HC.out.mono ?_
      rintro e w1 ⟨rfl, hb1⟩
      have HB1 := hide hb1
      obtain ⟨A, c, hA, hBy, -, hnl⟩ := HRow.out w1 hb1
      obtain ⟨c0, c1, c2, c3, c4, c5, c6, c7, c8, c9, c10, c11⟩ := (HD.out.below hb1).cells
      rw [hA] at c6
      have HCl := hide (clone_row A c l w1 hBy hnl (by omega))
      have hlt := (HD.out.below hb1).lt
      clear hb1 hA hBy hnl HRow
      go_wp2_with fail
      refine HCl.out.mono ?_
      rintro e w2 ⟨⟨A2, k2, rfl, h1⟩, hb2⟩
      have HF := hide (own_mono h1 HB1.out.size)
      have HB2 := hide (then_below HB1.out hb2)
      clear h1 hb2
      go_wp2_with fail
      go_ret2
      exact ⟨⟨A2, k2, rfl, HF.out⟩, HB2.out⟩
  · have hb : (checkE D.p n != 0) = true := by rw [bne_iff_ne]; exact h0
    have HL := hide (show rdL D.p n = [] from if_neg h0)
    generalize rdL D.p n = l at *
    obtain rfl := HL.out
    generalize checkE D.p n = ce at *
    clear hD hO h0 HL
    go_enter Try.func20, Try.ntmps20
    go_wp2_with fail
    refine HC.out.mono ?_
    rintro e w1 ⟨rfl, hb1⟩
    have HB1 := hide hb1
    clear hb1
    go_wp2_with fail
    go_ret2
    exact ⟨⟨none, 0, rfl, World.ownsRow_nil _ _ _ _⟩, HB1.out⟩
end Go.Proofs.Ytpjibiimakclfab
