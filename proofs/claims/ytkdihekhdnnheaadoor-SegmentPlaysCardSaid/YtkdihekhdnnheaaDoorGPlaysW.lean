/-
  The walk of SegmentPlays.
-/
import Derived.Test.YtkdihekhdnnheaaDoorMP
import Derived.Test.YtkdihekhdnnheaaDoorMRF
import Derived.Test.YtkdihekhdnnheaaDoorMG5
import Derived.Test.YtkdihekhdnnheaaDoorMG4
namespace Go.Proofs.YtkdihekhdnnheaaDoor
open Go.RowKit

theorem opc_cells {wk : World} {R : Nat} {a b c d e : Value} (h : wk.heap[R]? = some (.cells #[a, b, c, d, e] 39 (0, 0))) :
    wk.cell? ⟨R, 0, none⟩ = some a ∧ wk.cell? ⟨R, 1, none⟩ = some b ∧ wk.cell? ⟨R, 2, none⟩ = some c ∧ wk.cell? ⟨R, 3, none⟩ = some d ∧ wk.cell? ⟨R, 4, none⟩ = some e :=
  ⟨Lib.cell_of_heap h 0, Lib.cell_of_heap h 1, Lib.cell_of_heap h 2, Lib.cell_of_heap h 3, Lib.cell_of_heap h 4⟩
set_option maxHeartbeats 51200000 in
set_option maxRecDepth 100000 in

theorem segmentPlays_walk (n : Int) (A : Option Addr) (cap : Nat) (l : List OpS) (w : World) (n0 : -9223372036854775808 ≤ n) (n1 : n ≤ 9223372036854775807)
    (hl : OpsIn (fun b => b < w.heap.size) w A l) (wl : WfSs l) (hT : Tab w) :
    Calls Tryd.prog 3 #[.int .i64 n, .slice A l.length cap] w fun e w' => e = .returned (.bool true) ∧ Below w.heap.size w w' := by
  have hgt : 0 < w.heap.size := hT.lt
  have HT := hide hT
  have HL := hide hl
  have HWl := hide wl
  have hll := wl.1
  unfold maxLen at hll
  have HSm := hide (fun w' (hb : Below w.heap.size w w') => small_any A cap l 30 w' (hl.below (fun b h => h) hb) wl)
  have HAw := hide (fun w' (hb : Below w.heap.size w w') => (awake_any w' (hT.on hb) (Nat.lt_of_lt_of_le hgt hb.size)).mono fun e w2 h => (⟨h.1, hb.trans (h.2.mono hb.size)⟩ : e = .returned (.bool true) ∧ Below w.heap.size w w2))
  have HAw0 := hide (awake_any w hT hgt)
  clear hT hl wl
  by_cases hn0 : n < 30
  · go_enter Tryd.func3, Tryd.ntmps3
    go_wp2_with fail
    refine HAw0.out.mono ?_
    rintro e w2 ⟨rfl, hb⟩
    go_wp2_with fail
    go_ret
    exact ⟨rfl, hb⟩
  by_cases hn1 : 100000 < n
  · go_enter Tryd.func3, Tryd.ntmps3
    go_wp2_with fail
    refine HAw0.out.mono ?_
    rintro e w2 ⟨rfl, hb⟩
    go_wp2_with fail
    go_ret
    exact ⟨rfl, hb⟩
  have hcb : capBK n = true := by unfold capBK; simp; omega
  have HN := hide (fun w' => new_yes n w' hcb)
  have HNw := hide (Play.new hcb (by omega))
  have HOk := hide (new_ok hcb)
  have HS0 := hide (HSm.out w (Below.refl _ _))
  clear HAw0
  by_cases hsm : smallS l 30 = true
  rotate_left
  · have hsf : smallS l 30 = false := by simpa using hsm
    rw [hsf] at HS0
    go_enter Tryd.func3, Tryd.ntmps3
    go_wp2_with fail
    refine HS0.out.mono ?_
    rintro e w1 ⟨rfl, hb1⟩
    go_wp2_with fail
    refine (HAw.out w1 hb1).mono ?_
    rintro e w2 ⟨rfl, hb⟩
    go_wp2_with fail
    go_ret
    exact ⟨rfl, hb⟩
  rw [hsm] at HS0
  have HSa := hide (smallS_at hsm)
  clear hsm HSm
  go_enter Tryd.func3, Tryd.ntmps3
  go_wp2_with fail
  refine HS0.out.mono ?_
  rintro e w0 ⟨rfl, hb0⟩
  have HB0 := hide hb0
  clear hb0 HS0
  go_wp2_with fail
  refine (HN.out w0).mono ?_
  rintro e w1 ⟨⟨g, rfl, hD1⟩, hb1⟩
  have HB1 := hide (HB0.out.trans (hb1.mono HB0.out.size))
  have hD1' : DiskAt w.heap.size g w1 (newD n) := ⟨Nat.le_trans HB0.out.size hD1.hg, hD1.box, fun i hi => own_mono (hD1.row i hi) HB0.out.size, hD1.off, hD1.apart⟩
  have HD1 := hide hD1'
  have HO := hide (open_any w1 hD1' HOk.out (by show (0 : Int) ≤ _; decide) (HT.out.on HB1.out) hgt)
  unfold OpenRes at HO
  clear hb1 hD1 hD1' HN
  go_wp2_with fail
  refine HO.out.mono ?_
  rintro e w3 hc
  rcases hc with ⟨hdn, -⟩ | ⟨-, -, hc⟩
  · exact absurd (show (false : Bool) = true from hdn) (by decide)
  rcases hc with ⟨hne, -⟩ | ⟨-, h, A3, c3, B3, d3, gs3, D3, rfl, hh3, hp3, hL3, ht3, hgs3, hcp3, hgr3, -, -, -⟩
  · exact absurd HNw.out.1 hne
  have hst := HNw.out.2
  have hp3' : D3.p = (openR (newP n)).2.1 := hp3
  rw [← hp3'] at hst
  have HL3 := hide (show LogAt w.heap.size h g w3 (openR (newP n)).2.2 D3 from hL3)
  have HB3 := hide (HB1.out.trans (ht3.below HD1.out))
  generalize (openR (newP n)).2.2 = L3 at hst HL3
  have HSt := hide hst
  generalize (openS (newD n).p).cp.length = n3 at *
  obtain ⟨w4, hw4⟩ : ∃ w4, w4 = w3.alloc (.cells #[.slice A3 n3 c3, .slice B3 gs3.length d3] 31) := ⟨_, rfl⟩
  have hb4 : Below w3.heap.size w3 w4 := by rw [hw4]; exact Joins.below_alloc1 w3 _
  have HB4 := hide (HB3.out.trans (hb4.mono HB3.out.size))
  have HL4 := hide (HL3.out.below hb4)
  have HW4 := hide hw4
  have HH := hide (refHead_any 1 none 0 [] w4 ⟨by decide, by decide⟩ (fun j hj => by simp at hj) (by simp))
  unfold OwnRes at HH
  clear hh3 hp3 hp3' hL3 ht3 hgs3 hcp3 hgr3 HO HD1 hst hw4 hb4 HL3 HNw HOk
  go_wp2_with fail
  rw [← HW4.out]
  refine HH.out.mono ?_
  rintro e w5 ⟨v5, rfl, hr5, hb5⟩
  have HB5 := hide (HB4.out.trans (hb5.mono HB4.out.size))
  have HL5 := hide (HL4.out.below hb5)
  obtain ⟨A5, c5, rfl, hBy5, hbk5, hn5, hc5⟩ := bytes_of_row hr5
  have hcm5 : c5 ≤ maxLen := by
    obtain ⟨A', c', e', h1, h2⟩ := row_slice hr5
    cases e'; exact h2

  obtain ⟨hpl, hcap, hg1, hf0, hlo, hx0⟩ := HSt.out
  have HDk0 := hide (show Dk w w5 h g 0 L3 D3 1 0 (headB 1 []) false n [] (gsOf []) from ⟨HL5.out, hpl, hg1, hf0, hx0, hlo, hcap⟩)
  have HMm0 := hide (show Mm w w5 h g D3 (headB 1 []) [] [] A5 c5 none 0 none 0 from
    ⟨BytesIn.of_bytes hBy5 fun a e => HL4.out.off_new (hbk5 a e).1, hn5, hc5, hcm5, BytesIn.nil _ _ _, fun _ => rfl, World.ownsRow_nil _ _ _ _, fun b e => (by cases e), fun j hj => absurd hj (Nat.not_lt_zero j), fun b hb => HL5.out.off_old hb, HB5.out.size, fun _ a _ x => (by cases x), fun _ a _ x => (by cases x)⟩)
  clear hr5 hb5 hBy5 hbk5 hn5 hc5 hcm5 hpl hcap hg1 hf0 hlo hx0 HH HL4 HSt HW4 HL5
  generalize headB 1 [] = B0 at *
  go_wp2_with fail
  go_loopw [9, 10, 11, 12, 13, 14, 57] (fun ck hv gi fi bv lo i wr => ∃ (k : Nat) (D : DS) (L : LV) (gv : Int) (fv : Nat) (B : List UInt8) (lv : Bool) (C : Int) (cp : List UInt8) (gh : List GH) (Ab Ac Ah : Option Addr) (cb cc ch : Nat), k ≤ l.length ∧ i = .int .i64 k ∧ ck = .slice Ac cp.length cc ∧ hv = .slice Ah gh.length ch ∧ gi = .int .i64 gv ∧ fi = .int .i64 (fv : Nat) ∧ bv = .slice Ab B.length cb ∧ lo = .bool lv ∧ Dk w wr h g k L D gv fv B lv C cp (gsOf gh) ∧ Mm w wr h g D B cp gh Ab cb Ac cc Ah ch ∧ Below w.heap.size w wr) (fun _ _ _ _ _ _ i _ => l.length - (intOf i).toNat)
  case atStart => exact ⟨0, D3, L3, 1, 0, B0, false, n, [], [], A5, none, none, c5, 0, 0, Nat.zero_le _, rfl, rfl, rfl, rfl, rfl, rfl, rfl, HDk0.out, HMm0.out, HB5.out⟩
  case round =>
    clear HDk0 HMm0
    obtain ⟨k, D, L, gv, fv, B, lv, C, cp, gh, Ab, Ac, Ah, cb, cc, ch, hk, rfl, rfl, rfl, rfl, rfl, rfl, rfl, hDk, hMm, hbr⟩ := hrel
    have hk30 : k ≤ 30 := by have := HSa.out.1; omega
    have hk60 : k ≤ 60 := by omega
    by_cases hlt : k < l.length
    · have HLt := hide hlt
      obtain ⟨b, off, rfl, hp, hb, hx0⟩ := HL.out k hlt
      have hx : OpIn (fun b => b < w.heap.size) wr b (off + k * 5) (l.getD k dS) := hx0.keep hp hb hbr.size fun b h1 h2 => ⟨h1, hbr.block b h2⟩
      have HOk := hide (HSa.out.2 k hlt)
      have hb' : b < wr.heap.size := Nat.lt_of_lt_of_le hb hbr.size
      have HWo := hide (HWl.out.2 k hlt)
      have ho1 := HWo.out.dl
      have ho2 := HWo.out.rl
      have ho3 := HWo.out.kl
      unfold maxLen at ho1 ho2 ho3
      generalize l.getD k dS = o at *
      have g0 := hx.c0; have g1 := hx.c1; have g2 := hx.c2; have g3 := hx.c3; have g4 := hx.c4
      have hb4 := (Below.refl wr.heap.size wr).alloc (Nat.le_refl _) (.cells (sCells o) 39)
      obtain ⟨w4, hw4⟩ : ∃ w4, w4 = wr.alloc (.cells (sCells o) 39) := ⟨_, rfl⟩
      have hx4 := heap_alloc_new wr (.cells (sCells o) 39)
      rw [← hw4] at hb4 hx4
      have HCap := hide (hDk.below hb4).qcap
      have HX4 := hide hx4
      have HW4 := hide (show w4 = wr.alloc (.cells #[.int .i64 o.k, .int .i64 o.n, .slice o.dA o.dl.length o.dc, .slice o.rA o.rs.length o.rc, .slice o.kA o.kl.length o.kc] 39) from hw4)
      have hb4' : b < w4.heap.size := Nat.lt_of_lt_of_le hb' hb4.size
      have HOx := hide (hx.keep (Q := fun b => b < w.heap.size) hb hb' hb4.size fun c h1 h2 => ⟨h1, hb4.block c h2⟩)
      obtain ⟨m1, m2, m3, m4, m5, m6, -, -, -⟩ := hDk.nums
      have hBl : (B.length : Int) ≤ 100000 := by omega
      have HDk4 := hide (hDk.below hb4)
      have HAh : Hid (∀ b, (Value.slice Ah gh.length ch).ownBlock = some b → b < wr.heap.size) := hide fun b e => (hMm.hr.lt b e).2
      have HOff := hide (hDk.log.off_new (Nat.le_refl wr.heap.size))
      have HMm4 := hide (hMm.below hb4)
      have HB4 := hide (hbr.trans (hb4.mono hbr.size))
      clear hx0 hp hDk hMm hbr hx hw4 hb4 hx4
      go_wp2_with fail
      rw [← HW4.out]
      refine HCap.out.mono ?_
      rintro e w5 ⟨rfl, hb5⟩
      have HBx5 := hide ((hb5.block _ (block_lt HX4.out)).trans HX4.out)
      have HO5 := hide (HOx.out.keep (Q := fun b => b < w.heap.size) hb hb4' hb5.size fun c h1 h2 => ⟨h1, hb5.block c h2⟩)
      have HDk5 := hide (HDk4.out.below hb5)
      have HMm5 := hide (HMm4.out.below hb5)
      have HB5 := hide (HB4.out.trans (hb5.mono HB4.out.size))
      have HT5 := hide (HT.out.on HB5.out)
      have HLim := hide (show wr.heap.size < w5.heap.size by have := block_lt HX4.out; have := hb5.size; omega)
      clear hb5 HCap HW4 HX4 HOx HDk4 HMm4 HB4
      obtain ⟨s0, s1, s2, s3, s4⟩ := opc_cells HBx5.out
      by_cases hk1 : o.k = 1
      · as_aux_lemma =>
          rw [hk1] at s0
          have hrl := HOk.out.r
          have hrr := HOk.out.rr
          have HR := hide (refGroup_any o.rA o.rc o.rs w5 HO5.out.r (by omega) (fun j hj => by have := hrr j hj; omega))
          unfold OwnRes at HR
          go_wp2_with fail
          refine HR.out.mono ?_
          rintro e w6 ⟨v6, rfl, hr6, hb6⟩
          obtain ⟨A6, c6, rfl, hby6, hn6, hl6, hm6⟩ := own_bytes HDk5.out hr6
          have HBy6 := hide hby6
          have HDk6 := hide (HDk5.out.below hb6)
          have HMm6 := hide (HMm5.out.below hb6)
          have HB6 := hide (HB5.out.trans (hb6.mono HB5.out.size))
          have HT6 := hide (HT.out.on HB6.out)
          have HBx6 := hide ((hb6.block _ HLim.out).trans HBx5.out)
          have HRc6 := hide (show Rc w w6 o.rA o.rs from ⟨HO5.out.r.below hb6, recOk_of HOk.out, hrl, hrr⟩)
          have HLim6 := hide (Nat.lt_of_lt_of_le HLim.out hb6.size)
          have hgl := recOk_len (recOk_of HOk.out)
          clear hr6 hb6 hby6 HR s0 s1 s2 s3 s4 HDk5 HMm5 HO5 hrl hrr
          obtain ⟨s0, s1, s2, s3, s4⟩ := opc_cells HBx6.out
          rw [hk1] at s0
          have HN := hide (Dk.need (c := o.rc) HRc6.out HT6.out)
          by_cases h0 : o.rs.length = 0
          · as_aux_lemma =>
              rw [show needN (lsOf o.rs) = 0 from if_pos (by rw [lsOf_len]; exact h0)] at HN
              have HC := hide (fun w' (hb : Below w6.heap.size w6 w') => (HDk6.out.below hb).app0 (c := o.rc) hk60 (HT6.out.on hb) (HRc6.out.below hb) h0)
              clear HRc6
              rw [h0] at s3 HN HC
              generalize groupB (lsOf o.rs) = G at *
              go_wp2_with fail
              refine HN.out.mono ?_
              rintro e w7 ⟨rfl, hb7⟩
              have HC7 := hide (HC.out w7 hb7)
              have HDk7 := hide (HDk6.out.below hb7)
              have HMm7 := hide (HMm6.out.below hb7)
              have HB7 := hide (HB6.out.trans (hb7.mono HB6.out.size))
              have HBx7 := hide ((hb7.block _ HLim6.out).trans HBx6.out)
              clear hb7 HC HN s0 s1 s2 s3 s4 HDk6 HMm6
              obtain ⟨s0, s1, s2, s3, s4⟩ := opc_cells HBx7.out
              rw [hk1] at s0
              rw [h0] at s3
              have HLim7 := hide (block_lt HBx7.out)
              by_cases hr0 : (0 : Int) > C - B.length
              all_goals (
                go_wp2_with fail
                refine HC7.out.mono ?_
                rintro e w8 ⟨rfl, L8, D8, hdk, hlt8⟩
                have HDk8 := hide hdk
                have HMm8 := hide (HMm7.out.turn hlt8)
                have HB8 := hide (HB7.out.trans (hlt8.below HDk7.out.log))
                have HBx8 := hide ((hlt8.off _ HOff.out HLim7.out).2.trans HBx7.out)
                clear hdk hlt8 HC7 HDk7 HMm7 s0 s1 s2 s3 s4
                obtain ⟨s0, s1, s2, s3, s4⟩ := opc_cells HBx8.out
                rw [hk1] at s0)
              · as_aux_lemma =>
                  have HRd := hide HDk8.out.read
                  have hf2 : (fv : Int) ≤ 1 := by have := HDk8.out.nums; omega
                  go_wp2_with fail
                  refine HRd.out.mono ?_
                  rintro e w20 ⟨⟨At, ct, rfl, hby⟩, hb6⟩
                  have HDk20 := hide (HDk8.out.below hb6)
                  have HMm20 := hide (HMm8.out.below hb6)
                  have HB20 := hide (HB8.out.trans (hb6.mono HB8.out.size))
                  have hcv1 := conv_bytes At ct B w20 hby
                  have hcv2 := conv_bytes Ab cb B w20 HMm20.out.bv.bytes
                  have HG := hide HDk20.out.qgen
                  have HSi := hide HDk20.out.qsize
                  have HLo := hide HDk20.out.qloose
                  have HSz := hide HDk20.out.qother
                  clear hby hb6 HRd
                  go_wp2_with fail
                  refine HG.out.mono ?_
                  rintro e w21 ⟨rfl, rfl⟩
                  go_wp2_with fail
                  refine HSi.out.mono ?_
                  rintro e w21 ⟨rfl, rfl⟩
                  go_wp2_with fail
                  refine HLo.out.mono ?_
                  rintro e w21 ⟨rfl, rfl⟩
                  go_wp2_with fail
                  refine HSz.out.mono ?_
                  rintro e w21 ⟨rfl, hb7⟩
                  have HDk21 := hide (HDk20.out.below hb7)
                  have HMm21 := hide (HMm20.out.below hb7)
                  have HB21 := hide (HB20.out.trans (hb7.mono HB20.out.size))
                  clear hb7 hcv1 hcv2
                  go_wp2_with fail
                  go_roundw
                  case rel => exact ⟨k + 1, D8, L8, gv, fv, B, lv, C, cp, gh, Ab, Ac, Ah, cb, cc, ch, HLt.out, by go_num, rfl, rfl, rfl, rfl, rfl, rfl, HDk21.out, HMm21.out, HB21.out⟩
                  case measure => have := HLt.out; simp [intOf]; omega
              · as_aux_lemma =>
                  have HRd := hide HDk8.out.read
                  have hf2 : (fv : Int) ≤ 1 := by have := HDk8.out.nums; omega
                  go_wp2_with fail
                  refine HRd.out.mono ?_
                  rintro e w20 ⟨⟨At, ct, rfl, hby⟩, hb6⟩
                  have HDk20 := hide (HDk8.out.below hb6)
                  have HMm20 := hide (HMm8.out.below hb6)
                  have HB20 := hide (HB8.out.trans (hb6.mono HB8.out.size))
                  have hcv1 := conv_bytes At ct B w20 hby
                  have hcv2 := conv_bytes Ab cb B w20 HMm20.out.bv.bytes
                  have HG := hide HDk20.out.qgen
                  have HSi := hide HDk20.out.qsize
                  have HLo := hide HDk20.out.qloose
                  have HSz := hide HDk20.out.qother
                  clear hby hb6 HRd
                  go_wp2_with fail
                  refine HG.out.mono ?_
                  rintro e w21 ⟨rfl, rfl⟩
                  go_wp2_with fail
                  refine HSi.out.mono ?_
                  rintro e w21 ⟨rfl, rfl⟩
                  go_wp2_with fail
                  refine HLo.out.mono ?_
                  rintro e w21 ⟨rfl, rfl⟩
                  go_wp2_with fail
                  refine HSz.out.mono ?_
                  rintro e w21 ⟨rfl, hb7⟩
                  have HDk21 := hide (HDk20.out.below hb7)
                  have HMm21 := hide (HMm20.out.below hb7)
                  have HB21 := hide (HB20.out.trans (hb7.mono HB20.out.size))
                  clear hb7 hcv1 hcv2
                  go_wp2_with fail
                  go_roundw
                  case rel => exact ⟨k + 1, D8, L8, gv, fv, B, lv, C, cp, gh, Ab, Ac, Ah, cb, cc, ch, HLt.out, by go_num, rfl, rfl, rfl, rfl, rfl, rfl, HDk21.out, HMm21.out, HB21.out⟩
                  case measure => have := HLt.out; simp [intOf]; omega
          · as_aux_lemma =>
              have hneed : needN (lsOf o.rs) = (groupB (lsOf o.rs)).length := if_neg (by rw [lsOf_len]; exact h0)
              rw [hneed] at HN
              have hgb := (groupB_bd (lsOf o.rs) 200 (recOk_of HOk.out).2).1
              by_cases hroom : (B.length : Int) + (groupB (lsOf o.rs)).length ≤ C
              · as_aux_lemma =>
                  have HC := hide (fun w' (hb : Below w6.heap.size w6 w') => (HDk6.out.below hb).appY (c := o.rc) hk60 (HT6.out.on hb) (HRc6.out.below hb) h0 hroom)
                  have hgs := gsOf_snoc gh ⟨o.rA, o.rc, o.rs⟩
                  have HGs : Hid (gsOf gh ++ [lsOf o.rs] = gsOf (gh ++ [⟨o.rA, o.rc, o.rs⟩])) := hide hgs.symm
                  rw [HGs.out] at HC
                  clear hgs HGs hneed
                  generalize groupB (lsOf o.rs) = G at *
                  go_wp2_with fail
                  refine HN.out.mono ?_
                  rintro e w7 ⟨rfl, hb7⟩
                  have HC7 := hide (HC.out w7 hb7)
                  have HDk7 := hide (HDk6.out.below hb7)
                  have HMm7 := hide (HMm6.out.below hb7)
                  have HBy7 := hide (HBy6.out.below hb7)
                  have HRc7 := hide (HRc6.out.below hb7)
                  have HB7 := hide (HB6.out.trans (hb7.mono HB6.out.size))
                  have HBx7 := hide ((hb7.block _ HLim6.out).trans HBx6.out)
                  clear hb7 HC HN s0 s1 s2 s3 s4 HDk6 HMm6 HBy6 HRc6
                  obtain ⟨s0, s1, s2, s3, s4⟩ := opc_cells HBx7.out
                  rw [hk1] at s0
                  have HLim7 := hide (block_lt HBx7.out)
                  go_wp2_with fail
                  refine HC7.out.mono ?_
                  rintro e w8 ⟨rfl, L8, D8, hdk, hlt8⟩
                  have HDk8 := hide hdk
                  have HMm8 := hide (HMm7.out.turn hlt8)
                  have HBy8 := hide (HBy7.out.turn hlt8)
                  have HR8 := hide (HRc7.out.r.keep hlt8.size fun b hb hlt => ⟨hb, (hlt8.off b (HDk7.out.log.off_old hb) hlt).2⟩)
                  have HB8 := hide (HB7.out.trans (hlt8.below HDk7.out.log))
                  have HBx8 := hide ((hlt8.off _ HOff.out HLim7.out).2.trans HBx7.out)
                  clear hdk hlt8 HC7 HDk7 HMm7 HBy7 HRc7 s0 s1 s2 s3 s4
                  obtain ⟨s0, s1, s2, s3, s4⟩ := opc_cells HBx8.out
                  rw [hk1] at s0
                  have HLim8 := hide (block_lt HBx8.out)
                  have hbl := HMm8.out.bl
                  have hbm := HMm8.out.bm
                  have hbn := HMm8.out.bn
                  have hg8 : gh.length ≤ k := by
                    have := HDk8.out.nums.2.2.2.2.2.2.2.1
                    rw [gsOf_len, List.length_append] at this
                    simp at this
                    exact this
                  go_wp2_with (at_builtin; go_must (refine append_fullB rfl _ _ rfl Ab B G B.length rfl rfl HMm8.out.bv.bytes (fun e => by have := hbn e; omega) A6 G.length c6 rfl (by omega) rfl HBy8.out.bytes (by omega) ?_))
                  intro v9 w9 hr9 hb9
                  have hr9' : w9.ownsRow w8.heap.size 5 1 v9 (B ++ G).length (byC (B ++ G)) := by rw [List.length_append]; exact hr9
                  obtain ⟨A9, c9, rfl, hm9⟩ := HMm8.out.put HDk8.out.log hr9' hb9
                  have HMm9 := hide hm9
                  have HDk9 := hide (HDk8.out.below hb9)
                  have HR9 := hide (HR8.out.below hb9)
                  have HB9 := hide (HB8.out.trans (hb9.mono HB8.out.size))
                  have HBx9 := hide ((hb9.block _ HLim8.out).trans HBx8.out)
                  clear hr9 hr9' hb9 hm9 HMm8 HDk8 HBy8 HR8 s0 s1 s2 s3 s4 hbl hbm hbn hn6 hl6 hm6
                  obtain ⟨s0, s1, s2, s3, s4⟩ := opc_cells HBx9.out
                  rw [hk1] at s0
                  have HLim9 := hide (block_lt HBx9.out)
                  generalize B ++ G = BG at *
                  have hb10 := (Below.refl w9.heap.size w9).alloc (Nat.le_refl _) (.cells #[ghd ⟨o.rA, o.rc, o.rs⟩] 36)
                  have hx10 := heap_alloc_new w9 (.cells #[ghd ⟨o.rA, o.rc, o.rs⟩] 36)
                  go_wp2_with (at_builtin; go_must (refine append_grpS rfl _ _ rfl w.heap.size _ gh gh.length rfl rfl (HMm9.out.below hb10).hr ⟨o.rA, o.rc, o.rs⟩ w9.heap.size rfl (Lib.cell_of_heap hx10 0) (by omega) (HMm9.out.below hb10).sz ?_))
                  intro v11 w11 hr11 hg11 h11
                  have HBx11 := hide ((hg11.block wr.heap.size (Nat.lt_of_lt_of_le HLim9.out hb10.size) fun q => by have := HAh.out _ q.symm; omega).trans ((hb10.block _ HLim9.out).trans HBx9.out))
                  obtain ⟨A11, c11, rfl, hm11, hl11, hb11⟩ := (HMm9.out.below hb10).grow (HDk9.out.below hb10).log ⟨o.rA, o.rc, o.rs⟩ (HR9.out.below hb10) ⟨ho2, HWo.out.rn⟩ (by first | exact hr11 | (rw [List.map_append]; exact hr11)) hg11 (by first | exact h11 | simpa using h11)
                  have HMm11 := hide hm11
                  have HDk11 := hide (show Dk w w11 h g (k + 1) L8 D8 gv fv BG true C cp (gsOf (gh ++ [⟨o.rA, o.rc, o.rs⟩])) from ⟨hl11, HDk9.out.pl, HDk9.out.gi, HDk9.out.fi, HDk9.out.bx, HDk9.out.lo, HDk9.out.cc⟩)
                  have HB11 := hide ((HB9.out.trans (hb10.mono HB9.out.size)).trans hb11)
                  clear hr11 hg11 h11 hm11 hl11 hb11 hb10 hx10 HMm9 HDk9 HR9 HB9 s0 s1 s2 s3 s4
                  obtain ⟨s0, s1, s2, s3, s4⟩ := opc_cells HBx11.out
                  rw [hk1] at s0
                  generalize gh ++ [⟨o.rA, o.rc, o.rs⟩] = gh2 at *
                  have HRd := hide HDk11.out.read
                  have hf2 : (fv : Int) ≤ 1 := by have := HDk11.out.nums; omega
                  go_wp2_with fail
                  refine HRd.out.mono ?_
                  rintro e w20 ⟨⟨At, ct, rfl, hby⟩, hb6⟩
                  have HDk20 := hide (HDk11.out.below hb6)
                  have HMm20 := hide (HMm11.out.below hb6)
                  have HB20 := hide (HB11.out.trans (hb6.mono HB11.out.size))
                  have hcv1 := conv_bytes At ct BG w20 hby
                  have hcv2 := conv_bytes A9 c9 BG w20 HMm20.out.bv.bytes
                  have HG := hide HDk20.out.qgen
                  have HSi := hide HDk20.out.qsize
                  have HLo := hide HDk20.out.qloose
                  have HSz := hide HDk20.out.qother
                  clear hby hb6 HRd
                  go_wp2_with fail
                  refine HG.out.mono ?_
                  rintro e w21 ⟨rfl, rfl⟩
                  go_wp2_with fail
                  refine HSi.out.mono ?_
                  rintro e w21 ⟨rfl, rfl⟩
                  go_wp2_with fail
                  refine HLo.out.mono ?_
                  rintro e w21 ⟨rfl, rfl⟩
                  go_wp2_with fail
                  refine HSz.out.mono ?_
                  rintro e w21 ⟨rfl, hb7⟩
                  have HDk21 := hide (HDk20.out.below hb7)
                  have HMm21 := hide (HMm20.out.below hb7)
                  have HB21 := hide (HB20.out.trans (hb7.mono HB20.out.size))
                  clear hb7 hcv1 hcv2
                  go_wp2_with fail
                  go_roundw
                  case rel => exact ⟨k + 1, D8, L8, gv, fv, BG, true, C, cp, gh2, A9, Ac, A11, c9, cc, c11, HLt.out, by go_num, rfl, rfl, rfl, rfl, rfl, rfl, HDk21.out, HMm21.out, HB21.out⟩
                  case measure => have := HLt.out; simp [intOf]; omega
              · as_aux_lemma =>
                  have HC := hide (fun w' (hb : Below w6.heap.size w6 w') => (HDk6.out.below hb).appF (c := o.rc) hk60 (HT6.out.on hb) (HRc6.out.below hb) h0 hroom)
                  clear hneed
                  generalize groupB (lsOf o.rs) = G at *
                  go_wp2_with fail
                  refine HN.out.mono ?_
                  rintro e w7 ⟨rfl, hb7⟩
                  have HC7 := hide (HC.out w7 hb7)
                  have HDk7 := hide (HDk6.out.below hb7)
                  have HMm7 := hide (HMm6.out.below hb7)
                  have HB7 := hide (HB6.out.trans (hb7.mono HB6.out.size))
                  have HBx7 := hide ((hb7.block _ HLim6.out).trans HBx6.out)
                  clear hb7 HC HN s0 s1 s2 s3 s4 HDk6 HMm6
                  obtain ⟨s0, s1, s2, s3, s4⟩ := opc_cells HBx7.out
                  rw [hk1] at s0
                  have HLim7 := hide (block_lt HBx7.out)
                  go_wp2_with fail
                  refine HC7.out.mono ?_
                  rintro e w8 ⟨rfl, L8, D8, hdk, hlt8⟩
                  have HDk8 := hide hdk
                  have HMm8 := hide (HMm7.out.turn hlt8)
                  have HB8 := hide (HB7.out.trans (hlt8.below HDk7.out.log))
                  have HBx8 := hide ((hlt8.off _ HOff.out HLim7.out).2.trans HBx7.out)
                  clear hdk hlt8 HC7 HDk7 HMm7 s0 s1 s2 s3 s4
                  obtain ⟨s0, s1, s2, s3, s4⟩ := opc_cells HBx8.out
                  rw [hk1] at s0
                  have HRd := hide HDk8.out.read
                  have hf2 : (fv : Int) ≤ 1 := by have := HDk8.out.nums; omega
                  go_wp2_with fail
                  refine HRd.out.mono ?_
                  rintro e w20 ⟨⟨At, ct, rfl, hby⟩, hb6⟩
                  have HDk20 := hide (HDk8.out.below hb6)
                  have HMm20 := hide (HMm8.out.below hb6)
                  have HB20 := hide (HB8.out.trans (hb6.mono HB8.out.size))
                  have hcv1 := conv_bytes At ct B w20 hby
                  have hcv2 := conv_bytes Ab cb B w20 HMm20.out.bv.bytes
                  have HG := hide HDk20.out.qgen
                  have HSi := hide HDk20.out.qsize
                  have HLo := hide HDk20.out.qloose
                  have HSz := hide HDk20.out.qother
                  clear hby hb6 HRd
                  go_wp2_with fail
                  refine HG.out.mono ?_
                  rintro e w21 ⟨rfl, rfl⟩
                  go_wp2_with fail
                  refine HSi.out.mono ?_
                  rintro e w21 ⟨rfl, rfl⟩
                  go_wp2_with fail
                  refine HLo.out.mono ?_
                  rintro e w21 ⟨rfl, rfl⟩
                  go_wp2_with fail
                  refine HSz.out.mono ?_
                  rintro e w21 ⟨rfl, hb7⟩
                  have HDk21 := hide (HDk20.out.below hb7)
                  have HMm21 := hide (HMm20.out.below hb7)
                  have HB21 := hide (HB20.out.trans (hb7.mono HB20.out.size))
                  clear hb7 hcv1 hcv2
                  go_wp2_with fail
                  go_roundw
                  case rel => exact ⟨k + 1, D8, L8, gv, fv, B, lv, C, cp, gh, Ab, Ac, Ah, cb, cc, ch, HLt.out, by go_num, rfl, rfl, rfl, rfl, rfl, rfl, HDk21.out, HMm21.out, HB21.out⟩
                  case measure => have := HLt.out; simp [intOf]; omega
      by_cases hk3 : o.k = 3
      · as_aux_lemma =>
          rw [hk3] at s0
          have hrl := HOk.out.r
          have hrr := HOk.out.rr
          have HR := hide (refGroup_any o.rA o.rc o.rs w5 HO5.out.r (by omega) (fun j hj => by have := hrr j hj; omega))
          unfold OwnRes at HR
          go_wp2_with fail
          refine HR.out.mono ?_
          rintro e w6 ⟨v6, rfl, hr6, hb6⟩
          obtain ⟨A6, c6, rfl, hby6, hn6, hl6, hm6⟩ := own_bytes HDk5.out hr6
          have HBy6 := hide hby6
          have HDk6 := hide (HDk5.out.below hb6)
          have HMm6 := hide (HMm5.out.below hb6)
          have HB6 := hide (HB5.out.trans (hb6.mono HB5.out.size))
          have HT6 := hide (HT.out.on HB6.out)
          have HBx6 := hide ((hb6.block _ HLim.out).trans HBx5.out)
          have HRc6 := hide (show Rc w w6 o.rA o.rs from ⟨HO5.out.r.below hb6, recOk_of HOk.out, hrl, hrr⟩)
          have HLim6 := hide (Nat.lt_of_lt_of_le HLim.out hb6.size)
          have hgl := recOk_len (recOk_of HOk.out)
          clear hr6 hb6 hby6 HR s0 s1 s2 s3 s4 HDk5 HMm5 HO5 hrl hrr
          obtain ⟨s0, s1, s2, s3, s4⟩ := opc_cells HBx6.out
          rw [hk3] at s0
          have HN := hide (Dk.need (c := o.rc) HRc6.out HT6.out)
          by_cases h0 : o.rs.length = 0
          · as_aux_lemma =>
              rw [show needN (lsOf o.rs) = 0 from if_pos (by rw [lsOf_len]; exact h0)] at HN
              have HC := hide (fun w' (hb : Below w6.heap.size w6 w') => (HDk6.out.below hb).com0 (c := o.rc) hk60 (HT6.out.on hb) (HRc6.out.below hb) h0)
              clear HRc6
              rw [h0] at s3 HN HC
              generalize groupB (lsOf o.rs) = G at *
              go_wp2_with fail
              refine HN.out.mono ?_
              rintro e w7 ⟨rfl, hb7⟩
              have HC7 := hide (HC.out w7 hb7)
              have HDk7 := hide (HDk6.out.below hb7)
              have HMm7 := hide (HMm6.out.below hb7)
              have HB7 := hide (HB6.out.trans (hb7.mono HB6.out.size))
              have HBx7 := hide ((hb7.block _ HLim6.out).trans HBx6.out)
              clear hb7 HC HN s0 s1 s2 s3 s4 HDk6 HMm6
              obtain ⟨s0, s1, s2, s3, s4⟩ := opc_cells HBx7.out
              rw [hk3] at s0
              rw [h0] at s3
              have HLim7 := hide (block_lt HBx7.out)
              by_cases hr0 : (0 : Int) > C - B.length
              all_goals (
                go_wp2_with fail
                refine HC7.out.mono ?_
                rintro e w8 ⟨rfl, L8, D8, hdk, hlt8⟩
                have HDk8 := hide hdk
                have HMm8 := hide (HMm7.out.turn hlt8)
                have HB8 := hide (HB7.out.trans (hlt8.below HDk7.out.log))
                have HBx8 := hide ((hlt8.off _ HOff.out HLim7.out).2.trans HBx7.out)
                clear hdk hlt8 HC7 HDk7 HMm7 s0 s1 s2 s3 s4
                obtain ⟨s0, s1, s2, s3, s4⟩ := opc_cells HBx8.out
                rw [hk3] at s0)
              · as_aux_lemma =>
                  have HRd := hide HDk8.out.read
                  have hf2 : (fv : Int) ≤ 1 := by have := HDk8.out.nums; omega
                  go_wp2_with fail
                  refine HRd.out.mono ?_
                  rintro e w20 ⟨⟨At, ct, rfl, hby⟩, hb6⟩
                  have HDk20 := hide (HDk8.out.below hb6)
                  have HMm20 := hide (HMm8.out.below hb6)
                  have HB20 := hide (HB8.out.trans (hb6.mono HB8.out.size))
                  have hcv1 := conv_bytes At ct B w20 hby
                  have hcv2 := conv_bytes Ab cb B w20 HMm20.out.bv.bytes
                  have HG := hide HDk20.out.qgen
                  have HSi := hide HDk20.out.qsize
                  have HLo := hide HDk20.out.qloose
                  have HSz := hide HDk20.out.qother
                  clear hby hb6 HRd
                  go_wp2_with fail
                  refine HG.out.mono ?_
                  rintro e w21 ⟨rfl, rfl⟩
                  go_wp2_with fail
                  refine HSi.out.mono ?_
                  rintro e w21 ⟨rfl, rfl⟩
                  go_wp2_with fail
                  refine HLo.out.mono ?_
                  rintro e w21 ⟨rfl, rfl⟩
                  go_wp2_with fail
                  refine HSz.out.mono ?_
                  rintro e w21 ⟨rfl, hb7⟩
                  have HDk21 := hide (HDk20.out.below hb7)
                  have HMm21 := hide (HMm20.out.below hb7)
                  have HB21 := hide (HB20.out.trans (hb7.mono HB20.out.size))
                  clear hb7 hcv1 hcv2
                  go_wp2_with fail
                  go_roundw
                  case rel => exact ⟨k + 1, D8, L8, gv, fv, B, false, C, cp, gh, Ab, Ac, Ah, cb, cc, ch, HLt.out, by go_num, rfl, rfl, rfl, rfl, rfl, rfl, HDk21.out, HMm21.out, HB21.out⟩
                  case measure => have := HLt.out; simp [intOf]; omega
              · as_aux_lemma =>
                  have HRd := hide HDk8.out.read
                  have hf2 : (fv : Int) ≤ 1 := by have := HDk8.out.nums; omega
                  go_wp2_with fail
                  refine HRd.out.mono ?_
                  rintro e w20 ⟨⟨At, ct, rfl, hby⟩, hb6⟩
                  have HDk20 := hide (HDk8.out.below hb6)
                  have HMm20 := hide (HMm8.out.below hb6)
                  have HB20 := hide (HB8.out.trans (hb6.mono HB8.out.size))
                  have hcv1 := conv_bytes At ct B w20 hby
                  have hcv2 := conv_bytes Ab cb B w20 HMm20.out.bv.bytes
                  have HG := hide HDk20.out.qgen
                  have HSi := hide HDk20.out.qsize
                  have HLo := hide HDk20.out.qloose
                  have HSz := hide HDk20.out.qother
                  clear hby hb6 HRd
                  go_wp2_with fail
                  refine HG.out.mono ?_
                  rintro e w21 ⟨rfl, rfl⟩
                  go_wp2_with fail
                  refine HSi.out.mono ?_
                  rintro e w21 ⟨rfl, rfl⟩
                  go_wp2_with fail
                  refine HLo.out.mono ?_
                  rintro e w21 ⟨rfl, rfl⟩
                  go_wp2_with fail
                  refine HSz.out.mono ?_
                  rintro e w21 ⟨rfl, hb7⟩
                  have HDk21 := hide (HDk20.out.below hb7)
                  have HMm21 := hide (HMm20.out.below hb7)
                  have HB21 := hide (HB20.out.trans (hb7.mono HB20.out.size))
                  clear hb7 hcv1 hcv2
                  go_wp2_with fail
                  go_roundw
                  case rel => exact ⟨k + 1, D8, L8, gv, fv, B, false, C, cp, gh, Ab, Ac, Ah, cb, cc, ch, HLt.out, by go_num, rfl, rfl, rfl, rfl, rfl, rfl, HDk21.out, HMm21.out, HB21.out⟩
                  case measure => have := HLt.out; simp [intOf]; omega
          · as_aux_lemma =>
              have hneed : needN (lsOf o.rs) = (groupB (lsOf o.rs)).length := if_neg (by rw [lsOf_len]; exact h0)
              rw [hneed] at HN
              have hgb := (groupB_bd (lsOf o.rs) 200 (recOk_of HOk.out).2).1
              by_cases hroom : (B.length : Int) + (groupB (lsOf o.rs)).length ≤ C
              · as_aux_lemma =>
                  have HC := hide (fun w' (hb : Below w6.heap.size w6 w') => (HDk6.out.below hb).comY (c := o.rc) hk60 (HT6.out.on hb) (HRc6.out.below hb) h0 hroom)
                  have hgs := gsOf_snoc gh ⟨o.rA, o.rc, o.rs⟩
                  have HGs : Hid (gsOf gh ++ [lsOf o.rs] = gsOf (gh ++ [⟨o.rA, o.rc, o.rs⟩])) := hide hgs.symm
                  rw [HGs.out] at HC
                  clear hgs HGs hneed
                  generalize groupB (lsOf o.rs) = G at *
                  go_wp2_with fail
                  refine HN.out.mono ?_
                  rintro e w7 ⟨rfl, hb7⟩
                  have HC7 := hide (HC.out w7 hb7)
                  have HDk7 := hide (HDk6.out.below hb7)
                  have HMm7 := hide (HMm6.out.below hb7)
                  have HBy7 := hide (HBy6.out.below hb7)
                  have HRc7 := hide (HRc6.out.below hb7)
                  have HB7 := hide (HB6.out.trans (hb7.mono HB6.out.size))
                  have HBx7 := hide ((hb7.block _ HLim6.out).trans HBx6.out)
                  clear hb7 HC HN s0 s1 s2 s3 s4 HDk6 HMm6 HBy6 HRc6
                  obtain ⟨s0, s1, s2, s3, s4⟩ := opc_cells HBx7.out
                  rw [hk3] at s0
                  have HLim7 := hide (block_lt HBx7.out)
                  go_wp2_with fail
                  refine HC7.out.mono ?_
                  rintro e w8 ⟨rfl, L8, D8, hdk, hlt8⟩
                  have HDk8 := hide hdk
                  have HMm8 := hide (HMm7.out.turn hlt8)
                  have HBy8 := hide (HBy7.out.turn hlt8)
                  have HR8 := hide (HRc7.out.r.keep hlt8.size fun b hb hlt => ⟨hb, (hlt8.off b (HDk7.out.log.off_old hb) hlt).2⟩)
                  have HB8 := hide (HB7.out.trans (hlt8.below HDk7.out.log))
                  have HBx8 := hide ((hlt8.off _ HOff.out HLim7.out).2.trans HBx7.out)
                  clear hdk hlt8 HC7 HDk7 HMm7 HBy7 HRc7 s0 s1 s2 s3 s4
                  obtain ⟨s0, s1, s2, s3, s4⟩ := opc_cells HBx8.out
                  rw [hk3] at s0
                  have HLim8 := hide (block_lt HBx8.out)
                  have hbl := HMm8.out.bl
                  have hbm := HMm8.out.bm
                  have hbn := HMm8.out.bn
                  have hg8 : gh.length ≤ k := by
                    have := HDk8.out.nums.2.2.2.2.2.2.2.1
                    rw [gsOf_len, List.length_append] at this
                    simp at this
                    exact this
                  go_wp2_with (at_builtin; go_must (refine append_fullB rfl _ _ rfl Ab B G B.length rfl rfl HMm8.out.bv.bytes (fun e => by have := hbn e; omega) A6 G.length c6 rfl (by omega) rfl HBy8.out.bytes (by omega) ?_))
                  intro v9 w9 hr9 hb9
                  have hr9' : w9.ownsRow w8.heap.size 5 1 v9 (B ++ G).length (byC (B ++ G)) := by rw [List.length_append]; exact hr9
                  obtain ⟨A9, c9, rfl, hm9⟩ := HMm8.out.put HDk8.out.log hr9' hb9
                  have HMm9 := hide hm9
                  have HDk9 := hide (HDk8.out.below hb9)
                  have HR9 := hide (HR8.out.below hb9)
                  have HB9 := hide (HB8.out.trans (hb9.mono HB8.out.size))
                  have HBx9 := hide ((hb9.block _ HLim8.out).trans HBx8.out)
                  clear hr9 hr9' hb9 hm9 HMm8 HDk8 HBy8 HR8 s0 s1 s2 s3 s4 hbl hbm hbn hn6 hl6 hm6
                  obtain ⟨s0, s1, s2, s3, s4⟩ := opc_cells HBx9.out
                  rw [hk3] at s0
                  have HLim9 := hide (block_lt HBx9.out)
                  generalize B ++ G = BG at *
                  have hb10 := (Below.refl w9.heap.size w9).alloc (Nat.le_refl _) (.cells #[ghd ⟨o.rA, o.rc, o.rs⟩] 36)
                  have hx10 := heap_alloc_new w9 (.cells #[ghd ⟨o.rA, o.rc, o.rs⟩] 36)
                  go_wp2_with (at_builtin; go_must (refine append_grpS rfl _ _ rfl w.heap.size _ gh gh.length rfl rfl (HMm9.out.below hb10).hr ⟨o.rA, o.rc, o.rs⟩ w9.heap.size rfl (Lib.cell_of_heap hx10 0) (by omega) (HMm9.out.below hb10).sz ?_))
                  intro v11 w11 hr11 hg11 h11
                  have HBx11 := hide ((hg11.block wr.heap.size (Nat.lt_of_lt_of_le HLim9.out hb10.size) fun q => by have := HAh.out _ q.symm; omega).trans ((hb10.block _ HLim9.out).trans HBx9.out))
                  obtain ⟨A11, c11, rfl, hm11, hl11, hb11⟩ := (HMm9.out.below hb10).grow (HDk9.out.below hb10).log ⟨o.rA, o.rc, o.rs⟩ (HR9.out.below hb10) ⟨ho2, HWo.out.rn⟩ (by first | exact hr11 | (rw [List.map_append]; exact hr11)) hg11 (by first | exact h11 | simpa using h11)
                  have HMm11 := hide hm11
                  have HDk11 := hide (show Dk w w11 h g (k + 1) L8 D8 gv fv BG false C cp (gsOf (gh ++ [⟨o.rA, o.rc, o.rs⟩])) from ⟨hl11, HDk9.out.pl, HDk9.out.gi, HDk9.out.fi, HDk9.out.bx, HDk9.out.lo, HDk9.out.cc⟩)
                  have HB11 := hide ((HB9.out.trans (hb10.mono HB9.out.size)).trans hb11)
                  clear hr11 hg11 h11 hm11 hl11 hb11 hb10 hx10 HMm9 HDk9 HR9 HB9 s0 s1 s2 s3 s4
                  obtain ⟨s0, s1, s2, s3, s4⟩ := opc_cells HBx11.out
                  rw [hk3] at s0
                  generalize gh ++ [⟨o.rA, o.rc, o.rs⟩] = gh2 at *
                  have HRd := hide HDk11.out.read
                  have hf2 : (fv : Int) ≤ 1 := by have := HDk11.out.nums; omega
                  go_wp2_with fail
                  refine HRd.out.mono ?_
                  rintro e w20 ⟨⟨At, ct, rfl, hby⟩, hb6⟩
                  have HDk20 := hide (HDk11.out.below hb6)
                  have HMm20 := hide (HMm11.out.below hb6)
                  have HB20 := hide (HB11.out.trans (hb6.mono HB11.out.size))
                  have hcv1 := conv_bytes At ct BG w20 hby
                  have hcv2 := conv_bytes A9 c9 BG w20 HMm20.out.bv.bytes
                  have HG := hide HDk20.out.qgen
                  have HSi := hide HDk20.out.qsize
                  have HLo := hide HDk20.out.qloose
                  have HSz := hide HDk20.out.qother
                  clear hby hb6 HRd
                  go_wp2_with fail
                  refine HG.out.mono ?_
                  rintro e w21 ⟨rfl, rfl⟩
                  go_wp2_with fail
                  refine HSi.out.mono ?_
                  rintro e w21 ⟨rfl, rfl⟩
                  go_wp2_with fail
                  refine HLo.out.mono ?_
                  rintro e w21 ⟨rfl, rfl⟩
                  go_wp2_with fail
                  refine HSz.out.mono ?_
                  rintro e w21 ⟨rfl, hb7⟩
                  have HDk21 := hide (HDk20.out.below hb7)
                  have HMm21 := hide (HMm20.out.below hb7)
                  have HB21 := hide (HB20.out.trans (hb7.mono HB20.out.size))
                  clear hb7 hcv1 hcv2
                  go_wp2_with fail
                  go_roundw
                  case rel => exact ⟨k + 1, D8, L8, gv, fv, BG, false, C, cp, gh2, A9, Ac, A11, c9, cc, c11, HLt.out, by go_num, rfl, rfl, rfl, rfl, rfl, rfl, HDk21.out, HMm21.out, HB21.out⟩
                  case measure => have := HLt.out; simp [intOf]; omega
              · as_aux_lemma =>
                  have HC := hide (fun w' (hb : Below w6.heap.size w6 w') => (HDk6.out.below hb).comF (c := o.rc) hk60 (HT6.out.on hb) (HRc6.out.below hb) h0 hroom)
                  clear hneed
                  generalize groupB (lsOf o.rs) = G at *
                  go_wp2_with fail
                  refine HN.out.mono ?_
                  rintro e w7 ⟨rfl, hb7⟩
                  have HC7 := hide (HC.out w7 hb7)
                  have HDk7 := hide (HDk6.out.below hb7)
                  have HMm7 := hide (HMm6.out.below hb7)
                  have HB7 := hide (HB6.out.trans (hb7.mono HB6.out.size))
                  have HBx7 := hide ((hb7.block _ HLim6.out).trans HBx6.out)
                  clear hb7 HC HN s0 s1 s2 s3 s4 HDk6 HMm6
                  obtain ⟨s0, s1, s2, s3, s4⟩ := opc_cells HBx7.out
                  rw [hk3] at s0
                  have HLim7 := hide (block_lt HBx7.out)
                  go_wp2_with fail
                  refine HC7.out.mono ?_
                  rintro e w8 ⟨rfl, L8, D8, hdk, hlt8⟩
                  have HDk8 := hide hdk
                  have HMm8 := hide (HMm7.out.turn hlt8)
                  have HB8 := hide (HB7.out.trans (hlt8.below HDk7.out.log))
                  have HBx8 := hide ((hlt8.off _ HOff.out HLim7.out).2.trans HBx7.out)
                  clear hdk hlt8 HC7 HDk7 HMm7 s0 s1 s2 s3 s4
                  obtain ⟨s0, s1, s2, s3, s4⟩ := opc_cells HBx8.out
                  rw [hk3] at s0
                  have HRd := hide HDk8.out.read
                  have hf2 : (fv : Int) ≤ 1 := by have := HDk8.out.nums; omega
                  go_wp2_with fail
                  refine HRd.out.mono ?_
                  rintro e w20 ⟨⟨At, ct, rfl, hby⟩, hb6⟩
                  have HDk20 := hide (HDk8.out.below hb6)
                  have HMm20 := hide (HMm8.out.below hb6)
                  have HB20 := hide (HB8.out.trans (hb6.mono HB8.out.size))
                  have hcv1 := conv_bytes At ct B w20 hby
                  have hcv2 := conv_bytes Ab cb B w20 HMm20.out.bv.bytes
                  have HG := hide HDk20.out.qgen
                  have HSi := hide HDk20.out.qsize
                  have HLo := hide HDk20.out.qloose
                  have HSz := hide HDk20.out.qother
                  clear hby hb6 HRd
                  go_wp2_with fail
                  refine HG.out.mono ?_
                  rintro e w21 ⟨rfl, rfl⟩
                  go_wp2_with fail
                  refine HSi.out.mono ?_
                  rintro e w21 ⟨rfl, rfl⟩
                  go_wp2_with fail
                  refine HLo.out.mono ?_
                  rintro e w21 ⟨rfl, rfl⟩
                  go_wp2_with fail
                  refine HSz.out.mono ?_
                  rintro e w21 ⟨rfl, hb7⟩
                  have HDk21 := hide (HDk20.out.below hb7)
                  have HMm21 := hide (HMm20.out.below hb7)
                  have HB21 := hide (HB20.out.trans (hb7.mono HB20.out.size))
                  clear hb7 hcv1 hcv2
                  go_wp2_with fail
                  go_roundw
                  case rel => exact ⟨k + 1, D8, L8, gv, fv, B, lv, C, cp, gh, Ab, Ac, Ah, cb, cc, ch, HLt.out, by go_num, rfl, rfl, rfl, rfl, rfl, rfl, HDk21.out, HMm21.out, HB21.out⟩
                  case measure => have := HLt.out; simp [intOf]; omega
      by_cases hk2 : o.k = 2
      · as_aux_lemma =>
          rw [hk2] at s0
          have HC := hide (HDk5.out.sync hk60)
          go_wp2_with fail
          refine HC.out.mono ?_
          rintro e w6 ⟨rfl, L6, D6, hdk, hlt6⟩
          have HDk6 := hide hdk
          have HMm6 := hide (HMm5.out.turn hlt6)
          have HB6 := hide (HB5.out.trans (hlt6.below HDk5.out.log))
          clear hdk hlt6 HC HDk5 HMm5
          have HRd := hide HDk6.out.read
          have hf2 : (fv : Int) ≤ 1 := by have := HDk6.out.nums; omega
          go_wp2_with fail
          refine HRd.out.mono ?_
          rintro e w20 ⟨⟨At, ct, rfl, hby⟩, hb6⟩
          have HDk20 := hide (HDk6.out.below hb6)
          have HMm20 := hide (HMm6.out.below hb6)
          have HB20 := hide (HB6.out.trans (hb6.mono HB6.out.size))
          have hcv1 := conv_bytes At ct B w20 hby
          have hcv2 := conv_bytes Ab cb B w20 HMm20.out.bv.bytes
          have HG := hide HDk20.out.qgen
          have HSi := hide HDk20.out.qsize
          have HLo := hide HDk20.out.qloose
          have HSz := hide HDk20.out.qother
          clear hby hb6 HRd
          go_wp2_with fail
          refine HG.out.mono ?_
          rintro e w21 ⟨rfl, rfl⟩
          go_wp2_with fail
          refine HSi.out.mono ?_
          rintro e w21 ⟨rfl, rfl⟩
          go_wp2_with fail
          refine HLo.out.mono ?_
          rintro e w21 ⟨rfl, rfl⟩
          go_wp2_with fail
          refine HSz.out.mono ?_
          rintro e w21 ⟨rfl, hb7⟩
          have HDk21 := hide (HDk20.out.below hb7)
          have HMm21 := hide (HMm20.out.below hb7)
          have HB21 := hide (HB20.out.trans (hb7.mono HB20.out.size))
          clear hb7 hcv1 hcv2
          go_wp2_with fail
          go_roundw
          case rel => exact ⟨k + 1, D6, L6, gv, fv, B, false, C, cp, gh, Ab, Ac, Ah, cb, cc, ch, HLt.out, by go_num, rfl, rfl, rfl, rfl, rfl, rfl, HDk21.out, HMm21.out, HB21.out⟩
          case measure => have := HLt.out; simp [intOf]; omega
      by_cases hk4 : o.k = 4
      · as_aux_lemma =>
          rw [hk4] at s0
          have hdl := HOk.out.d
          have HR := hide (refHead_any (gv + 1) o.dA o.dc o.dl w5 ⟨by omega, by omega⟩ HO5.out.d.bytes (by omega))
          unfold OwnRes at HR
          go_wp2_with fail
          refine HR.out.mono ?_
          rintro e w6 ⟨v6, rfl, hr6, hb6⟩
          obtain ⟨A6, c6, rfl, hby6, hn6, hl6, hm6⟩ := own_bytes HDk5.out hr6
          have HBy6 := hide hby6
          have HDk6 := hide (HDk5.out.below hb6)
          have HMm6 := hide (HMm5.out.below hb6)
          have HB6 := hide (HB5.out.trans (hb6.mono HB5.out.size))
          have HT6 := hide (HT.out.on HB6.out)
          have HBx6 := hide ((hb6.block _ HLim.out).trans HBx5.out)
          have HOd6 := hide (HO5.out.d.below hb6)
          have HLim6 := hide (Nat.lt_of_lt_of_le HLim.out hb6.size)
          clear hr6 hb6 hby6 HR s0 s1 s2 s3 s4 HDk5 HMm5
          obtain ⟨s0, s1, s2, s3, s4⟩ := opc_cells HBx6.out
          rw [hk4] at s0
          by_cases hroom : (B.length : Int) + (headB (gv + 1) o.dl).length ≤ C
          · as_aux_lemma =>
              have HC := hide (HDk6.out.compY (c := o.dc) hk60 HT6.out hgt HOd6.out hdl hroom)
              generalize headB (gv + 1) o.dl = Hd at *
              go_wp2_with fail
              refine HC.out.mono ?_
              rintro e w7 ⟨rfl, L7, D7, hdk, hlt7⟩
              have HDk7 := hide hdk
              have HB7 := hide (HB6.out.trans (hlt7.below HDk6.out.log))
              have HBx7 := hide ((hlt7.off _ HOff.out HLim6.out).2.trans HBx6.out)
              have HBy7 := hide (HBy6.out.turn hlt7)
              have HOd7 := hide (HOd6.out.keep (Q := fun b => b < w.heap.size) hlt7.size fun c hc hlt => ⟨hc, (hlt7.off c (HDk6.out.log.off_old hc) hlt).2⟩)
              clear hdk hlt7 HC HDk6 HMm6 s0 s1 s2 s3 s4
              obtain ⟨s0, s1, s2, s3, s4⟩ := opc_cells HBx7.out
              have HLim7 := hide (block_lt HBx7.out)
              have hb8 := (Below.refl w7.heap.size w7).alloc (Nat.le_refl _) (.cells #[] 5)
              have t2 := (hb8.cell (p := ⟨wr.heap.size, 2, none⟩) HLim7.out).trans s2
              have hown : (w7.alloc (.cells #[] 5)).ownsRow w7.heap.size 5 1 (.slice (some ⟨w7.heap.size, 0, none⟩) 0 0) 0 (byC []) := ⟨rfl, .inr ⟨w7.heap.size, 0, #[], rfl, Nat.le_refl _, heap_alloc_new w7 _, Nat.le_refl _, by unfold maxLen; omega, rfl, rfl⟩⟩
              have hda := (HOd7.out.below hb8).bytes
              have hdn := HWo.out.dn
              clear s0 s1 s2 s3 s4
              go_wp2_with (at_builtin; go_must (refine append_bytes rfl _ _ rfl w7.heap.size _ [] o.dl 0 rfl hown _ o.dA o.dl.length o.dc rfl rfl hda hdn (by omega) (by simp) ?_))
              intro v9 w9 hr9 hg9 _
              have hb9 : Below w7.heap.size w7 w9 := hb8.grown hg9 (by simp) (fun j hj => (hown.lt j hj).1)
              obtain ⟨A9, c9, rfl, hby9, hn9, -, -⟩ := own_bytes HDk7.out (l := o.dl) hr9
              have HDk9 := hide (show Dk w w9 h g (k + 1) L7 D7 (gv + 1) (1 - fv) Hd false C o.dl (gsOf []) from HDk7.out.below hb9)
              have HMm9 := hide (show Mm w w9 h g D7 Hd o.dl [] A6 c6 A9 c9 none 0 from ⟨HBy7.out.below hb9, hn6, hl6, hm6, hby9, hn9, World.ownsRow_nil _ _ _ _, fun b e => (by cases e), fun j hj => absurd hj (Nat.not_lt_zero j), fun b hb => HDk7.out.log.off_old hb, (HB7.out.trans (hb9.mono HB7.out.size)).size, fun _ a _ x => (by cases x), fun _ a _ x => (by cases x)⟩)
              have HB9 := hide (HB7.out.trans (hb9.mono HB7.out.size))
              clear hb8 t2 hown hda hdn hr9 hg9 hb9 hby9 HDk7
              have hff : (1 : Int) - (fv : Int) = ((1 - fv : Nat) : Int) := by omega
              rw [hff]
              clear hff
              generalize 1 - fv = f2 at *
              have HRd := hide HDk9.out.read
              have hf2 : (f2 : Int) ≤ 1 := by have := HDk9.out.nums; omega
              go_wp2_with fail
              refine HRd.out.mono ?_
              rintro e w20 ⟨⟨At, ct, rfl, hby⟩, hb6⟩
              have HDk20 := hide (HDk9.out.below hb6)
              have HMm20 := hide (HMm9.out.below hb6)
              have HB20 := hide (HB9.out.trans (hb6.mono HB9.out.size))
              have hcv1 := conv_bytes At ct Hd w20 hby
              have hcv2 := conv_bytes A6 c6 Hd w20 HMm20.out.bv.bytes
              have HG := hide HDk20.out.qgen
              have HSi := hide HDk20.out.qsize
              have HLo := hide HDk20.out.qloose
              have HSz := hide HDk20.out.qother
              clear hby hb6 HRd
              go_wp2_with fail
              refine HG.out.mono ?_
              rintro e w21 ⟨rfl, rfl⟩
              go_wp2_with fail
              refine HSi.out.mono ?_
              rintro e w21 ⟨rfl, rfl⟩
              go_wp2_with fail
              refine HLo.out.mono ?_
              rintro e w21 ⟨rfl, rfl⟩
              go_wp2_with fail
              refine HSz.out.mono ?_
              rintro e w21 ⟨rfl, hb7⟩
              have HDk21 := hide (HDk20.out.below hb7)
              have HMm21 := hide (HMm20.out.below hb7)
              have HB21 := hide (HB20.out.trans (hb7.mono HB20.out.size))
              clear hb7 hcv1 hcv2
              go_wp2_with fail
              go_roundw
              case rel => exact ⟨k + 1, D7, L7, gv + 1, f2, Hd, false, C, o.dl, [], A6, A9, none, c6, c9, 0, HLt.out, by go_num, rfl, rfl, rfl, rfl, rfl, rfl, HDk21.out, HMm21.out, HB21.out⟩
              case measure => have := HLt.out; simp [intOf]; omega
          · as_aux_lemma =>
              have HC := hide (HDk6.out.compF (c := o.dc) hk60 HT6.out hgt HOd6.out hdl hroom)
              generalize headB (gv + 1) o.dl = Hd at *
              go_wp2_with fail
              refine HC.out.mono ?_
              rintro e w7 ⟨rfl, L7, D7, hdk, hlt7⟩
              have HDk7 := hide hdk
              have HMm7 := hide (HMm6.out.turn hlt7)
              have HB7 := hide (HB6.out.trans (hlt7.below HDk6.out.log))
              clear hdk hlt7 HC HDk6 HMm6 HBy6
              have HRd := hide HDk7.out.read
              have hf2 : (fv : Int) ≤ 1 := by have := HDk7.out.nums; omega
              go_wp2_with fail
              refine HRd.out.mono ?_
              rintro e w20 ⟨⟨At, ct, rfl, hby⟩, hb6⟩
              have HDk20 := hide (HDk7.out.below hb6)
              have HMm20 := hide (HMm7.out.below hb6)
              have HB20 := hide (HB7.out.trans (hb6.mono HB7.out.size))
              have hcv1 := conv_bytes At ct B w20 hby
              have hcv2 := conv_bytes Ab cb B w20 HMm20.out.bv.bytes
              have HG := hide HDk20.out.qgen
              have HSi := hide HDk20.out.qsize
              have HLo := hide HDk20.out.qloose
              have HSz := hide HDk20.out.qother
              clear hby hb6 HRd
              go_wp2_with fail
              refine HG.out.mono ?_
              rintro e w21 ⟨rfl, rfl⟩
              go_wp2_with fail
              refine HSi.out.mono ?_
              rintro e w21 ⟨rfl, rfl⟩
              go_wp2_with fail
              refine HLo.out.mono ?_
              rintro e w21 ⟨rfl, rfl⟩
              go_wp2_with fail
              refine HSz.out.mono ?_
              rintro e w21 ⟨rfl, hb7⟩
              have HDk21 := hide (HDk20.out.below hb7)
              have HMm21 := hide (HMm20.out.below hb7)
              have HB21 := hide (HB20.out.trans (hb7.mono HB20.out.size))
              clear hb7 hcv1 hcv2
              go_wp2_with fail
              go_roundw
              case rel => exact ⟨k + 1, D7, L7, gv, fv, B, lv, C, cp, gh, Ab, Ac, Ah, cb, cc, ch, HLt.out, by go_num, rfl, rfl, rfl, rfl, rfl, rfl, HDk21.out, HMm21.out, HB21.out⟩
              case measure => have := HLt.out; simp [intOf]; omega
      by_cases hk7 : o.k = 7
      · as_aux_lemma =>
          rw [hk7] at s0
          have HC := hide (HDk5.out.limit o.n)
          go_wp2_with fail
          refine HC.out.mono ?_
          rintro e w6 ⟨rfl, L6, D6, C6, hdk, hlt6⟩
          have HDk6 := hide hdk
          have HMm6 := hide (HMm5.out.turn hlt6)
          have HB6 := hide (HB5.out.trans (hlt6.below HDk5.out.log))
          clear hdk hlt6 HC HDk5 HMm5
          have HRd := hide HDk6.out.read
          have hf2 : (fv : Int) ≤ 1 := by have := HDk6.out.nums; omega
          go_wp2_with fail
          refine HRd.out.mono ?_
          rintro e w20 ⟨⟨At, ct, rfl, hby⟩, hb6⟩
          have HDk20 := hide (HDk6.out.below hb6)
          have HMm20 := hide (HMm6.out.below hb6)
          have HB20 := hide (HB6.out.trans (hb6.mono HB6.out.size))
          have hcv1 := conv_bytes At ct B w20 hby
          have hcv2 := conv_bytes Ab cb B w20 HMm20.out.bv.bytes
          have HG := hide HDk20.out.qgen
          have HSi := hide HDk20.out.qsize
          have HLo := hide HDk20.out.qloose
          have HSz := hide HDk20.out.qother
          clear hby hb6 HRd
          go_wp2_with fail
          refine HG.out.mono ?_
          rintro e w21 ⟨rfl, rfl⟩
          go_wp2_with fail
          refine HSi.out.mono ?_
          rintro e w21 ⟨rfl, rfl⟩
          go_wp2_with fail
          refine HLo.out.mono ?_
          rintro e w21 ⟨rfl, rfl⟩
          go_wp2_with fail
          refine HSz.out.mono ?_
          rintro e w21 ⟨rfl, hb7⟩
          have HDk21 := hide (HDk20.out.below hb7)
          have HMm21 := hide (HMm20.out.below hb7)
          have HB21 := hide (HB20.out.trans (hb7.mono HB20.out.size))
          clear hb7 hcv1 hcv2
          go_wp2_with fail
          go_roundw
          case rel => exact ⟨k + 1, D6, L6, gv, fv, B, lv, C6, cp, gh, Ab, Ac, Ah, cb, cc, ch, HLt.out, by go_num, rfl, rfl, rfl, rfl, rfl, rfl, HDk21.out, HMm21.out, HB21.out⟩
          case measure => have := HLt.out; simp [intOf]; omega
      have e1 : (o.k == 1) = false := by rw [beq_eq_false_iff_ne]; exact hk1
      have e2 : (o.k == 2) = false := by rw [beq_eq_false_iff_ne]; exact hk2
      have e3 : (o.k == 3) = false := by rw [beq_eq_false_iff_ne]; exact hk3
      have e4 : (o.k == 4) = false := by rw [beq_eq_false_iff_ne]; exact hk4
      have e7 : (o.k == 7) = false := by rw [beq_eq_false_iff_ne]; exact hk7
      have HDk6 := hide HDk5.out.more
      have HMm6 := HMm5
      have HB6 := HB5
      have HRd := hide HDk6.out.read
      have hf2 : (fv : Int) ≤ 1 := by have := HDk6.out.nums; omega
      go_wp2_with fail
      refine HRd.out.mono ?_
      rintro e w20 ⟨⟨At, ct, rfl, hby⟩, hb6⟩
      have HDk20 := hide (HDk6.out.below hb6)
      have HMm20 := hide (HMm6.out.below hb6)
      have HB20 := hide (HB6.out.trans (hb6.mono HB6.out.size))
      have hcv1 := conv_bytes At ct B w20 hby
      have hcv2 := conv_bytes Ab cb B w20 HMm20.out.bv.bytes
      have HG := hide HDk20.out.qgen
      have HSi := hide HDk20.out.qsize
      have HLo := hide HDk20.out.qloose
      have HSz := hide HDk20.out.qother
      clear hby hb6 HRd
      go_wp2_with fail
      refine HG.out.mono ?_
      rintro e w21 ⟨rfl, rfl⟩
      go_wp2_with fail
      refine HSi.out.mono ?_
      rintro e w21 ⟨rfl, rfl⟩
      go_wp2_with fail
      refine HLo.out.mono ?_
      rintro e w21 ⟨rfl, rfl⟩
      go_wp2_with fail
      refine HSz.out.mono ?_
      rintro e w21 ⟨rfl, hb7⟩
      have HDk21 := hide (HDk20.out.below hb7)
      have HMm21 := hide (HMm20.out.below hb7)
      have HB21 := hide (HB20.out.trans (hb7.mono HB20.out.size))
      clear hb7 hcv1 hcv2
      go_wp2_with fail
      go_roundw
      case rel => exact ⟨k + 1, D, L, gv, fv, B, lv, C, cp, gh, Ab, Ac, Ah, cb, cc, ch, HLt.out, by go_num, rfl, rfl, rfl, rfl, rfl, rfl, HDk21.out, HMm21.out, HB21.out⟩
      case measure => have := HLt.out; simp [intOf]; omega
    · as_aux_lemma =>
        have HPl := hide hDk
        obtain ⟨m1, m2, m3⟩ := hDk.pl.again (by omega)
        have HM := hide (And.intro m1 (And.intro m2 m3))
        have HO := hide (open_any wr hDk.log.disk hDk.pl.ls.cm.ok (by have := hDk.pl.d; omega) (HT.out.on hbr) hgt)
        unfold OpenRes at HO
        have HDn := hide hDk.pl.ls.cm.down
        have HCk := hide hMm.ck
        have HGk := hide hMm.hv
        have HBw := hide hbr
        have HLg := hide hDk.log
        have HGl := hide (show gh.length ≤ maxLen by have := hDk.pl.gl; rw [gsOf_len] at this; unfold maxLen; omega)
        clear hDk hMm hbr m1 m2 m3
        go_wp2_with fail
        refine HO.out.mono ?_
        rintro e w7 hc
        rcases hc with ⟨hdn, -⟩ | ⟨-, -, hc⟩
        · as_aux_lemma =>
            exact absurd hdn (by rw [HDn.out]; decide)
        rcases hc with ⟨hne, -⟩ | ⟨-, h7, A7, c7, B7, d7, gs7, D7, rfl, hh7, hp7, hL7, ht7, hgs7, hcp7, hgr7, nA7, nB7, m7⟩
        · as_aux_lemma =>
            exact absurd HM.out.1 hne
        rw [HM.out.2.2] at hgs7
        rw [HM.out.2.1] at hcp7 ⊢
        have HB7 := hide (HBw.out.trans (ht7.below HLg.out.disk))
        have hal7 := (Below.refl w7.heap.size w7).alloc (Nat.le_refl _) (.cells #[.slice A7 cp.length c7, .slice B7 gs7.length d7] 31)
        have hx7 := heap_alloc_new w7 (.cells #[.slice A7 cp.length c7, .slice B7 gs7.length d7] 31)
        obtain ⟨w8, hw8⟩ : ∃ w8, w8 = w7.alloc (.cells #[.slice A7 cp.length c7, .slice B7 gs7.length d7] 31) := ⟨_, rfl⟩
        have HW8 := hide hw8
        rw [← hw8] at hal7 hx7
        obtain ⟨⟨r0, r1⟩, -, hl7⟩ := found_cells hx7
        have HB8 := hide (HB7.out.trans (hal7.mono HB7.out.size))
        have hcv1 := conv_bytes A7 c7 cp w8 (hcp7.below hal7).bytes
        have hcv2 := conv_bytes Ac cc cp w8 ((HCk.out.keep (Q := fun _ => True) ht7.size fun b ho hb => ⟨trivial, ht7.block b hb ho.2.1 ho.2.2⟩).below hal7).bytes
        have HGr := hide (groups_any B7 Ah d7 ch gs7 gh w8 (hgr7.below hal7) ((HGk.out.keep (Q := fun _ => True) ht7.size fun b ho hb => ⟨trivial, ht7.block b hb ho.2.1 ho.2.2⟩).below hal7) (Nat.le_trans m7.1 m7.2))
        rw [show decide (gsOf gs7 = gsOf gh) = true by rw [hgs7]; exact decide_eq_true rfl] at HGr
        clear hh7 hp7 hL7 ht7 hgs7 hcp7 hgr7 nA7 nB7 m7 HO hal7 hx7 HW8
        subst hw8
        go_wp2_with fail
        refine HGr.out.mono ?_
        rintro e w9 ⟨rfl, hb9⟩
        have HB9 := hide (HB8.out.trans (hb9.mono HB8.out.size))
        clear hb9
        go_wp2_with fail
        refine (HAw.out w9 HB9.out).mono ?_
        rintro e wz ⟨rfl, hbz⟩
        go_wp2_with fail
        go_ret
        exact ⟨rfl, hbz⟩
end Go.Proofs.YtkdihekhdnnheaaDoor
