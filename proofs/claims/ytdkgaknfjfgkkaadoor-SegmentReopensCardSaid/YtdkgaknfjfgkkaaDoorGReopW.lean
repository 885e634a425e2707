/-
  The walk of SegmentReopens.
-/
import Derived.Test.YtdkgaknfjfgkkaaDoorGLoop
namespace Go.Proofs.YtdkgaknfjfgkkaaDoor
open Go.RowKit

/-- What the arms' loop keeps. -/
def Again (W wr : World) (g : Nat) (k : Nat) (f : Nat) (gen : Int) (cp : List UInt8) (B : Nat) (A : Option Addr) (c : Nat) (A2 : Option Addr) (c2 : Nat) (gs : List GH) : Prop :=
  ∃ D : DS, DiskAt W.heap.size g wr D ∧ One D.p f gen cp (gsOf gs) ∧ Cm D.p ∧ D.p.done ≤ 1000 + 10 * k ∧ FoundAt g D wr B A c A2 c2 cp gs ∧ Below W.heap.size W wr
set_option maxHeartbeats 25600000 in
set_option maxRecDepth 100000 in
theorem segmentReopens_walk (A : Option Addr) (cap : Nat) (l : List OpS) (Aa : Option Addr) (ca : Nat) (ns : List Int) (Ak : Option Addr) (ck : Nat) (ks : List Int) (w : World)
    (hl : OpsIn (fun b => b < w.heap.size) w A l) (wl : WfSs l) (ha : IntsIn (fun b => b < w.heap.size) w Aa ns) (wa : WfN ns) (hk : IntsIn (fun b => b < w.heap.size) w Ak ks) (wk : WfN ks) (hT : Tab w) :
    Calls Tryd.prog 6 #[.slice A l.length cap, .slice Aa ns.length ca, .slice Ak ks.length ck] w fun e w' => e = .returned (.bool true) ∧ Below w.heap.size w w' := by
  have hgt : 0 < w.heap.size := hT.lt
  have HT := hide hT
  have HL := hide hl
  have HA := hide ha
  have HK := hide hk
  have HWl := hide wl
  have HWa := hide wa
  have HWk := hide wk
  have hll := wl.1
  have hal := wa.1
  have hkl := wk.1
  unfold maxLen at hll hal hkl
  have HN := hide (new_yes 1048576 w rfl)
  have HSm := hide (fun w' (hb : Below w.heap.size w w') => small_any A cap l 30 w' (hl.below (fun b h => h) hb) wl)
  have HAw := hide (fun w' (hb : Below w.heap.size w w') => (awake_any w' (hT.on hb) (Nat.lt_of_lt_of_le hgt hb.size)).mono fun e w2 h => (⟨h.1, hb.trans (h.2.mono hb.size)⟩ : e = .returned (.bool true) ∧ Below w.heap.size w w2))
  clear hT hl ha hk wl wa wk
  go_enter Tryd.func6, Tryd.ntmps6
  go_wp2_with fail
  refine HN.out.mono ?_
  rintro e w1 ⟨⟨g, rfl, hD1⟩, hb1⟩
  have HB1 := hide hb1
  have HD1 := hide hD1
  have HS1 := hide (HSm.out w1 hb1)
  clear hb1 hD1 HN
  by_cases hsm : smallS l 30 = true
  · rw [hsm] at HS1
    have HSa := hide (smallS_at hsm)
    clear hsm
    by_cases h8 : ns.length ≤ 8
    · have h8i : ¬ (8 : Int) < (ns.length : Int) := by omega
      by_cases h20 : ks.length ≤ 20
      · have h20i : ¬ (20 : Int) < (ks.length : Int) := by omega
        go_wp2_with fail
        refine HS1.out.mono ?_
        rintro e w2 ⟨rfl, hb2⟩
        have HB2 := hide (HB1.out.trans (hb2.mono HB1.out.size))
        have hD2 := HD1.out.below hb2
        have HD2 := hide hD2
        have HO2 := hide (open_any w2 hD2 (new_ok (cap := 1048576) rfl) (by show (0 : Int) ≤ _; decide) (HT.out.on HB2.out) hgt)
        unfold OpenRes at HO2
        clear hb2 hD2 HS1
        go_wp2_with fail
        refine HO2.out.mono ?_
        rintro e w3 hc
        rcases hc with ⟨hdn, -⟩ | ⟨-, -, hc⟩
        · exact absurd (show (newP 1048576).down = true from hdn) (by decide)
        rcases hc with ⟨hne, -⟩ | ⟨-, h, A3, c3, B3, d3, gs3, D3, rfl, hh3, hp3, hL3, ht3, hgs3, hcp3, hgr3, -, -, -⟩
        · exact absurd calmly_new.1 hne
        have HCa := hide (show Calmly 0 D3.p (openR (newP 1048576)).2.2 [] [] by rw [hp3]; exact calmly_new.2)
        have HL3 := hide (show LogAt w.heap.size h g w3 (openR (newP 1048576)).2.2 D3 from hL3)
        have HB3 := hide (HB2.out.trans (ht3.below HD2.out))
        generalize (openR (newP 1048576)).2.2 = L3 at HCa HL3
        generalize (openS (newD 1048576).p).cp.length = n3 at *
        clear hh3 hp3 hL3 ht3 hgs3 hcp3 hgr3 HO2 HD1 HD2
        have HB3b := hide (HB3.out.alloc HB3.out.size (.cells #[.slice A3 n3 c3, .slice B3 gs3.length d3] 34))
        have HL3b := hide (HL3.out.below ((Below.refl _ _).alloc (Nat.le_refl _) (.cells #[.slice A3 n3 c3, .slice B3 gs3.length d3] 34)))
        go_wp2_with fail
        go_loopw [55] (fun i wr => ∃ (k : Nat) (D : DS) (L : LV) (cp : List UInt8) (gs : List (List (List UInt8))), k ≤ l.length ∧ i = .int .i64 k ∧ LogAt w.heap.size h g wr L D ∧ Calmly k D.p L cp gs ∧ Below w.heap.size w wr) (fun i _ => l.length - (intOf i).toNat)
        case atStart => exact ⟨0, D3, L3, [], [], Nat.zero_le _, rfl, HL3b.out, HCa.out, HB3b.out⟩
        case round =>
          obtain ⟨k, D, L, cp, gs, hk, rfl, hL, hCm, hbw⟩ := hrel
          have HLg := hide hL
          have HCm := hide hCm
          have HBw := hide hbw
          have hk30 : k ≤ 30 := by have := HSa.out.1; omega
          clear hL hCm hbw HL3 HL3b HCa HB3b
          by_cases hlt : k < l.length
          · obtain ⟨b, off, rfl, hp, hb, hx0⟩ := HL.out k hlt
            have hx : OpIn (fun b => b < w.heap.size) wr b (off + k * 5) (l.getD k dS) := hx0.keep hp hb HBw.out.size fun b h1 h2 => ⟨h1, HBw.out.block b h2⟩
            have HOk := hide (HSa.out.2 k hlt)
            have HLt := hide hlt
            have hs := HBw.out.size
            have hb' : b < wr.heap.size := Nat.lt_of_lt_of_le hb hs
            have HWo := HWl.out.2 k hlt
            have ho1 := HWo.dl
            have ho2 := HWo.rl
            have ho3 := HWo.kl
            unfold maxLen at ho1 ho2 ho3
            generalize l.getD k dS = o at *
            have g0 := hx.c0; have g1 := hx.c1; have g2 := hx.c2; have g3 := hx.c3; have g4 := hx.c4
            clear hx0 hp HWo
            by_cases hk1 : o.k = 1
            · rw [hk1] at g0
              have hb4 := (Below.refl wr.heap.size wr).alloc (Nat.le_refl _) (.cells #[.int .i64 1, .int .i64 o.n, .slice o.dA o.dl.length o.dc, .slice o.rA o.rs.length o.rc, .slice o.kA o.kl.length o.kc] 49)
              have HB4 := hide (HBw.out.trans (hb4.mono HBw.out.size))
              have HL4 := hide (HLg.out.below hb4)
              have HC := hide (logAppend_any o.rA o.rc o.rs (wr.alloc (.cells #[.int .i64 1, .int .i64 o.n, .slice o.dA o.dl.length o.dc, .slice o.rA o.rs.length o.rc, .slice o.kA o.kl.length o.kc] 49)) HL4.out HCm.out.ok (by have := HCm.out.d; omega) (by have h1 := HCm.out.ls.sz; have h2 := HCm.out.n; omega) ((HT.out.on HBw.out).on hb4) (((hx.r).mono fun b hb _ => HLg.out.off_old hb).below hb4) (by have := HOk.out.r; omega) (fun j hj => by have := HOk.out.rr j hj; omega))
              unfold LRes at HC
              obtain ⟨gs5, he0, hc5⟩ := HCm.out.append (by omega) (recOk_of HOk.out)
              have HCm5 := hide hc5
              clear hc5
              rw [he0] at HC
              clear he0 hb4
              go_wp2_with fail
              refine HC.out.mono ?_
              rintro e w5 ⟨rfl, D5, hp5, hL5, ht5⟩
              have HA5 := hide (show LogAt w.heap.size h g w5 (appendR D.p L (lsOf o.rs)).2.2 D5 ∧ Below w.heap.size w w5 from ⟨hL5, HB4.out.trans (ht5.below HL4.out)⟩)
              have HP5 := hide hp5
              clear hp5 hL5 ht5
              go_wp2_with fail
              go_roundw
              case rel => exact ⟨k + 1, D5, _, _, _, HLt.out, by go_num, HA5.out.1, by rw [HP5.out]; exact HCm5.out, HA5.out.2⟩
              case measure => have := HLt.out; simp [intOf]; omega
            by_cases hk3 : o.k = 3
            · rw [hk3] at g0
              have hb4 := (Below.refl wr.heap.size wr).alloc (Nat.le_refl _) (.cells #[.int .i64 3, .int .i64 o.n, .slice o.dA o.dl.length o.dc, .slice o.rA o.rs.length o.rc, .slice o.kA o.kl.length o.kc] 49)
              have HB4 := hide (HBw.out.trans (hb4.mono HBw.out.size))
              have HL4 := hide (HLg.out.below hb4)
              have HC := hide (logCommit_any o.rA o.rc o.rs (wr.alloc (.cells #[.int .i64 3, .int .i64 o.n, .slice o.dA o.dl.length o.dc, .slice o.rA o.rs.length o.rc, .slice o.kA o.kl.length o.kc] 49)) HL4.out HCm.out.ok (by have := HCm.out.d; omega) (by have h1 := HCm.out.ls.sz; have h2 := HCm.out.n; omega) ((HT.out.on HBw.out).on hb4) (((hx.r).mono fun b hb _ => HLg.out.off_old hb).below hb4) (by have := HOk.out.r; omega) (fun j hj => by have := HOk.out.rr j hj; omega))
              unfold LRes at HC
              obtain ⟨gs5, he0, hc5⟩ := HCm.out.commit (by omega) (recOk_of HOk.out)
              have HCm5 := hide hc5
              clear hc5
              rw [he0] at HC
              clear he0 hb4
              go_wp2_with fail
              refine HC.out.mono ?_
              rintro e w5 ⟨rfl, D5, hp5, hL5, ht5⟩
              have HA5 := hide (show LogAt w.heap.size h g w5 (commitR D.p L (lsOf o.rs)).2.2 D5 ∧ Below w.heap.size w w5 from ⟨hL5, HB4.out.trans (ht5.below HL4.out)⟩)
              have HP5 := hide hp5
              clear hp5 hL5 ht5
              go_wp2_with fail
              go_roundw
              case rel => exact ⟨k + 1, D5, _, _, _, HLt.out, by go_num, HA5.out.1, by rw [HP5.out]; exact HCm5.out, HA5.out.2⟩
              case measure => have := HLt.out; simp [intOf]; omega
            by_cases hk4 : o.k = 4
            · rw [hk4] at g0
              have hb4 := (Below.refl wr.heap.size wr).alloc (Nat.le_refl _) (.cells #[.int .i64 4, .int .i64 o.n, .slice o.dA o.dl.length o.dc, .slice o.rA o.rs.length o.rc, .slice o.kA o.kl.length o.kc] 49)
              have HB4 := hide (HBw.out.trans (hb4.mono HBw.out.size))
              have HL4 := hide (HLg.out.below hb4)
              have HC := hide (logCompact_any o.dA o.dc o.dl (wr.alloc (.cells #[.int .i64 4, .int .i64 o.n, .slice o.dA o.dl.length o.dc, .slice o.rA o.rs.length o.rc, .slice o.kA o.kl.length o.kc] 49)) HL4.out HCm.out.ok (by have := HCm.out.d; omega) HCm.out.ls.f ((HT.out.on HBw.out).on hb4) (HLg.out.off_old hgt) (by have := HCm.out.ls.g1; omega) (by have := HCm.out.g2; omega) (((hx.d).mono fun b hb _ => HLg.out.off_old hb).below hb4) (by have := HOk.out.d; omega))
              unfold LRes at HC
              obtain ⟨he0, hc5⟩ := HCm.out.compact (by omega) HOk.out.d
              have HCm5 := hide hc5
              clear hc5
              rw [he0] at HC
              clear he0 hb4
              go_wp2_with fail
              refine HC.out.mono ?_
              rintro e w5 ⟨rfl, D5, hp5, hL5, ht5⟩
              have HA5 := hide (show LogAt w.heap.size h g w5 (compactR D.p L o.dl).2.2 D5 ∧ Below w.heap.size w w5 from ⟨hL5, HB4.out.trans (ht5.below HL4.out)⟩)
              have HP5 := hide hp5
              clear hp5 hL5 ht5
              go_wp2_with fail
              go_roundw
              case rel => exact ⟨k + 1, D5, _, _, _, HLt.out, by go_num, HA5.out.1, by rw [HP5.out]; exact HCm5.out, HA5.out.2⟩
              case measure => have := HLt.out; simp [intOf]; omega
            have e1 : (o.k == 1) = false := by rw [beq_eq_false_iff_ne]; exact hk1
            have e3 : (o.k == 3) = false := by rw [beq_eq_false_iff_ne]; exact hk3
            have e4 : (o.k == 4) = false := by rw [beq_eq_false_iff_ne]; exact hk4
            have hb4 := (Below.refl wr.heap.size wr).alloc (Nat.le_refl _) (.cells (sCells o) 49)
            have HA5 := hide (show LogAt w.heap.size h g _ L D ∧ Below w.heap.size w _ from ⟨HLg.out.below hb4, HBw.out.trans (hb4.mono HBw.out.size)⟩)
            clear hb4 hx hk1 hk3 hk4
            go_wp2_with fail
            go_roundw
            case rel => exact ⟨k + 1, D, L, _, _, HLt.out, by go_num, HA5.out.1, HCm.out.more, HA5.out.2⟩
            case measure => have := HLt.out; simp [intOf]; omega
          · have HSz := hide HLg.out.disk
            have HCr := hide (crash_any Ak ck ks wr HLg.out.disk HCm.out.ok (KeepAt.of_ints HK.out HBw.out HLg.out.disk) (by omega) HWk.out.2)
            obtain ⟨gs', hone, hok6, hdn6, hlf6, hd6⟩ := HCm.out.crash (by omega) ks
            have HOne := hide hone
            have HCm6 := hide (show Cm (crashP D.p ks) from ⟨hok6, hdn6, by rw [hlf6]; decide⟩)
            have HDo6 := hide (show (crashP D.p ks).done ≤ 400 by omega)
            clear hone hok6 hdn6 hlf6 hd6
            go_wp2_with fail
            refine HCr.out.mono ?_
            rintro e w6 ⟨rfl, D6, hp6, hD6, ht6⟩
            have HB6 := hide (HBw.out.trans (ht6.below HSz.out))
            rw [← hp6] at HOne HCm6 HDo6
            have HD6 := hide hD6
            have HO6 := hide (open_any w6 hD6 HCm6.out.ok (by have := HDo6.out; omega) (HT.out.on HB6.out) hgt)
            unfold OpenRes at HO6
            clear hp6 hD6 ht6 HCr
            go_wp2_with fail
            refine HO6.out.mono ?_
            rintro e w7 hc
            rcases hc with ⟨hdn, -⟩ | ⟨-, -, hc⟩
            · exact absurd (HCm6.out.down.symm.trans hdn) (by decide)
            have hz6 := (HOne.out.opens HCm6.out.down).2.2 HCm6.out.left
            rcases hc with ⟨hne, -⟩ | ⟨-, h7, A7, c7, B7, d7, gs7, D7, rfl, hh7, hp7, hL7, ht7, hgs7, hcp7, hgr7, -, -, hgl7⟩
            · exact absurd hz6 hne
            rw [HOne.out.open.2] at hgs7 hcp7
            rw [HOne.out.open.2]
            simp only at hgs7 hcp7 ⊢
            have HOn7 := hide (show One D7.p L.f L.gen cp (gsOf gs7) by rw [hgs7, hp7]; exact (HOne.out.opens HCm6.out.down).2.1)
            have HCm7 := hide (show Cm D7.p by rw [hp7]; exact HOne.out.opens_calm HCm6.out)
            have HDo7 := hide (show D7.p.done ≤ 405 by rw [hp7]; have := (openR_ok HCm6.out.ok).2; have := HDo6.out; omega)
            have HB7 := hide (HB6.out.trans (ht7.below HD6.out))
            obtain ⟨w8, hw8⟩ : ∃ w8, w8 = w7.alloc (.cells #[.slice A7 cp.length c7, .slice B7 gs7.length d7] 34) := ⟨_, rfl⟩
            have hb8 : Below w7.heap.size w7 w8 := by rw [hw8]; exact (Below.refl _ _).alloc (Nat.le_refl _) _
            have hx8 : w8.heap[w7.heap.size]? = some (.cells #[.slice A7 cp.length c7, .slice B7 gs7.length d7] 34 (0, 0)) := by rw [hw8]; exact heap_alloc_new w7 _
            have HWE8 := hide hw8
            have HAg := hide (show Again w w8 g 0 L.f L.gen cp w7.heap.size A7 c7 B7 d7 gs7 from ⟨D7, hL7.disk.below hb8, HOn7.out, HCm7.out, by have := HDo7.out; omega, ⟨hx8, hL7.disk.offD_new (Nat.le_refl _), (hcp7.mono fun b h1 _ => off_offD h1).below hb8, (hgr7.mono fun b h1 _ => off_offD h1).below hb8, hgl7⟩, HB7.out.trans (hb8.mono HB7.out.size)⟩)
            clear hh7 hp7 hL7 ht7 hgs7 hcp7 hgr7 hw8 hb8 hx8 hz6 HO6 HLg HCm HOne HCm6 HD6 HSz HOn7 HCm7 HB7
            generalize L.f = F at *
            generalize L.gen = G at *
            go_wp2_with fail
            go_loopw [93] (fun i wr => ∃ k : Nat, k ≤ ns.length ∧ i = .int .i64 k ∧ Again w wr g k F G cp w7.heap.size A7 c7 B7 d7 gs7) (fun i _ => ns.length - (intOf i).toNat)
            case atStart => rw [← HWE8.out]; exact ⟨0, Nat.zero_le _, rfl, HAg.out⟩
            case round =>
              obtain ⟨k2, hk2, rfl, D8, hD8, hone8, hcm8, hdo8, hfo8, hbw8⟩ := hrel
              have HD8 := hide hD8
              have HOn8 := hide hone8
              have HCm8 := hide hcm8
              have HDo8 := hide hdo8
              have HFo8 := hide hfo8
              have HBw8 := hide hbw8
              clear hD8 hone8 hcm8 hdo8 hfo8 hbw8 HAg HWE8
              by_cases hlt2 : k2 < ns.length
              · have HLt2 := hide hlt2
                obtain ⟨bn, on, hAa, hpn, hbn, hcn⟩ := HA.out k2 hlt2
                subst hAa
                have hcw := (HBw8.out.cell (p := ⟨bn, on + k2, none⟩) hpn).trans hcn
                obtain ⟨hn0, hn1⟩ := HWa.out.2 k2 hlt2
                generalize ns.getD k2 0 = n at *
                have HAr := hide (arm_any n wr HD8.out)
                have HOk9 := hide (arm_ok HCm8.out.ok hn0 hn1)
                have HOn9 := hide (show One ({ D8.p with left := n } : PD) F G cp (gsOf gs7) from HOn8.out.same rfl rfl)
                clear hpn hbn hcn hn0 hn1
                go_wp2_with fail
                refine HAr.out.mono ?_
                rintro e w9 ⟨rfl, D9, hp9, -, hD9, ht9⟩
                have HB9 := hide (HBw8.out.trans (ht9.below HD8.out))
                have HFo9 := hide (HFo8.out.turn ht9)
                rw [← hp9] at HOk9 HOn9
                have HDn9 := hide (show D9.p.down = false by rw [hp9]; exact HCm8.out.down)
                have HDo9 := hide (show D9.p.done ≤ 1000 + 10 * k2 by rw [hp9]; exact HDo8.out)
                have HD9 := hide hD9
                have HO9 := hide (open_any w9 hD9 HOk9.out (by have := HDo9.out; omega) (HT.out.on HB9.out) hgt)
                unfold OpenRes at HO9
                clear hp9 hD9 ht9 HAr hcw
                go_wp2_with fail
                refine HO9.out.mono ?_
                rintro e w10 hc
                rcases hc with ⟨hdn, -⟩ | ⟨-, -, hc⟩
                · exact absurd (HDn9.out.symm.trans hdn) (by decide)
                obtain ⟨hz9, hon10, -⟩ := HOn9.out.opens HDn9.out
                have hok10 := openR_ok HOk9.out
                rcases hc with ⟨hne, rfl, D10, hp10, hD10, ht10⟩ | ⟨hze, h10, A10, c10, B10, d10, gs10, D10, rfl, hh10, hp10, hL10, ht10, hgs10, hcp10, hgr10, -, -, hgl10⟩
                · have he40 : (openR D9.p).1 = 40 := hz9.resolve_left hne
                  rw [he40]
                  have HB10 := hide (HB9.out.trans (ht10.below HD9.out))
                  have HFo10 := hide (HFo9.out.turn ht10)
                  rw [← hp10] at hon10 hok10
                  have HOn10 := hide hon10
                  have HOk10 := hide hok10
                  have hb11 := (Below.refl w10.heap.size w10).alloc (Nat.le_refl _) (.cells #[.slice none 0 0, .slice none 0 0] 34)
                  have HD11 := hide (hD10.below hb11)
                  have HB11 := hide (HB10.out.trans (hb11.mono HB10.out.size))
                  have HFo11 := hide (HFo10.out.turn (Turned.of_below hb11))
                  have HCr := hide (crash_any Ak ck ks _ HD11.out HOk10.out.1 (KeepAt.of_ints HK.out HB11.out HD11.out) (by omega) HWk.out.2)
                  clear he40 hz9 hon10 hok10 hne hp10 hD10 ht10 hb11 HO9
                  go_wp2_with fail
                  refine HCr.out.mono ?_
                  rintro e w12 ⟨rfl, D12, hp12, hD12, ht12⟩
                  have HF := hide (show Again w w12 g (k2 + 1) F G cp w7.heap.size A7 c7 B7 d7 gs7 from ⟨D12, hD12, by rw [hp12]; exact HOn10.out.crash HOk10.out.1 ks, by rw [hp12]; exact One.crash_calm HOk10.out.1 ks, by rw [hp12]; have h1 := HOk10.out.2; have h2 := HDo9.out; have h3 := (crash_done D10.p ks).1; omega, HFo11.out.turn ht12, HB11.out.trans (ht12.below HD11.out)⟩)
                  clear hp12 hD12 ht12
                  go_wp2_with fail
                  go_roundw
                  case rel => exact ⟨k2 + 1, HLt2.out, by go_num, HF.out⟩
                  case measure => have := HLt2.out; simp [intOf]; omega
                · have HB10 := hide (HB9.out.trans (ht10.below HD9.out))
                  have HFo10 := hide (HFo9.out.turn ht10)
                  rw [HOn9.out.open.2] at hgs10 hcp10
                  rw [HOn9.out.open.2]
                  simp only at hgs10 hcp10 ⊢
                  rw [← hp10] at hon10 hok10
                  have HOn10 := hide hon10
                  have HOk10 := hide hok10
                  obtain ⟨w11, hw11⟩ : ∃ w11, w11 = w10.alloc (.cells #[.slice A10 cp.length c10, .slice B10 gs10.length d10] 34) := ⟨_, rfl⟩
                  have hb11 : Below w10.heap.size w10 w11 := by rw [hw11]; exact (Below.refl _ _).alloc (Nat.le_refl _) _
                  have hx11 : w11.heap[w10.heap.size]? = some (.cells #[.slice A10 cp.length c10, .slice B10 gs10.length d10] 34 (0, 0)) := by rw [hw11]; exact heap_alloc_new w10 _
                  have HWE11 := hide hw11
                  have HD11 := hide (hL10.disk.below hb11)
                  have HB11 := hide (HB10.out.trans (hb11.mono HB10.out.size))
                  have HFo11 := hide (HFo10.out.turn (Turned.of_below hb11))
                  obtain ⟨⟨s0, s1⟩, -, hlt11⟩ := found_cells hx11
                  obtain ⟨⟨t0, t1⟩, -, hlt7⟩ := found_cells HFo11.out.box
                  have hcv1 := conv_bytes A10 c10 cp w11 ((hcp10.below hb11).bytes)
                  have hcv2 := conv_bytes A7 c7 cp w11 HFo11.out.b.bytes
                  have HG := hide (groups_any B10 B7 d10 d7 gs10 gs7 w11 (hgr10.below hb11) HFo11.out.g hgl10)
                  rw [decide_eq_true hgs10] at HG
                  clear hz9 hon10 hok10 hze hh10 hp10 hL10 ht10 hgs10 hcp10 hgr10 hgl10 hw11 hb11 hx11 HO9
                  go_wp2_with (first | (guard_target =~ wpList _ _ _ (Oper.mk _ (Op.fieldAddr _ _ _) _ _ _ _ :: _) _ _; rw [← HWE11.out]) | fail)
                  refine HG.out.mono ?_
                  rintro e w12 ⟨rfl, hb12⟩
                  have HD12 := hide (HD11.out.below hb12)
                  have HB12 := hide (HB11.out.trans (hb12.mono HB11.out.size))
                  have HFo12 := hide (HFo11.out.turn (Turned.of_below hb12))
                  have HCr := hide (crash_any Ak ck ks w12 HD12.out HOk10.out.1 (KeepAt.of_ints HK.out HB12.out HD12.out) (by omega) HWk.out.2)
                  clear hb12 s0 s1 t0 t1 hcv1 hcv2 HG
                  go_wp2_with fail
                  refine HCr.out.mono ?_
                  rintro e w13 ⟨rfl, D13, hp13, hD13, ht13⟩
                  have HF := hide (show Again w w13 g (k2 + 1) F G cp w7.heap.size A7 c7 B7 d7 gs7 from ⟨D13, hD13, by rw [hp13]; exact HOn10.out.crash HOk10.out.1 ks, by rw [hp13]; exact One.crash_calm HOk10.out.1 ks, by rw [hp13]; have h1 := HOk10.out.2; have h2 := HDo9.out; have h3 := (crash_done D10.p ks).1; omega, HFo12.out.turn ht13, HB12.out.trans (ht13.below HD12.out)⟩)
                  clear hp13 hD13 ht13
                  go_wp2_with fail
                  go_roundw
                  case rel => exact ⟨k2 + 1, HLt2.out, by go_num, HF.out⟩
                  case measure => have := HLt2.out; simp [intOf]; omega
              · have HO9 := hide (open_any wr HD8.out HCm8.out.ok (by have := HDo8.out; omega) (HT.out.on HBw8.out) hgt)
                unfold OpenRes at HO9
                go_wp2_with fail
                refine HO9.out.mono ?_
                rintro e w10 hc
                rcases hc with ⟨hdn, -⟩ | ⟨-, -, hc⟩
                · exact absurd (HCm8.out.down.symm.trans hdn) (by decide)
                have hz9 := (HOn8.out.opens HCm8.out.down).2.2 HCm8.out.left
                rcases hc with ⟨hne, -⟩ | ⟨hze, h10, A10, c10, B10, d10, gs10, D10, rfl, hh10, hp10, hL10, ht10, hgs10, hcp10, hgr10, -, -, hgl10⟩
                · exact absurd hz9 hne
                have HB10 := hide (HBw8.out.trans (ht10.below HD8.out))
                have HFo10 := hide (HFo8.out.turn ht10)
                rw [HOn8.out.open.2] at hgs10 hcp10
                rw [HOn8.out.open.2]
                simp only at hgs10 hcp10 ⊢
                obtain ⟨w11, hw11⟩ : ∃ w11, w11 = w10.alloc (.cells #[.slice A10 cp.length c10, .slice B10 gs10.length d10] 34) := ⟨_, rfl⟩
                have hb11 : Below w10.heap.size w10 w11 := by rw [hw11]; exact (Below.refl _ _).alloc (Nat.le_refl _) _
                have hx11 : w11.heap[w10.heap.size]? = some (.cells #[.slice A10 cp.length c10, .slice B10 gs10.length d10] 34 (0, 0)) := by rw [hw11]; exact heap_alloc_new w10 _
                have HWE11 := hide hw11
                have HB11 := hide (HB10.out.trans (hb11.mono HB10.out.size))
                have HFo11 := hide (HFo10.out.turn (Turned.of_below hb11))
                obtain ⟨⟨s0, s1⟩, -, hlt11⟩ := found_cells hx11
                obtain ⟨⟨t0, t1⟩, -, hlt7⟩ := found_cells HFo11.out.box
                have hcv1 := conv_bytes A10 c10 cp w11 ((hcp10.below hb11).bytes)
                have hcv2 := conv_bytes A7 c7 cp w11 HFo11.out.b.bytes
                have HG := hide (groups_any B10 B7 d10 d7 gs10 gs7 w11 (hgr10.below hb11) HFo11.out.g hgl10)
                rw [decide_eq_true hgs10] at HG
                clear hz9 hze hh10 hp10 hL10 ht10 hgs10 hcp10 hgr10 hgl10 hw11 hb11 hx11 HO9
                go_wp2_with (first | (guard_target =~ wpList _ _ _ (Oper.mk _ (Op.fieldAddr _ _ _) _ _ _ _ :: _) _ _; rw [← HWE11.out]) | fail)
                refine HG.out.mono ?_
                rintro e w12 ⟨rfl, hb12⟩
                have HB12 := hide (HB11.out.trans (hb12.mono HB11.out.size))
                have HAw2 := hide (HAw.out w12 HB12.out)
                clear hb12 s0 s1 t0 t1 hcv1 hcv2 HG
                go_wp2_with fail
                refine HAw2.out.mono ?_
                rintro e w13 ⟨rfl, hb13⟩
                have HB13 := hide hb13
                clear hb13
                go_wp2_with fail
                go_ret
                exact ⟨rfl, HB13.out⟩
      · have h20i : (20 : Int) < (ks.length : Int) := by omega
        go_wp2_with fail
        refine HS1.out.mono ?_
        rintro e w2 ⟨rfl, hb2⟩
        have HAw2 := hide (HAw.out w2 (HB1.out.trans (hb2.mono HB1.out.size)))
        clear hb2
        go_wp2_with fail
        refine HAw2.out.mono ?_
        rintro e w13 ⟨rfl, hb13⟩
        have HB13 := hide hb13
        clear hb13
        go_wp2_with fail
        go_ret
        exact ⟨rfl, HB13.out⟩
    · have h8i : (8 : Int) < (ns.length : Int) := by omega
      go_wp2_with fail
      refine HS1.out.mono ?_
      rintro e w2 ⟨rfl, hb2⟩
      have HAw2 := hide (HAw.out w2 (HB1.out.trans (hb2.mono HB1.out.size)))
      clear hb2
      go_wp2_with fail
      refine HAw2.out.mono ?_
      rintro e w13 ⟨rfl, hb13⟩
      have HB13 := hide hb13
      clear hb13
      go_wp2_with fail
      go_ret
      exact ⟨rfl, HB13.out⟩
  · rw [show smallS l 30 = false by simpa using hsm] at HS1
    clear hsm
    go_wp2_with fail
    refine HS1.out.mono ?_
    rintro e w2 ⟨rfl, hb2⟩
    have HAw2 := hide (HAw.out w2 (HB1.out.trans (hb2.mono HB1.out.size)))
    clear hb2
    go_wp2_with fail
    refine HAw2.out.mono ?_
    rintro e w13 ⟨rfl, hb13⟩
    have HB13 := hide hb13
    clear hb13
    go_wp2_with fail
    go_ret
    exact ⟨rfl, HB13.out⟩
end Go.Proofs.YtdkgaknfjfgkkaaDoor
