/-
  The walk of SegmentCrashes.
-/
import Derived.Test.YtkdebebpnkjmdaaDoorMD
import Derived.Lib.QuietBelow
import Derived.BigQuiet
namespace Go.Proofs.YtkdebebpnkjmdaaDoor
open Go.RowKit

/-- What the script's loop keeps, of the disk. -/
def Kept (k : Nat) (dn : Bool) (p : PD) (L : LV) (f : Nat) (gen : Int) (cp : List UInt8) (gs : List (List (List UInt8))) (u : Nat) (ot : Option (List UInt8)) : Prop :=
  Cr (2 * k) p f gen cp gs u ot ∧ ((dn = false ∧ ot = none ∧ Lv p L f gen) ∨ (dn = true ∧ Gone p L))
theorem cat_few : ∀ gs : List (List (List UInt8)), gs.length ≤ (catG gs).length
  | [] => Nat.zero_le _
  | g :: gs => by
    have h1 := cat_few gs
    have h2 := (frameB_bd (groupC g)).1
    have e : catG (g :: gs) = frameB (groupC g) ++ catG gs := rfl
    rw [e, List.length_append, List.length_cons]; omega
theorem groups_few {k : Nat} {p : PD} {f : Nat} {gen : Int} {cp : List UInt8} {gs : List GH} {u : Nat} {ot : Option (List UInt8)} (h : Cr k p f gen cp (gsOf gs) u ot) (hk : k ≤ 100) : gs.length ≤ 1000000 := by
  have h1 := h.n
  rw [h.x, List.length_append] at h1
  have h2 := cat_few (gsOf gs)
  rw [gsOf_len] at h2
  omega
theorem opbox_cells {wk : World} {R : Nat} {a b c d e : Value} (h : wk.heap[R]? = some (.cells #[a, b, c, d, e] 49 (0, 0))) :
    wk.cell? ⟨R, 0, none⟩ = some a ∧ wk.cell? ⟨R, 1, none⟩ = some b ∧ wk.cell? ⟨R, 2, none⟩ = some c ∧ wk.cell? ⟨R, 3, none⟩ = some d ∧ wk.cell? ⟨R, 4, none⟩ = some e :=
  ⟨Lib.cell_of_heap h 0, Lib.cell_of_heap h 1, Lib.cell_of_heap h 2, Lib.cell_of_heap h 3, Lib.cell_of_heap h 4⟩
theorem Kept.more {k : Nat} {dn : Bool} {p : PD} {L : LV} {f : Nat} {gen : Int} {cp : List UInt8} {gs : List (List (List UInt8))} {u : Nat} {ot : Option (List UInt8)} (h : Kept k dn p L f gen cp gs u ot) : Kept (k + 1) dn p L f gen cp gs u ot := ⟨h.1.more.more, h.2⟩
theorem Kept.arm {k : Nat} {dn : Bool} {p : PD} {L : LV} {f : Nat} {gen : Int} {cp : List UInt8} {gs : List (List (List UInt8))} {u : Nat} {ot : Option (List UInt8)} (h : Kept k dn p L f gen cp gs u ot) {n : Int} (h0 : -9223372036854775808 ≤ n) (h1 : n ≤ 9223372036854775807) : Kept (k + 1) dn { p with left := n } L f gen cp gs u ot := by
  refine ⟨(h.1.arm h0 h1).more, ?_⟩
  rcases h.2 with ⟨a, b, v⟩ | ⟨a, v⟩
  · exact .inl ⟨a, b, ⟨v.lf, v.g, v.sz, v.lo, v.dn, v.pd⟩⟩
  · exact .inr ⟨a, ⟨v.dn, v.pd, v.f2, v.g0, v.g1, v.sz⟩⟩
theorem Kept.rough {k : Nat} {dn : Bool} {p : PD} {L : LV} {f : Nat} {gen : Int} {cp : List UInt8} {gs : List (List (List UInt8))} {u : Nat} {ot : Option (List UInt8)} (h : Kept k dn p L f gen cp gs u ot) (hk : k ≤ 40) : L.f < 2 ∧ 0 ≤ L.gen ∧ L.gen ≤ 1000 ∧ L.size ≤ 1000000 := by
  rcases h.2 with ⟨_, _, v⟩ | ⟨_, v⟩
  · have h1 := h.1.f2
    have h2 := h.1.g1
    have h3 := h.1.g2
    have h4 := h.1.n
    rw [v.lf, v.g, v.sz]
    exact ⟨h1, by omega, by omega, by omega⟩
  · exact ⟨v.f2, v.g0, v.g1, v.sz⟩
theorem catG_take_le (gs : List (List (List UInt8))) (n : Nat) : (catG (gs.take n)).length ≤ (catG gs).length := by
  have e0 : catG gs = catG (gs.take n) ++ catG (gs.drop n) := by unfold catG; rw [← List.flatMap_append, List.take_append_drop]
  rw [e0, List.length_append]; omega
theorem now_cells {wk : World} {R : Nat} {a b c : Value} (h : wk.heap[R]? = some (.cells #[a, b, c] 58 (0, 0))) :
    (wk.cell? ⟨R, 0, none⟩ = some a ∧ wk.cell? ⟨R, 1, none⟩ = some b ∧ wk.cell? ⟨R, 2, none⟩ = some c) ∧ (wk.frozen? ⟨R, 0, none⟩ = false ∧ wk.frozen? ⟨R, 1, none⟩ = false ∧ wk.frozen? ⟨R, 2, none⟩ = false) ∧ R < wk.heap.size :=
  ⟨⟨Lib.cell_of_heap h 0, Lib.cell_of_heap h 1, Lib.cell_of_heap h 2⟩, ⟨Lib.frozen_of_heap h 0, Lib.frozen_of_heap h 1, Lib.frozen_of_heap h 2⟩, block_lt h⟩
set_option maxHeartbeats 200000000 in
set_option maxRecDepth 100000 in
theorem segmentCrashes_walk (A : Option Addr) (cap : Nat) (l : List OpS) (w : World)
    (hl : OpsIn (fun b => b < w.heap.size) w A l) (wl : WfSs l) (hT : Tab w) :
    Calls Tryd.prog 5 #[.slice A l.length cap] w fun e w' => e = .returned (.bool true) ∧ Below w.heap.size w w' := by
  have hgt : 0 < w.heap.size := hT.lt
  have HT := hide hT
  have HL := hide hl
  have HWl := hide wl
  have hll := wl.1
  unfold maxLen at hll
  have HN := hide (new_yes 1048576 w rfl)
  have HSm := hide (fun w' (hb : Below w.heap.size w w') => small_any A cap l 40 w' (hl.below (fun b h => h) hb) wl)
  have HAw := hide (fun w' (hb : Below w.heap.size w w') => (awake_any w' (hT.on hb) (Nat.lt_of_lt_of_le hgt hb.size)).mono fun e w2 h => (⟨h.1, hb.trans (h.2.mono hb.size)⟩ : e = .returned (.bool true) ∧ Below w.heap.size w w2))
  clear hT hl wl
  go_enter Tryd.func5, Tryd.ntmps5
  go_wp2_with fail
  refine HN.out.mono ?_
  rintro e w1 ⟨⟨g, rfl, hD1⟩, hb1⟩
  have HB1 := hide hb1
  have HD1 := hide hD1
  have HS1 := hide (HSm.out w1 hb1)
  clear hb1 hD1 HN
  by_cases hsm : smallS l 40 = true
  · rw [hsm] at HS1
    have HSa := hide (smallS_at hsm)
    clear hsm
    go_wp2_with fail
    refine HS1.out.mono ?_
    rintro e w2 ⟨rfl, hb2⟩
    have HB2 := hide (HB1.out.trans (hb2.mono HB1.out.size))
    have hD2 := HD1.out.below hb2
    have HD2 := hide hD2
    have HO2 := hide (open_any w2 hD2 (new_ok (cap := 1048576) rfl) (by show (0 : Int) ≤ _; decide) (HT.out.on HB2.out) hgt)
    unfold OpenRes at HO2
    clear hb2 hD2 HS1
    go_wp2_with fail
    refine HO2.out.mono ?_
    rintro e w3 hc
    rcases hc with ⟨hdn, -⟩ | ⟨-, -, hc⟩
    · exact absurd (show (newP 1048576).down = true from hdn) (by decide)
    rcases hc with ⟨hne, -⟩ | ⟨-, h, A3, c3, B3, d3, gs3, D3, rfl, hh3, hp3, hL3, ht3, hgs3, hcp3, hgr3, -, -, -⟩
    · exact absurd calmly_new.1 hne
    have hst := crash_start.2
    have hp3' : D3.p = (openR (newP 1048576)).2.1 := hp3
    rw [← hp3'] at hst
    have HL3 := hide (show LogAt w.heap.size h g w3 (openR (newP 1048576)).2.2 D3 from hL3)
    have HB3 := hide (HB2.out.trans (ht3.below HD2.out))
    generalize (openR (newP 1048576)).2.2 = L3 at hst HL3
    have HSt := hide hst
    generalize (openS (newD 1048576).p).cp.length = n3 at *
    clear hh3 hp3 hp3' hL3 ht3 hgs3 hcp3 hgr3 HO2 HD1 HD2 hst
    obtain ⟨w4, hw4⟩ : ∃ w4, w4 = w3.alloc (.cells #[.slice A3 n3 c3, .slice B3 gs3.length d3] 34) := ⟨_, rfl⟩
    have hb4 : Below w3.heap.size w3 w4 := by rw [hw4]; exact (Below.refl _ _).alloc (Nat.le_refl _) _
    have HWE4 := hide hw4
    have HL4 := hide (HL3.out.below hb4)
    have HB4 := hide (HB3.out.trans (hb4.mono HB3.out.size))
    clear hw4 hb4 HL3 HB3
    obtain ⟨w5, hw5⟩ : ∃ w5, w5 = w4.alloc (.cells #[.slice none 0 0, .slice none 0 0, .int .i64 0] 58) := ⟨_, rfl⟩
    have hb5 : Below w4.heap.size w4 w5 := by rw [hw5]; exact (Below.refl _ _).alloc (Nat.le_refl _) _
    have hx5 : w5.heap[w4.heap.size]? = some (.cells #[.slice none 0 0, .slice none 0 0, .int .i64 0] 58 (0, 0)) := by rw [hw5]; exact heap_alloc_new w4 _
    have HWE5 := hide hw5
    have HB5 := hide (HB4.out.trans (hb5.mono HB4.out.size))
    have HR5 := hide (show Rest w.heap.size h g w4.heap.size w5 (.pointer none) L3 D3 none 0 none 0 [] [] 0 none from
      ⟨HL4.out.below hb5, ⟨hx5, (HL4.out.off_new (Nat.le_refl _)), BytesIn.nil _ _ _, GrpsIn.nil _ _ _, by unfold maxLen; simp⟩, rfl⟩)
    have HK5 := hide (show Kept 0 false D3.p L3 L3.f 1 [] [] 0 none from ⟨HSt.out.1, .inl ⟨rfl, rfl, HSt.out.2⟩⟩)
    have HRs := hide HB4.out.size
    clear hw5 hb5 hx5 HL4 HB4 HSt
    go_wp2_with (first | (guard_target =~ wpList _ _ _ (Oper.mk _ (Op.alloc _) _ _ _ _ :: _) _ _; rw [← HWE4.out]) | fail)
    generalize w4.heap.size = R at *
    go_loopw [4, 8, 9, 39] (fun lg nx dv i wr => ∃ (k h : Nat) (dn : Bool) (v8 : Value) (D : DS) (L : LV) (f : Nat) (gen : Int) (A1 : Option Addr) (c1 : Nat) (A2 : Option Addr) (c2 : Nat) (cp : List UInt8) (gs : List GH) (u : Nat) (ot : Option (List UInt8)), k ≤ l.length ∧ i = .int .i64 k ∧ lg = vD h ∧ v8 = nx ∧ dv = .bool dn ∧ Rest w.heap.size h g R wr v8 L D A1 c1 A2 c2 cp gs u ot ∧ Kept k dn D.p L f gen cp (gsOf gs) u ot ∧ Below w.heap.size w wr) (fun _ _ _ i _ => l.length - (intOf i).toNat)
    case atStart => rw [← HWE5.out]; exact ⟨0, h, false, _, D3, L3, L3.f, 1, none, 0, none, 0, [], [], 0, none, Nat.zero_le _, rfl, rfl, rfl, rfl, HR5.out, HK5.out, HB5.out⟩
    case round =>
      clear HR5 HK5 HB5 HWE4 HWE5 HB2 HB1
      obtain ⟨k, h, dn, v8, D, L, f, gen, A1, c1, A2, c2, cp, gs, u, ot, hk, rfl, rfl, rfl, rfl, hR, hK, hbw⟩ := hrel
      have HR := hide hR
      have HK := hide hK
      have HBw := hide hbw
      have hk40 : k ≤ 40 := by have := HSa.out.1; omega
      clear hR hK hbw
      by_cases hlt : k < l.length
      · obtain ⟨b, off, rfl, hp, hb, hx0⟩ := HL.out k hlt
        have hx : OpIn (fun b => b < w.heap.size) wr b (off + k * 5) (l.getD k dS) := hx0.keep hp hb HBw.out.size fun b h1 h2 => ⟨h1, HBw.out.block b h2⟩
        have HOk := hide (HSa.out.2 k hlt)
        have HLt := hide hlt
        have hs := HBw.out.size
        have hb' : b < wr.heap.size := Nat.lt_of_lt_of_le hb hs
        have HWo := HWl.out.2 k hlt
        have ho1 := HWo.dl
        have HDn := hide HWo.dn
        have HNk := hide HWo.ks
        have HRn := hide HWo.rn
        have ho2 := HWo.rl
        have ho3 := HWo.kl
        have HNn := hide (And.intro HWo.n0 HWo.n1)
        unfold maxLen at ho1 ho2 ho3
        generalize l.getD k dS = o at *
        have g0 := hx.c0; have g1 := hx.c1; have g2 := hx.c2; have g3 := hx.c3; have g4 := hx.c4
        clear hx0 hp HWo
        by_cases hk1 : o.k = 1
        · as_aux_lemma =>
            rw [hk1] at g0
            obtain ⟨wo, hwo⟩ : ∃ wo, wo = wr.alloc (.cells #[.int .i64 1, .int .i64 o.n, .slice o.dA o.dl.length o.dc, .slice o.rA o.rs.length o.rc, .slice o.kA o.kl.length o.kc] 49) := ⟨_, rfl⟩
            have hbo : Below wr.heap.size wr wo := by rw [hwo]; exact (Below.refl _ _).alloc (Nat.le_refl _) _
            have hxo : wo.heap[wr.heap.size]? = some (.cells #[.int .i64 1, .int .i64 o.n, .slice o.dA o.dl.length o.dc, .slice o.rA o.rs.length o.rc, .slice o.kA o.kl.length o.kc] 49 (0, 0)) := by rw [hwo]; exact heap_alloc_new wr _
            have HWEo := hide hwo
            obtain ⟨q0, q1, q2, q3, q4⟩ := opbox_cells hxo
            have HRo := hide (HR.out.below hbo)
            have HBo := hide (HBw.out.trans (hbo.mono HBw.out.size))
            have HXo := hide (And.intro (HR.out.log.off_new (Nat.le_refl wr.heap.size)) hxo)
            have hro : RecsIn (fun b => Off h g D b ∧ b ≠ R) wr o.rA o.rs := (hx.r).mono fun b hb _ => ⟨HR.out.log.off_old hb, (by have := HRs.out; omega)⟩
            have HRec := hide (hro.below hbo)
            have HDat := hide (((hx.d).mono fun b hb _ => HR.out.log.off_old hb).below hbo)
            have hkf := HK.out.rough (by omega)
            have HC := hide (logAppend_any o.rA o.rc o.rs wo HRo.out.log HK.out.1.ok (by have := HK.out.1.d; omega) (by have := hkf.2.2.2; omega) (HT.out.on HBo.out) (HRec.out.mono fun b p _ => p.1) (by have := HOk.out.r; omega) (fun j hj => by have := HOk.out.rr j hj; omega))
            unfold LRes at HC
            have HlRw := hide (block_lt HR.out.now.box)
            have HRl := hide (show o.rs.length ≤ maxLen by have := HOk.out.r; unfold maxLen; omega)
            have hgl := HK.out.1.hu
            have HGl := hide (show gs.length ≤ 1000000 from groups_few HK.out.1 (by omega))
            clear hwo hbo hxo hro hx hk1 hkf HDat hgl
            rcases HK.out.2 with ⟨hdn, hot, hlv⟩ | ⟨hdn, hgo⟩
            · subst hot
              subst hdn
              by_cases hr0 : o.rs.length = 0
              · have hnil : o.rs = [] := List.length_eq_zero_iff.1 hr0
                have he : appendR D.p L (lsOf o.rs) = (0, D.p, L) := by rw [hnil]; exact append_none hlv.dn
                rw [he] at HC
                have e0 : decide (0 < o.rs.length) = false := decide_eq_false (by omega)
                have HLv := hide hlv
                clear hnil he hr0 hlv
                go_wp2_with (first | (guard_target =~ wpList _ _ _ (Oper.mk _ (Op.fieldAddr _ _ _) _ _ _ _ :: _) _ _; rw [← HWEo.out]) | fail)
                refine HC.out.mono ?_
                rintro e w6 ⟨rfl, D6, hp6, hL6, ht6⟩
                have HR6 := hide (HRo.out.turn hL6 ht6)
                have HB6 := hide (HBo.out.trans (ht6.below HRo.out.log))
                have hx6 := (ht6.off _ HXo.out.1 (block_lt HXo.out.2)).2.trans HXo.out.2
                have HRec6 := hide (HRec.out.keep (Q := fun b => Off h g D6 b ∧ b ≠ R) ht6.size fun b p l => ⟨⟨(ht6.off b p.1 l).1, p.2⟩, (ht6.off b p.1 l).2⟩)
                clear q0 q1 q2 q3 q4
                obtain ⟨q0, q1, q2, q3, q4⟩ := opbox_cells hx6
                have hlO := block_lt hx6
                have HK6 := hide (show Kept (k + 1) false D6.p L f gen cp (gsOf gs) u none by rw [hp6]; exact HK.out.more)
                clear hp6 hL6 ht6 HC HLv hx6 HRec
                go_wp2_with fail
                go_roundw
                case rel => exact ⟨k + 1, h, false, v8, D6, _, f, gen, A1, c1, A2, c2, cp, gs, u, none, HLt.out, by go_num, rfl, rfl, rfl, HR6.out, HK6.out, HB6.out⟩
                case measure => have := HLt.out; simp [intOf]; omega
              · have e0 : decide (0 < o.rs.length) = true := decide_eq_true (by omega)
                rcases HK.out.1.append_aft hlv (by omega) (recOk_of HOk.out) (by rw [lsOf_len]; exact hr0) with ⟨he, hc6, hl6⟩ | ⟨he, hc6, hl6⟩
                · rw [he] at HC
                  have HC6 := hide (And.intro hc6 hl6)
                  clear he hc6 hl6 hlv hr0
                  go_wp2_with (first | (guard_target =~ wpList _ _ _ (Oper.mk _ (Op.fieldAddr _ _ _) _ _ _ _ :: _) _ _; rw [← HWEo.out]) | fail)
                  refine HC.out.mono ?_
                  rintro e w6 ⟨rfl, D6, hp6, hL6, ht6⟩
                  have HR6 := hide (HRo.out.turn hL6 ht6)
                  have HB6 := hide (HBo.out.trans (ht6.below HRo.out.log))
                  have hx6 := (ht6.off _ HXo.out.1 (block_lt HXo.out.2)).2.trans HXo.out.2
                  have HRec6 := hide (HRec.out.keep (Q := fun b => Off h g D6 b ∧ b ≠ R) ht6.size fun b p l => ⟨⟨(ht6.off b p.1 l).1, p.2⟩, (ht6.off b p.1 l).2⟩)
                  clear q0 q1 q2 q3 q4
                  obtain ⟨q0, q1, q2, q3, q4⟩ := opbox_cells hx6
                  have hlO := block_lt hx6
                  rw [← hp6] at HC6
                  have HK6 := hide (show Kept (k + 1) false D6.p (appendR D.p L (lsOf o.rs)).2.2 f gen cp (gsOf (gs ++ [⟨o.rA, o.rc, o.rs⟩])) u none by
                    rw [gsOf_snoc]; exact ⟨HC6.out.1.more, .inl ⟨rfl, rfl, HC6.out.2⟩⟩)
                  obtain ⟨⟨s0, s1, s2⟩, ⟨f0, f1, f2⟩, hlR⟩ := now_cells HR6.out.now.box
                  obtain ⟨hgc, hgm⟩ := HR6.out.now.l
                  unfold maxLen at hgm
                  clear hp6 hL6 ht6 HC hx6 HRec HC6
                  go_wp2_with fail
                  refine wp_region_heldBut (S := fun w' => Below w6.heap.size w6 w') (L := 14) (by kernel_rfl) ((Below.refl _ _).drew) (fun hS => ?_)
                  refine heldBut_take (i := 0) (oi := ⟨some 67, _, _, _, _, _⟩) (v := ?_) rfl (by kernel_rfl) (by kernel_rfl) (by kernel_rfl) (by kernel_rfl) (fun _ _ _ h => h) (Or.inl ⟨by rfl, ?_⟩) hS ?_
                  rotate_left 1
                  · intro w' hw'
                    have k0 := (hw'.cell (p := ⟨R, 1, none⟩) hlR).trans s1; have k3 := (hw'.cell (p := ⟨wr.heap.size, 3, none⟩) hlO).trans q3
                    go_simp
                    all_goals with_reducible rfl
                  try simp only [Act.put, List.setIfInBounds_toArray, List.set_cons_zero, List.set_cons_succ]
                  refine heldBut_take (i := 2) (oi := ⟨some 69, _, _, _, _, _⟩) (v := ?_) rfl (by kernel_rfl) (by kernel_rfl) (by kernel_rfl) (by kernel_rfl) (fun _ _ _ h => h) (Or.inl ⟨by rfl, ?_⟩) hS ?_
                  rotate_left 1
                  · intro w' hw'
                    have k0 := (hw'.cell (p := ⟨R, 1, none⟩) hlR).trans s1; have k3 := (hw'.cell (p := ⟨wr.heap.size, 3, none⟩) hlO).trans q3
                    go_simp
                    all_goals with_reducible rfl
                  try simp only [Act.put, List.setIfInBounds_toArray, List.set_cons_zero, List.set_cons_succ]
                  refine heldBut_take (i := 5) (oi := ⟨some 72, _, _, _, _, _⟩) (v := ?_) rfl (by kernel_rfl) (by kernel_rfl) (by kernel_rfl) (by kernel_rfl) (fun _ _ _ h => h) (Or.inl ⟨by rfl, ?_⟩) hS ?_
                  rotate_left 1
                  · intro w' hw'
                    have k0 := (hw'.cell (p := ⟨R, 1, none⟩) hlR).trans s1; have k3 := (hw'.cell (p := ⟨wr.heap.size, 3, none⟩) hlO).trans q3
                    go_simp
                    all_goals with_reducible rfl
                  try simp only [Act.put, List.setIfInBounds_toArray, List.set_cons_zero, List.set_cons_succ]
                  refine heldBut_take (i := 9) (oi := ⟨some 76, _, _, _, _, _⟩) (v := ?_) rfl (by kernel_rfl) (by kernel_rfl) (by kernel_rfl) (by kernel_rfl) (fun _ _ _ h => h) (Or.inl ⟨by rfl, ?_⟩) hS ?_
                  rotate_left 1
                  · intro w' hw'
                    have k0 := (hw'.cell (p := ⟨R, 1, none⟩) hlR).trans s1; have k3 := (hw'.cell (p := ⟨wr.heap.size, 3, none⟩) hlO).trans q3
                    go_simp
                    all_goals with_reducible rfl
                  try simp only [Act.put, List.setIfInBounds_toArray, List.set_cons_zero, List.set_cons_succ]
                  refine heldBut_take (i := 1) (oi := ⟨some 68, _, _, _, _, _⟩) (v := ?_) rfl (by kernel_rfl) (by kernel_rfl) (by kernel_rfl) (by kernel_rfl) (fun _ _ _ h => h) (Or.inl ⟨by rfl, ?_⟩) hS ?_
                  rotate_left 1
                  · intro w' hw'
                    have k0 := (hw'.cell (p := ⟨R, 1, none⟩) hlR).trans s1; have k3 := (hw'.cell (p := ⟨wr.heap.size, 3, none⟩) hlO).trans q3
                    go_simp
                    all_goals with_reducible rfl
                  try simp only [Act.put, List.setIfInBounds_toArray, List.set_cons_zero, List.set_cons_succ]
                  refine heldBut_take (i := 3) (oi := ⟨some 70, _, _, _, _, _⟩) (v := ?_) rfl (by kernel_rfl) (by kernel_rfl) (by kernel_rfl) (by kernel_rfl) (fun _ _ _ h => h) (Or.inl ⟨by rfl, ?_⟩) hS ?_
                  rotate_left 1
                  · intro w' hw'
                    have k0 := (hw'.cell (p := ⟨R, 1, none⟩) hlR).trans s1; have k3 := (hw'.cell (p := ⟨wr.heap.size, 3, none⟩) hlO).trans q3
                    go_simp
                    all_goals with_reducible rfl
                  try simp only [Act.put, List.setIfInBounds_toArray, List.set_cons_zero, List.set_cons_succ]
                  refine heldBut_take (i := 6) (oi := ⟨some 73, _, _, _, _, _⟩) (v := ?_) rfl (by kernel_rfl) (by kernel_rfl) (by kernel_rfl) (by kernel_rfl) (fun _ _ _ h => h) (Or.inl ⟨by rfl, ?_⟩) hS ?_
                  rotate_left 1
                  · intro w' hw'
                    have k0 := (hw'.cell (p := ⟨R, 1, none⟩) hlR).trans s1; have k3 := (hw'.cell (p := ⟨wr.heap.size, 3, none⟩) hlO).trans q3
                    go_simp
                    all_goals with_reducible rfl
                  try simp only [Act.put, List.setIfInBounds_toArray, List.set_cons_zero, List.set_cons_succ]
                  refine heldBut_take (i := 10) (oi := ⟨some 77, _, _, _, _, _⟩) (v := ?_) rfl (by kernel_rfl) (by kernel_rfl) (by kernel_rfl) (by kernel_rfl) (fun _ _ _ h => h) (Or.inl ⟨by rfl, ?_⟩) hS ?_
                  rotate_left 1
                  · intro w' hw'
                    have k0 := (hw'.cell (p := ⟨R, 1, none⟩) hlR).trans s1; have k3 := (hw'.cell (p := ⟨wr.heap.size, 3, none⟩) hlO).trans q3
                    go_simp
                    all_goals with_reducible rfl
                  try simp only [Act.put, List.setIfInBounds_toArray, List.set_cons_zero, List.set_cons_succ]
                  refine heldBut_take (i := 4) (oi := ⟨some 71, _, _, _, _, _⟩) (v := ?_) rfl (by kernel_rfl) (by kernel_rfl) (by kernel_rfl) (by kernel_rfl) (fun _ _ _ h => h) (Or.inl ⟨by rfl, ?_⟩) hS ?_
                  rotate_left 1
                  · intro w' hw'
                    have k0 := (hw'.cell (p := ⟨R, 1, none⟩) hlR).trans s1; have k3 := (hw'.cell (p := ⟨wr.heap.size, 3, none⟩) hlO).trans q3
                    go_simp
                    all_goals with_reducible rfl
                  try simp only [Act.put, List.setIfInBounds_toArray, List.set_cons_zero, List.set_cons_succ]
                  refine heldBut_take (i := 7) (oi := ⟨some 74, _, _, _, _, _⟩) (v := ?_) rfl (by kernel_rfl) (by kernel_rfl) (by kernel_rfl) (by kernel_rfl) (fun _ _ _ h => h) (Or.inl ⟨by rfl, ?_⟩) hS ?_
                  rotate_left 1
                  · intro w' hw'
                    have k0 := (hw'.cell (p := ⟨R, 1, none⟩) hlR).trans s1; have k3 := (hw'.cell (p := ⟨wr.heap.size, 3, none⟩) hlO).trans q3
                    go_simp
                    all_goals with_reducible rfl
                  try simp only [Act.put, List.setIfInBounds_toArray, List.set_cons_zero, List.set_cons_succ]
                  refine heldBut_take (i := 8) (oi := ⟨some 75, _, _, _, _, _⟩) (v := ?_) rfl (by kernel_rfl) (by kernel_rfl) (by kernel_rfl) (by kernel_rfl) (fun _ _ _ h => h) (Or.inl ⟨by rfl, ?_⟩) hS ?_
                  rotate_left 1
                  · intro w' hw'
                    have k0 := (hw'.cell (p := ⟨R, 1, none⟩) hlR).trans s1; have k3 := (hw'.cell (p := ⟨wr.heap.size, 3, none⟩) hlO).trans q3
                    go_simp
                    all_goals with_reducible rfl
                  try simp only [Act.put, List.setIfInBounds_toArray, List.set_cons_zero, List.set_cons_succ]
                  obtain ⟨w10, hw10⟩ : ∃ w10, w10 = (w6.alloc (.cells #[.slice o.rA o.rs.length o.rc] 46)).drew := ⟨_, rfl⟩
                  have hb10 : Below w6.heap.size w6 w10 := by rw [hw10]; exact ((Below.refl _ _).alloc (Nat.le_refl _) _).drew
                  have hc10 : w10.cell? ⟨w6.heap.size, 0, none⟩ = some (.slice o.rA o.rs.length o.rc) := by rw [hw10]; exact Lib.cell_of_heap (heap_alloc_new w6 (.cells #[.slice o.rA o.rs.length o.rc] 46)) 0
                  have HB10 := hide hb10
                  have HC10 := hide hc10
                  have HWE10 := hide hw10
                  clear hw10 hb10 hc10
                  refine heldBut_one (i := 11) (o := ⟨some 78, _, _, _, _, _⟩) (by kernel_rfl) rfl (fun K hK => ?_)
                  go_simp
                  rw [show (w6.alloc (.cells #[.slice o.rA o.rs.length o.rc] 46)).drew = w10 from HWE10.out.symm]
                  refine hK.out _ _ (.inr HB10.out) (fun hS => ?_)
                  clear hK K
                  try simp only [Act.put, List.setIfInBounds_toArray, List.set_cons_zero, List.set_cons_succ]
                  refine heldBut_one (i := 12) (o := ⟨some 79, _, _, _, _, _⟩) (by kernel_rfl) rfl (fun K hK => ?_)
                  refine step_full (P := fun b => Off h g D6 b ∧ b ≠ R) rfl (.tmp 75) (.tmp 78) rfl A2 gs gs.length rfl rfl ((HR6.out.now.g).below HB10.out) ⟨o.rA, o.rc, o.rs⟩ w6.heap.size rfl HC10.out (HRec6.out.below HB10.out) ⟨HRl.out, HRn.out⟩ (by have := HGl.out; omega) ?_
                  intro A12 c12 w12 hg12 hl12 hb12
                  have HB12 := hide (HB10.out.trans (hb12.mono HB10.out.size))
                  have HG12 := hide (hg12.mono (Q := fun b => (Off h g D6 b ∧ b ≠ R) ∨ w6.heap.size ≤ b) fun b p _ => p.imp id fun q => Nat.le_trans HB10.out.size q)
                  have HL12 := hide hl12
                  refine hK.out _ _ (.inr HB12.out) (fun hS => ?_)
                  clear hK K hg12 hl12 hb12
                  try simp only [Act.put, List.setIfInBounds_toArray, List.set_cons_zero, List.set_cons_succ]
                  have HR12 := hide (HR6.out.below HB12.out)
                  obtain ⟨⟨y0, y1, y2⟩, ⟨z0, z1, z2⟩, hl12R⟩ := now_cells HR12.out.now.box
                  refine heldBut_one (i := 13) (o := ⟨some 80, _, _, _, _, _⟩) (by kernel_rfl) rfl (fun K hK => ?_)
                  go_simp
                  refine hK.out _ _ (.inr HB12.out) (fun _ => ?_)
                  clear hK K
                  try simp only [Act.put, List.setIfInBounds_toArray, List.set_cons_zero, List.set_cons_succ]
                  refine heldBut_one (i := 14) (o := ⟨none, _, _, _, _, _⟩) (by kernel_rfl) rfl (fun K hK => ?_)
                  go_simp
                  refine hK.out _ _ (.inl rfl) (fun _ => ?_)
                  clear hK K y0 y1 y2 z0 z1 z2
                  try simp only [Act.put, List.setIfInBounds_toArray, List.set_cons_zero, List.set_cons_succ]
                  refine heldBut_done (by kernel_rfl) ?_ _
                  have HS13 := hide (HR6.out.grp (gs' := gs ++ [⟨o.rA, o.rc, o.rs⟩]) HB12.out HG12.out HL12.out)
                  have HB13 := hide ((HB6.out.trans (HB12.out.mono HB6.out.size)).trans (below_set w12 HRs.out 1 (.slice A12 (gs ++ [(⟨o.rA, o.rc, o.rs⟩ : GH)]).length c12)))
                  have p0 : (w12.setCell ⟨R, 1, none⟩ (.slice A12 (gs ++ [(⟨o.rA, o.rc, o.rs⟩ : GH)]).length c12)).cell? ⟨wr.heap.size, 0, none⟩ = some (.int .i64 1) :=
                    (World.cell?_setCell_far _ _ _ _ (by show R ≠ wr.heap.size; have := HlRw.out; omega)).trans ((HB12.out.cell (p := ⟨wr.heap.size, 0, none⟩) hlO).trans q0)
                  obtain ⟨w13, hw13⟩ : ∃ w13, w13 = w12.setCell ⟨R, 1, none⟩ (.slice A12 (gs ++ [(⟨o.rA, o.rc, o.rs⟩ : GH)]).length c12) := ⟨_, rfl⟩
                  rw [← hw13] at HS13 HB13 p0
                  rw [show (w12.setCell ⟨R, 1, none⟩ (.slice A12 (gs.length + 1) c12)) = w13 by rw [hw13, List.length_append]; rfl]
                  clear hw13 s0 s1 s2 f0 f1 f2 q0 q1 q2 q3 q4 HR12 HG12 HL12 HB12 HB10 HC10 HWE10 hS
                  obtain ⟨⟨s0, s1, s2⟩, ⟨f0, f1, f2⟩, hlR13⟩ := now_cells HS13.out.now.box
                  go_wp2_with fail
                  go_roundw
                  case rel => exact ⟨k + 1, h, false, v8, D6, _, f, gen, A1, c1, A12, c12, cp, gs ++ [⟨o.rA, o.rc, o.rs⟩], u, none, HLt.out, by go_num, rfl, rfl, rfl, HS13.out, HK6.out, HB13.out⟩
                  case measure => have := HLt.out; simp [intOf]; omega
                · rw [he] at HC
                  have HC6 := hide (And.intro hc6 hl6)
                  clear he hc6 hl6 hlv hr0
                  go_wp2_with (first | (guard_target =~ wpList _ _ _ (Oper.mk _ (Op.fieldAddr _ _ _) _ _ _ _ :: _) _ _; rw [← HWEo.out]) | fail)
                  refine HC.out.mono ?_
                  rintro e w6 ⟨rfl, D6, hp6, hL6, ht6⟩
                  have HR6 := hide (HRo.out.turn hL6 ht6)
                  have HB6 := hide (HBo.out.trans (ht6.below HRo.out.log))
                  have hx6 := (ht6.off _ HXo.out.1 (block_lt HXo.out.2)).2.trans HXo.out.2
                  have HRec6 := hide (HRec.out.keep (Q := fun b => Off h g D6 b ∧ b ≠ R) ht6.size fun b p l => ⟨⟨(ht6.off b p.1 l).1, p.2⟩, (ht6.off b p.1 l).2⟩)
                  clear q0 q1 q2 q3 q4
                  obtain ⟨q0, q1, q2, q3, q4⟩ := opbox_cells hx6
                  have hlO := block_lt hx6
                  rw [← hp6] at HC6
                  have HK6 := hide (show Kept (k + 1) true D6.p (appendR D.p L (lsOf o.rs)).2.2 f gen cp (gsOf (gs ++ [⟨o.rA, o.rc, o.rs⟩])) u none by
                    rw [gsOf_snoc]; exact ⟨HC6.out.1.more, .inr ⟨rfl, HC6.out.2⟩⟩)
                  obtain ⟨⟨s0, s1, s2⟩, ⟨f0, f1, f2⟩, hlR⟩ := now_cells HR6.out.now.box
                  obtain ⟨hgc, hgm⟩ := HR6.out.now.l
                  unfold maxLen at hgm
                  clear hp6 hL6 ht6 HC hx6 HRec HC6
                  go_wp2_with fail
                  refine wp_region_heldBut (S := fun w' => Below w6.heap.size w6 w') (L := 14) (by kernel_rfl) ((Below.refl _ _).drew) (fun hS => ?_)
                  refine heldBut_take (i := 0) (oi := ⟨some 67, _, _, _, _, _⟩) (v := ?_) rfl (by kernel_rfl) (by kernel_rfl) (by kernel_rfl) (by kernel_rfl) (fun _ _ _ h => h) (Or.inl ⟨by rfl, ?_⟩) hS ?_
                  rotate_left 1
                  · intro w' hw'
                    have k0 := (hw'.cell (p := ⟨R, 1, none⟩) hlR).trans s1; have k3 := (hw'.cell (p := ⟨wr.heap.size, 3, none⟩) hlO).trans q3
                    go_simp
                    all_goals with_reducible rfl
                  try simp only [Act.put, List.setIfInBounds_toArray, List.set_cons_zero, List.set_cons_succ]
                  refine heldBut_take (i := 2) (oi := ⟨some 69, _, _, _, _, _⟩) (v := ?_) rfl (by kernel_rfl) (by kernel_rfl) (by kernel_rfl) (by kernel_rfl) (fun _ _ _ h => h) (Or.inl ⟨by rfl, ?_⟩) hS ?_
                  rotate_left 1
                  · intro w' hw'
                    have k0 := (hw'.cell (p := ⟨R, 1, none⟩) hlR).trans s1; have k3 := (hw'.cell (p := ⟨wr.heap.size, 3, none⟩) hlO).trans q3
                    go_simp
                    all_goals with_reducible rfl
                  try simp only [Act.put, List.setIfInBounds_toArray, List.set_cons_zero, List.set_cons_succ]
                  refine heldBut_take (i := 5) (oi := ⟨some 72, _, _, _, _, _⟩) (v := ?_) rfl (by kernel_rfl) (by kernel_rfl) (by kernel_rfl) (by kernel_rfl) (fun _ _ _ h => h) (Or.inl ⟨by rfl, ?_⟩) hS ?_
                  rotate_left 1
                  · intro w' hw'
                    have k0 := (hw'.cell (p := ⟨R, 1, none⟩) hlR).trans s1; have k3 := (hw'.cell (p := ⟨wr.heap.size, 3, none⟩) hlO).trans q3
                    go_simp
                    all_goals with_reducible rfl
                  try simp only [Act.put, List.setIfInBounds_toArray, List.set_cons_zero, List.set_cons_succ]
                  refine heldBut_take (i := 9) (oi := ⟨some 76, _, _, _, _, _⟩) (v := ?_) rfl (by kernel_rfl) (by kernel_rfl) (by kernel_rfl) (by kernel_rfl) (fun _ _ _ h => h) (Or.inl ⟨by rfl, ?_⟩) hS ?_
                  rotate_left 1
                  · intro w' hw'
                    have k0 := (hw'.cell (p := ⟨R, 1, none⟩) hlR).trans s1; have k3 := (hw'.cell (p := ⟨wr.heap.size, 3, none⟩) hlO).trans q3
                    go_simp
                    all_goals with_reducible rfl
                  try simp only [Act.put, List.setIfInBounds_toArray, List.set_cons_zero, List.set_cons_succ]
                  refine heldBut_take (i := 1) (oi := ⟨some 68, _, _, _, _, _⟩) (v := ?_) rfl (by kernel_rfl) (by kernel_rfl) (by kernel_rfl) (by kernel_rfl) (fun _ _ _ h => h) (Or.inl ⟨by rfl, ?_⟩) hS ?_
                  rotate_left 1
                  · intro w' hw'
                    have k0 := (hw'.cell (p := ⟨R, 1, none⟩) hlR).trans s1; have k3 := (hw'.cell (p := ⟨wr.heap.size, 3, none⟩) hlO).trans q3
                    go_simp
                    all_goals with_reducible rfl
                  try simp only [Act.put, List.setIfInBounds_toArray, List.set_cons_zero, List.set_cons_succ]
                  refine heldBut_take (i := 3) (oi := ⟨some 70, _, _, _, _, _⟩) (v := ?_) rfl (by kernel_rfl) (by kernel_rfl) (by kernel_rfl) (by kernel_rfl) (fun _ _ _ h => h) (Or.inl ⟨by rfl, ?_⟩) hS ?_
                  rotate_left 1
                  · intro w' hw'
                    have k0 := (hw'.cell (p := ⟨R, 1, none⟩) hlR).trans s1; have k3 := (hw'.cell (p := ⟨wr.heap.size, 3, none⟩) hlO).trans q3
                    go_simp
                    all_goals with_reducible rfl
                  try simp only [Act.put, List.setIfInBounds_toArray, List.set_cons_zero, List.set_cons_succ]
                  refine heldBut_take (i := 6) (oi := ⟨some 73, _, _, _, _, _⟩) (v := ?_) rfl (by kernel_rfl) (by kernel_rfl) (by kernel_rfl) (by kernel_rfl) (fun _ _ _ h => h) (Or.inl ⟨by rfl, ?_⟩) hS ?_
                  rotate_left 1
                  · intro w' hw'
                    have k0 := (hw'.cell (p := ⟨R, 1, none⟩) hlR).trans s1; have k3 := (hw'.cell (p := ⟨wr.heap.size, 3, none⟩) hlO).trans q3
                    go_simp
                    all_goals with_reducible rfl
                  try simp only [Act.put, List.setIfInBounds_toArray, List.set_cons_zero, List.set_cons_succ]
                  refine heldBut_take (i := 10) (oi := ⟨some 77, _, _, _, _, _⟩) (v := ?_) rfl (by kernel_rfl) (by kernel_rfl) (by kernel_rfl) (by kernel_rfl) (fun _ _ _ h => h) (Or.inl ⟨by rfl, ?_⟩) hS ?_
                  rotate_left 1
                  · intro w' hw'
                    have k0 := (hw'.cell (p := ⟨R, 1, none⟩) hlR).trans s1; have k3 := (hw'.cell (p := ⟨wr.heap.size, 3, none⟩) hlO).trans q3
                    go_simp
                    all_goals with_reducible rfl
                  try simp only [Act.put, List.setIfInBounds_toArray, List.set_cons_zero, List.set_cons_succ]
                  refine heldBut_take (i := 4) (oi := ⟨some 71, _, _, _, _, _⟩) (v := ?_) rfl (by kernel_rfl) (by kernel_rfl) (by kernel_rfl) (by kernel_rfl) (fun _ _ _ h => h) (Or.inl ⟨by rfl, ?_⟩) hS ?_
                  rotate_left 1
                  · intro w' hw'
                    have k0 := (hw'.cell (p := ⟨R, 1, none⟩) hlR).trans s1; have k3 := (hw'.cell (p := ⟨wr.heap.size, 3, none⟩) hlO).trans q3
                    go_simp
                    all_goals with_reducible rfl
                  try simp only [Act.put, List.setIfInBounds_toArray, List.set_cons_zero, List.set_cons_succ]
                  refine heldBut_take (i := 7) (oi := ⟨some 74, _, _, _, _, _⟩) (v := ?_) rfl (by kernel_rfl) (by kernel_rfl) (by kernel_rfl) (by kernel_rfl) (fun _ _ _ h => h) (Or.inl ⟨by rfl, ?_⟩) hS ?_
                  rotate_left 1
                  · intro w' hw'
                    have k0 := (hw'.cell (p := ⟨R, 1, none⟩) hlR).trans s1; have k3 := (hw'.cell (p := ⟨wr.heap.size, 3, none⟩) hlO).trans q3
                    go_simp
                    all_goals with_reducible rfl
                  try simp only [Act.put, List.setIfInBounds_toArray, List.set_cons_zero, List.set_cons_succ]
                  refine heldBut_take (i := 8) (oi := ⟨some 75, _, _, _, _, _⟩) (v := ?_) rfl (by kernel_rfl) (by kernel_rfl) (by kernel_rfl) (by kernel_rfl) (fun _ _ _ h => h) (Or.inl ⟨by rfl, ?_⟩) hS ?_
                  rotate_left 1
                  · intro w' hw'
                    have k0 := (hw'.cell (p := ⟨R, 1, none⟩) hlR).trans s1; have k3 := (hw'.cell (p := ⟨wr.heap.size, 3, none⟩) hlO).trans q3
                    go_simp
                    all_goals with_reducible rfl
                  try simp only [Act.put, List.setIfInBounds_toArray, List.set_cons_zero, List.set_cons_succ]
                  obtain ⟨w10, hw10⟩ : ∃ w10, w10 = (w6.alloc (.cells #[.slice o.rA o.rs.length o.rc] 46)).drew := ⟨_, rfl⟩
                  have hb10 : Below w6.heap.size w6 w10 := by rw [hw10]; exact ((Below.refl _ _).alloc (Nat.le_refl _) _).drew
                  have hc10 : w10.cell? ⟨w6.heap.size, 0, none⟩ = some (.slice o.rA o.rs.length o.rc) := by rw [hw10]; exact Lib.cell_of_heap (heap_alloc_new w6 (.cells #[.slice o.rA o.rs.length o.rc] 46)) 0
                  have HB10 := hide hb10
                  have HC10 := hide hc10
                  have HWE10 := hide hw10
                  clear hw10 hb10 hc10
                  refine heldBut_one (i := 11) (o := ⟨some 78, _, _, _, _, _⟩) (by kernel_rfl) rfl (fun K hK => ?_)
                  go_simp
                  rw [show (w6.alloc (.cells #[.slice o.rA o.rs.length o.rc] 46)).drew = w10 from HWE10.out.symm]
                  refine hK.out _ _ (.inr HB10.out) (fun hS => ?_)
                  clear hK K
                  try simp only [Act.put, List.setIfInBounds_toArray, List.set_cons_zero, List.set_cons_succ]
                  refine heldBut_one (i := 12) (o := ⟨some 79, _, _, _, _, _⟩) (by kernel_rfl) rfl (fun K hK => ?_)
                  refine step_full (P := fun b => Off h g D6 b ∧ b ≠ R) rfl (.tmp 75) (.tmp 78) rfl A2 gs gs.length rfl rfl ((HR6.out.now.g).below HB10.out) ⟨o.rA, o.rc, o.rs⟩ w6.heap.size rfl HC10.out (HRec6.out.below HB10.out) ⟨HRl.out, HRn.out⟩ (by have := HGl.out; omega) ?_
                  intro A12 c12 w12 hg12 hl12 hb12
                  have HB12 := hide (HB10.out.trans (hb12.mono HB10.out.size))
                  have HG12 := hide (hg12.mono (Q := fun b => (Off h g D6 b ∧ b ≠ R) ∨ w6.heap.size ≤ b) fun b p _ => p.imp id fun q => Nat.le_trans HB10.out.size q)
                  have HL12 := hide hl12
                  refine hK.out _ _ (.inr HB12.out) (fun hS => ?_)
                  clear hK K hg12 hl12 hb12
                  try simp only [Act.put, List.setIfInBounds_toArray, List.set_cons_zero, List.set_cons_succ]
                  have HR12 := hide (HR6.out.below HB12.out)
                  obtain ⟨⟨y0, y1, y2⟩, ⟨z0, z1, z2⟩, hl12R⟩ := now_cells HR12.out.now.box
                  refine heldBut_one (i := 13) (o := ⟨some 80, _, _, _, _, _⟩) (by kernel_rfl) rfl (fun K hK => ?_)
                  go_simp
                  refine hK.out _ _ (.inr HB12.out) (fun _ => ?_)
                  clear hK K
                  try simp only [Act.put, List.setIfInBounds_toArray, List.set_cons_zero, List.set_cons_succ]
                  refine heldBut_one (i := 14) (o := ⟨none, _, _, _, _, _⟩) (by kernel_rfl) rfl (fun K hK => ?_)
                  go_simp
                  refine hK.out _ _ (.inl rfl) (fun _ => ?_)
                  clear hK K y0 y1 y2 z0 z1 z2
                  try simp only [Act.put, List.setIfInBounds_toArray, List.set_cons_zero, List.set_cons_succ]
                  refine heldBut_done (by kernel_rfl) ?_ _
                  have HS13 := hide (HR6.out.grp (gs' := gs ++ [⟨o.rA, o.rc, o.rs⟩]) HB12.out HG12.out HL12.out)
                  have HB13 := hide ((HB6.out.trans (HB12.out.mono HB6.out.size)).trans (below_set w12 HRs.out 1 (.slice A12 (gs ++ [(⟨o.rA, o.rc, o.rs⟩ : GH)]).length c12)))
                  have p0 : (w12.setCell ⟨R, 1, none⟩ (.slice A12 (gs ++ [(⟨o.rA, o.rc, o.rs⟩ : GH)]).length c12)).cell? ⟨wr.heap.size, 0, none⟩ = some (.int .i64 1) :=
                    (World.cell?_setCell_far _ _ _ _ (by show R ≠ wr.heap.size; have := HlRw.out; omega)).trans ((HB12.out.cell (p := ⟨wr.heap.size, 0, none⟩) hlO).trans q0)
                  obtain ⟨w13, hw13⟩ : ∃ w13, w13 = w12.setCell ⟨R, 1, none⟩ (.slice A12 (gs ++ [(⟨o.rA, o.rc, o.rs⟩ : GH)]).length c12) := ⟨_, rfl⟩
                  rw [← hw13] at HS13 HB13 p0
                  rw [show (w12.setCell ⟨R, 1, none⟩ (.slice A12 (gs.length + 1) c12)) = w13 by rw [hw13, List.length_append]; rfl]
                  clear hw13 s0 s1 s2 f0 f1 f2 q0 q1 q2 q3 q4 HR12 HG12 HL12 HB12 HB10 HC10 HWE10 hS
                  obtain ⟨⟨s0, s1, s2⟩, ⟨f0, f1, f2⟩, hlR13⟩ := now_cells HS13.out.now.box
                  go_wp2_with fail
                  go_roundw
                  case rel => exact ⟨k + 1, h, true, v8, D6, _, f, gen, A1, c1, A12, c12, cp, gs ++ [⟨o.rA, o.rc, o.rs⟩], u, none, HLt.out, by go_num, rfl, rfl, rfl, HS13.out, HK6.out, HB13.out⟩
                  case measure => have := HLt.out; simp [intOf]; omega
            · subst hdn
              rw [(gone_calls hgo (lsOf o.rs) []).1] at HC
              clear hgo
              by_cases hr0 : o.rs.length = 0
              · have e0 : decide (0 < o.rs.length) = false := decide_eq_false (by omega)
                clear hr0
                go_wp2_with (first | (guard_target =~ wpList _ _ _ (Oper.mk _ (Op.fieldAddr _ _ _) _ _ _ _ :: _) _ _; rw [← HWEo.out]) | fail)
                refine HC.out.mono ?_
                rintro e w6 ⟨rfl, D6, hp6, hL6, ht6⟩
                have HR6 := hide (HRo.out.turn hL6 ht6)
                have HB6 := hide (HBo.out.trans (ht6.below HRo.out.log))
                have hx6 := (ht6.off _ HXo.out.1 (block_lt HXo.out.2)).2.trans HXo.out.2
                have HRec6 := hide (HRec.out.keep (Q := fun b => Off h g D6 b ∧ b ≠ R) ht6.size fun b p l => ⟨⟨(ht6.off b p.1 l).1, p.2⟩, (ht6.off b p.1 l).2⟩)
                clear q0 q1 q2 q3 q4
                obtain ⟨q0, q1, q2, q3, q4⟩ := opbox_cells hx6
                have hlO := block_lt hx6
                have HK6 := hide (show Kept (k + 1) true D6.p L f gen cp (gsOf gs) u ot by rw [hp6]; exact HK.out.more)
                clear hp6 hL6 ht6 HC hx6 HRec
                go_wp2_with fail
                go_roundw
                case rel => exact ⟨k + 1, h, true, v8, D6, _, f, gen, A1, c1, A2, c2, cp, gs, u, ot, HLt.out, by go_num, rfl, rfl, rfl, HR6.out, HK6.out, HB6.out⟩
                case measure => have := HLt.out; simp [intOf]; omega
              · have e0 : decide (0 < o.rs.length) = true := decide_eq_true (by omega)
                clear hr0
                go_wp2_with (first | (guard_target =~ wpList _ _ _ (Oper.mk _ (Op.fieldAddr _ _ _) _ _ _ _ :: _) _ _; rw [← HWEo.out]) | fail)
                refine HC.out.mono ?_
                rintro e w6 ⟨rfl, D6, hp6, hL6, ht6⟩
                have HR6 := hide (HRo.out.turn hL6 ht6)
                have HB6 := hide (HBo.out.trans (ht6.below HRo.out.log))
                have hx6 := (ht6.off _ HXo.out.1 (block_lt HXo.out.2)).2.trans HXo.out.2
                have HRec6 := hide (HRec.out.keep (Q := fun b => Off h g D6 b ∧ b ≠ R) ht6.size fun b p l => ⟨⟨(ht6.off b p.1 l).1, p.2⟩, (ht6.off b p.1 l).2⟩)
                clear q0 q1 q2 q3 q4
                obtain ⟨q0, q1, q2, q3, q4⟩ := opbox_cells hx6
                have hlO := block_lt hx6
                have HK6 := hide (show Kept (k + 1) true D6.p L f gen cp (gsOf gs) u ot by rw [hp6]; exact HK.out.more)
                clear hp6 hL6 ht6 HC hx6 HRec
                go_wp2_with fail
                go_roundw
                case rel => exact ⟨k + 1, h, true, v8, D6, _, f, gen, A1, c1, A2, c2, cp, gs, u, ot, HLt.out, by go_num, rfl, rfl, rfl, HR6.out, HK6.out, HB6.out⟩
                case measure => have := HLt.out; simp [intOf]; omega
        by_cases hk3 : o.k = 3
        · as_aux_lemma =>
            rw [hk3] at g0
            obtain ⟨wo, hwo⟩ : ∃ wo, wo = wr.alloc (.cells #[.int .i64 3, .int .i64 o.n, .slice o.dA o.dl.length o.dc, .slice o.rA o.rs.length o.rc, .slice o.kA o.kl.length o.kc] 49) := ⟨_, rfl⟩
            have hbo : Below wr.heap.size wr wo := by rw [hwo]; exact (Below.refl _ _).alloc (Nat.le_refl _) _
            have hxo : wo.heap[wr.heap.size]? = some (.cells #[.int .i64 3, .int .i64 o.n, .slice o.dA o.dl.length o.dc, .slice o.rA o.rs.length o.rc, .slice o.kA o.kl.length o.kc] 49 (0, 0)) := by rw [hwo]; exact heap_alloc_new wr _
            have HWEo := hide hwo
            obtain ⟨q0, q1, q2, q3, q4⟩ := opbox_cells hxo
            have HRo := hide (HR.out.below hbo)
            have HBo := hide (HBw.out.trans (hbo.mono HBw.out.size))
            have HXo := hide (And.intro (HR.out.log.off_new (Nat.le_refl wr.heap.size)) hxo)
            have hro : RecsIn (fun b => Off h g D b ∧ b ≠ R) wr o.rA o.rs := (hx.r).mono fun b hb _ => ⟨HR.out.log.off_old hb, (by have := HRs.out; omega)⟩
            have HRec := hide (hro.below hbo)
            have HDat := hide (((hx.d).mono fun b hb _ => HR.out.log.off_old hb).below hbo)
            have hkf := HK.out.rough (by omega)
            have HC := hide (logCommit_any o.rA o.rc o.rs wo HRo.out.log HK.out.1.ok (by have := HK.out.1.d; omega) (by have := hkf.2.2.2; omega) (HT.out.on HBo.out) (HRec.out.mono fun b p _ => p.1) (by have := HOk.out.r; omega) (fun j hj => by have := HOk.out.rr j hj; omega))
            unfold LRes at HC
            have HlRw := hide (block_lt HR.out.now.box)
            have HRl := hide (show o.rs.length ≤ maxLen by have := HOk.out.r; unfold maxLen; omega)
            have hgl := HK.out.1.hu
            have HGl := hide (show gs.length ≤ 1000000 from groups_few HK.out.1 (by omega))
            clear hwo hbo hxo hro hx hk1 hk3 hkf HDat hgl
            rcases HK.out.2 with ⟨hdn, hot, hlv⟩ | ⟨hdn, hgo⟩
            · subst hot
              subst hdn
              by_cases hr0 : o.rs.length = 0
              · have e0 : decide (0 < o.rs.length) = false := decide_eq_false (by omega)
                rcases HK.out.1.commit_aft hlv (by omega) (recOk_of HOk.out) (gsOf gs) (by rw [if_pos (by rw [lsOf_len]; exact hr0)]) with ⟨he, hc6, hl6⟩ | ⟨he, hc6, hl6⟩
                · rw [he] at HC
                  have HC6 := hide (And.intro hc6 hl6)
                  clear he hc6 hl6 hlv hr0
                  go_wp2_with (first | (guard_target =~ wpList _ _ _ (Oper.mk _ (Op.fieldAddr _ _ _) _ _ _ _ :: _) _ _; rw [← HWEo.out]) | fail)
                  refine HC.out.mono ?_
                  rintro e w6 ⟨rfl, D6, hp6, hL6, ht6⟩
                  have HR6 := hide (HRo.out.turn hL6 ht6)
                  have HB6 := hide (HBo.out.trans (ht6.below HRo.out.log))
                  have hx6 := (ht6.off _ HXo.out.1 (block_lt HXo.out.2)).2.trans HXo.out.2
                  have HRec6 := hide (HRec.out.keep (Q := fun b => Off h g D6 b ∧ b ≠ R) ht6.size fun b p l => ⟨⟨(ht6.off b p.1 l).1, p.2⟩, (ht6.off b p.1 l).2⟩)
                  clear q0 q1 q2 q3 q4
                  obtain ⟨q0, q1, q2, q3, q4⟩ := opbox_cells hx6
                  have hlO := block_lt hx6
                  rw [← hp6] at HC6
                  have HK6 := hide (show Kept (k + 1) false D6.p (commitR D.p L (lsOf o.rs)).2.2 f gen cp (gsOf gs) gs.length none from ⟨by have := HC6.out.1; rw [gsOf_len] at this; exact this, .inl ⟨rfl, rfl, HC6.out.2⟩⟩)
                  obtain ⟨⟨s0, s1, s2⟩, ⟨f0, f1, f2⟩, hlR⟩ := now_cells HR6.out.now.box
                  have HS13 := hide (HR6.out.sure gs.length)
                  have HB13 := hide (HB6.out.trans (below_set w6 HRs.out 2 (.int .i64 (gs.length : Nat))))
                  clear hp6 hL6 ht6 HC hx6 HRec HC6
                  go_wp2_with fail
                  go_roundw
                  case rel => exact ⟨k + 1, h, false, v8, D6, _, f, gen, A1, c1, A2, c2, cp, gs, gs.length, none, HLt.out, by go_num, rfl, rfl, rfl, HS13.out, HK6.out, HB13.out⟩
                  case measure => have := HLt.out; simp [intOf]; omega
                · rw [he] at HC
                  have HC6 := hide (And.intro hc6 hl6)
                  clear he hc6 hl6 hlv hr0
                  go_wp2_with (first | (guard_target =~ wpList _ _ _ (Oper.mk _ (Op.fieldAddr _ _ _) _ _ _ _ :: _) _ _; rw [← HWEo.out]) | fail)
                  refine HC.out.mono ?_
                  rintro e w6 ⟨rfl, D6, hp6, hL6, ht6⟩
                  have HR6 := hide (HRo.out.turn hL6 ht6)
                  have HB6 := hide (HBo.out.trans (ht6.below HRo.out.log))
                  have hx6 := (ht6.off _ HXo.out.1 (block_lt HXo.out.2)).2.trans HXo.out.2
                  have HRec6 := hide (HRec.out.keep (Q := fun b => Off h g D6 b ∧ b ≠ R) ht6.size fun b p l => ⟨⟨(ht6.off b p.1 l).1, p.2⟩, (ht6.off b p.1 l).2⟩)
                  clear q0 q1 q2 q3 q4
                  obtain ⟨q0, q1, q2, q3, q4⟩ := opbox_cells hx6
                  have hlO := block_lt hx6
                  rw [← hp6] at HC6
                  have HK6 := hide (show Kept (k + 1) true D6.p (commitR D.p L (lsOf o.rs)).2.2 f gen cp (gsOf gs) u none from ⟨HC6.out.1, .inr ⟨rfl, HC6.out.2⟩⟩)
                  clear hp6 hL6 ht6 HC hx6 HRec HC6
                  go_wp2_with fail
                  go_roundw
                  case rel => exact ⟨k + 1, h, true, v8, D6, _, f, gen, A1, c1, A2, c2, cp, gs, u, none, HLt.out, by go_num, rfl, rfl, rfl, HR6.out, HK6.out, HB6.out⟩
                  case measure => have := HLt.out; simp [intOf]; omega
              · have e0 : decide (0 < o.rs.length) = true := decide_eq_true (by omega)
                rcases HK.out.1.commit_aft hlv (by omega) (recOk_of HOk.out) (gsOf gs ++ [lsOf o.rs]) (by rw [if_neg (by rw [lsOf_len]; exact hr0)]) with ⟨he, hc6, hl6⟩ | ⟨he, hc6, hl6⟩
                · rw [he] at HC
                  have HC6 := hide (And.intro hc6 hl6)
                  clear he hc6 hl6 hlv hr0
                  go_wp2_with (first | (guard_target =~ wpList _ _ _ (Oper.mk _ (Op.fieldAddr _ _ _) _ _ _ _ :: _) _ _; rw [← HWEo.out]) | fail)
                  refine HC.out.mono ?_
                  rintro e w6 ⟨rfl, D6, hp6, hL6, ht6⟩
                  have HR6 := hide (HRo.out.turn hL6 ht6)
                  have HB6 := hide (HBo.out.trans (ht6.below HRo.out.log))
                  have hx6 := (ht6.off _ HXo.out.1 (block_lt HXo.out.2)).2.trans HXo.out.2
                  have HRec6 := hide (HRec.out.keep (Q := fun b => Off h g D6 b ∧ b ≠ R) ht6.size fun b p l => ⟨⟨(ht6.off b p.1 l).1, p.2⟩, (ht6.off b p.1 l).2⟩)
                  clear q0 q1 q2 q3 q4
                  obtain ⟨q0, q1, q2, q3, q4⟩ := opbox_cells hx6
                  have hlO := block_lt hx6
                  rw [← hp6] at HC6
                  have HK6 := hide (show Kept (k + 1) false D6.p (commitR D.p L (lsOf o.rs)).2.2 f gen cp (gsOf (gs ++ [⟨o.rA, o.rc, o.rs⟩])) (gs ++ [(⟨o.rA, o.rc, o.rs⟩ : GH)]).length none by
                    rw [← gsOf_len, gsOf_snoc]; exact ⟨HC6.out.1, .inl ⟨rfl, rfl, HC6.out.2⟩⟩)
                  obtain ⟨⟨s0, s1, s2⟩, ⟨f0, f1, f2⟩, hlR⟩ := now_cells HR6.out.now.box
                  obtain ⟨hgc, hgm⟩ := HR6.out.now.l
                  unfold maxLen at hgm
                  clear hp6 hL6 ht6 HC hx6 HRec HC6
                  go_wp2_with fail
                  refine wp_region_heldBut (S := fun w' => Below w6.heap.size w6 w') (L := 14) (by kernel_rfl) ((Below.refl _ _).drew) (fun hS => ?_)
                  refine heldBut_take (i := 0) (oi := ⟨some 67, _, _, _, _, _⟩) (v := ?_) rfl (by kernel_rfl) (by kernel_rfl) (by kernel_rfl) (by kernel_rfl) (fun _ _ _ h => h) (Or.inl ⟨by rfl, ?_⟩) hS ?_
                  rotate_left 1
                  · intro w' hw'
                    have k0 := (hw'.cell (p := ⟨R, 1, none⟩) hlR).trans s1; have k3 := (hw'.cell (p := ⟨wr.heap.size, 3, none⟩) hlO).trans q3
                    go_simp
                    all_goals with_reducible rfl
                  try simp only [Act.put, List.setIfInBounds_toArray, List.set_cons_zero, List.set_cons_succ]
                  refine heldBut_take (i := 2) (oi := ⟨some 69, _, _, _, _, _⟩) (v := ?_) rfl (by kernel_rfl) (by kernel_rfl) (by kernel_rfl) (by kernel_rfl) (fun _ _ _ h => h) (Or.inl ⟨by rfl, ?_⟩) hS ?_
                  rotate_left 1
                  · intro w' hw'
                    have k0 := (hw'.cell (p := ⟨R, 1, none⟩) hlR).trans s1; have k3 := (hw'.cell (p := ⟨wr.heap.size, 3, none⟩) hlO).trans q3
                    go_simp
                    all_goals with_reducible rfl
                  try simp only [Act.put, List.setIfInBounds_toArray, List.set_cons_zero, List.set_cons_succ]
                  refine heldBut_take (i := 5) (oi := ⟨some 72, _, _, _, _, _⟩) (v := ?_) rfl (by kernel_rfl) (by kernel_rfl) (by kernel_rfl) (by kernel_rfl) (fun _ _ _ h => h) (Or.inl ⟨by rfl, ?_⟩) hS ?_
                  rotate_left 1
                  · intro w' hw'
                    have k0 := (hw'.cell (p := ⟨R, 1, none⟩) hlR).trans s1; have k3 := (hw'.cell (p := ⟨wr.heap.size, 3, none⟩) hlO).trans q3
                    go_simp
                    all_goals with_reducible rfl
                  try simp only [Act.put, List.setIfInBounds_toArray, List.set_cons_zero, List.set_cons_succ]
                  refine heldBut_take (i := 9) (oi := ⟨some 76, _, _, _, _, _⟩) (v := ?_) rfl (by kernel_rfl) (by kernel_rfl) (by kernel_rfl) (by kernel_rfl) (fun _ _ _ h => h) (Or.inl ⟨by rfl, ?_⟩) hS ?_
                  rotate_left 1
                  · intro w' hw'
                    have k0 := (hw'.cell (p := ⟨R, 1, none⟩) hlR).trans s1; have k3 := (hw'.cell (p := ⟨wr.heap.size, 3, none⟩) hlO).trans q3
                    go_simp
                    all_goals with_reducible rfl
                  try simp only [Act.put, List.setIfInBounds_toArray, List.set_cons_zero, List.set_cons_succ]
                  refine heldBut_take (i := 1) (oi := ⟨some 68, _, _, _, _, _⟩) (v := ?_) rfl (by kernel_rfl) (by kernel_rfl) (by kernel_rfl) (by kernel_rfl) (fun _ _ _ h => h) (Or.inl ⟨by rfl, ?_⟩) hS ?_
                  rotate_left 1
                  · intro w' hw'
                    have k0 := (hw'.cell (p := ⟨R, 1, none⟩) hlR).trans s1; have k3 := (hw'.cell (p := ⟨wr.heap.size, 3, none⟩) hlO).trans q3
                    go_simp
                    all_goals with_reducible rfl
                  try simp only [Act.put, List.setIfInBounds_toArray, List.set_cons_zero, List.set_cons_succ]
                  refine heldBut_take (i := 3) (oi := ⟨some 70, _, _, _, _, _⟩) (v := ?_) rfl (by kernel_rfl) (by kernel_rfl) (by kernel_rfl) (by kernel_rfl) (fun _ _ _ h => h) (Or.inl ⟨by rfl, ?_⟩) hS ?_
                  rotate_left 1
                  · intro w' hw'
                    have k0 := (hw'.cell (p := ⟨R, 1, none⟩) hlR).trans s1; have k3 := (hw'.cell (p := ⟨wr.heap.size, 3, none⟩) hlO).trans q3
                    go_simp
                    all_goals with_reducible rfl
                  try simp only [Act.put, List.setIfInBounds_toArray, List.set_cons_zero, List.set_cons_succ]
                  refine heldBut_take (i := 6) (oi := ⟨some 73, _, _, _, _, _⟩) (v := ?_) rfl (by kernel_rfl) (by kernel_rfl) (by kernel_rfl) (by kernel_rfl) (fun _ _ _ h => h) (Or.inl ⟨by rfl, ?_⟩) hS ?_
                  rotate_left 1
                  · intro w' hw'
                    have k0 := (hw'.cell (p := ⟨R, 1, none⟩) hlR).trans s1; have k3 := (hw'.cell (p := ⟨wr.heap.size, 3, none⟩) hlO).trans q3
                    go_simp
                    all_goals with_reducible rfl
                  try simp only [Act.put, List.setIfInBounds_toArray, List.set_cons_zero, List.set_cons_succ]
                  refine heldBut_take (i := 10) (oi := ⟨some 77, _, _, _, _, _⟩) (v := ?_) rfl (by kernel_rfl) (by kernel_rfl) (by kernel_rfl) (by kernel_rfl) (fun _ _ _ h => h) (Or.inl ⟨by rfl, ?_⟩) hS ?_
                  rotate_left 1
                  · intro w' hw'
                    have k0 := (hw'.cell (p := ⟨R, 1, none⟩) hlR).trans s1; have k3 := (hw'.cell (p := ⟨wr.heap.size, 3, none⟩) hlO).trans q3
                    go_simp
                    all_goals with_reducible rfl
                  try simp only [Act.put, List.setIfInBounds_toArray, List.set_cons_zero, List.set_cons_succ]
                  refine heldBut_take (i := 4) (oi := ⟨some 71, _, _, _, _, _⟩) (v := ?_) rfl (by kernel_rfl) (by kernel_rfl) (by kernel_rfl) (by kernel_rfl) (fun _ _ _ h => h) (Or.inl ⟨by rfl, ?_⟩) hS ?_
                  rotate_left 1
                  · intro w' hw'
                    have k0 := (hw'.cell (p := ⟨R, 1, none⟩) hlR).trans s1; have k3 := (hw'.cell (p := ⟨wr.heap.size, 3, none⟩) hlO).trans q3
                    go_simp
                    all_goals with_reducible rfl
                  try simp only [Act.put, List.setIfInBounds_toArray, List.set_cons_zero, List.set_cons_succ]
                  refine heldBut_take (i := 7) (oi := ⟨some 74, _, _, _, _, _⟩) (v := ?_) rfl (by kernel_rfl) (by kernel_rfl) (by kernel_rfl) (by kernel_rfl) (fun _ _ _ h => h) (Or.inl ⟨by rfl, ?_⟩) hS ?_
                  rotate_left 1
                  · intro w' hw'
                    have k0 := (hw'.cell (p := ⟨R, 1, none⟩) hlR).trans s1; have k3 := (hw'.cell (p := ⟨wr.heap.size, 3, none⟩) hlO).trans q3
                    go_simp
                    all_goals with_reducible rfl
                  try simp only [Act.put, List.setIfInBounds_toArray, List.set_cons_zero, List.set_cons_succ]
                  refine heldBut_take (i := 8) (oi := ⟨some 75, _, _, _, _, _⟩) (v := ?_) rfl (by kernel_rfl) (by kernel_rfl) (by kernel_rfl) (by kernel_rfl) (fun _ _ _ h => h) (Or.inl ⟨by rfl, ?_⟩) hS ?_
                  rotate_left 1
                  · intro w' hw'
                    have k0 := (hw'.cell (p := ⟨R, 1, none⟩) hlR).trans s1; have k3 := (hw'.cell (p := ⟨wr.heap.size, 3, none⟩) hlO).trans q3
                    go_simp
                    all_goals with_reducible rfl
                  try simp only [Act.put, List.setIfInBounds_toArray, List.set_cons_zero, List.set_cons_succ]
                  obtain ⟨w10, hw10⟩ : ∃ w10, w10 = (w6.alloc (.cells #[.slice o.rA o.rs.length o.rc] 46)).drew := ⟨_, rfl⟩
                  have hb10 : Below w6.heap.size w6 w10 := by rw [hw10]; exact ((Below.refl _ _).alloc (Nat.le_refl _) _).drew
                  have hc10 : w10.cell? ⟨w6.heap.size, 0, none⟩ = some (.slice o.rA o.rs.length o.rc) := by rw [hw10]; exact Lib.cell_of_heap (heap_alloc_new w6 (.cells #[.slice o.rA o.rs.length o.rc] 46)) 0
                  have HB10 := hide hb10
                  have HC10 := hide hc10
                  have HWE10 := hide hw10
                  clear hw10 hb10 hc10
                  refine heldBut_one (i := 11) (o := ⟨some 78, _, _, _, _, _⟩) (by kernel_rfl) rfl (fun K hK => ?_)
                  go_simp
                  rw [show (w6.alloc (.cells #[.slice o.rA o.rs.length o.rc] 46)).drew = w10 from HWE10.out.symm]
                  refine hK.out _ _ (.inr HB10.out) (fun hS => ?_)
                  clear hK K
                  try simp only [Act.put, List.setIfInBounds_toArray, List.set_cons_zero, List.set_cons_succ]
                  refine heldBut_one (i := 12) (o := ⟨some 79, _, _, _, _, _⟩) (by kernel_rfl) rfl (fun K hK => ?_)
                  refine step_full (P := fun b => Off h g D6 b ∧ b ≠ R) rfl (.tmp 75) (.tmp 78) rfl A2 gs gs.length rfl rfl ((HR6.out.now.g).below HB10.out) ⟨o.rA, o.rc, o.rs⟩ w6.heap.size rfl HC10.out (HRec6.out.below HB10.out) ⟨HRl.out, HRn.out⟩ (by have := HGl.out; omega) ?_
                  intro A12 c12 w12 hg12 hl12 hb12
                  have HB12 := hide (HB10.out.trans (hb12.mono HB10.out.size))
                  have HG12 := hide (hg12.mono (Q := fun b => (Off h g D6 b ∧ b ≠ R) ∨ w6.heap.size ≤ b) fun b p _ => p.imp id fun q => Nat.le_trans HB10.out.size q)
                  have HL12 := hide hl12
                  refine hK.out _ _ (.inr HB12.out) (fun hS => ?_)
                  clear hK K hg12 hl12 hb12
                  try simp only [Act.put, List.setIfInBounds_toArray, List.set_cons_zero, List.set_cons_succ]
                  have HR12 := hide (HR6.out.below HB12.out)
                  obtain ⟨⟨y0, y1, y2⟩, ⟨z0, z1, z2⟩, hl12R⟩ := now_cells HR12.out.now.box
                  refine heldBut_one (i := 13) (o := ⟨some 80, _, _, _, _, _⟩) (by kernel_rfl) rfl (fun K hK => ?_)
                  go_simp
                  refine hK.out _ _ (.inr HB12.out) (fun _ => ?_)
                  clear hK K
                  try simp only [Act.put, List.setIfInBounds_toArray, List.set_cons_zero, List.set_cons_succ]
                  refine heldBut_one (i := 14) (o := ⟨none, _, _, _, _, _⟩) (by kernel_rfl) rfl (fun K hK => ?_)
                  go_simp
                  refine hK.out _ _ (.inl rfl) (fun _ => ?_)
                  clear hK K y0 y1 y2 z0 z1 z2
                  try simp only [Act.put, List.setIfInBounds_toArray, List.set_cons_zero, List.set_cons_succ]
                  refine heldBut_done (by kernel_rfl) ?_ _
                  have HS13 := hide (HR6.out.grp (gs' := gs ++ [⟨o.rA, o.rc, o.rs⟩]) HB12.out HG12.out HL12.out)
                  have HB13 := hide ((HB6.out.trans (HB12.out.mono HB6.out.size)).trans (below_set w12 HRs.out 1 (.slice A12 (gs ++ [(⟨o.rA, o.rc, o.rs⟩ : GH)]).length c12)))
                  have p0 : (w12.setCell ⟨R, 1, none⟩ (.slice A12 (gs ++ [(⟨o.rA, o.rc, o.rs⟩ : GH)]).length c12)).cell? ⟨wr.heap.size, 0, none⟩ = some (.int .i64 3) :=
                    (World.cell?_setCell_far _ _ _ _ (by show R ≠ wr.heap.size; have := HlRw.out; omega)).trans ((HB12.out.cell (p := ⟨wr.heap.size, 0, none⟩) hlO).trans q0)
                  obtain ⟨w13, hw13⟩ : ∃ w13, w13 = w12.setCell ⟨R, 1, none⟩ (.slice A12 (gs ++ [(⟨o.rA, o.rc, o.rs⟩ : GH)]).length c12) := ⟨_, rfl⟩
                  rw [← hw13] at HS13 HB13 p0
                  rw [show (w12.setCell ⟨R, 1, none⟩ (.slice A12 (gs.length + 1) c12)) = w13 by rw [hw13, List.length_append]; rfl]
                  clear hw13 s0 s1 s2 f0 f1 f2 q0 q1 q2 q3 q4 HR12 HG12 HL12 HB12 HB10 HC10 HWE10 hS
                  obtain ⟨⟨s0, s1, s2⟩, ⟨f0, f1, f2⟩, hlR13⟩ := now_cells HS13.out.now.box
                  have hcast : (Value.int .i64 ((((gs ++ [(⟨o.rA, o.rc, o.rs⟩ : GH)]).length : Nat) : Int))) = .int .i64 ((gs.length : Int) + 1) := by simp
                  have hS14 := HS13.out.sure (gs ++ [(⟨o.rA, o.rc, o.rs⟩ : GH)]).length
                  have hB14 := HB13.out.trans (below_set w13 HRs.out 2 (.int .i64 ((gs ++ [(⟨o.rA, o.rc, o.rs⟩ : GH)]).length : Nat)))
                  rw [hcast] at hS14 hB14
                  have HS14 := hide hS14
                  have HB14 := hide hB14
                  clear hcast hS14 hB14
                  go_wp2_with fail
                  go_roundw
                  case rel => exact ⟨k + 1, h, false, v8, D6, _, f, gen, A1, c1, A12, c12, cp, gs ++ [⟨o.rA, o.rc, o.rs⟩], _, none, HLt.out, by go_num, rfl, rfl, rfl, HS14.out, HK6.out, HB14.out⟩
                  case measure => have := HLt.out; simp [intOf]; omega
                · rw [he] at HC
                  have HC6 := hide (And.intro hc6 hl6)
                  clear he hc6 hl6 hlv hr0
                  go_wp2_with (first | (guard_target =~ wpList _ _ _ (Oper.mk _ (Op.fieldAddr _ _ _) _ _ _ _ :: _) _ _; rw [← HWEo.out]) | fail)
                  refine HC.out.mono ?_
                  rintro e w6 ⟨rfl, D6, hp6, hL6, ht6⟩
                  have HR6 := hide (HRo.out.turn hL6 ht6)
                  have HB6 := hide (HBo.out.trans (ht6.below HRo.out.log))
                  have hx6 := (ht6.off _ HXo.out.1 (block_lt HXo.out.2)).2.trans HXo.out.2
                  have HRec6 := hide (HRec.out.keep (Q := fun b => Off h g D6 b ∧ b ≠ R) ht6.size fun b p l => ⟨⟨(ht6.off b p.1 l).1, p.2⟩, (ht6.off b p.1 l).2⟩)
                  clear q0 q1 q2 q3 q4
                  obtain ⟨q0, q1, q2, q3, q4⟩ := opbox_cells hx6
                  have hlO := block_lt hx6
                  rw [← hp6] at HC6
                  have HK6 := hide (show Kept (k + 1) true D6.p (commitR D.p L (lsOf o.rs)).2.2 f gen cp (gsOf (gs ++ [⟨o.rA, o.rc, o.rs⟩])) u none by
                    rw [gsOf_snoc]; exact ⟨HC6.out.1, .inr ⟨rfl, HC6.out.2⟩⟩)
                  obtain ⟨⟨s0, s1, s2⟩, ⟨f0, f1, f2⟩, hlR⟩ := now_cells HR6.out.now.box
                  obtain ⟨hgc, hgm⟩ := HR6.out.now.l
                  unfold maxLen at hgm
                  clear hp6 hL6 ht6 HC hx6 HRec HC6
                  go_wp2_with fail
                  refine wp_region_heldBut (S := fun w' => Below w6.heap.size w6 w') (L := 14) (by kernel_rfl) ((Below.refl _ _).drew) (fun hS => ?_)
                  refine heldBut_take (i := 0) (oi := ⟨some 67, _, _, _, _, _⟩) (v := ?_) rfl (by kernel_rfl) (by kernel_rfl) (by kernel_rfl) (by kernel_rfl) (fun _ _ _ h => h) (Or.inl ⟨by rfl, ?_⟩) hS ?_
                  rotate_left 1
                  · intro w' hw'
                    have k0 := (hw'.cell (p := ⟨R, 1, none⟩) hlR).trans s1; have k3 := (hw'.cell (p := ⟨wr.heap.size, 3, none⟩) hlO).trans q3
                    go_simp
                    all_goals with_reducible rfl
                  try simp only [Act.put, List.setIfInBounds_toArray, List.set_cons_zero, List.set_cons_succ]
                  refine heldBut_take (i := 2) (oi := ⟨some 69, _, _, _, _, _⟩) (v := ?_) rfl (by kernel_rfl) (by kernel_rfl) (by kernel_rfl) (by kernel_rfl) (fun _ _ _ h => h) (Or.inl ⟨by rfl, ?_⟩) hS ?_
                  rotate_left 1
                  · intro w' hw'
                    have k0 := (hw'.cell (p := ⟨R, 1, none⟩) hlR).trans s1; have k3 := (hw'.cell (p := ⟨wr.heap.size, 3, none⟩) hlO).trans q3
                    go_simp
                    all_goals with_reducible rfl
                  try simp only [Act.put, List.setIfInBounds_toArray, List.set_cons_zero, List.set_cons_succ]
                  refine heldBut_take (i := 5) (oi := ⟨some 72, _, _, _, _, _⟩) (v := ?_) rfl (by kernel_rfl) (by kernel_rfl) (by kernel_rfl) (by kernel_rfl) (fun _ _ _ h => h) (Or.inl ⟨by rfl, ?_⟩) hS ?_
                  rotate_left 1
                  · intro w' hw'
                    have k0 := (hw'.cell (p := ⟨R, 1, none⟩) hlR).trans s1; have k3 := (hw'.cell (p := ⟨wr.heap.size, 3, none⟩) hlO).trans q3
                    go_simp
                    all_goals with_reducible rfl
                  try simp only [Act.put, List.setIfInBounds_toArray, List.set_cons_zero, List.set_cons_succ]
                  refine heldBut_take (i := 9) (oi := ⟨some 76, _, _, _, _, _⟩) (v := ?_) rfl (by kernel_rfl) (by kernel_rfl) (by kernel_rfl) (by kernel_rfl) (fun _ _ _ h => h) (Or.inl ⟨by rfl, ?_⟩) hS ?_
                  rotate_left 1
                  · intro w' hw'
                    have k0 := (hw'.cell (p := ⟨R, 1, none⟩) hlR).trans s1; have k3 := (hw'.cell (p := ⟨wr.heap.size, 3, none⟩) hlO).trans q3
                    go_simp
                    all_goals with_reducible rfl
                  try simp only [Act.put, List.setIfInBounds_toArray, List.set_cons_zero, List.set_cons_succ]
                  refine heldBut_take (i := 1) (oi := ⟨some 68, _, _, _, _, _⟩) (v := ?_) rfl (by kernel_rfl) (by kernel_rfl) (by kernel_rfl) (by kernel_rfl) (fun _ _ _ h => h) (Or.inl ⟨by rfl, ?_⟩) hS ?_
                  rotate_left 1
                  · intro w' hw'
                    have k0 := (hw'.cell (p := ⟨R, 1, none⟩) hlR).trans s1; have k3 := (hw'.cell (p := ⟨wr.heap.size, 3, none⟩) hlO).trans q3
                    go_simp
                    all_goals with_reducible rfl
                  try simp only [Act.put, List.setIfInBounds_toArray, List.set_cons_zero, List.set_cons_succ]
                  refine heldBut_take (i := 3) (oi := ⟨some 70, _, _, _, _, _⟩) (v := ?_) rfl (by kernel_rfl) (by kernel_rfl) (by kernel_rfl) (by kernel_rfl) (fun _ _ _ h => h) (Or.inl ⟨by rfl, ?_⟩) hS ?_
                  rotate_left 1
                  · intro w' hw'
                    have k0 := (hw'.cell (p := ⟨R, 1, none⟩) hlR).trans s1; have k3 := (hw'.cell (p := ⟨wr.heap.size, 3, none⟩) hlO).trans q3
                    go_simp
                    all_goals with_reducible rfl
                  try simp only [Act.put, List.setIfInBounds_toArray, List.set_cons_zero, List.set_cons_succ]
                  refine heldBut_take (i := 6) (oi := ⟨some 73, _, _, _, _, _⟩) (v := ?_) rfl (by kernel_rfl) (by kernel_rfl) (by kernel_rfl) (by kernel_rfl) (fun _ _ _ h => h) (Or.inl ⟨by rfl, ?_⟩) hS ?_
                  rotate_left 1
                  · intro w' hw'
                    have k0 := (hw'.cell (p := ⟨R, 1, none⟩) hlR).trans s1; have k3 := (hw'.cell (p := ⟨wr.heap.size, 3, none⟩) hlO).trans q3
                    go_simp
                    all_goals with_reducible rfl
                  try simp only [Act.put, List.setIfInBounds_toArray, List.set_cons_zero, List.set_cons_succ]
                  refine heldBut_take (i := 10) (oi := ⟨some 77, _, _, _, _, _⟩) (v := ?_) rfl (by kernel_rfl) (by kernel_rfl) (by kernel_rfl) (by kernel_rfl) (fun _ _ _ h => h) (Or.inl ⟨by rfl, ?_⟩) hS ?_
                  rotate_left 1
                  · intro w' hw'
                    have k0 := (hw'.cell (p := ⟨R, 1, none⟩) hlR).trans s1; have k3 := (hw'.cell (p := ⟨wr.heap.size, 3, none⟩) hlO).trans q3
                    go_simp
                    all_goals with_reducible rfl
                  try simp only [Act.put, List.setIfInBounds_toArray, List.set_cons_zero, List.set_cons_succ]
                  refine heldBut_take (i := 4) (oi := ⟨some 71, _, _, _, _, _⟩) (v := ?_) rfl (by kernel_rfl) (by kernel_rfl) (by kernel_rfl) (by kernel_rfl) (fun _ _ _ h => h) (Or.inl ⟨by rfl, ?_⟩) hS ?_
                  rotate_left 1
                  · intro w' hw'
                    have k0 := (hw'.cell (p := ⟨R, 1, none⟩) hlR).trans s1; have k3 := (hw'.cell (p := ⟨wr.heap.size, 3, none⟩) hlO).trans q3
                    go_simp
                    all_goals with_reducible rfl
                  try simp only [Act.put, List.setIfInBounds_toArray, List.set_cons_zero, List.set_cons_succ]
                  refine heldBut_take (i := 7) (oi := ⟨some 74, _, _, _, _, _⟩) (v := ?_) rfl (by kernel_rfl) (by kernel_rfl) (by kernel_rfl) (by kernel_rfl) (fun _ _ _ h => h) (Or.inl ⟨by rfl, ?_⟩) hS ?_
                  rotate_left 1
                  · intro w' hw'
                    have k0 := (hw'.cell (p := ⟨R, 1, none⟩) hlR).trans s1; have k3 := (hw'.cell (p := ⟨wr.heap.size, 3, none⟩) hlO).trans q3
                    go_simp
                    all_goals with_reducible rfl
                  try simp only [Act.put, List.setIfInBounds_toArray, List.set_cons_zero, List.set_cons_succ]
                  refine heldBut_take (i := 8) (oi := ⟨some 75, _, _, _, _, _⟩) (v := ?_) rfl (by kernel_rfl) (by kernel_rfl) (by kernel_rfl) (by kernel_rfl) (fun _ _ _ h => h) (Or.inl ⟨by rfl, ?_⟩) hS ?_
                  rotate_left 1
                  · intro w' hw'
                    have k0 := (hw'.cell (p := ⟨R, 1, none⟩) hlR).trans s1; have k3 := (hw'.cell (p := ⟨wr.heap.size, 3, none⟩) hlO).trans q3
                    go_simp
                    all_goals with_reducible rfl
                  try simp only [Act.put, List.setIfInBounds_toArray, List.set_cons_zero, List.set_cons_succ]
                  obtain ⟨w10, hw10⟩ : ∃ w10, w10 = (w6.alloc (.cells #[.slice o.rA o.rs.length o.rc] 46)).drew := ⟨_, rfl⟩
                  have hb10 : Below w6.heap.size w6 w10 := by rw [hw10]; exact ((Below.refl _ _).alloc (Nat.le_refl _) _).drew
                  have hc10 : w10.cell? ⟨w6.heap.size, 0, none⟩ = some (.slice o.rA o.rs.length o.rc) := by rw [hw10]; exact Lib.cell_of_heap (heap_alloc_new w6 (.cells #[.slice o.rA o.rs.length o.rc] 46)) 0
                  have HB10 := hide hb10
                  have HC10 := hide hc10
                  have HWE10 := hide hw10
                  clear hw10 hb10 hc10
                  refine heldBut_one (i := 11) (o := ⟨some 78, _, _, _, _, _⟩) (by kernel_rfl) rfl (fun K hK => ?_)
                  go_simp
                  rw [show (w6.alloc (.cells #[.slice o.rA o.rs.length o.rc] 46)).drew = w10 from HWE10.out.symm]
                  refine hK.out _ _ (.inr HB10.out) (fun hS => ?_)
                  clear hK K
                  try simp only [Act.put, List.setIfInBounds_toArray, List.set_cons_zero, List.set_cons_succ]
                  refine heldBut_one (i := 12) (o := ⟨some 79, _, _, _, _, _⟩) (by kernel_rfl) rfl (fun K hK => ?_)
                  refine step_full (P := fun b => Off h g D6 b ∧ b ≠ R) rfl (.tmp 75) (.tmp 78) rfl A2 gs gs.length rfl rfl ((HR6.out.now.g).below HB10.out) ⟨o.rA, o.rc, o.rs⟩ w6.heap.size rfl HC10.out (HRec6.out.below HB10.out) ⟨HRl.out, HRn.out⟩ (by have := HGl.out; omega) ?_
                  intro A12 c12 w12 hg12 hl12 hb12
                  have HB12 := hide (HB10.out.trans (hb12.mono HB10.out.size))
                  have HG12 := hide (hg12.mono (Q := fun b => (Off h g D6 b ∧ b ≠ R) ∨ w6.heap.size ≤ b) fun b p _ => p.imp id fun q => Nat.le_trans HB10.out.size q)
                  have HL12 := hide hl12
                  refine hK.out _ _ (.inr HB12.out) (fun hS => ?_)
                  clear hK K hg12 hl12 hb12
                  try simp only [Act.put, List.setIfInBounds_toArray, List.set_cons_zero, List.set_cons_succ]
                  have HR12 := hide (HR6.out.below HB12.out)
                  obtain ⟨⟨y0, y1, y2⟩, ⟨z0, z1, z2⟩, hl12R⟩ := now_cells HR12.out.now.box
                  refine heldBut_one (i := 13) (o := ⟨some 80, _, _, _, _, _⟩) (by kernel_rfl) rfl (fun K hK => ?_)
                  go_simp
                  refine hK.out _ _ (.inr HB12.out) (fun _ => ?_)
                  clear hK K
                  try simp only [Act.put, List.setIfInBounds_toArray, List.set_cons_zero, List.set_cons_succ]
                  refine heldBut_one (i := 14) (o := ⟨none, _, _, _, _, _⟩) (by kernel_rfl) rfl (fun K hK => ?_)
                  go_simp
                  refine hK.out _ _ (.inl rfl) (fun _ => ?_)
                  clear hK K y0 y1 y2 z0 z1 z2
                  try simp only [Act.put, List.setIfInBounds_toArray, List.set_cons_zero, List.set_cons_succ]
                  refine heldBut_done (by kernel_rfl) ?_ _
                  have HS13 := hide (HR6.out.grp (gs' := gs ++ [⟨o.rA, o.rc, o.rs⟩]) HB12.out HG12.out HL12.out)
                  have HB13 := hide ((HB6.out.trans (HB12.out.mono HB6.out.size)).trans (below_set w12 HRs.out 1 (.slice A12 (gs ++ [(⟨o.rA, o.rc, o.rs⟩ : GH)]).length c12)))
                  have p0 : (w12.setCell ⟨R, 1, none⟩ (.slice A12 (gs ++ [(⟨o.rA, o.rc, o.rs⟩ : GH)]).length c12)).cell? ⟨wr.heap.size, 0, none⟩ = some (.int .i64 3) :=
                    (World.cell?_setCell_far _ _ _ _ (by show R ≠ wr.heap.size; have := HlRw.out; omega)).trans ((HB12.out.cell (p := ⟨wr.heap.size, 0, none⟩) hlO).trans q0)
                  obtain ⟨w13, hw13⟩ : ∃ w13, w13 = w12.setCell ⟨R, 1, none⟩ (.slice A12 (gs ++ [(⟨o.rA, o.rc, o.rs⟩ : GH)]).length c12) := ⟨_, rfl⟩
                  rw [← hw13] at HS13 HB13 p0
                  rw [show (w12.setCell ⟨R, 1, none⟩ (.slice A12 (gs.length + 1) c12)) = w13 by rw [hw13, List.length_append]; rfl]
                  clear hw13 s0 s1 s2 f0 f1 f2 q0 q1 q2 q3 q4 HR12 HG12 HL12 HB12 HB10 HC10 HWE10 hS
                  obtain ⟨⟨s0, s1, s2⟩, ⟨f0, f1, f2⟩, hlR13⟩ := now_cells HS13.out.now.box
                  go_wp2_with fail
                  go_roundw
                  case rel => exact ⟨k + 1, h, true, v8, D6, _, f, gen, A1, c1, A12, c12, cp, gs ++ [⟨o.rA, o.rc, o.rs⟩], u, none, HLt.out, by go_num, rfl, rfl, rfl, HS13.out, HK6.out, HB13.out⟩
                  case measure => have := HLt.out; simp [intOf]; omega
            · subst hdn
              rw [(gone_calls hgo (lsOf o.rs) []).2.2.1] at HC
              clear hgo
              by_cases hr0 : o.rs.length = 0
              · have e0 : decide (0 < o.rs.length) = false := decide_eq_false (by omega)
                clear hr0
                go_wp2_with (first | (guard_target =~ wpList _ _ _ (Oper.mk _ (Op.fieldAddr _ _ _) _ _ _ _ :: _) _ _; rw [← HWEo.out]) | fail)
                refine HC.out.mono ?_
                rintro e w6 ⟨rfl, D6, hp6, hL6, ht6⟩
                have HR6 := hide (HRo.out.turn hL6 ht6)
                have HB6 := hide (HBo.out.trans (ht6.below HRo.out.log))
                have hx6 := (ht6.off _ HXo.out.1 (block_lt HXo.out.2)).2.trans HXo.out.2
                have HRec6 := hide (HRec.out.keep (Q := fun b => Off h g D6 b ∧ b ≠ R) ht6.size fun b p l => ⟨⟨(ht6.off b p.1 l).1, p.2⟩, (ht6.off b p.1 l).2⟩)
                clear q0 q1 q2 q3 q4
                obtain ⟨q0, q1, q2, q3, q4⟩ := opbox_cells hx6
                have hlO := block_lt hx6
                have HK6 := hide (show Kept (k + 1) true D6.p L f gen cp (gsOf gs) u ot by rw [hp6]; exact HK.out.more)
                clear hp6 hL6 ht6 HC hx6 HRec
                go_wp2_with fail
                go_roundw
                case rel => exact ⟨k + 1, h, true, v8, D6, _, f, gen, A1, c1, A2, c2, cp, gs, u, ot, HLt.out, by go_num, rfl, rfl, rfl, HR6.out, HK6.out, HB6.out⟩
                case measure => have := HLt.out; simp [intOf]; omega
              · have e0 : decide (0 < o.rs.length) = true := decide_eq_true (by omega)
                clear hr0
                go_wp2_with (first | (guard_target =~ wpList _ _ _ (Oper.mk _ (Op.fieldAddr _ _ _) _ _ _ _ :: _) _ _; rw [← HWEo.out]) | fail)
                refine HC.out.mono ?_
                rintro e w6 ⟨rfl, D6, hp6, hL6, ht6⟩
                have HR6 := hide (HRo.out.turn hL6 ht6)
                have HB6 := hide (HBo.out.trans (ht6.below HRo.out.log))
                have hx6 := (ht6.off _ HXo.out.1 (block_lt HXo.out.2)).2.trans HXo.out.2
                have HRec6 := hide (HRec.out.keep (Q := fun b => Off h g D6 b ∧ b ≠ R) ht6.size fun b p l => ⟨⟨(ht6.off b p.1 l).1, p.2⟩, (ht6.off b p.1 l).2⟩)
                clear q0 q1 q2 q3 q4
                obtain ⟨q0, q1, q2, q3, q4⟩ := opbox_cells hx6
                have hlO := block_lt hx6
                have HK6 := hide (show Kept (k + 1) true D6.p L f gen cp (gsOf gs) u ot by rw [hp6]; exact HK.out.more)
                clear hp6 hL6 ht6 HC hx6 HRec
                go_wp2_with fail
                go_roundw
                case rel => exact ⟨k + 1, h, true, v8, D6, _, f, gen, A1, c1, A2, c2, cp, gs, u, ot, HLt.out, by go_num, rfl, rfl, rfl, HR6.out, HK6.out, HB6.out⟩
                case measure => have := HLt.out; simp [intOf]; omega
        by_cases hk2 : o.k = 2
        · as_aux_lemma =>
            rw [hk2] at g0
            obtain ⟨wo, hwo⟩ : ∃ wo, wo = wr.alloc (.cells #[.int .i64 2, .int .i64 o.n, .slice o.dA o.dl.length o.dc, .slice o.rA o.rs.length o.rc, .slice o.kA o.kl.length o.kc] 49) := ⟨_, rfl⟩
            have hbo : Below wr.heap.size wr wo := by rw [hwo]; exact (Below.refl _ _).alloc (Nat.le_refl _) _
            have hxo : wo.heap[wr.heap.size]? = some (.cells #[.int .i64 2, .int .i64 o.n, .slice o.dA o.dl.length o.dc, .slice o.rA o.rs.length o.rc, .slice o.kA o.kl.length o.kc] 49 (0, 0)) := by rw [hwo]; exact heap_alloc_new wr _
            have HWEo := hide hwo
            obtain ⟨q0, q1, q2, q3, q4⟩ := opbox_cells hxo
            have HRo := hide (HR.out.below hbo)
            have HBo := hide (HBw.out.trans (hbo.mono HBw.out.size))
            have HXo := hide (And.intro (HR.out.log.off_new (Nat.le_refl wr.heap.size)) hxo)
            have hro := (hx.r).mono fun b hb _ => HR.out.log.off_old hb
            have HRec := hide (hro.below hbo)
            have HDat := hide (((hx.d).mono fun b hb _ => HR.out.log.off_old hb).below hbo)
            have HC := hide (logSync_any wo HRo.out.log HK.out.1.ok (by have := HK.out.1.d; omega))
            unfold LRes at HC
            clear hwo hbo hxo hro hx hk1 hk3 HRec HDat HXo
            rcases HK.out.2 with ⟨hdn, hot, hlv⟩ | ⟨hdn, hgo⟩
            · subst hot
              subst hdn
              rcases HK.out.1.sync hlv (by omega) with ⟨he, hc6, hl6⟩ | ⟨he, hc6, hl6⟩
              · rw [he] at HC
                have HC6 := hide (And.intro hc6 hl6)
                clear he hc6 hl6 hlv
                go_wp2_with (first | (guard_target =~ wpList _ _ _ (Oper.mk _ (Op.fieldAddr _ _ _) _ _ _ _ :: _) _ _; rw [← HWEo.out]) | fail)
                refine HC.out.mono ?_
                rintro e w6 ⟨rfl, D6, hp6, hL6, ht6⟩
                have HR6 := hide (HRo.out.turn hL6 ht6)
                have HB6 := hide (HBo.out.trans (ht6.below HRo.out.log))
                have HS6 := hide (show Rest w.heap.size h g R (w6.setCell ⟨R, 2, none⟩ (.int .i64 (gs.length : Nat))) v8 _ D6 A1 c1 A2 c2 cp gs gs.length none from HR6.out.sure gs.length)
                have HK6 := hide (show Kept (k + 1) false D6.p (syncR D.p L).2.2 f gen cp (gsOf gs) gs.length none by rw [hp6]; exact ⟨by have := HC6.out.1.more; rw [gsOf_len] at this; exact this, .inl ⟨rfl, rfl, HC6.out.2⟩⟩)
                obtain ⟨⟨s0, s1, s2⟩, ⟨f0, f1, f2⟩, hlR⟩ := now_cells HR6.out.now.box
                have HB7 := hide (HB6.out.trans (below_set w6 HRs.out 2 (.int .i64 (gs.length : Nat))))
                clear hp6 hL6 ht6 HC HC6
                go_wp2_with fail
                go_roundw
                case rel => exact ⟨k + 1, h, false, v8, D6, _, f, gen, A1, c1, A2, c2, cp, gs, gs.length, none, HLt.out, by go_num, rfl, rfl, rfl, HS6.out, HK6.out, HB7.out⟩
                case measure => have := HLt.out; simp [intOf]; omega
              · rw [he] at HC
                have HC6 := hide (And.intro hc6 hl6)
                clear he hc6 hl6 hlv
                go_wp2_with (first | (guard_target =~ wpList _ _ _ (Oper.mk _ (Op.fieldAddr _ _ _) _ _ _ _ :: _) _ _; rw [← HWEo.out]) | fail)
                refine HC.out.mono ?_
                rintro e w6 ⟨rfl, D6, hp6, hL6, ht6⟩
                have HR6 := hide (HRo.out.turn hL6 ht6)
                have HB6 := hide (HBo.out.trans (ht6.below HRo.out.log))
                have HK6 := hide (show Kept (k + 1) true D6.p (syncR D.p L).2.2 f gen cp (gsOf gs) u none by rw [hp6]; exact ⟨HC6.out.1.more, .inr ⟨rfl, HC6.out.2⟩⟩)
                clear hp6 hL6 ht6 HC HC6
                go_wp2_with fail
                go_roundw
                case rel => exact ⟨k + 1, h, true, v8, D6, _, f, gen, A1, c1, A2, c2, cp, gs, u, none, HLt.out, by go_num, rfl, rfl, rfl, HR6.out, HK6.out, HB6.out⟩
                case measure => have := HLt.out; simp [intOf]; omega
            · subst hdn
              rw [(gone_calls hgo [] []).2.1] at HC
              clear hgo
              go_wp2_with (first | (guard_target =~ wpList _ _ _ (Oper.mk _ (Op.fieldAddr _ _ _) _ _ _ _ :: _) _ _; rw [← HWEo.out]) | fail)
              refine HC.out.mono ?_
              rintro e w6 ⟨rfl, D6, hp6, hL6, ht6⟩
              have HR6 := hide (HRo.out.turn hL6 ht6)
              have HB6 := hide (HBo.out.trans (ht6.below HRo.out.log))
              have HK6 := hide (show Kept (k + 1) true D6.p L f gen cp (gsOf gs) u ot by rw [hp6]; exact HK.out.more)
              clear hp6 hL6 ht6 HC
              go_wp2_with fail
              go_roundw
              case rel => exact ⟨k + 1, h, true, v8, D6, _, f, gen, A1, c1, A2, c2, cp, gs, u, ot, HLt.out, by go_num, rfl, rfl, rfl, HR6.out, HK6.out, HB6.out⟩
              case measure => have := HLt.out; simp [intOf]; omega
        by_cases hk4 : o.k = 4
        · as_aux_lemma =>
            rw [hk4] at g0
            obtain ⟨wo, hwo⟩ : ∃ wo, wo = wr.alloc (.cells #[.int .i64 4, .int .i64 o.n, .slice o.dA o.dl.length o.dc, .slice o.rA o.rs.length o.rc, .slice o.kA o.kl.length o.kc] 49) := ⟨_, rfl⟩
            have hbo : Below wr.heap.size wr wo := by rw [hwo]; exact (Below.refl _ _).alloc (Nat.le_refl _) _
            have hxo : wo.heap[wr.heap.size]? = some (.cells #[.int .i64 4, .int .i64 o.n, .slice o.dA o.dl.length o.dc, .slice o.rA o.rs.length o.rc, .slice o.kA o.kl.length o.kc] 49 (0, 0)) := by rw [hwo]; exact heap_alloc_new wr _
            have HWEo := hide hwo
            obtain ⟨q0, q1, q2, q3, q4⟩ := opbox_cells hxo
            have HRo := hide (HR.out.below hbo)
            have HBo := hide (HBw.out.trans (hbo.mono HBw.out.size))
            have HXo := hide (And.intro (HR.out.log.off_new (Nat.le_refl wr.heap.size)) hxo)
            have hro := (hx.r).mono fun b hb _ => HR.out.log.off_old hb
            have HRec := hide (hro.below hbo)
            have HDat := hide (((hx.d).mono fun b hb _ => HR.out.log.off_old hb).below hbo)
            have hkf := HK.out.rough (by omega)
            have HC := hide (logCompact_any o.dA o.dc o.dl wo HRo.out.log HK.out.1.ok (by have := HK.out.1.d; omega) hkf.1 (HT.out.on HBo.out) (HRo.out.log.off_old hgt) hkf.2.1 (by have := hkf.2.2.1; omega) HDat.out (by have := HOk.out.d; omega))
            unfold LRes at HC
            clear hwo hbo hxo hro hx hk1 hk3 hk2 HRec hkf
            rcases HK.out.2 with ⟨hdn, hot, hlv⟩ | ⟨hdn, hgo⟩
            · subst hot
              subst hdn
              rcases HK.out.1.compact hlv (by omega) HOk.out.d with ⟨he, hc6, hl6⟩ | ⟨he, hc6, hl6⟩
              · rw [he] at HC
                have HC6 := hide (And.intro hc6 hl6)
                clear he hc6 hl6 hlv
                go_wp2_with (first | (guard_target =~ wpList _ _ _ (Oper.mk _ (Op.fieldAddr _ _ _) _ _ _ _ :: _) _ _; rw [← HWEo.out]) | fail)
                refine HC.out.mono ?_
                rintro e w6 ⟨rfl, D6, hp6, hL6, ht6⟩
                have HR6 := hide (HRo.out.turn hL6 ht6)
                have HB6 := hide (HBo.out.trans (ht6.below HRo.out.log))
                have HD6 := hide (HDat.out.keep ht6.size fun b p l => ht6.off b p l)
                have hx6 := (ht6.off _ HXo.out.1 (block_lt HXo.out.2)).2.trans HXo.out.2
                clear q0 q1 q2 q3 q4
                obtain ⟨q0, q1, q2, q3, q4⟩ := opbox_cells hx6
                rw [← hp6] at HC6
                have HK6 := hide (show Kept (k + 1) false D6.p (compactR D.p L o.dl).2.2 (1 - f) (gen + 1) o.dl (gsOf []) 0 none from ⟨HC6.out.1.more, .inl ⟨rfl, rfl, HC6.out.2⟩⟩)
                obtain ⟨⟨s0, s1, s2⟩, ⟨f0, f1, f2⟩, hlR⟩ := now_cells HR6.out.now.box
                have hlO := block_lt hx6
                clear hp6 hL6 ht6 HC HC6 HDat hx6
                obtain ⟨w7, hw7⟩ : ∃ w7, w7 = w6.alloc (.cells #[] 5) := ⟨_, rfl⟩
                obtain ⟨hb7, how⟩ := own_empty hw7
                have HWE7 := hide hw7
                have HD7 := hide ((HD6.out.below hb7).bytes)
                have HB7 := hide hb7
                have HR7 := hide (HR6.out.below hb7)
                have p2 := (hb7.cell (p := ⟨wr.heap.size, 2, none⟩) hlO).trans q2
                have hsz7 := hb7.size
                have HOw := hide how
                clear hw7 hb7 how q0 q1 q2 q3 q4
                try clear s0 s1 s2 f0 f1 f2
                go_wp2_with (first | (guard_target =~ wpList _ _ _ (Oper.mk _ (Op.fieldAddr _ _ _) _ _ _ _ :: _) _ _; rw [← HWE7.out]) | (at_builtin; go_must (refine append_bytes rfl _ _ rfl w6.heap.size _ [] o.dl 0 rfl HOw.out w7.heap.size o.dA o.dl.length o.dc rfl rfl HD7.out HDn.out (by have := HOk.out.d; omega) HB7.out.size ?_)) | fail)
                rintro v8' w8 h8 hg8 -
                try simp only [Nat.zero_add, List.nil_append] at h8
                try simp only [Nat.zero_add, List.nil_append]
                obtain ⟨A8, c8, rfl, hy8, hA8, hn8, hm8⟩ := bytes_of_row h8
                have hb8 : Below w6.heap.size w6 w8 := HB7.out.grown hg8 HB7.out.size (fun k e => by have e2 : some w6.heap.size = some k := e; injection e2 with e2; omega)
                have HR8 := hide (HR6.out.below hb8)
                have HB8 := hide (HB6.out.trans (hb8.mono HB6.out.size))
                have HY8 := hide (show BytesIn (fun b => Off h g D6 b ∧ b ≠ R) w8 A8 o.dl from BytesIn.of_bytes hy8 fun a e => ⟨HR6.out.log.off_new (hA8 a e).1, (by have h1 := (hA8 a e).1; have h2 := block_lt HR6.out.now.box; show a.block ≠ R; omega)⟩)
                have hlt8 : ∀ a, A8 = some a → o.dl.length ≠ 0 → a.block < w8.heap.size := fun a e h0 => by
                  obtain ⟨b', off', e2, h3, _⟩ := hy8 0 (Nat.pos_of_ne_zero h0)
                  rw [e] at e2; injection e2 with e2; rw [e2]; exact h3
                obtain ⟨⟨s0, s1, s2⟩, ⟨f0, f1, f2⟩, hlR8⟩ := now_cells HR8.out.now.box
                have HS9 := hide (HR8.out.whole (A' := A8) (c' := c8) (A2' := none) (c2' := 0) (cp' := o.dl) (gs' := []) 0 HY8.out (GrpsIn.nil _ _ _) (by unfold maxLen; simp))
                have HB9 := hide (HB8.out.trans (below_set3 w8 HRs.out (.slice A8 o.dl.length c8) (.slice none 0 0) (.int .i64 (0 : Nat))))
                clear h8 hg8 hy8 hA8 hb8 hlt8 HOw HD7
                go_wp2_with fail
                go_roundw
                case rel => exact ⟨k + 1, h, false, v8, D6, _, 1 - f, gen + 1, A8, c8, none, 0, o.dl, [], 0, none, HLt.out, by go_num, rfl, rfl, rfl, HS9.out, HK6.out, HB9.out⟩
                case measure => have := HLt.out; simp [intOf]; omega
              · rw [he] at HC
                have HC6 := hide (And.intro hc6 hl6)
                clear he hc6 hl6 hlv
                go_wp2_with (first | (guard_target =~ wpList _ _ _ (Oper.mk _ (Op.fieldAddr _ _ _) _ _ _ _ :: _) _ _; rw [← HWEo.out]) | fail)
                refine HC.out.mono ?_
                rintro e w6 ⟨rfl, D6, hp6, hL6, ht6⟩
                have HR6 := hide (HRo.out.turn hL6 ht6)
                have HB6 := hide (HBo.out.trans (ht6.below HRo.out.log))
                have HD6 := hide (HDat.out.keep ht6.size fun b p l => ht6.off b p l)
                have hx6 := (ht6.off _ HXo.out.1 (block_lt HXo.out.2)).2.trans HXo.out.2
                clear q0 q1 q2 q3 q4
                obtain ⟨q0, q1, q2, q3, q4⟩ := opbox_cells hx6
                rw [← hp6] at HC6
                have HK6 := hide (show Kept (k + 1) true D6.p (compactR D.p L o.dl).2.2 f gen cp (gsOf gs) u (some o.dl) from ⟨HC6.out.1.more, .inr ⟨rfl, HC6.out.2⟩⟩)
                have hlO := block_lt hx6
                clear hp6 hL6 ht6 HC HC6 HDat hx6
                obtain ⟨w7, hw7⟩ : ∃ w7, w7 = w6.alloc (.cells #[] 5) := ⟨_, rfl⟩
                obtain ⟨hb7, how⟩ := own_empty hw7
                have HWE7 := hide hw7
                have HD7 := hide ((HD6.out.below hb7).bytes)
                have HB7 := hide hb7
                have HR7 := hide (HR6.out.below hb7)
                have p2 := (hb7.cell (p := ⟨wr.heap.size, 2, none⟩) hlO).trans q2
                have hsz7 := hb7.size
                have HOw := hide how
                clear hw7 hb7 how q0 q1 q2 q3 q4
                try clear s0 s1 s2 f0 f1 f2
                go_wp2_with (first | (guard_target =~ wpList _ _ _ (Oper.mk _ (Op.fieldAddr _ _ _) _ _ _ _ :: _) _ _; rw [← HWE7.out]) | (at_builtin; go_must (refine append_bytes rfl _ _ rfl w6.heap.size _ [] o.dl 0 rfl HOw.out w7.heap.size o.dA o.dl.length o.dc rfl rfl HD7.out HDn.out (by have := HOk.out.d; omega) HB7.out.size ?_)) | fail)
                rintro v8' w8 h8 hg8 -
                try simp only [Nat.zero_add, List.nil_append] at h8
                try simp only [Nat.zero_add, List.nil_append]
                obtain ⟨A8, c8, rfl, hy8, hA8, hn8, hm8⟩ := bytes_of_row h8
                have hb8 : Below w6.heap.size w6 w8 := HB7.out.grown hg8 HB7.out.size (fun k e => by have e2 : some w6.heap.size = some k := e; injection e2 with e2; omega)
                have HR8 := hide (HR6.out.below hb8)
                have HB8 := hide (HB6.out.trans (hb8.mono HB6.out.size))
                have HY8 := hide (show BytesIn (fun b => Off h g D6 b ∧ b ≠ R) w8 A8 o.dl from BytesIn.of_bytes hy8 fun a e => ⟨HR6.out.log.off_new (hA8 a e).1, (by have h1 := (hA8 a e).1; have h2 := block_lt HR6.out.now.box; show a.block ≠ R; omega)⟩)
                have hlt8 : ∀ a, A8 = some a → o.dl.length ≠ 0 → a.block < w8.heap.size := fun a e h0 => by
                  obtain ⟨b', off', e2, h3, _⟩ := hy8 0 (Nat.pos_of_ne_zero h0)
                  rw [e] at e2; injection e2 with e2; rw [e2]; exact h3
                obtain ⟨⟨s0, s1, s2⟩, ⟨f0, f1, f2⟩, hlR8⟩ := now_cells HR8.out.now.box
                obtain ⟨w9, hw9⟩ : ∃ w9, w9 = w8.alloc (.cells #[.slice A8 o.dl.length c8, .slice none 0 0, .int .i64 0] 58) := ⟨_, rfl⟩
                have hb9 : Below w8.heap.size w8 w9 := by rw [hw9]; exact (Below.refl _ _).alloc (Nat.le_refl _) _
                have hx9 : w9.heap[w8.heap.size]? = some (.cells #[.slice A8 o.dl.length c8, .slice none 0 0, .int .i64 0] 58 (0, 0)) := by rw [hw9]; exact heap_alloc_new w8 _
                have HWE9 := hide hw9
                have HR9 := hide (show Rest w.heap.size h g R w9 (.pointer (some ⟨w8.heap.size, 0, none⟩)) (compactR D.p L o.dl).2.2 D6 A1 c1 A2 c2 cp gs u (some o.dl) from
                  ⟨(HR8.out.below hb9).log, (HR8.out.below hb9).now, w8.heap.size, A8, c8, rfl, ⟨hx9, ⟨HR8.out.log.off_new (Nat.le_refl _), (by have h2 := block_lt HR8.out.now.box; show w8.heap.size ≠ R; omega)⟩, (HY8.out.mono fun b p hlt => ⟨p, (by show b ≠ w8.heap.size; omega)⟩).below hb9, GrpsIn.nil _ _ _, by unfold maxLen; simp⟩⟩)
                have HB9 := hide (HB8.out.trans (hb9.mono HB8.out.size))
                clear h8 hg8 hy8 hA8 hb8 hlt8 HOw HD7 hw9 hb9 hx9
                go_wp2_with fail
                go_roundw
                case rel => rw [← HWE9.out]; exact ⟨k + 1, h, true, _, D6, _, f, gen, A1, c1, A2, c2, cp, gs, u, some o.dl, HLt.out, by go_num, rfl, rfl, rfl, HR9.out, HK6.out, HB9.out⟩
                case measure => have := HLt.out; simp [intOf]; omega
            · subst hdn
              rw [(gone_calls hgo [] o.dl).2.2.2] at HC
              clear hgo HDat HXo
              go_wp2_with (first | (guard_target =~ wpList _ _ _ (Oper.mk _ (Op.fieldAddr _ _ _) _ _ _ _ :: _) _ _; rw [← HWEo.out]) | fail)
              refine HC.out.mono ?_
              rintro e w6 ⟨rfl, D6, hp6, hL6, ht6⟩
              have HR6 := hide (HRo.out.turn hL6 ht6)
              have HB6 := hide (HBo.out.trans (ht6.below HRo.out.log))
              have HK6 := hide (show Kept (k + 1) true D6.p L f gen cp (gsOf gs) u ot by rw [hp6]; exact HK.out.more)
              clear hp6 hL6 ht6 HC
              go_wp2_with fail
              go_roundw
              case rel => exact ⟨k + 1, h, true, v8, D6, _, f, gen, A1, c1, A2, c2, cp, gs, u, ot, HLt.out, by go_num, rfl, rfl, rfl, HR6.out, HK6.out, HB6.out⟩
              case measure => have := HLt.out; simp [intOf]; omega
        by_cases hk5 : o.k = 5
        · as_aux_lemma =>
            rw [hk5] at g0
            obtain ⟨wo, hwo⟩ : ∃ wo, wo = wr.alloc (.cells #[.int .i64 5, .int .i64 o.n, .slice o.dA o.dl.length o.dc, .slice o.rA o.rs.length o.rc, .slice o.kA o.kl.length o.kc] 49) := ⟨_, rfl⟩
            have hbo : Below wr.heap.size wr wo := by rw [hwo]; exact (Below.refl _ _).alloc (Nat.le_refl _) _
            have hxo : wo.heap[wr.heap.size]? = some (.cells #[.int .i64 5, .int .i64 o.n, .slice o.dA o.dl.length o.dc, .slice o.rA o.rs.length o.rc, .slice o.kA o.kl.length o.kc] 49 (0, 0)) := by rw [hwo]; exact heap_alloc_new wr _
            have HWEo := hide hwo
            obtain ⟨q0, q1, q2, q3, q4⟩ := opbox_cells hxo
            have HRo := hide (HR.out.below hbo)
            have HBo := hide (HBw.out.trans (hbo.mono HBw.out.size))
            have HXo := hide (And.intro (HR.out.log.off_new (Nat.le_refl wr.heap.size)) hxo)
            have hro := (hx.r).mono fun b hb _ => HR.out.log.off_old hb
            have HRec := hide (hro.below hbo)
            have HDat := hide (((hx.d).mono fun b hb _ => HR.out.log.off_old hb).below hbo)
            have HAr := hide (arm_any o.n wo HRo.out.log.disk)
            clear hwo hbo hxo hro hx hk1 hk3 hk2 hk4 HRec HDat HXo
            go_wp2_with (first | (guard_target =~ wpList _ _ _ (Oper.mk _ (Op.fieldAddr _ _ _) _ _ _ _ :: _) _ _; rw [← HWEo.out]) | fail)
            refine HAr.out.mono ?_
            rintro e w6 ⟨rfl, D6, hp6, -, hD6, ht6⟩
            have HR6 := hide (HRo.out.turn (HRo.out.log.turn hD6 ht6) (LTurn.of_turned ht6))
            have HB6 := hide (HBo.out.trans (ht6.below HRo.out.log.disk))
            have HK6 := hide (show Kept (k + 1) dn D6.p L f gen cp (gsOf gs) u ot by rw [hp6]; exact HK.out.arm HNn.out.1 HNn.out.2)
            clear hp6 hD6 ht6 HAr
            go_wp2_with fail
            go_roundw
            case rel => exact ⟨k + 1, h, dn, v8, D6, L, f, gen, A1, c1, A2, c2, cp, gs, u, ot, HLt.out, by go_num, rfl, rfl, rfl, HR6.out, HK6.out, HB6.out⟩
            case measure => have := HLt.out; simp [intOf]; omega
        by_cases hk6 : o.k = 6
        · as_aux_lemma =>
            rw [hk6] at g0
            obtain ⟨wo, hwo⟩ : ∃ wo, wo = wr.alloc (.cells #[.int .i64 6, .int .i64 o.n, .slice o.dA o.dl.length o.dc, .slice o.rA o.rs.length o.rc, .slice o.kA o.kl.length o.kc] 49) := ⟨_, rfl⟩
            have hbo : Below wr.heap.size wr wo := by rw [hwo]; exact (Below.refl _ _).alloc (Nat.le_refl _) _
            have hxo : wo.heap[wr.heap.size]? = some (.cells #[.int .i64 6, .int .i64 o.n, .slice o.dA o.dl.length o.dc, .slice o.rA o.rs.length o.rc, .slice o.kA o.kl.length o.kc] 49 (0, 0)) := by rw [hwo]; exact heap_alloc_new wr _
            have HWEo := hide hwo
            obtain ⟨q0, q1, q2, q3, q4⟩ := opbox_cells hxo
            have HRo := hide (HR.out.below hbo)
            have HBo := hide (HBw.out.trans (hbo.mono HBw.out.size))
            have HXo := hide (And.intro (HR.out.log.off_new (Nat.le_refl wr.heap.size)) hxo)
            have hro := (hx.r).mono fun b hb _ => HR.out.log.off_old hb
            have HRec := hide (hro.below hbo)
            have HDat := hide (((hx.d).mono fun b hb _ => HR.out.log.off_old hb).below hbo)
            have HCr := hide (crash_any o.kA o.kc o.kl wo HRo.out.log.disk HK.out.1.ok (KeepAt.of_ints hx.k (hbo.mono HBw.out.size) HRo.out.log.disk) (by have := HOk.out.k; omega) HNk.out)
            have HOk6 := hide (crash_ok HK.out.1.ok o.kl)
            have HDo6 := hide (show (crashP D.p o.kl).done ≤ 3 + 10 * (2 * (k + 1)) by have := HK.out.1.d; have := (crash_done D.p o.kl).1; omega)
            have HCm6 := hide (One.crash_calm HK.out.1.ok o.kl)
            clear hwo hbo hxo hro hx hk1 hk3 hk2 hk4 hk5 HRec HDat HXo
            rcases HK.out.1.crash (by omega) o.kl with ⟨n, hn, hun, hone⟩ | ⟨cp', hot, hone⟩
            · have HOne := hide hone
              have HNn2 := hide (And.intro hn hun)
              have hlen : (headB gen cp ++ catG ((gsOf gs).take n)).length ≤ 400 + 1800 * (2 * (k + 1)) := by
                have h1 := HK.out.1.n
                rw [HK.out.1.x, List.length_append] at h1
                have h2 := catG_take_le (gsOf gs) n
                rw [List.length_append]; omega
              obtain ⟨hz6, hcr7, hlv7⟩ := HOne.out.lives (k := 2 * (k + 1)) HCm6.out (by have := HK.out.1.g2; omega) hlen HDo6.out HK.out.1.hc HK.out.1.cap
              have HCL := hide (And.intro hcr7 hlv7)
              have HZ := hide hz6
              have HOp := hide HOne.out.open.2
              clear hn hun hone hlen hcr7 hlv7 hz6
              go_wp2_with (first | (guard_target =~ wpList _ _ _ (Oper.mk _ (Op.fieldAddr _ _ _) _ _ _ _ :: _) _ _; rw [← HWEo.out]) | fail)
              refine HCr.out.mono ?_
              rintro e w6 ⟨rfl, D6, hp6, hD6, ht6⟩
              have HB6 := hide (HBo.out.trans (ht6.below HRo.out.log.disk))
              have HN6 := hide (show NowAt (OffD g D6) w6 R A1 c1 A2 c2 cp gs u from HRo.out.now.keep ht6.size fun b p l => ht6.offD b (off_offD p) l)
              have HD6 := hide hD6
              rw [← hp6] at HOk6 HDo6 HCm6 HCL HZ HOp
              have HO6 := hide (open_any w6 hD6 HOk6.out (by have := HDo6.out; omega) (HT.out.on HB6.out) hgt)
              unfold OpenRes at HO6
              clear hp6 hD6 ht6 HCr
              go_wp2_with fail
              refine HO6.out.mono ?_
              rintro e w7 hc
              rcases hc with ⟨hdn, -⟩ | ⟨-, -, hc⟩
              · exact absurd (HCm6.out.down.symm.trans hdn) (by decide)
              rcases hc with ⟨hne, -⟩ | ⟨-, h7, A7, c7, B7, d7, gs7, D7, rfl, hh7, hp7, hL7, ht7, hgs7, hcp7, hgr7, -, -, hgl7⟩
              · exact absurd HZ.out hne
              rw [HOp.out] at hgs7 hcp7
              rw [HOp.out]
              simp only at hgs7 hcp7 ⊢
              have HB7 := hide (HB6.out.trans (ht7.below HD6.out))
              have HR7 := hide (show Rest w.heap.size h7 g R w7 (.pointer none) (openR D6.p).2.2 D7 A1 c1 A2 c2 cp gs u none from
                ⟨hL7, HN6.out.keep ht7.size fun b p l => ⟨⟨by omega, (ht7.offD b p l).1⟩, (ht7.offD b p l).2⟩, rfl⟩)
              have HK7 := hide (show Kept (k + 1) false D7.p (openR D6.p).2.2 f gen cp (gsOf gs7) gs7.length none by rw [hp7, hgs7, ← gsOf_len gs7, hgs7]; exact ⟨HCL.out.1, .inl ⟨rfl, rfl, HCL.out.2⟩⟩)
              have hfit : fitsB cp (gsOf gs) u cp (gsOf gs7) = true := by
                have h1 := HNn2.out
                have h2 : (gsOf gs7).length = n := by rw [hgs7, List.length_take]; omega
                unfold fitsB
                rw [h2, hgs7, decide_eq_true rfl, decide_eq_true (show (u : Int) ≤ (n : Int) by omega), decide_eq_true h1.1, decide_eq_true rfl]; rfl
              obtain ⟨w8, hw8⟩ : ∃ w8, w8 = w7.alloc (.cells #[.slice A7 cp.length c7, .slice B7 gs7.length d7] 34) := ⟨_, rfl⟩
              have hb8 : Below w7.heap.size w7 w8 := by rw [hw8]; exact (Below.refl _ _).alloc (Nat.le_refl _) _
              have hx8 : w8.heap[w7.heap.size]? = some (.cells #[.slice A7 cp.length c7, .slice B7 gs7.length d7] 34 (0, 0)) := by rw [hw8]; exact heap_alloc_new w7 _
              have HWE8 := hide hw8
              have HR8 := hide (HR7.out.below hb8)
              have HB8 := hide (HB7.out.trans (hb8.mono HB7.out.size))
              have hR6 := block_lt HN6.out.box
              have HGr8 := hide (And.intro ((hgr7.mono (Q := fun b => Off h7 g D7 b ∧ b ≠ R) fun b p _ => ⟨p.1, (by have h1 := p.2; show b ≠ R; omega)⟩).below hb8) hgl7)
              have HX8 := hide (And.intro (block_lt hx8) hx8)
              have HF := hide (fits_any A1 A2 A7 B7 c1 c2 c7 d7 cp cp gs gs7 u w8 HR8.out.now.b HR8.out.now.g (hcp7.below hb8) (hgr7.below hb8) HR8.out.now.l (Nat.le_trans hgl7.1 hgl7.2))
              rw [hfit] at HF
              obtain ⟨⟨s0, s1, s2⟩, ⟨f0, f1, f2⟩, hlR⟩ := now_cells HR8.out.now.box
              obtain ⟨⟨t0, t1⟩, -, hlF⟩ := found_cells hx8
              clear hfit hw8 hb8 hx8 hh7 hp7 hL7 ht7 hgs7 hcp7 hgr7 hgl7 HO6 HN6 q0 q1 q2 q3 q4
              go_wp2_with (first | (guard_target =~ wpList _ _ _ (Oper.mk _ (Op.load _ _) _ _ _ _ :: _) _ _; rw [← HWE8.out]) | fail)
              refine HF.out.mono ?_
              rintro e w9 ⟨rfl, hb9⟩
              have HR9 := hide (HR8.out.below hb9)
              have HB9 := hide (HB8.out.trans (hb9.mono HB8.out.size))
              have hx9 := (hb9.block _ HX8.out.1).trans HX8.out.2
              clear s0 s1 s2 f0 f1 f2 t0 t1 HF
              obtain ⟨⟨s0, s1, s2⟩, ⟨f0, f1, f2⟩, hlR9⟩ := now_cells HR9.out.now.box
              obtain ⟨⟨t0, t1⟩, -, hlF9⟩ := found_cells hx9
              have HS9 := hide (HR9.out.whole (A' := A1) (c' := c1) (A2' := B7) (c2' := d7) gs7.length HR9.out.now.b (HGr8.out.1.below hb9) HGr8.out.2)
              have HB10 := hide (HB9.out.trans (below_set3 w9 HRs.out (.slice A1 cp.length c1) (.slice B7 gs7.length d7) (.int .i64 (gs7.length : Nat))))
              clear hb9 hx9
              go_wp2_with fail
              go_roundw
              case rel => exact ⟨k + 1, h7, false, _, D7, _, f, gen, A1, c1, B7, d7, cp, gs7, gs7.length, none, HLt.out, by go_num, rfl, rfl, rfl, HS9.out, HK7.out, HB10.out⟩
              case measure => have := HLt.out; simp [intOf]; omega
            · subst hot
              have HOne := hide hone
              have hlen : (headB (gen + 1) cp' ++ catG []).length ≤ 400 + 1800 * (2 * (k + 1)) := by
                have h1 := (headB_bd (gen + 1) cp').2
                have h2 := HK.out.1.ho cp' rfl
                rw [List.length_append, show (catG []).length = 0 from rfl]; omega
              obtain ⟨hz6, hcr7, hlv7⟩ := HOne.out.lives (k := 2 * (k + 1)) HCm6.out (by have := HK.out.1.g2; omega) hlen HDo6.out (HK.out.1.ho cp' rfl) HK.out.1.cap
              have HCL := hide (And.intro hcr7 hlv7)
              have HZ := hide hz6
              have HOp := hide HOne.out.open.2
              clear hone hlen hcr7 hlv7 hz6
              go_wp2_with (first | (guard_target =~ wpList _ _ _ (Oper.mk _ (Op.fieldAddr _ _ _) _ _ _ _ :: _) _ _; rw [← HWEo.out]) | fail)
              refine HCr.out.mono ?_
              rintro e w6 ⟨rfl, D6, hp6, hD6, ht6⟩
              have HB6 := hide (HBo.out.trans (ht6.below HRo.out.log.disk))
              have HN6 := hide (show NowAt (OffD g D6) w6 R A1 c1 A2 c2 cp gs u from HRo.out.now.keep ht6.size fun b p l => ht6.offD b (off_offD p) l)
              have HX6 := hide (show NextAt (fun b => OffD g D6 b ∧ b ≠ R) w6 v8 (some cp') from HRo.out.nxt.keep ht6.size fun b p l => ⟨⟨(ht6.offD b (off_offD p.1) l).1, p.2⟩, (ht6.offD b (off_offD p.1) l).2⟩)
              have HD6 := hide hD6
              rw [← hp6] at HOk6 HDo6 HCm6 HCL HZ HOp
              have HO6 := hide (open_any w6 hD6 HOk6.out (by have := HDo6.out; omega) (HT.out.on HB6.out) hgt)
              unfold OpenRes at HO6
              clear hp6 hD6 ht6 HCr
              go_wp2_with fail
              refine HO6.out.mono ?_
              rintro e w7 hc
              rcases hc with ⟨hdn, -⟩ | ⟨-, -, hc⟩
              · exact absurd (HCm6.out.down.symm.trans hdn) (by decide)
              rcases hc with ⟨hne, -⟩ | ⟨-, h7, A7, c7, B7, d7, gs7, D7, rfl, hh7, hp7, hL7, ht7, hgs7, hcp7, hgr7, -, -, hgl7⟩
              · exact absurd HZ.out hne
              rw [HOp.out] at hgs7 hcp7
              rw [HOp.out]
              simp only at hgs7 hcp7 ⊢
              have hg0 : gs7 = [] := by
                have := congrArg List.length hgs7
                rw [gsOf_len] at this
                exact List.length_eq_zero_iff.1 (by simpa using this)
              subst hg0
              clear hgs7
              have HB7 := hide (HB6.out.trans (ht7.below HD6.out))
              have HR7 := hide (show Rest w.heap.size h7 g R w7 v8 (openR D6.p).2.2 D7 A1 c1 A2 c2 cp gs u (some cp') from
                ⟨hL7, HN6.out.keep ht7.size fun b p l => ⟨⟨by omega, (ht7.offD b p l).1⟩, (ht7.offD b p l).2⟩, HX6.out.keep ht7.size fun b p l => ⟨⟨⟨by omega, (ht7.offD b p.1 l).1⟩, p.2⟩, (ht7.offD b p.1 l).2⟩⟩)
              have HK7 := hide (show Kept (k + 1) false D7.p (openR D6.p).2.2 (1 - f) (gen + 1) cp' (gsOf []) 0 none by rw [hp7]; exact ⟨HCL.out.1, .inl ⟨rfl, rfl, HCL.out.2⟩⟩)
              obtain ⟨w8, hw8⟩ : ∃ w8, w8 = w7.alloc (.cells #[.slice A7 cp'.length c7, .slice B7 0 d7] 34) := ⟨_, rfl⟩
              have hb8 : Below w7.heap.size w7 w8 := by rw [hw8]; exact (Below.refl _ _).alloc (Nat.le_refl _) _
              have hx8 : w8.heap[w7.heap.size]? = some (.cells #[.slice A7 cp'.length c7, .slice B7 0 d7] 34 (0, 0)) := by rw [hw8]; exact heap_alloc_new w7 _
              have HWE8 := hide hw8
              have HR8 := hide (HR7.out.below hb8)
              have HB8 := hide (HB7.out.trans (hb8.mono HB7.out.size))
              have HX8 := hide (And.intro (block_lt hx8) hx8)
              have HGl7 := hide hgl7
              have HCp8 := hide (hcp7.below hb8)
              have HGr8 := hide (hgr7.below hb8)
              have HF := hide (fits_any A1 A2 A7 B7 c1 c2 c7 d7 cp cp' gs [] u w8 HR8.out.now.b HR8.out.now.g (hcp7.below hb8) (hgr7.below hb8) HR8.out.now.l (Nat.le_trans hgl7.1 hgl7.2))
              obtain ⟨⟨s0, s1, s2⟩, ⟨f0, f1, f2⟩, hlR⟩ := now_cells HR8.out.now.box
              obtain ⟨⟨t0, t1⟩, -, hlF⟩ := found_cells hx8
              clear hw8 hb8 hx8 hh7 hp7 hL7 ht7 hcp7 hgr7 hgl7 HO6 HN6 HX6 q0 q1 q2 q3 q4
              by_cases hfit : fitsB cp (gsOf gs) u cp' (gsOf []) = true
              · rw [hfit] at HF
                have HFit := hide hfit
                clear hfit
                go_wp2_with (first | (guard_target =~ wpList _ _ _ (Oper.mk _ (Op.load _ _) _ _ _ _ :: _) _ _; rw [← HWE8.out]) | fail)
                refine HF.out.mono ?_
                rintro e w9 ⟨rfl, hb9⟩
                have HR9 := hide (HR8.out.below hb9)
                have HB9 := hide (HB8.out.trans (hb9.mono HB8.out.size))
                have hx9 := (hb9.block _ HX8.out.1).trans HX8.out.2
                clear s0 s1 s2 f0 f1 f2 t0 t1 HF
                obtain ⟨⟨s0, s1, s2⟩, ⟨f0, f1, f2⟩, hlR9⟩ := now_cells HR9.out.now.box
                obtain ⟨⟨t0, t1⟩, -, hlF9⟩ := found_cells hx9
                have HS9 := hide (HR9.out.whole (A' := A1) (c' := c1) (A2' := B7) (c2' := d7) (gs' := []) 0 HR9.out.now.b (GrpsIn.nil _ _ _) (HGl7.out))
                have HS10 := hide (show Rest w.heap.size h7 g R _ (.pointer none) (openR D6.p).2.2 D7 A1 c1 B7 d7 cp [] 0 none from ⟨HS9.out.log, HS9.out.now, rfl⟩)
                have HB10 := hide (HB9.out.trans (below_set3 w9 HRs.out (.slice A1 cp.length c1) (.slice B7 0 d7) (.int .i64 (0 : Nat))))
                have HK8 := hide (show Kept (k + 1) false D7.p (openR D6.p).2.2 (1 - f) (gen + 1) cp (gsOf []) 0 none by
                  have h1 := HFit.out
                  unfold fitsB at h1
                  simp only [Bool.and_eq_true, decide_eq_true_iff] at h1
                  exact h1.1 ▸ HK7.out)
                clear hb9 hx9
                go_wp2_with fail
                go_roundw
                case rel => exact ⟨k + 1, h7, false, _, D7, _, 1 - f, gen + 1, A1, c1, B7, d7, cp, [], 0, none, HLt.out, by go_num, rfl, rfl, rfl, HS10.out, HK8.out, HB10.out⟩
                case measure => have := HLt.out; simp [intOf]; omega
              · rw [show fitsB cp (gsOf gs) u cp' (gsOf []) = false by simpa using hfit] at HF
                clear hfit
                go_wp2_with (first | (guard_target =~ wpList _ _ _ (Oper.mk _ (Op.load _ _) _ _ _ _ :: _) _ _; rw [← HWE8.out]) | fail)
                refine HF.out.mono ?_
                rintro e w9 ⟨rfl, hb9⟩
                have HR9 := hide (HR8.out.below hb9)
                have HB9 := hide (HB8.out.trans (hb9.mono HB8.out.size))
                have hx9 := (hb9.block _ HX8.out.1).trans HX8.out.2
                have HCp9 := hide (HCp8.out.below hb9)
                have HGr9 := hide (HGr8.out.below hb9)
                clear s0 s1 s2 f0 f1 f2 t0 t1 HF hb9
                obtain ⟨N, AN, cN, rfl, hN⟩ := HR9.out.nxt
                have HN9 := hide hN
                have HF2 := hide (fun w' (hb : Below w9.heap.size w9 w') => fits_any AN none A7 B7 cN 0 c7 d7 cp' cp' [] [] 0 w' (hN.b.below hb) (hN.g.below hb) (HCp9.out.below hb) (HGr9.out.below hb) hN.l (Nat.le_trans HGl7.out.1 HGl7.out.2))
                have hft : fitsB cp' (gsOf []) 0 cp' (gsOf []) = true := by unfold fitsB; simp [gsOf]
                rw [hft] at HF2
                obtain ⟨⟨n0, n1, n2⟩, -, hlN⟩ := now_cells hN.box
                obtain ⟨⟨t0, t1⟩, -, hlF9⟩ := found_cells hx9
                have r0 := fun dn os => cell_regrown n0 dn os
                have r1 := fun dn os => cell_regrown n1 dn os
                have r2 := fun dn os => cell_regrown n2 dn os
                have r3 := fun dn os => cell_regrown t0 dn os
                have r4 := fun dn os => cell_regrown t1 dn os
                clear hft hN n0 n1 n2 t0 t1
                go_wp2_with fail
                refine wp_region_quiet_below (by kernel_rfl) (by kernel_rfl) ?_
                repeat (go_big_quiet_step (first
                  | (go_at_call 31; with_reducible exact Calls.regrown_of (HF2.out _ (below_regrown _ _ _)))))
                refine wpQuiet_nil ?_
                intro _ hw'
                obtain ⟨⟨dq, osq⟩, hw''⟩ := hw'
                subst hw''
                obtain ⟨w10, hw10⟩ : ∃ w10, w10 = Go.Sort.grow (redrawn w9 dq) osq := ⟨_, rfl⟩
                have hb10 : Below w9.heap.size w9 w10 := by rw [hw10]; exact below_regrown _ _ _
                have HR10 := hide (HR9.out.below hb10)
                have HB10 := hide (HB9.out.trans (hb10.mono HB9.out.size))
                have HN10 := hide (HN9.out.keep (Q := fun b => Off h7 g D7 b ∧ b ≠ R) hb10.size fun b p l => ⟨p, hb10.block b l⟩)
                rw [← hw10]
                clear hw10 hb10 r0 r1 r2 r3 r4 HN9 HF2
                obtain ⟨⟨s0, s1, s2⟩, ⟨f0, f1, f2⟩, hlR10⟩ := now_cells HR10.out.now.box
                obtain ⟨⟨n0, n1, n2⟩, -, hlN10⟩ := now_cells HN10.out.box
                have HS10 := hide (HR10.out.whole (A' := AN) (c' := cN) (A2' := none) (c2' := 0) (cp' := cp') (gs' := []) 0 (HN10.out.b.mono fun b p _ => p.1) (GrpsIn.nil _ _ _) (by unfold maxLen; simp))
                have HS11 := hide (show Rest w.heap.size h7 g R _ (.pointer none) (openR D6.p).2.2 D7 AN cN none 0 cp' [] 0 none from ⟨HS10.out.log, HS10.out.now, rfl⟩)
                have HB11 := hide (HB10.out.trans (below_set3 w10 HRs.out (.slice AN cp'.length cN) (.slice none 0 0) (.int .i64 (0 : Nat))))
                go_wp2_with fail
                go_roundw
                case rel => exact ⟨k + 1, h7, false, _, D7, _, 1 - f, gen + 1, AN, cN, none, 0, cp', [], 0, none, HLt.out, by go_num, rfl, rfl, rfl, HS11.out, HK7.out, HB11.out⟩
                case measure => have := HLt.out; simp [intOf]; omega
        have e1 : (o.k == 1) = false := by rw [beq_eq_false_iff_ne]; exact hk1
        have e3 : (o.k == 3) = false := by rw [beq_eq_false_iff_ne]; exact hk3
        have e2 : (o.k == 2) = false := by rw [beq_eq_false_iff_ne]; exact hk2
        have e4 : (o.k == 4) = false := by rw [beq_eq_false_iff_ne]; exact hk4
        have e5 : (o.k == 5) = false := by rw [beq_eq_false_iff_ne]; exact hk5
        have e6 : (o.k == 6) = false := by rw [beq_eq_false_iff_ne]; exact hk6
        obtain ⟨wo, hwo⟩ : ∃ wo, wo = wr.alloc (.cells #[.int .i64 o.k, .int .i64 o.n, .slice o.dA o.dl.length o.dc, .slice o.rA o.rs.length o.rc, .slice o.kA o.kl.length o.kc] 49) := ⟨_, rfl⟩
        have hbo : Below wr.heap.size wr wo := by rw [hwo]; exact (Below.refl _ _).alloc (Nat.le_refl _) _
        have hxo : wo.heap[wr.heap.size]? = some (.cells #[.int .i64 o.k, .int .i64 o.n, .slice o.dA o.dl.length o.dc, .slice o.rA o.rs.length o.rc, .slice o.kA o.kl.length o.kc] 49 (0, 0)) := by rw [hwo]; exact heap_alloc_new wr _
        have HWEo := hide hwo
        obtain ⟨q0, q1, q2, q3, q4⟩ := opbox_cells hxo
        have HRo := hide (HR.out.below hbo)
        have HBo := hide (HBw.out.trans (hbo.mono HBw.out.size))
        have HXo := hide (And.intro (HR.out.log.off_new (Nat.le_refl wr.heap.size)) hxo)
        have hro := (hx.r).mono fun b hb _ => HR.out.log.off_old hb
        have HRec := hide (hro.below hbo)
        have HDat := hide (((hx.d).mono fun b hb _ => HR.out.log.off_old hb).below hbo)
        clear hwo hbo hxo hro hx hk1 hk3 hk2 hk4 hk5 hk6 HRec HDat HXo
        go_wp2_with (first | (guard_target =~ wpList _ _ _ (Oper.mk _ (Op.fieldAddr _ _ _) _ _ _ _ :: _) _ _; rw [← HWEo.out]) | fail)
        go_roundw
        case rel => exact ⟨k + 1, h, dn, v8, D, L, f, gen, A1, c1, A2, c2, cp, gs, u, ot, HLt.out, by go_num, rfl, rfl, rfl, HRo.out, HK.out.more, HBo.out⟩
        case measure => have := HLt.out; simp [intOf]; omega
      · have HAw2 := hide (HAw.out wr HBw.out)
        go_wp2_with fail
        refine HAw2.out.mono ?_
        rintro e w13 ⟨rfl, hb13⟩
        have HB13 := hide hb13
        clear hb13
        go_wp2_with fail
        go_ret
        exact ⟨rfl, HB13.out⟩
  · rw [show smallS l 40 = false by simpa using hsm] at HS1
    clear hsm
    go_wp2_with fail
    refine HS1.out.mono ?_
    rintro e w2 ⟨rfl, hb2⟩
    have HAw2 := hide (HAw.out w2 (HB1.out.trans (hb2.mono HB1.out.size)))
    clear hb2
    go_wp2_with fail
    refine HAw2.out.mono ?_
    rintro e w13 ⟨rfl, hb13⟩
    have HB13 := hide hb13
    clear hb13
    go_wp2_with fail
    go_ret
    exact ⟨rfl, HB13.out⟩
end Go.Proofs.YtkdebebpnkjmdaaDoor
