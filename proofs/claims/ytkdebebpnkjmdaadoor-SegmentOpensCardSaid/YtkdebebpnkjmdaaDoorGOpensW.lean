/-
  The walk of SegmentOpens.
-/
import Derived.Test.YtkdebebpnkjmdaaDoorMDO
import Derived.Test.YtkdebebpnkjmdaaDoorMG5
import Derived.Test.YtkdebebpnkjmdaaDoorMG4
import Derived.Lib.QuietBelow
namespace Go.Proofs.YtkdebebpnkjmdaaDoor
open Go.RowKit Go.Sort

/-- A new disk with two files. -/
theorem two_files {a b : List UInt8} (ha : a.length ≤ 2000) (hb : b.length ≤ 2000) :
    appE (newP 1048576) 0 a.length = 0 ∧ appE (appP (newP 1048576) 0 a) 1 b.length = 0 ∧ Cm (appP (newP 1048576) 0 a) ∧ (appP (newP 1048576) 0 a).done = 1 ∧
    Cm (appP (appP (newP 1048576) 0 a) 1 b) ∧ (appP (appP (newP 1048576) 0 a) 1 b).xs 0 = a ∧ (appP (appP (newP 1048576) 0 a) 1 b).xs 1 = b ∧ (appP (appP (newP 1048576) 0 a) 1 b).xs 2 = [] ∧ (appP (appP (newP 1048576) 0 a) 1 b).xs 3 = [] ∧
    (appP (appP (newP 1048576) 0 a) 1 b).cap = 1048576 ∧ (appP (appP (newP 1048576) 0 a) 1 b).done = 2 := by
  have h0 : Cm (newP 1048576) := newP_cm rfl
  have hu : (newP 1048576).used = 0 := rfl
  obtain ⟨a1, a2, a3⟩ := h0.app (f := 0) (by omega) a (by rw [hu]; show ((0 + a.length : Nat) : Int) ≤ 1048576; omega)
  have a1' : appE (newP 1048576) 0 a.length = 0 := a1
  have a2' : appP (newP 1048576) 0 a = { addP (newP 1048576) 0 a with done := 1 } := a2
  have a3' : Cm (appP (newP 1048576) 0 a) := a3
  have x0 : (appP (newP 1048576) 0 a).xs = upd (fun _ => []) 0 a := by rw [a2']; rfl
  have d0 : (appP (newP 1048576) 0 a).done = 1 := by rw [a2']
  have c0 : (appP (newP 1048576) 0 a).cap = 1048576 := by rw [a2']; rfl
  have u0 : (appP (newP 1048576) 0 a).used = a.length := by unfold PD.used; rw [x0]; simp [upd]
  generalize appP (newP 1048576) 0 a = q at *
  obtain ⟨b1, b2, b3⟩ := a3'.app (f := 1) (by omega) b (by rw [u0, c0]; omega)
  have b2' : appP q 1 b = { addP q 1 b with done := q.done + 1 } := b2
  have x1 : (appP q 1 b).xs = upd q.xs 1 (q.xs 1 ++ b) := by rw [b2']; rfl
  refine ⟨a1', b1, a3', d0, b3, ?_, ?_, ?_, ?_, by rw [b2']; exact c0, by rw [b2']; show q.done + 1 = 2; rw [d0]; rfl⟩
  · rw [x1, x0]; rfl
  · rw [x1, x0]; rfl
  · rw [x1, x0]; rfl
  · rw [x1, x0]; rfl
set_option maxHeartbeats 25600000 in
set_option maxRecDepth 100000 in
theorem segmentOpens_walk (A : Option Addr) (ca : Nat) (a : List UInt8) (B : Option Addr) (cb : Nat) (b : List UInt8) (w : World)
    (hA : BytesAt w.heap.size w A a) (ha : a.length ≤ maxLen) (na : A = none → ca = 0) (ka : a.length ≤ ca) (hB : BytesAt w.heap.size w B b) (hb : b.length ≤ maxLen) (nb : B = none → cb = 0) (kb : b.length ≤ cb) (hT : Tab w) :
    Calls Tryd.prog 3 #[.slice A a.length ca, .slice B b.length cb] w fun e w' => e = .returned (.bool true) ∧ Below w.heap.size w w' := by
  have hgt : 0 < w.heap.size := hT.lt
  have HT := hide hT
  have HA := hide hA
  have HB := hide hB
  have HNa := hide na
  have HNb := hide nb
  have HKa := hide ka
  have HKb := hide kb
  unfold maxLen at ha hb
  have HN := hide (new_yes 1048576 w rfl)
  have HAw := hide (fun w' (hb : Below w.heap.size w w') => (awake_any w' (hT.on hb) (Nat.lt_of_lt_of_le hgt hb.size)).mono fun e w2 h => (⟨h.1, hb.trans (h.2.mono hb.size)⟩ : e = .returned (.bool true) ∧ Below w.heap.size w w2))
  have HAw0 := hide (awake_any w hT hgt)
  clear hT hA hB na nb ka kb
  by_cases ha2 : a.length ≤ 2000
  rotate_left
  · have ha3 : (2000 : Int) < (a.length : Int) := by omega
    go_enter Tryd.func3, Tryd.ntmps3
    go_wp2_with fail
    refine HAw0.out.mono ?_
    rintro e w2 ⟨rfl, hb⟩
    go_wp2_with fail
    go_ret
    exact ⟨rfl, hb⟩
  have ha3 : ¬ (2000 : Int) < (a.length : Int) := by omega
  by_cases hb2 : b.length ≤ 2000
  rotate_left
  · have hb3 : (2000 : Int) < (b.length : Int) := by omega
    go_enter Tryd.func3, Tryd.ntmps3
    go_wp2_with fail
    refine HAw0.out.mono ?_
    rintro e w2 ⟨rfl, hb⟩
    go_wp2_with fail
    go_ret
    exact ⟨rfl, hb⟩
  have hb3 : ¬ (2000 : Int) < (b.length : Int) := by omega
  obtain ⟨e1, e2, q1, d1, q2, x0, x1, x2, x3, xc, d2⟩ := two_files ha2 hb2
  have HE := hide (And.intro e1 e2)
  have HQ1 := hide (And.intro q1 d1)
  have HQ2 := hide q2
  have HX := hide (And.intro x0 (And.intro x1 (And.intro x2 (And.intro x3 (And.intro xc d2)))))
  have HZ := hide (And.intro ha2 hb2)
  clear e1 e2 q1 d1 q2 x0 x1 x2 x3 xc d2 HAw0
  go_enter Tryd.func3, Tryd.ntmps3
  go_wp2_with fail
  refine HN.out.mono ?_
  rintro e w1 ⟨⟨g, rfl, hD1⟩, hb1⟩
  have HB1 := hide hb1
  have HP1 := hide (append_any 0 A ca a w1 hD1 (new_ok (cap := 1048576) rfl) (by show (0 : Int) ≤ _; decide) (HA.out.on hb1) HNa.out (by omega))
  have he := HE.out.1
  rw [show appE (newD 1048576).p 0 a.length = 0 from he] at HP1
  have HD1 := hide hD1
  clear hb1 hD1 HN he
  go_wp2_with fail
  refine HP1.out.mono ?_
  rintro e w2 ⟨rfl, D2, hp2, hD2, hT2⟩
  have hp2' : D2.p = appP (newP 1048576) 0 a := hp2
  have HB2 := hide (HB1.out.trans (hT2.below HD1.out))
  have HP2 := hide (append_any 1 B cb b w2 hD2 (by rw [hp2']; exact HQ1.out.1.ok) (by rw [hp2', HQ1.out.2]; decide) (HB.out.on HB2.out) HNb.out (by omega))
  rw [hp2', HE.out.2] at HP2
  have HD2 := hide hD2
  clear hp2 hp2' hD2 hT2 HP1 HD1 HQ1 HE
  go_wp2_with fail
  refine HP2.out.mono ?_
  rintro e w3 ⟨rfl, D3, hp3, hD3, hT3⟩
  have HB3 := hide (HB2.out.trans (hT3.below HD2.out))
  have HD3 := hide hD3
  have HP3 := hide hp3
  have HR1 := hide (rread_any A ca a w3 (HA.out.on HB3.out) (by omega) HKa.out)
  unfold RRead at HR1
  clear hp3 hD3 hT3 HP2 HD2
  go_wp2_with fail
  refine HR1.out.mono ?_
  rintro e w4 ⟨v4, rfl, hm4, hb4⟩
  have HB4 := hide (HB3.out.trans (hb4.mono HB3.out.size))
  have HR2 := hide (rread_any B cb b w4 (HB.out.on HB4.out) (by omega) HKb.out)
  unfold RRead at HR2
  obtain ⟨S1, hS1⟩ : ∃ S, S = segM a := ⟨_, rfl⟩
  obtain ⟨S2, hS2⟩ : ∃ S, S = segM b := ⟨_, rfl⟩
  rw [← hS1] at hm4
  rw [← hS2] at HR2
  obtain ⟨A1, c1, G1, k1, g1, rfl, hgs1, hcp1, hn1, hgr1, hng1, -⟩ := hm4
  have HC1 := hide (And.intro hcp1 hgr1)
  have HG1 := hide hgs1
  have h34 := hb4.size
  have HS1 := hide hS1
  have HS2 := hide hS2
  have HD4 := hide (HD3.out.below hb4)
  have HL3 := hide HD3.out.lt
  clear hcp1 hgr1 hgs1 hb4 hn1 hng1 HR1 hS1 hS2
  unfold vSeg
  go_wp2_with fail
  refine HR2.out.mono ?_
  rintro e w5 ⟨v5, rfl, hm5, hb5⟩
  obtain ⟨A2, c2, G2, k2, g2, rfl, hgs2, hcp2, hn2, hgr2, hng2, -⟩ := hm5
  have HB5 := hide (HB4.out.trans (hb5.mono HB4.out.size))
  have HC2 := hide (And.intro (hcp2.mono (Q := fun b => w3.heap.size ≤ b) fun b p _ => Nat.le_trans h34 p) (hgr2.mono (Q := fun b => w3.heap.size ≤ b) fun b p _ => Nat.le_trans h34 p))
  have HC1p := hide (And.intro (HC1.out.1.below hb5) (HC1.out.2.below hb5))
  have HG2 := hide hgs2
  have HD5 := hide (HD4.out.below hb5)
  have h45 := hb5.size
  clear hcp2 hgr2 hgs2 hb5 hn2 hng2 HR2 HC1 HD4
  have h35 : w3.heap.size ≤ w5.heap.size := Nat.le_trans h34 h45
  by_cases hlt : S1.gen < S2.gen
  · obtain ⟨w6, hw6⟩ : ∃ w6, w6 = (w5.alloc (.cells #[.int .i64 S2.gen, .int .i64 (S2.size : Nat), .slice A2 S2.cp.length c2, .slice G2 g2.length k2] 30)).alloc (.cells #[.int .i64 S2.gen, .int .i64 (S2.size : Nat), .slice A2 S2.cp.length c2, .slice G2 g2.length k2] 30) := ⟨_, rfl⟩
    have hb6 : Below w5.heap.size w5 w6 := by rw [hw6]; exact Joins.below_alloc2 w5 _ _
    have hz6 : w6.heap.size = w5.heap.size + 2 := by rw [hw6]; simp
    have hx6 : w6.heap[w5.heap.size]? = some (.cells #[.int .i64 S2.gen, .int .i64 (S2.size : Nat), .slice A2 S2.cp.length c2, .slice G2 g2.length k2] 30 (0, 0)) := by rw [hw6, Below.heap_alloc _ _ _ (by simp)]; exact heap_alloc_new w5 _
    have HW6 := hide hw6
    have HB6 := hide (HB5.out.trans (hb6.mono HB5.out.size))
    have HD6 := hide (HD5.out.below hb6)
    have HC6 := hide (And.intro (HC2.out.1.below hb6) (HC2.out.2.below hb6))
    have HX6 := hide hx6
    have HZ5 := hide (show w5.heap.size < w6.heap.size by omega)
    have HG := hide (HG2.out)
    have hF : openF D3.p = 1 := by unfold openF; rw [HP3.out, HX.out.1, HX.out.2.1, ← HS1.out, ← HS2.out]; exact if_pos hlt
    have hS : openS D3.p = S2 := by unfold openS; rw [hF, HP3.out, HX.out.2.1, ← HS2.out]
    have HFS := hide (And.intro hF hS)
    have hw35 : w3.heap.size ≤ w5.heap.size := h35
    have HO := hide (open_any w6 HD6.out (by rw [HP3.out]; exact HQ2.out.ok) (by rw [HP3.out, HX.out.2.2.2.2.2]; decide) (HT.out.on HB6.out) hgt)
    unfold OpenRes at HO
    clear hw6 hb6 HD5 HC1p HC2 hx6 HG1 HG2 hF hS HS1 HS2
    go_wp2_with fail
    rw [← HW6.out]
    refine HO.out.mono ?_
    rintro e w7 hc
    rw [HFS.out.2] at hc
    rcases hc with ⟨hdn, -⟩ | ⟨-, hsc, hc⟩
    · exact absurd hdn (by rw [HP3.out, HQ2.out.down]; decide)
    obtain ⟨⟨fs1, hf1⟩, ⟨fs2, hf2⟩⟩ := hsc
    have hop := openR_two (p := D3.p) (by rw [HP3.out]; exact HQ2.out) hf1 hf2 (by rw [HP3.out]; exact HX.out.2.2.1) (by rw [HP3.out]; exact HX.out.2.2.2.1) (by rw [HP3.out, HX.out.2.2.2.2.1]; decide)
    rw [HFS.out.1, HFS.out.2] at hop
    rcases hc with ⟨hne, -⟩ | ⟨-, h, A7, c7, B7, d7, gs7, D7, rfl, hh7, hp7, hL7, ht7, hgs7, hcp7, hgr7, nA7, nB7, m7⟩
    · exact absurd hop.1 hne
    have hxf : D3.p.xs 1 = b := by rw [HP3.out]; exact HX.out.2.1
    rw [← hp7, hxf] at hop
    generalize (openR D3.p).2.2 = L7 at hop hL7
    obtain ⟨-, hcm, hxo, -, -, hsz, hz0, hz1⟩ := hop
    have HCm := hide hcm
    have HSz := hide hsz
    have hb7 := ht7.below HD6.out
    have HB7 := hide (HB6.out.trans hb7)
    have hz7 := ht7.size
    have hlt3 := HL3.out
    have hkeep : ∀ b, w3.heap.size ≤ b → b < w6.heap.size → w7.heap[b]? = w6.heap[b]? := fun b h1 h2 => ht7.block b h2 (by omega) (fun i hi e => by have := (HD3.out.row i hi).lt b e; omega)
    have HC7 := hide (And.intro (HC6.out.1.keep (Q := fun _ => True) hz7 fun b h1 h2 => ⟨trivial, hkeep b h1 h2⟩) (HC6.out.2.keep (Q := fun _ => True) hz7 fun b h1 h2 => ⟨trivial, hkeep b h1 h2⟩))
    have HX7 := hide ((hkeep _ hw35 HZ5.out).trans HX6.out)
    have hal7 := (Below.refl w7.heap.size w7).alloc (Nat.le_refl _) (.cells #[.slice A7 S2.cp.length c7, .slice B7 gs7.length d7] 34)
    have HBx8 := hide (show (w7.alloc (.cells #[.slice A7 S2.cp.length c7, .slice B7 gs7.length d7] 34)).heap[w7.heap.size]? = some _ from heap_alloc_new w7 _)
    obtain ⟨w8, hw8⟩ : ∃ w8, w8 = w7.alloc (.cells #[.slice A7 S2.cp.length c7, .slice B7 gs7.length d7] 34) := ⟨_, rfl⟩
    have HW8 := hide hw8
    rw [← hw8] at hal7 HBx8
    have HB8 := hide (HB7.out.trans (hal7.mono HB7.out.size))
    have HL8 := hide (hL7.below hal7)
    have HF8 := hide (And.intro ((hcp7.mono (Q := fun _ => True) fun _ _ _ => trivial).below hal7) ((hgr7.mono (Q := fun _ => True) fun _ _ _ => trivial).below hal7))
    have HC8 := hide (And.intro (HC7.out.1.below hal7) (HC7.out.2.below hal7))
    have HX8 := hide ((hal7.block _ (block_lt HX7.out)).trans HX7.out)
    have HS8 := hide (size_any 0 w8 HL8.out.disk)
    rw [show sizeD D7.p 0 = 0 by rw [show (0 : Int) = ((0 : Nat) : Int) from rfl, sizeD_nat _ (by omega), show D7.p.xs 0 = [] from hxo]; rfl] at HS8
    have HG7 := hide hgs7
    have HZ0 := hide hz0
    have HZ1 := hide hz1
    have HM7 := hide (Nat.le_trans m7.1 m7.2)
    clear hp7 hL7 ht7 hgs7 hcp7 hgr7 nA7 nB7 m7 hcm hxo hsz hz0 hz1 hb7 hkeep hal7 hw8 hxf hf1 hf2 HC6 HC7 HX6 HX7 HO HD6 HW6 HB5 HFS HP3 HQ2
    go_wp2_with fail
    rw [← HW8.out]
    refine HS8.out.mono ?_
    rintro e w9 ⟨rfl, hb9⟩
    have HB9 := hide (HB8.out.trans (hb9.mono HB8.out.size))
    have HL9 := hide (HL8.out.below hb9)
    have hrd : checkE D7.p 1 = 0 := HCm.out.check (f := 1) (by omega)
    have hrl : rdL D7.p 1 = D7.p.xs 1 := by unfold rdL; rw [hrd]; rfl
    have HR9 := hide (read_any 1 w9 HL9.out.disk HCm.out.ok)
    rw [hrd, hrl] at HR9
    have HF9 := hide (And.intro (HF8.out.1.below hb9) (HF8.out.2.below hb9))
    have HC9 := hide (And.intro (HC8.out.1.below hb9) (HC8.out.2.below hb9))
    have HX9 := hide ((hb9.block _ (block_lt HX8.out)).trans HX8.out)
    have HY9 := hide ((hb9.block _ (block_lt HBx8.out)).trans HBx8.out)
    clear hb9 hrd hrl HS8 HL8 HF8 HC8 HX8 HBx8
    go_wp2_with fail
    refine HR9.out.mono ?_
    rintro e wt ⟨⟨At, ct, rfl, hby, -, -⟩, hbt⟩
    have HBt := hide (HB9.out.trans (hbt.mono HB9.out.size))
    have HLt := hide (HL9.out.below hbt)
    have HFt := hide (And.intro (HF9.out.1.below hbt) (HF9.out.2.below hbt))
    have HCt := hide (And.intro (HC9.out.1.below hbt) (HC9.out.2.below hbt))
    have HXt := hide ((hbt.block _ (block_lt HX9.out)).trans HX9.out)
    have HYt := hide ((hbt.block _ (block_lt HY9.out)).trans HY9.out)
    have HBy := hide hby
    obtain ⟨⟨s0, s1, s2, s3⟩, -, hl5⟩ := rseg_cells HXt.out
    obtain ⟨⟨r0, r1⟩, -, hl7⟩ := found_cells HYt.out
    clear hbt hby HR9 HL9 HF9 HC9 HX9 HY9
    by_cases hg0 : S2.gen = 0
    · exact absurd (HZ0.out hg0).1 (by omega)
    · have hgb : (S2.gen == 0) = false := by rw [beq_eq_false_iff_ne]; exact hg0
      obtain ⟨hx, hs, hL⟩ := HZ1.out hg0
      have hsz := HSz.out
      have hkl := HKb.out
      have hcv1 := fun d os => conv_bytes A7 c7 S2.cp (Go.Sort.grow (redrawn wt d) os) (HFt.out.1.below (below_regrown wt d os)).bytes
      have hcv2 := fun d os => conv_bytes A2 c2 S2.cp (Go.Sort.grow (redrawn wt d) os) (HCt.out.1.below (below_regrown wt d os)).bytes
      rw [hx] at HBy ⊢
      have hcv3 := fun d os => conv_bytes At ct (b.take S2.size) (Go.Sort.grow (redrawn wt d) os) (HBy.out.on (below_regrown wt d os))
      have hcv4 := fun d os => conv_bytes B cb (b.take S2.size) (Go.Sort.grow (redrawn wt d) os) (((HB.out.on HBt.out).on (below_regrown wt d os)).take S2.size)
      have hln : (b.take S2.size).length = S2.size := by rw [List.length_take]; omega
      rw [hln] at hcv3 hcv4 ⊢
      have hn1 : ((S2.size : Nat) : Int) ≤ (cb : Int) := by omega
      have hn0 : (0 : Int) ≤ ((S2.size : Nat) : Int) := by omega
      have q0 := fun d os => cell_regrown r0 d os
      have q1 := fun d os => cell_regrown r1 d os
      have p0 := fun d os => cell_regrown s0 d os
      have p1 := fun d os => cell_regrown s1 d os
      have p2 := fun d os => cell_regrown s2 d os
      have p3 := fun d os => cell_regrown s3 d os
      have HGr := hide (fun w' (hw : Below wt.heap.size wt w') => groups_any B7 G2 d7 k2 gs7 g2 w' (HFt.out.2.below hw) (HCt.out.2.below hw) HM7.out)
      rw [HG7.out, HG.out] at HGr
      simp only [decide_true] at HGr
      have HAt := hide (fun w' (hw : Below wt.heap.size wt w') => awake_any w' (HT.out.on (HBt.out.trans (hw.mono HBt.out.size))) (Nat.lt_of_lt_of_le hgt (Nat.le_trans HBt.out.size hw.size)))
      have HGn := hide (fun w' (hw : Below wt.heap.size wt w') => (logGen_any w' (HLt.out.below hw)).mono fun e w2 h => (⟨h.1, by rw [h.2]; exact Below.refl _ _⟩ : e = .returned (.int .i64 L7.gen) ∧ Below w'.heap.size w' w2))
      have HLo := hide (fun w' (hw : Below wt.heap.size wt w') => (logLoose_any w' (HLt.out.below hw)).mono fun e w2 h => (⟨h.1, by rw [h.2]; exact Below.refl _ _⟩ : e = .returned (.bool L7.loose) ∧ Below w'.heap.size w' w2))
      have HSa := hide (fun w' (hw : Below wt.heap.size wt w') => safe_any 1 w' (HLt.out.disk.below hw))
      rw [show safeD D7.p 1 = (S2.size : Nat) by rw [show (1 : Int) = ((1 : Nat) : Int) from rfl, safeD_nat _ (by omega)]; exact hs] at HSa
      rw [show L7.gen = S2.gen by rw [hL]] at HGn
      rw [show L7.loose = false by rw [hL]] at HLo
      clear HZ0 HZ1 hx hs hL HSz HFt HCt HXt HYt
      generalize S2.size = sz at *
      go_wp2_with fail
      refine wp_region_quiet_below (by kernel_rfl) (by kernel_rfl) ?_
      repeat (go_big_quiet_step (first
        | (go_at_call 18; exact Calls.regrown_of (HGr.out _ (below_regrown _ _ _)))
        | (go_at_call 14; exact Calls.regrown_of (HGn.out _ (below_regrown _ _ _)))
        | (go_at_call 16; exact Calls.regrown_of (HSa.out _ (below_regrown _ _ _)))
        | (go_at_call 19; exact Calls.regrown_of (HLo.out _ (below_regrown _ _ _)))
        | (go_at_call 7; exact Calls.regrown_of (HAt.out _ (below_regrown _ _ _)))))
      refine wpQuiet_nil ?_
      intro _ hw'
      obtain ⟨⟨dq, osq⟩, hw''⟩ := hw'
      subst hw''
      have HBe := hide (HBt.out.trans ((below_regrown wt dq osq).mono HBt.out.size))
      go_wp2_with fail
      go_ret
      exact ⟨rfl, HBe.out⟩
  · obtain ⟨w6, hw6⟩ : ∃ w6, w6 = (w5.alloc (.cells #[.int .i64 S1.gen, .int .i64 (S1.size : Nat), .slice A1 S1.cp.length c1, .slice G1 g1.length k1] 30)).alloc (.cells #[.int .i64 S2.gen, .int .i64 (S2.size : Nat), .slice A2 S2.cp.length c2, .slice G2 g2.length k2] 30) := ⟨_, rfl⟩
    have hb6 : Below w5.heap.size w5 w6 := by rw [hw6]; exact Joins.below_alloc2 w5 _ _
    have hz6 : w6.heap.size = w5.heap.size + 2 := by rw [hw6]; simp
    have hx6 : w6.heap[w5.heap.size]? = some (.cells #[.int .i64 S1.gen, .int .i64 (S1.size : Nat), .slice A1 S1.cp.length c1, .slice G1 g1.length k1] 30 (0, 0)) := by rw [hw6, Below.heap_alloc _ _ _ (by simp)]; exact heap_alloc_new w5 _
    have HW6 := hide hw6
    have HB6 := hide (HB5.out.trans (hb6.mono HB5.out.size))
    have HD6 := hide (HD5.out.below hb6)
    have HC6 := hide (And.intro (HC1p.out.1.below hb6) (HC1p.out.2.below hb6))
    have HX6 := hide hx6
    have HZ5 := hide (show w5.heap.size < w6.heap.size by omega)
    have HG := hide (HG1.out)
    have hF : openF D3.p = 0 := by unfold openF; rw [HP3.out, HX.out.1, HX.out.2.1, ← HS1.out, ← HS2.out]; exact if_neg hlt
    have hS : openS D3.p = S1 := by unfold openS; rw [hF, HP3.out, HX.out.1, ← HS1.out]
    have HFS := hide (And.intro hF hS)
    have hw35 : w3.heap.size ≤ w5.heap.size := h35
    have HO := hide (open_any w6 HD6.out (by rw [HP3.out]; exact HQ2.out.ok) (by rw [HP3.out, HX.out.2.2.2.2.2]; decide) (HT.out.on HB6.out) hgt)
    unfold OpenRes at HO
    clear hw6 hb6 HD5 HC1p HC2 hx6 HG1 HG2 hF hS HS1 HS2
    go_wp2_with fail
    rw [← HW6.out]
    refine HO.out.mono ?_
    rintro e w7 hc
    rw [HFS.out.2] at hc
    rcases hc with ⟨hdn, -⟩ | ⟨-, hsc, hc⟩
    · exact absurd hdn (by rw [HP3.out, HQ2.out.down]; decide)
    obtain ⟨⟨fs1, hf1⟩, ⟨fs2, hf2⟩⟩ := hsc
    have hop := openR_two (p := D3.p) (by rw [HP3.out]; exact HQ2.out) hf1 hf2 (by rw [HP3.out]; exact HX.out.2.2.1) (by rw [HP3.out]; exact HX.out.2.2.2.1) (by rw [HP3.out, HX.out.2.2.2.2.1]; decide)
    rw [HFS.out.1, HFS.out.2] at hop
    rcases hc with ⟨hne, -⟩ | ⟨-, h, A7, c7, B7, d7, gs7, D7, rfl, hh7, hp7, hL7, ht7, hgs7, hcp7, hgr7, nA7, nB7, m7⟩
    · exact absurd hop.1 hne
    have hxf : D3.p.xs 0 = a := by rw [HP3.out]; exact HX.out.1
    rw [← hp7, hxf] at hop
    generalize (openR D3.p).2.2 = L7 at hop hL7
    obtain ⟨-, hcm, hxo, -, -, hsz, hz0, hz1⟩ := hop
    have HCm := hide hcm
    have HSz := hide hsz
    have hb7 := ht7.below HD6.out
    have HB7 := hide (HB6.out.trans hb7)
    have hz7 := ht7.size
    have hlt3 := HL3.out
    have hkeep : ∀ b, w3.heap.size ≤ b → b < w6.heap.size → w7.heap[b]? = w6.heap[b]? := fun b h1 h2 => ht7.block b h2 (by omega) (fun i hi e => by have := (HD3.out.row i hi).lt b e; omega)
    have HC7 := hide (And.intro (HC6.out.1.keep (Q := fun _ => True) hz7 fun b h1 h2 => ⟨trivial, hkeep b h1 h2⟩) (HC6.out.2.keep (Q := fun _ => True) hz7 fun b h1 h2 => ⟨trivial, hkeep b h1 h2⟩))
    have HX7 := hide ((hkeep _ hw35 HZ5.out).trans HX6.out)
    have hal7 := (Below.refl w7.heap.size w7).alloc (Nat.le_refl _) (.cells #[.slice A7 S1.cp.length c7, .slice B7 gs7.length d7] 34)
    have HBx8 := hide (show (w7.alloc (.cells #[.slice A7 S1.cp.length c7, .slice B7 gs7.length d7] 34)).heap[w7.heap.size]? = some _ from heap_alloc_new w7 _)
    obtain ⟨w8, hw8⟩ : ∃ w8, w8 = w7.alloc (.cells #[.slice A7 S1.cp.length c7, .slice B7 gs7.length d7] 34) := ⟨_, rfl⟩
    have HW8 := hide hw8
    rw [← hw8] at hal7 HBx8
    have HB8 := hide (HB7.out.trans (hal7.mono HB7.out.size))
    have HL8 := hide (hL7.below hal7)
    have HF8 := hide (And.intro ((hcp7.mono (Q := fun _ => True) fun _ _ _ => trivial).below hal7) ((hgr7.mono (Q := fun _ => True) fun _ _ _ => trivial).below hal7))
    have HC8 := hide (And.intro (HC7.out.1.below hal7) (HC7.out.2.below hal7))
    have HX8 := hide ((hal7.block _ (block_lt HX7.out)).trans HX7.out)
    have HS8 := hide (size_any 1 w8 HL8.out.disk)
    rw [show sizeD D7.p 1 = 0 by rw [show (1 : Int) = ((1 : Nat) : Int) from rfl, sizeD_nat _ (by omega), show D7.p.xs 1 = [] from hxo]; rfl] at HS8
    have HG7 := hide hgs7
    have HZ0 := hide hz0
    have HZ1 := hide hz1
    have HM7 := hide (Nat.le_trans m7.1 m7.2)
    clear hp7 hL7 ht7 hgs7 hcp7 hgr7 nA7 nB7 m7 hcm hxo hsz hz0 hz1 hb7 hkeep hal7 hw8 hxf hf1 hf2 HC6 HC7 HX6 HX7 HO HD6 HW6 HB5 HFS HP3 HQ2
    go_wp2_with fail
    rw [← HW8.out]
    refine HS8.out.mono ?_
    rintro e w9 ⟨rfl, hb9⟩
    have HB9 := hide (HB8.out.trans (hb9.mono HB8.out.size))
    have HL9 := hide (HL8.out.below hb9)
    have hrd : checkE D7.p 0 = 0 := HCm.out.check (f := 0) (by omega)
    have hrl : rdL D7.p 0 = D7.p.xs 0 := by unfold rdL; rw [hrd]; rfl
    have HR9 := hide (read_any 0 w9 HL9.out.disk HCm.out.ok)
    rw [hrd, hrl] at HR9
    have HF9 := hide (And.intro (HF8.out.1.below hb9) (HF8.out.2.below hb9))
    have HC9 := hide (And.intro (HC8.out.1.below hb9) (HC8.out.2.below hb9))
    have HX9 := hide ((hb9.block _ (block_lt HX8.out)).trans HX8.out)
    have HY9 := hide ((hb9.block _ (block_lt HBx8.out)).trans HBx8.out)
    clear hb9 hrd hrl HS8 HL8 HF8 HC8 HX8 HBx8
    go_wp2_with fail
    refine HR9.out.mono ?_
    rintro e wt ⟨⟨At, ct, rfl, hby, -, -⟩, hbt⟩
    have HBt := hide (HB9.out.trans (hbt.mono HB9.out.size))
    have HLt := hide (HL9.out.below hbt)
    have HFt := hide (And.intro (HF9.out.1.below hbt) (HF9.out.2.below hbt))
    have HCt := hide (And.intro (HC9.out.1.below hbt) (HC9.out.2.below hbt))
    have HXt := hide ((hbt.block _ (block_lt HX9.out)).trans HX9.out)
    have HYt := hide ((hbt.block _ (block_lt HY9.out)).trans HY9.out)
    have HBy := hide hby
    obtain ⟨⟨s0, s1, s2, s3⟩, -, hl5⟩ := rseg_cells HXt.out
    obtain ⟨⟨r0, r1⟩, -, hl7⟩ := found_cells HYt.out
    clear hbt hby HR9 HL9 HF9 HC9 HX9 HY9
    by_cases hg0 : S1.gen = 0
    · have hgb : (S1.gen == 0) = true := by rw [hg0]; rfl
      obtain ⟨-, hzz, hx, hs, hL⟩ := HZ0.out hg0
      have hcl : S1.cp.length = 0 := by rw [hzz]; rfl
      have hgl : gs7.length = 0 := by
        have := congrArg List.length HG7.out
        rw [hzz] at this
        unfold gsOf at this
        rw [List.length_map] at this
        exact this
      have HH := hide (fun w' => refHead_any 1 none 0 [] w' ⟨by decide, by decide⟩ (fun j hj => by simp at hj) (by simp))
      unfold OwnRes at HH
      rw [hx] at HBy ⊢
      rw [hcl] at r0
      rw [hgl] at r1
      generalize headB 1 [] = hl at *
      have HCv := hide (fun (w' : World) (hw : Below wt.heap.size wt w') => conv_bytes At ct hl w' (HBy.out.on hw))
      have HAt := hide (fun w' (hw : Below wt.heap.size wt w') => awake_any w' (HT.out.on (HBt.out.trans (hw.mono HBt.out.size))) (Nat.lt_of_lt_of_le hgt (Nat.le_trans HBt.out.size hw.size)))
      have HGn := hide (fun w' (hw : Below wt.heap.size wt w') => logGen_any w' (HLt.out.below hw))
      have HSi := hide (fun w' (hw : Below wt.heap.size wt w') => logSize_any w' (HLt.out.below hw))
      have HSa := hide (fun w' (hw : Below wt.heap.size wt w') => safe_any 0 w' (HLt.out.disk.below hw))
      rw [show safeD D7.p 0 = (hl.length : Nat) by rw [show (0 : Int) = ((0 : Nat) : Int) from rfl, safeD_nat _ (by omega)]; exact hs] at HSa
      rw [show L7.gen = 1 by rw [hL]] at HGn
      rw [show L7.size = hl.length by rw [hL]] at HSi
      clear hzz hx hs hL hcl hgl HCt HFt HXt
      go_wp2_with fail
      refine wp_region_held_drew (S := fun w' => Below wt.heap.size wt w') (by kernel_rfl) ((Below.refl _ _).drew) (fun hS => ?_)
      refine wpAnyH_take (i := 0) (oi := ⟨some 79, _, _, _, _, _⟩) (v := ?_) rfl (by kernel_rfl) (by kernel_rfl) (by kernel_rfl) (fun _ _ _ h => h) (Or.inl ⟨by rfl, ?_⟩) hS ?_
      rotate_left 1
      · intro w' hw'
        have k0 := (hw'.cell (p := ⟨w7.heap.size, 0, none⟩) hl7).trans r0; have k1 := (hw'.cell (p := ⟨w7.heap.size, 1, none⟩) hl7).trans r1; have kc := HCv.out w' hw'
        go_simp
        all_goals with_reducible rfl
      try simp only [Act.put, List.setIfInBounds_toArray, List.set_cons_zero, List.set_cons_succ]
      refine wpAnyH_take (i := 1) (oi := ⟨some 80, _, _, _, _, _⟩) (v := ?_) rfl (by kernel_rfl) (by kernel_rfl) (by kernel_rfl) (fun _ _ _ h => h) (Or.inl ⟨by rfl, ?_⟩) hS ?_
      rotate_left 1
      · intro w' hw'
        have k0 := (hw'.cell (p := ⟨w7.heap.size, 0, none⟩) hl7).trans r0; have k1 := (hw'.cell (p := ⟨w7.heap.size, 1, none⟩) hl7).trans r1; have kc := HCv.out w' hw'
        go_simp
        all_goals with_reducible rfl
      try simp only [Act.put, List.setIfInBounds_toArray, List.set_cons_zero, List.set_cons_succ]
      refine wpAnyH_take (i := 2) (oi := ⟨some 81, _, _, _, _, _⟩) (v := ?_) rfl (by kernel_rfl) (by kernel_rfl) (by kernel_rfl) (fun _ _ _ h => h) (Or.inl ⟨by rfl, ?_⟩) hS ?_
      rotate_left 1
      · intro w' hw'
        have k0 := (hw'.cell (p := ⟨w7.heap.size, 0, none⟩) hl7).trans r0; have k1 := (hw'.cell (p := ⟨w7.heap.size, 1, none⟩) hl7).trans r1; have kc := HCv.out w' hw'
        go_simp
        all_goals with_reducible rfl
      try simp only [Act.put, List.setIfInBounds_toArray, List.set_cons_zero, List.set_cons_succ]
      refine wpAnyH_take (i := 3) (oi := ⟨some 82, _, _, _, _, _⟩) (v := ?_) rfl (by kernel_rfl) (by kernel_rfl) (by kernel_rfl) (fun _ _ _ h => h) (Or.inl ⟨by rfl, ?_⟩) hS ?_
      rotate_left 1
      · intro w' hw'
        have k0 := (hw'.cell (p := ⟨w7.heap.size, 0, none⟩) hl7).trans r0; have k1 := (hw'.cell (p := ⟨w7.heap.size, 1, none⟩) hl7).trans r1; have kc := HCv.out w' hw'
        go_simp
        all_goals with_reducible rfl
      try simp only [Act.put, List.setIfInBounds_toArray, List.set_cons_zero, List.set_cons_succ]
      refine wpAnyH_take (i := 4) (oi := ⟨some 83, _, _, _, _, _⟩) (v := ?_) rfl (by kernel_rfl) (by kernel_rfl) (by kernel_rfl) (fun _ _ _ h => h) (Or.inl ⟨by rfl, ?_⟩) hS ?_
      rotate_left 1
      · intro w' hw'
        have k0 := (hw'.cell (p := ⟨w7.heap.size, 0, none⟩) hl7).trans r0; have k1 := (hw'.cell (p := ⟨w7.heap.size, 1, none⟩) hl7).trans r1; have kc := HCv.out w' hw'
        go_simp
        all_goals with_reducible rfl
      try simp only [Act.put, List.setIfInBounds_toArray, List.set_cons_zero, List.set_cons_succ]
      refine wpAnyH_take (i := 5) (oi := ⟨some 84, _, _, _, _, _⟩) (v := ?_) rfl (by kernel_rfl) (by kernel_rfl) (by kernel_rfl) (fun _ _ _ h => h) (Or.inl ⟨by rfl, ?_⟩) hS ?_
      rotate_left 1
      · intro w' hw'
        have k0 := (hw'.cell (p := ⟨w7.heap.size, 0, none⟩) hl7).trans r0; have k1 := (hw'.cell (p := ⟨w7.heap.size, 1, none⟩) hl7).trans r1; have kc := HCv.out w' hw'
        go_simp
        all_goals with_reducible rfl
      try simp only [Act.put, List.setIfInBounds_toArray, List.set_cons_zero, List.set_cons_succ]
      refine wpAnyH_take (i := 6) (oi := ⟨some 85, _, _, _, _, _⟩) (v := ?_) rfl (by kernel_rfl) (by kernel_rfl) (by kernel_rfl) (fun _ _ _ h => h) (Or.inl ⟨by rfl, ?_⟩) hS ?_
      rotate_left 1
      · intro w' hw'
        have k0 := (hw'.cell (p := ⟨w7.heap.size, 0, none⟩) hl7).trans r0; have k1 := (hw'.cell (p := ⟨w7.heap.size, 1, none⟩) hl7).trans r1; have kc := HCv.out w' hw'
        go_simp
        all_goals with_reducible rfl
      try simp only [Act.put, List.setIfInBounds_toArray, List.set_cons_zero, List.set_cons_succ]
      refine wpAnyH_take (i := 7) (oi := ⟨some 86, _, _, _, _, _⟩) (v := ?_) rfl (by kernel_rfl) (by kernel_rfl) (by kernel_rfl) (fun _ _ _ h => h) (Or.inl ⟨by rfl, ?_⟩) hS ?_
      rotate_left 1
      · intro w' hw'
        have k0 := (hw'.cell (p := ⟨w7.heap.size, 0, none⟩) hl7).trans r0; have k1 := (hw'.cell (p := ⟨w7.heap.size, 1, none⟩) hl7).trans r1; have kc := HCv.out w' hw'
        go_simp
        all_goals with_reducible rfl
      try simp only [Act.put, List.setIfInBounds_toArray, List.set_cons_zero, List.set_cons_succ]
      refine wpAnyH_take (i := 8) (oi := ⟨some 87, _, _, _, _, _⟩) (v := ?_) rfl (by kernel_rfl) (by kernel_rfl) (by kernel_rfl) (fun _ _ _ h => h) (Or.inl ⟨by rfl, ?_⟩) hS ?_
      rotate_left 1
      · intro w' hw'
        have k0 := (hw'.cell (p := ⟨w7.heap.size, 0, none⟩) hl7).trans r0; have k1 := (hw'.cell (p := ⟨w7.heap.size, 1, none⟩) hl7).trans r1; have kc := HCv.out w' hw'
        go_simp
        all_goals with_reducible rfl
      try simp only [Act.put, List.setIfInBounds_toArray, List.set_cons_zero, List.set_cons_succ]
      refine wpAnyH_take (i := 9) (oi := ⟨some 88, _, _, _, _, _⟩) (v := ?_) rfl (by kernel_rfl) (by kernel_rfl) (by kernel_rfl) (fun _ _ _ h => h) (Or.inl ⟨by rfl, ?_⟩) hS ?_
      rotate_left 1
      · intro w' hw'
        have k0 := (hw'.cell (p := ⟨w7.heap.size, 0, none⟩) hl7).trans r0; have k1 := (hw'.cell (p := ⟨w7.heap.size, 1, none⟩) hl7).trans r1; have kc := HCv.out w' hw'
        go_simp
        all_goals with_reducible rfl
      try simp only [Act.put, List.setIfInBounds_toArray, List.set_cons_zero, List.set_cons_succ]
      refine wpAnyH_take (i := 10) (oi := ⟨some 89, _, _, _, _, _⟩) (v := ?_) rfl (by kernel_rfl) (by kernel_rfl) (by kernel_rfl) (fun _ _ _ h => h) (Or.inl ⟨by rfl, ?_⟩) hS ?_
      rotate_left 1
      · intro w' hw'
        have k0 := (hw'.cell (p := ⟨w7.heap.size, 0, none⟩) hl7).trans r0; have k1 := (hw'.cell (p := ⟨w7.heap.size, 1, none⟩) hl7).trans r1; have kc := HCv.out w' hw'
        go_simp
        all_goals with_reducible rfl
      try simp only [Act.put, List.setIfInBounds_toArray, List.set_cons_zero, List.set_cons_succ]
      refine wpAnyH_take (i := 11) (oi := ⟨some 90, _, _, _, _, _⟩) (v := ?_) rfl (by kernel_rfl) (by kernel_rfl) (by kernel_rfl) (fun _ _ _ h => h) (Or.inl ⟨by rfl, ?_⟩) hS ?_
      rotate_left 1
      · intro w' hw'
        have k0 := (hw'.cell (p := ⟨w7.heap.size, 0, none⟩) hl7).trans r0; have k1 := (hw'.cell (p := ⟨w7.heap.size, 1, none⟩) hl7).trans r1; have kc := HCv.out w' hw'
        go_simp
        all_goals with_reducible rfl
      try simp only [Act.put, List.setIfInBounds_toArray, List.set_cons_zero, List.set_cons_succ]
      refine wpAnyH_ready (rs := [12]) (by kernel_rfl) (by simp) ?_
      refine AllReadyH.cons (o := ⟨some 91, _, _, _, _, _⟩) rfl (fun K hK => ?_) AllReadyH.nil
      go_simp
      go_at_call 14
      refine (HGn.out _ hS).mono ?_
      rintro e wq ⟨rfl, rfl⟩
      refine hK.out _ _ (hS) (fun hS => ?_)
      clear hK K
      try simp only [Act.put, List.setIfInBounds_toArray, List.set_cons_zero, List.set_cons_succ]
      refine wpAnyH_take (i := 13) (oi := ⟨some 92, _, _, _, _, _⟩) (v := ?_) rfl (by kernel_rfl) (by kernel_rfl) (by kernel_rfl) (fun _ _ _ h => h) (Or.inl ⟨by rfl, ?_⟩) hS ?_
      rotate_left 1
      · intro w' hw'
        have k0 := (hw'.cell (p := ⟨w7.heap.size, 0, none⟩) hl7).trans r0; have k1 := (hw'.cell (p := ⟨w7.heap.size, 1, none⟩) hl7).trans r1; have kc := HCv.out w' hw'
        go_simp
        all_goals with_reducible rfl
      try simp only [Act.put, List.setIfInBounds_toArray, List.set_cons_zero, List.set_cons_succ]
      refine wpAnyH_take (i := 14) (oi := ⟨some 93, _, _, _, _, _⟩) (v := ?_) rfl (by kernel_rfl) (by kernel_rfl) (by kernel_rfl) (fun _ _ _ h => h) (Or.inl ⟨by rfl, ?_⟩) hS ?_
      rotate_left 1
      · intro w' hw'
        have k0 := (hw'.cell (p := ⟨w7.heap.size, 0, none⟩) hl7).trans r0; have k1 := (hw'.cell (p := ⟨w7.heap.size, 1, none⟩) hl7).trans r1; have kc := HCv.out w' hw'
        go_simp
        all_goals with_reducible rfl
      try simp only [Act.put, List.setIfInBounds_toArray, List.set_cons_zero, List.set_cons_succ]
      refine wpAnyH_take (i := 15) (oi := ⟨some 94, _, _, _, _, _⟩) (v := ?_) rfl (by kernel_rfl) (by kernel_rfl) (by kernel_rfl) (fun _ _ _ h => h) (Or.inl ⟨by rfl, ?_⟩) hS ?_
      rotate_left 1
      · intro w' hw'
        have k0 := (hw'.cell (p := ⟨w7.heap.size, 0, none⟩) hl7).trans r0; have k1 := (hw'.cell (p := ⟨w7.heap.size, 1, none⟩) hl7).trans r1; have kc := HCv.out w' hw'
        go_simp
        all_goals with_reducible rfl
      try simp only [Act.put, List.setIfInBounds_toArray, List.set_cons_zero, List.set_cons_succ]
      refine wpAnyH_take (i := 16) (oi := ⟨some 95, _, _, _, _, _⟩) (v := ?_) rfl (by kernel_rfl) (by kernel_rfl) (by kernel_rfl) (fun _ _ _ h => h) (Or.inl ⟨by rfl, ?_⟩) hS ?_
      rotate_left 1
      · intro w' hw'
        have k0 := (hw'.cell (p := ⟨w7.heap.size, 0, none⟩) hl7).trans r0; have k1 := (hw'.cell (p := ⟨w7.heap.size, 1, none⟩) hl7).trans r1; have kc := HCv.out w' hw'
        go_simp
        all_goals with_reducible rfl
      try simp only [Act.put, List.setIfInBounds_toArray, List.set_cons_zero, List.set_cons_succ]
      refine wpAnyH_take (i := 17) (oi := ⟨some 96, _, _, _, _, _⟩) (v := ?_) rfl (by kernel_rfl) (by kernel_rfl) (by kernel_rfl) (fun _ _ _ h => h) (Or.inl ⟨by rfl, ?_⟩) hS ?_
      rotate_left 1
      · intro w' hw'
        have k0 := (hw'.cell (p := ⟨w7.heap.size, 0, none⟩) hl7).trans r0; have k1 := (hw'.cell (p := ⟨w7.heap.size, 1, none⟩) hl7).trans r1; have kc := HCv.out w' hw'
        go_simp
        all_goals with_reducible rfl
      try simp only [Act.put, List.setIfInBounds_toArray, List.set_cons_zero, List.set_cons_succ]
      refine wpAnyH_ready (rs := [18]) (by kernel_rfl) (by simp) ?_
      refine AllReadyH.cons (o := ⟨some 97, _, _, _, _, _⟩) rfl (fun K hK => ?_) AllReadyH.nil
      go_simp
      go_at_call 15
      refine (HH.out _).mono ?_
      rintro e wh ⟨vh, rfl, hrh, hbh⟩
      have hS2 := hS.trans (hbh.mono hS.size)
      obtain ⟨Ah, ch, rfl, hByh, -, -, -⟩ := bytes_of_row hrh
      have hcvh := conv_bytes Ah ch hl wh hByh
      clear hrh hbh hByh
      refine hK.out _ _ (hS2) (fun hS => ?_)
      clear hK K
      try simp only [Act.put, List.setIfInBounds_toArray, List.set_cons_zero, List.set_cons_succ]
      refine wpAnyH_ready (rs := [19]) (by kernel_rfl) (by simp) ?_
      refine AllReadyH.cons (o := ⟨some 98, _, _, _, _, _⟩) rfl (fun K hK => ?_) AllReadyH.nil
      go_simp
      refine hK.out _ _ hS (fun hS => ?_)
      clear hK K
      try simp only [Act.put, List.setIfInBounds_toArray, List.set_cons_zero, List.set_cons_succ]
      refine wpAnyH_take (i := 20) (oi := ⟨some 99, _, _, _, _, _⟩) (v := ?_) rfl (by kernel_rfl) (by kernel_rfl) (by kernel_rfl) (fun _ _ _ h => h) (Or.inl ⟨by rfl, ?_⟩) hS ?_
      rotate_left 1
      · intro w' hw'
        have k0 := (hw'.cell (p := ⟨w7.heap.size, 0, none⟩) hl7).trans r0; have k1 := (hw'.cell (p := ⟨w7.heap.size, 1, none⟩) hl7).trans r1; have kc := HCv.out w' hw'
        go_simp
        all_goals with_reducible rfl
      try simp only [Act.put, List.setIfInBounds_toArray, List.set_cons_zero, List.set_cons_succ]
      refine wpAnyH_take (i := 21) (oi := ⟨some 100, _, _, _, _, _⟩) (v := ?_) rfl (by kernel_rfl) (by kernel_rfl) (by kernel_rfl) (fun _ _ _ h => h) (Or.inl ⟨by rfl, ?_⟩) hS ?_
      rotate_left 1
      · intro w' hw'
        have k0 := (hw'.cell (p := ⟨w7.heap.size, 0, none⟩) hl7).trans r0; have k1 := (hw'.cell (p := ⟨w7.heap.size, 1, none⟩) hl7).trans r1; have kc := HCv.out w' hw'
        go_simp
        all_goals with_reducible rfl
      try simp only [Act.put, List.setIfInBounds_toArray, List.set_cons_zero, List.set_cons_succ]
      refine wpAnyH_take (i := 22) (oi := ⟨some 101, _, _, _, _, _⟩) (v := ?_) rfl (by kernel_rfl) (by kernel_rfl) (by kernel_rfl) (fun _ _ _ h => h) (Or.inl ⟨by rfl, ?_⟩) hS ?_
      rotate_left 1
      · intro w' hw'
        have k0 := (hw'.cell (p := ⟨w7.heap.size, 0, none⟩) hl7).trans r0; have k1 := (hw'.cell (p := ⟨w7.heap.size, 1, none⟩) hl7).trans r1; have kc := HCv.out w' hw'
        go_simp
        all_goals with_reducible rfl
      try simp only [Act.put, List.setIfInBounds_toArray, List.set_cons_zero, List.set_cons_succ]
      refine wpAnyH_take (i := 23) (oi := ⟨some 102, _, _, _, _, _⟩) (v := ?_) rfl (by kernel_rfl) (by kernel_rfl) (by kernel_rfl) (fun _ _ _ h => h) (Or.inl ⟨by rfl, ?_⟩) hS ?_
      rotate_left 1
      · intro w' hw'
        have k0 := (hw'.cell (p := ⟨w7.heap.size, 0, none⟩) hl7).trans r0; have k1 := (hw'.cell (p := ⟨w7.heap.size, 1, none⟩) hl7).trans r1; have kc := HCv.out w' hw'
        go_simp
        all_goals with_reducible rfl
      try simp only [Act.put, List.setIfInBounds_toArray, List.set_cons_zero, List.set_cons_succ]
      refine wpAnyH_take (i := 24) (oi := ⟨some 103, _, _, _, _, _⟩) (v := ?_) rfl (by kernel_rfl) (by kernel_rfl) (by kernel_rfl) (fun _ _ _ h => h) (Or.inl ⟨by rfl, ?_⟩) hS ?_
      rotate_left 1
      · intro w' hw'
        have k0 := (hw'.cell (p := ⟨w7.heap.size, 0, none⟩) hl7).trans r0; have k1 := (hw'.cell (p := ⟨w7.heap.size, 1, none⟩) hl7).trans r1; have kc := HCv.out w' hw'
        go_simp
        all_goals with_reducible rfl
      try simp only [Act.put, List.setIfInBounds_toArray, List.set_cons_zero, List.set_cons_succ]
      refine wpAnyH_take (i := 26) (oi := ⟨some 105, _, _, _, _, _⟩) (v := ?_) rfl (by kernel_rfl) (by kernel_rfl) (by kernel_rfl) (fun _ _ _ h => h) (Or.inl ⟨by rfl, ?_⟩) hS ?_
      rotate_left 1
      · intro w' hw'
        have k0 := (hw'.cell (p := ⟨w7.heap.size, 0, none⟩) hl7).trans r0; have k1 := (hw'.cell (p := ⟨w7.heap.size, 1, none⟩) hl7).trans r1; have kc := HCv.out w' hw'
        go_simp
        all_goals with_reducible rfl
      try simp only [Act.put, List.setIfInBounds_toArray, List.set_cons_zero, List.set_cons_succ]
      refine wpAnyH_take (i := 27) (oi := ⟨some 106, _, _, _, _, _⟩) (v := ?_) rfl (by kernel_rfl) (by kernel_rfl) (by kernel_rfl) (fun _ _ _ h => h) (Or.inl ⟨by rfl, ?_⟩) hS ?_
      rotate_left 1
      · intro w' hw'
        have k0 := (hw'.cell (p := ⟨w7.heap.size, 0, none⟩) hl7).trans r0; have k1 := (hw'.cell (p := ⟨w7.heap.size, 1, none⟩) hl7).trans r1; have kc := HCv.out w' hw'
        go_simp
        all_goals with_reducible rfl
      try simp only [Act.put, List.setIfInBounds_toArray, List.set_cons_zero, List.set_cons_succ]
      refine wpAnyH_ready (rs := [25]) (by kernel_rfl) (by simp) ?_
      refine AllReadyH.cons (o := ⟨some 104, _, _, _, _, _⟩) rfl (fun K hK => ?_) AllReadyH.nil
      go_simp
      go_at_call 16
      refine (HSa.out _ hS).mono ?_
      rintro e ws ⟨rfl, hbs⟩
      have hS2 := hS.trans (hbs.mono hS.size)
      clear hbs
      refine hK.out _ _ (hS2) (fun hS => ?_)
      clear hK K
      try simp only [Act.put, List.setIfInBounds_toArray, List.set_cons_zero, List.set_cons_succ]
      refine wpAnyH_take (i := 28) (oi := ⟨some 107, _, _, _, _, _⟩) (v := ?_) rfl (by kernel_rfl) (by kernel_rfl) (by kernel_rfl) (fun _ _ _ h => h) (Or.inl ⟨by rfl, ?_⟩) hS ?_
      rotate_left 1
      · intro w' hw'
        have k0 := (hw'.cell (p := ⟨w7.heap.size, 0, none⟩) hl7).trans r0; have k1 := (hw'.cell (p := ⟨w7.heap.size, 1, none⟩) hl7).trans r1; have kc := HCv.out w' hw'
        go_simp
        all_goals with_reducible rfl
      try simp only [Act.put, List.setIfInBounds_toArray, List.set_cons_zero, List.set_cons_succ]
      refine wpAnyH_take (i := 29) (oi := ⟨some 108, _, _, _, _, _⟩) (v := ?_) rfl (by kernel_rfl) (by kernel_rfl) (by kernel_rfl) (fun _ _ _ h => h) (Or.inl ⟨by rfl, ?_⟩) hS ?_
      rotate_left 1
      · intro w' hw'
        have k0 := (hw'.cell (p := ⟨w7.heap.size, 0, none⟩) hl7).trans r0; have k1 := (hw'.cell (p := ⟨w7.heap.size, 1, none⟩) hl7).trans r1; have kc := HCv.out w' hw'
        go_simp
        all_goals with_reducible rfl
      try simp only [Act.put, List.setIfInBounds_toArray, List.set_cons_zero, List.set_cons_succ]
      refine wpAnyH_take (i := 30) (oi := ⟨some 109, _, _, _, _, _⟩) (v := ?_) rfl (by kernel_rfl) (by kernel_rfl) (by kernel_rfl) (fun _ _ _ h => h) (Or.inl ⟨by rfl, ?_⟩) hS ?_
      rotate_left 1
      · intro w' hw'
        have k0 := (hw'.cell (p := ⟨w7.heap.size, 0, none⟩) hl7).trans r0; have k1 := (hw'.cell (p := ⟨w7.heap.size, 1, none⟩) hl7).trans r1; have kc := HCv.out w' hw'
        go_simp
        all_goals with_reducible rfl
      try simp only [Act.put, List.setIfInBounds_toArray, List.set_cons_zero, List.set_cons_succ]
      refine wpAnyH_take (i := 31) (oi := ⟨some 110, _, _, _, _, _⟩) (v := ?_) rfl (by kernel_rfl) (by kernel_rfl) (by kernel_rfl) (fun _ _ _ h => h) (Or.inl ⟨by rfl, ?_⟩) hS ?_
      rotate_left 1
      · intro w' hw'
        have k0 := (hw'.cell (p := ⟨w7.heap.size, 0, none⟩) hl7).trans r0; have k1 := (hw'.cell (p := ⟨w7.heap.size, 1, none⟩) hl7).trans r1; have kc := HCv.out w' hw'
        go_simp
        all_goals with_reducible rfl
      try simp only [Act.put, List.setIfInBounds_toArray, List.set_cons_zero, List.set_cons_succ]
      refine wpAnyH_take (i := 33) (oi := ⟨some 112, _, _, _, _, _⟩) (v := ?_) rfl (by kernel_rfl) (by kernel_rfl) (by kernel_rfl) (fun _ _ _ h => h) (Or.inl ⟨by rfl, ?_⟩) hS ?_
      rotate_left 1
      · intro w' hw'
        have k0 := (hw'.cell (p := ⟨w7.heap.size, 0, none⟩) hl7).trans r0; have k1 := (hw'.cell (p := ⟨w7.heap.size, 1, none⟩) hl7).trans r1; have kc := HCv.out w' hw'
        go_simp
        all_goals with_reducible rfl
      try simp only [Act.put, List.setIfInBounds_toArray, List.set_cons_zero, List.set_cons_succ]
      refine wpAnyH_take (i := 34) (oi := ⟨some 113, _, _, _, _, _⟩) (v := ?_) rfl (by kernel_rfl) (by kernel_rfl) (by kernel_rfl) (fun _ _ _ h => h) (Or.inl ⟨by rfl, ?_⟩) hS ?_
      rotate_left 1
      · intro w' hw'
        have k0 := (hw'.cell (p := ⟨w7.heap.size, 0, none⟩) hl7).trans r0; have k1 := (hw'.cell (p := ⟨w7.heap.size, 1, none⟩) hl7).trans r1; have kc := HCv.out w' hw'
        go_simp
        all_goals with_reducible rfl
      try simp only [Act.put, List.setIfInBounds_toArray, List.set_cons_zero, List.set_cons_succ]
      refine wpAnyH_ready (rs := [32]) (by kernel_rfl) (by simp) ?_
      refine AllReadyH.cons (o := ⟨some 111, _, _, _, _, _⟩) rfl (fun K hK => ?_) AllReadyH.nil
      go_simp
      go_at_call 17
      refine (HSi.out _ hS).mono ?_
      rintro e wq ⟨rfl, rfl⟩
      refine hK.out _ _ (hS) (fun hS => ?_)
      clear hK K
      try simp only [Act.put, List.setIfInBounds_toArray, List.set_cons_zero, List.set_cons_succ]
      refine wpAnyH_take (i := 35) (oi := ⟨some 114, _, _, _, _, _⟩) (v := ?_) rfl (by kernel_rfl) (by kernel_rfl) (by kernel_rfl) (fun _ _ _ h => h) (Or.inl ⟨by rfl, ?_⟩) hS ?_
      rotate_left 1
      · intro w' hw'
        have k0 := (hw'.cell (p := ⟨w7.heap.size, 0, none⟩) hl7).trans r0; have k1 := (hw'.cell (p := ⟨w7.heap.size, 1, none⟩) hl7).trans r1; have kc := HCv.out w' hw'
        go_simp
        all_goals with_reducible rfl
      try simp only [Act.put, List.setIfInBounds_toArray, List.set_cons_zero, List.set_cons_succ]
      refine wpAnyH_take (i := 36) (oi := ⟨some 115, _, _, _, _, _⟩) (v := ?_) rfl (by kernel_rfl) (by kernel_rfl) (by kernel_rfl) (fun _ _ _ h => h) (Or.inl ⟨by rfl, ?_⟩) hS ?_
      rotate_left 1
      · intro w' hw'
        have k0 := (hw'.cell (p := ⟨w7.heap.size, 0, none⟩) hl7).trans r0; have k1 := (hw'.cell (p := ⟨w7.heap.size, 1, none⟩) hl7).trans r1; have kc := HCv.out w' hw'
        go_simp
        all_goals with_reducible rfl
      try simp only [Act.put, List.setIfInBounds_toArray, List.set_cons_zero, List.set_cons_succ]
      refine wpAnyH_take (i := 37) (oi := ⟨some 116, _, _, _, _, _⟩) (v := ?_) rfl (by kernel_rfl) (by kernel_rfl) (by kernel_rfl) (fun _ _ _ h => h) (Or.inl ⟨by rfl, ?_⟩) hS ?_
      rotate_left 1
      · intro w' hw'
        have k0 := (hw'.cell (p := ⟨w7.heap.size, 0, none⟩) hl7).trans r0; have k1 := (hw'.cell (p := ⟨w7.heap.size, 1, none⟩) hl7).trans r1; have kc := HCv.out w' hw'
        go_simp
        all_goals with_reducible rfl
      try simp only [Act.put, List.setIfInBounds_toArray, List.set_cons_zero, List.set_cons_succ]
      refine wpAnyH_ready (rs := [38]) (by kernel_rfl) (by simp) ?_
      refine AllReadyH.cons (o := ⟨some 117, _, _, _, _, _⟩) rfl (fun K hK => ?_) AllReadyH.nil
      go_simp
      go_at_call 7
      refine (HAt.out _ hS).mono ?_
      rintro e wa ⟨rfl, hba⟩
      have hS2 := hS.trans (hba.mono hS.size)
      clear hba
      refine hK.out _ _ (hS2) (fun hS => ?_)
      clear hK K
      try simp only [Act.put, List.setIfInBounds_toArray, List.set_cons_zero, List.set_cons_succ]
      refine wpAnyH_take (i := 39) (oi := ⟨some 118, _, _, _, _, _⟩) (v := ?_) rfl (by kernel_rfl) (by kernel_rfl) (by kernel_rfl) (fun _ _ _ h => h) (Or.inl ⟨by rfl, ?_⟩) hS ?_
      rotate_left 1
      · intro w' hw'
        have k0 := (hw'.cell (p := ⟨w7.heap.size, 0, none⟩) hl7).trans r0; have k1 := (hw'.cell (p := ⟨w7.heap.size, 1, none⟩) hl7).trans r1; have kc := HCv.out w' hw'
        go_simp
        all_goals with_reducible rfl
      try simp only [Act.put, List.setIfInBounds_toArray, List.set_cons_zero, List.set_cons_succ]
      refine wpAnyH_take (i := 40) (oi := ⟨some 4, _, _, _, _, _⟩) (v := ?_) rfl (by kernel_rfl) (by kernel_rfl) (by kernel_rfl) (fun _ _ _ h => h) (Or.inl ⟨by rfl, ?_⟩) hS ?_
      rotate_left 1
      · intro w' hw'
        have k0 := (hw'.cell (p := ⟨w7.heap.size, 0, none⟩) hl7).trans r0; have k1 := (hw'.cell (p := ⟨w7.heap.size, 1, none⟩) hl7).trans r1; have kc := HCv.out w' hw'
        go_simp
        all_goals with_reducible rfl
      try simp only [Act.put, List.setIfInBounds_toArray, List.set_cons_zero, List.set_cons_succ]
      refine wpAnyH_done (by kernel_rfl) ?_ _
      go_wp2_with fail
      go_ret
      exact ⟨rfl, HBt.out.trans (hS.mono HBt.out.size)⟩
    · have hgb : (S1.gen == 0) = false := by rw [beq_eq_false_iff_ne]; exact hg0
      obtain ⟨hx, hs, hL⟩ := HZ1.out hg0
      have hsz := HSz.out
      have hkl := HKa.out
      have hcv1 := fun d os => conv_bytes A7 c7 S1.cp (Go.Sort.grow (redrawn wt d) os) (HFt.out.1.below (below_regrown wt d os)).bytes
      have hcv2 := fun d os => conv_bytes A1 c1 S1.cp (Go.Sort.grow (redrawn wt d) os) (HCt.out.1.below (below_regrown wt d os)).bytes
      rw [hx] at HBy ⊢
      have hcv3 := fun d os => conv_bytes At ct (a.take S1.size) (Go.Sort.grow (redrawn wt d) os) (HBy.out.on (below_regrown wt d os))
      have hcv4 := fun d os => conv_bytes A ca (a.take S1.size) (Go.Sort.grow (redrawn wt d) os) (((HA.out.on HBt.out).on (below_regrown wt d os)).take S1.size)
      have hln : (a.take S1.size).length = S1.size := by rw [List.length_take]; omega
      rw [hln] at hcv3 hcv4 ⊢
      have hn1 : ((S1.size : Nat) : Int) ≤ (ca : Int) := by omega
      have hn0 : (0 : Int) ≤ ((S1.size : Nat) : Int) := by omega
      have q0 := fun d os => cell_regrown r0 d os
      have q1 := fun d os => cell_regrown r1 d os
      have p0 := fun d os => cell_regrown s0 d os
      have p1 := fun d os => cell_regrown s1 d os
      have p2 := fun d os => cell_regrown s2 d os
      have p3 := fun d os => cell_regrown s3 d os
      have HGr := hide (fun w' (hw : Below wt.heap.size wt w') => groups_any B7 G1 d7 k1 gs7 g1 w' (HFt.out.2.below hw) (HCt.out.2.below hw) HM7.out)
      rw [HG7.out, HG.out] at HGr
      simp only [decide_true] at HGr
      have HAt := hide (fun w' (hw : Below wt.heap.size wt w') => awake_any w' (HT.out.on (HBt.out.trans (hw.mono HBt.out.size))) (Nat.lt_of_lt_of_le hgt (Nat.le_trans HBt.out.size hw.size)))
      have HGn := hide (fun w' (hw : Below wt.heap.size wt w') => (logGen_any w' (HLt.out.below hw)).mono fun e w2 h => (⟨h.1, by rw [h.2]; exact Below.refl _ _⟩ : e = .returned (.int .i64 L7.gen) ∧ Below w'.heap.size w' w2))
      have HLo := hide (fun w' (hw : Below wt.heap.size wt w') => (logLoose_any w' (HLt.out.below hw)).mono fun e w2 h => (⟨h.1, by rw [h.2]; exact Below.refl _ _⟩ : e = .returned (.bool L7.loose) ∧ Below w'.heap.size w' w2))
      have HSa := hide (fun w' (hw : Below wt.heap.size wt w') => safe_any 0 w' (HLt.out.disk.below hw))
      rw [show safeD D7.p 0 = (S1.size : Nat) by rw [show (0 : Int) = ((0 : Nat) : Int) from rfl, safeD_nat _ (by omega)]; exact hs] at HSa
      rw [show L7.gen = S1.gen by rw [hL]] at HGn
      rw [show L7.loose = false by rw [hL]] at HLo
      clear HZ0 HZ1 hx hs hL HSz HFt HCt HXt HYt
      generalize S1.size = sz at *
      go_wp2_with fail
      refine wp_region_quiet_below (by kernel_rfl) (by kernel_rfl) ?_
      repeat (go_big_quiet_step (first
        | (go_at_call 18; exact Calls.regrown_of (HGr.out _ (below_regrown _ _ _)))
        | (go_at_call 14; exact Calls.regrown_of (HGn.out _ (below_regrown _ _ _)))
        | (go_at_call 16; exact Calls.regrown_of (HSa.out _ (below_regrown _ _ _)))
        | (go_at_call 19; exact Calls.regrown_of (HLo.out _ (below_regrown _ _ _)))
        | (go_at_call 7; exact Calls.regrown_of (HAt.out _ (below_regrown _ _ _)))))
      refine wpQuiet_nil ?_
      intro _ hw'
      obtain ⟨⟨dq, osq⟩, hw''⟩ := hw'
      subst hw''
      have HBe := hide (HBt.out.trans ((below_regrown wt dq osq).mono HBt.out.size))
      go_wp2_with fail
      go_ret
      exact ⟨rfl, HBe.out⟩
end Go.Proofs.YtkdebebpnkjmdaaDoor
