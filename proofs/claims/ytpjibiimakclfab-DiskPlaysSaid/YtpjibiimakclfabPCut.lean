/-
  The reference's Cut.
-/
import Derived.Test.YtpjibiimakclfabPFirst
namespace Go.Proofs.Ytpjibiimakclfab
open Go.RowKit

/-- The first bytes of a file, all safe. -/
def rfP (p : RP) (i k : Nat) : RP := { p with bs := upd p.bs i ((p.bs i).take k), sf := upd p.sf i (List.replicate k true) }
theorem rfP_row {p : RP} {i j k : Nat} (h0 : j ≠ i * 2) (h1 : j ≠ i * 2 + 1) : rowC (rfP p i k) j = rowC p j := by
  unfold rowC rfP
  by_cases e : j % 2 = 0
  · rw [if_pos e, if_pos e]
    show byC (upd p.bs i _ (j / 2)) = _
    rw [upd_other _ _ (by omega)]
  · rw [if_neg e, if_neg e]
    show boC (upd p.sf i _ (j / 2)) = _
    rw [upd_other _ _ (by omega)]
theorem rfP_bytes {p : RP} {i k : Nat} : rowC (rfP p i k) (i * 2) = byC ((p.bs i).take k) := by
  rw [rowC_even']
  show byC (upd p.bs i _ i) = _
  rw [upd_same]
theorem rfP_bools {p : RP} {i k : Nat} : rowC (rfP p i k) (i * 2 + 1) = boC (List.replicate k true) := by
  rw [rowC_odd']
  show boC (upd p.sf i _ i) = _
  rw [upd_same]
/-- What the store of first's result asks and leaves. -/
def StoreOk (base g i k : Nat) (R : RS) (w2 w3 : World) (r : Value) : Prop :=
    ∃ A1 c1 A2 c2, r = .agg #[.slice A1 k c1, .slice A2 k c2] ∧ w3.cell? ⟨g, i * 2, none⟩ = some (R.v (i * 2)) ∧ w3.cell? ⟨g, i * 2 + 1, none⟩ = some (R.v (i * 2 + 1)) ∧ w3.frozen? ⟨g, i * 2, none⟩ = false ∧ w3.frozen? ⟨g, i * 2 + 1, none⟩ = false ∧ w2.heap.size ≤ w3.heap.size ∧
      ∃ R' : RS, R'.p = rfP R.p i k ∧ RefAt base g ((w3.setCell ⟨g, i * 2, none⟩ (.slice A1 k c1)).setCell ⟨g, i * 2 + 1, none⟩ (.slice A2 k c2)) R' ∧ RTurned g R R' w2 ((w3.setCell ⟨g, i * 2, none⟩ (.slice A1 k c1)).setCell ⟨g, i * 2 + 1, none⟩ (.slice A2 k c2))
/-- Behind first and the store of its result. -/
theorem rstore {base g i k : Nat} {R : RS} {w2 w3 : World} {r : Value} (hi : i < 4) (hR : RefAt base g w2 R) (hb : Below w2.heap.size w2 w3) (hk : k ≤ (R.p.bs i).length) (hF : FirstOut w2.heap.size w3 (R.p.bs i) k r) :
    StoreOk base g i k R w2 w3 r := by
  obtain ⟨v1, v2, rfl, h1, h2, hne⟩ := hF
  obtain ⟨A1, c1, e1, -, -⟩ := row_slice h1
  obtain ⟨A2, c2, e2, -, -⟩ := row_slice h2
  have h3 := hR.below hb
  have hs := hb.size
  have hlt := hR.lt
  have hg := hR.hg
  refine ⟨A1, c1, A2, c2, by rw [e1, e2], h3.at (by omega), h3.at (by omega), h3.frozen _, h3.frozen _, hs, ⟨rfP R.p i k, upd (upd R.v (i * 2) v1) (i * 2 + 1) v2⟩, rfl, ?_⟩
  rw [← e1, ← e2]
  have hn1 : ∀ b, v1.ownBlock = some b → w2.heap.size ≤ b := fun b e => (h1.lt b e).1
  have hn2 : ∀ b, v2.ownBlock = some b → w2.heap.size ≤ b := fun b e => (h2.lt b e).1
  have hh : ∀ b, b ≠ g → ((w3.setCell ⟨g, i * 2, none⟩ v1).setCell ⟨g, i * 2 + 1, none⟩ v2).heap[b]? = w3.heap[b]? := fun b hx => by
    rw [Below.heap_setCell _ _ _ _ hx, Below.heap_setCell _ _ _ _ hx]
  have hV0 : upd (upd R.v (i * 2) v1) (i * 2 + 1) v2 (i * 2) = v1 := by rw [upd_other _ _ (by omega), upd_same]
  have hV1 : upd (upd R.v (i * 2) v1) (i * 2 + 1) v2 (i * 2 + 1) = v2 := upd_same _ _ _
  have hVo : ∀ j, j ≠ i * 2 → j ≠ i * 2 + 1 → upd (upd R.v (i * 2) v1) (i * 2 + 1) v2 j = R.v j := fun j ha hb => by rw [upd_other _ _ hb, upd_other _ _ ha]
  have hown : ∀ j, j < 8 → ∀ b, (upd (upd R.v (i * 2) v1) (i * 2 + 1) v2 j).ownBlock = some b → (R.v j).ownBlock = some b ∨ w2.heap.size ≤ b := fun j hj b e => by
    by_cases ha : j = i * 2
    · rw [ha, hV0] at e; exact .inr (hn1 b e)
    · by_cases hc : j = i * 2 + 1
      · rw [hc, hV1] at e; exact .inr (hn2 b e)
      · rw [hVo j ha hc] at e; exact .inl e
  refine hR.puts (R' := ⟨rfP R.p i k, upd (upd R.v (i * 2) v1) (i * 2 + 1) v2⟩) (by exact hb.os) (by exact hb.tape) (by exact hb.output) (by simpa [World.setCell] using hs) ?_ (fun j hj => ?_) (fun j hj b e => hown j hj b e) (fun b hlt2 hx _ => by rw [hh b hx]; exact hb.block b hlt2) (fun a j ha hj hx b hlt2 ea ej => ?_)
  · have hx := Joins.block_setCell (i := i * 2 + 1) (Joins.block_setCell (i := i * 2) h3.box v1) v2
    rw [hx, rcells_set (p' := R.p) (v' := v1) (by omega) rfl rfl rfl rfl rfl, rcells_set (R := ⟨R.p, upd R.v (i * 2) v1⟩) (p' := rfP R.p i k) (v' := v2) (by omega) rfl rfl rfl rfl rfl]
  · show ((w3.setCell ⟨g, i * 2, none⟩ v1).setCell ⟨g, i * 2 + 1, none⟩ v2).ownsRow base (rowT j) 1 (upd (upd R.v (i * 2) v1) (i * 2 + 1) v2 j) (rowC (rfP R.p i k) j).length (rowC (rfP R.p i k) j)
    by_cases ha : j = i * 2
    · rw [ha, hV0, rfP_bytes, byC_len, List.length_take, Nat.min_eq_left hk, rowT_even']
      exact own_mono (row_same h1 fun b e => hh b (by have := hn1 b e; omega)) (by omega)
    · by_cases hc : j = i * 2 + 1
      · rw [hc, hV1, rfP_bools, boC_len, List.length_replicate, rowT_odd']
        exact own_mono (row_same h2 fun b e => hh b (by have := hn2 b e; omega)) (by omega)
      · rw [hVo j ha hc, rfP_row ha hc]
        exact row_same (h3.row j hj) fun b e => hh b (h3.off j hj b e)
  · have hold : ∀ j, j < 8 → (R.v j).ownBlock ≠ some b := fun j hj e => by have := (hR.row j hj).lt b e; omega
    have hx2 : ∀ j, j < 8 → (upd (upd R.v (i * 2) v1) (i * 2 + 1) v2 j).ownBlock = some b → (j = i * 2 ∧ v1.ownBlock = some b) ∨ (j = i * 2 + 1 ∧ v2.ownBlock = some b) := fun j hj e => by
      by_cases ha : j = i * 2
      · rw [ha, hV0] at e; exact .inl ⟨ha, e⟩
      · by_cases hc : j = i * 2 + 1
        · rw [hc, hV1] at e; exact .inr ⟨hc, e⟩
        · rw [hVo j ha hc] at e; exact absurd e (hold j hj)
    rcases hx2 a ha ea with ⟨r1, r2⟩ | ⟨r1, r2⟩
    · rcases hx2 j hj ej with ⟨r3, r4⟩ | ⟨r3, r4⟩
      · omega
      · exact hne b r2 r4
    · rcases hx2 j hj ej with ⟨r3, r4⟩ | ⟨r3, r4⟩
      · exact hne b r4 r2
      · omega
def ruE (p : RP) (n m : Int) : Int := if wrE p n = 0 then (if m < 0 ∨ ((p.bs n.toNat).length : Int) < m then 30 else rcE p) else wrE p n
def ruF (p : RP) (n m : Int) : RP := if wrE p n = 0 then (if m < 0 ∨ ((p.bs n.toNat).length : Int) < m then p else if rcE p = 0 then rfP (rcP p) n.toNat m.toNat else rcP p) else p
theorem rbytes {base g i : Nat} {R : RS} {w : World} (hi : i < 4) (hR : RefAt base g w R) : ∃ A c, R.v (i * 2) = .slice A (R.p.bs i).length c ∧ BytesAt w.heap.size w A (R.p.bs i) := by
  have h := hR.row (i * 2) (by omega)
  rw [rowC_even', byC_len, rowT_even'] at h
  obtain ⟨A, c, e, hB, _⟩ := bytes_of_row h
  exact ⟨A, c, e, hB⟩
theorem rbools {base g i : Nat} {R : RS} {w : World} (hi : i < 4) (hR : RefAt base g w R) : ∃ A c, R.v (i * 2 + 1) = .slice A (R.p.sf i).length c ∧ BoolsAt w.heap.size w A (R.p.sf i) := by
  have h := hR.row (i * 2 + 1) (by omega)
  rw [rowC_odd', boC_len, rowT_odd'] at h
  exact bools_of_row h
set_option maxHeartbeats 6400000 in
set_option maxRecDepth 100000 in
theorem rcut_any {base g : Nat} {R : RS} (n m : Int) (w : World) (hR : RefAt base g w R) (hO : R.p.Ok) (hd : R.p.done ≤ 1000000000000) (hl0 : R.p.armed = true → 0 ≤ R.p.left) :
    Calls Try.prog 24 #[vD g, .int .i64 n, .int .i64 m] w fun e w' => e = .returned (.int .i64 (ruE R.p n m)) ∧ ∃ R' : RS, R'.p = ruF R.p n m ∧ RefAt base g w' R' ∧ RTurned g R R' w w' := by
  have HW := hide (wrong_any n w hR)
  have HR := hide hR
  by_cases h0 : wrE R.p n = 0
  · obtain ⟨_, n0, n3⟩ := wrE_zero h0
    obtain ⟨i, rfl⟩ : ∃ i : Nat, n = i := ⟨n.toNat, by omega⟩
    have hi4 : i < 4 := by omega
    have hI0 : (0 : Int) ≤ (i : Int) := by omega
    have hI1 : (i : Int) < 4 := by omega
    rw [h0] at HW
    have HCm := hide (fun w' (h : Below w.heap.size w w') => rcommand_any w' (hR.below h) hO.done0 hd hl0 hO.left1)
    have hbl : (R.p.bs i).length ≤ 1073741824 := by
      have hu := hO.used
      unfold RP.used at hu
      rcases (by omega : i = 0 ∨ i = 1 ∨ i = 2 ∨ i = 3) with rfl | rfl | rfl | rfl <;> omega
    have hUE : ruE R.p i m = if m < 0 ∨ ((R.p.bs i).length : Int) < m then 30 else rcE R.p := by unfold ruE; rw [if_pos h0, Int.toNat_natCast]
    have hUF : ruF R.p i m = if m < 0 ∨ ((R.p.bs i).length : Int) < m then R.p else if rcE R.p = 0 then rfP (rcP R.p) i m.toNat else rcP R.p := by unfold ruF; rw [if_pos h0, Int.toNat_natCast]
    have HUE := hide hUE
    have HUF := hide hUF
    generalize ruE R.p i m = qe at *
    generalize ruF R.p i m = qp at *
    clear hR hO h0 hUE hUF
    by_cases hm0 : m < 0
    · have HE := hide (show qe = 30 by rw [HUE.out, if_pos (.inl hm0)])
      have HP := hide (show qp = R.p by rw [HUF.out, if_pos (.inl hm0)])
      go_enter Try.func24, Try.ntmps24
      go_wp2_with fail
      refine HW.out.mono ?_
      rintro e w1 ⟨rfl, hb1⟩
      have HB1 := hide hb1
      have hR1 := HR.out.below hb1
      have cvB := hR1.at (j := i * 2) (by omega)
      obtain ⟨A, c, eA, -⟩ := rbytes (by omega) hR1
      rw [eA] at cvB
      clear hb1 hR1 eA
      go_wp2_with fail
      go_ret
      exact ⟨ret_int HE.out.symm, R, HP.out.symm, HR.out.below HB1.out, RTurned.of_below HB1.out⟩
    · by_cases hm1 : ((R.p.bs i).length : Int) < m
      · have HE := hide (show qe = 30 by rw [HUE.out, if_pos (.inr hm1)])
        have HP := hide (show qp = R.p by rw [HUF.out, if_pos (.inr hm1)])
        go_enter Try.func24, Try.ntmps24
        go_wp2_with fail
        refine HW.out.mono ?_
        rintro e w1 ⟨rfl, hb1⟩
        have HB1 := hide hb1
        have hR1 := HR.out.below hb1
        have cvB := hR1.at (j := i * 2) (by omega)
        obtain ⟨A, c, eA, -⟩ := rbytes (by omega) hR1
        rw [eA] at cvB
        clear hb1 hR1 eA
        go_wp2_with fail
        go_ret
        exact ⟨ret_int HE.out.symm, R, HP.out.symm, HR.out.below HB1.out, RTurned.of_below HB1.out⟩
      · obtain ⟨k, rfl⟩ : ∃ k : Nat, m = k := ⟨m.toNat, by omega⟩
        have hkl : k ≤ (R.p.bs i).length := by omega
        have hno : ¬ ((k : Int) < 0 ∨ ((R.p.bs i).length : Int) < (k : Int)) := by omega
        have hQ := HUE.out
        have hP0 := HUF.out
        rw [if_neg hno] at hQ hP0
        rw [Int.toNat_natCast] at hP0
        have HQ := hide hQ
        have HP0 := hide hP0
        clear hQ hP0 HUE HUF hno
        rcases rcE_two R.p with hr | hr
        · have HE := hide (show qe = 0 by rw [HQ.out, hr])
          have HP := hide (show qp = rfP (rcP R.p) i k by rw [HP0.out, if_pos hr])
          rw [hr] at HCm
          clear hr HQ HP0
          go_enter Try.func24, Try.ntmps24
          go_wp2_with fail
          refine HW.out.mono ?_
          rintro e w1 ⟨rfl, hb1⟩
          have HB1 := hide hb1
          have hR1 := HR.out.below hb1
          have cvB := hR1.at (j := i * 2) (by omega)
          obtain ⟨A, c, eA, -⟩ := rbytes (by omega) hR1
          rw [eA] at cvB
          clear hb1 hR1 eA
          go_wp2_with fail
          refine (HCm.out _ HB1.out).mono ?_
          rintro e w2 ⟨rfl, R2, e2, -, hR2, hT2⟩
          have hbs2 : R2.p.bs = R.p.bs := by rw [e2]; exact (rcP_same R.p).1
          obtain ⟨A2, c2, ev2, hy2⟩ := rbytes hi4 hR2
          obtain ⟨A3, c3, ev3, -⟩ := rbools hi4 hR2
          rw [hbs2] at ev2 hy2
          have cw2 := hR2.at (j := i * 2) (by omega)
          have cw3 := hR2.at (j := i * 2 + 1) (by omega)
          rw [ev2] at cw2
          rw [ev3] at cw3
          have HC := hide (fun w' (h : Below w2.heap.size w2 w') => (rfirst_any A2 c2 (.slice A3 (R2.p.sf i).length c3) (R.p.bs i) k w' hbl hkl (hy2.on h)).mono fun e w3 hh => by
            obtain ⟨⟨r, e1, hF⟩, hb3⟩ := hh
            exact (⟨r, e1, rstore (i := i) (k := k) hi4 (hR2.below h) hb3 (by rw [hbs2]; exact hkl) (by rw [hbs2]; exact hF)⟩ : ∃ r, e = .returned r ∧ StoreOk base g i k R2 w' w3 r))
          have HT2 := hide ((RTurned.of_below HB1.out).trans hT2)
          have HE2 := hide e2
          clear hR2 hT2 e2 hy2 ev2 ev3 hbs2 HCm HW cvB
          go_wp2_with fail
          go_region_law (go_simp; go_at_call 36; refine (HC.out _ ((Below.refl _ _).drew)).mono ?_; rintro e w3 ⟨r, rfl, A4, c4, A5, c5, rfl, q1, q2, f1, f2, hs, R3, e3, hR3, hT3⟩; have HR3 := hide hR3; have HT3 := hide hT3; have HE3 := hide e3; clear hR3 hT3 e3)
          all_goals
            go_wp2_with fail
            go_ret
            exact ⟨ret_int HE.out.symm, R3, by rw [HE3.out, HE2.out, HP.out], HR3.out, HT2.out.trans ((RTurned.of_below (R := R2) ((Below.refl w2.heap.size w2).drew)).trans HT3.out)⟩
        · have HE := hide (show qe = 40 by rw [HQ.out, hr])
          have HP := hide (show qp = rcP R.p by rw [HP0.out, if_neg (by rw [hr]; decide)])
          rw [hr] at HCm
          clear hr HQ HP0
          go_enter Try.func24, Try.ntmps24
          go_wp2_with fail
          refine HW.out.mono ?_
          rintro e w1 ⟨rfl, hb1⟩
          have HB1 := hide hb1
          have hR1 := HR.out.below hb1
          have cvB := hR1.at (j := i * 2) (by omega)
          obtain ⟨A, c, eA, -⟩ := rbytes (by omega) hR1
          rw [eA] at cvB
          clear hb1 hR1 eA
          go_wp2_with fail
          refine (HCm.out _ HB1.out).mono ?_
          rintro e w2 ⟨rfl, R2, e2, -, hR2, hT2⟩
          have HF := hide (show ∃ R' : RS, R'.p = qp ∧ RefAt base g w2 R' ∧ RTurned g R R' w w2 from ⟨R2, by rw [e2, HP.out], hR2, (RTurned.of_below HB1.out).trans hT2⟩)
          clear e2 hR2 hT2 HW HCm
          go_wp2_with fail
          go_ret
          exact ⟨ret_int HE.out.symm, HF.out⟩
  · have HE := hide (show ruE R.p n m = wrE R.p n from if_neg h0)
    have HP := hide (show ruF R.p n m = R.p from if_neg h0)
    have hb : (wrE R.p n != 0) = true := by rw [bne_iff_ne]; exact h0
    generalize ruE R.p n m = qe at *
    generalize ruF R.p n m = qp at *
    generalize wrE R.p n = qw at *
    clear hR hO h0
    go_enter Try.func24, Try.ntmps24
    go_wp2_with fail
    refine HW.out.mono ?_
    rintro e w1 ⟨rfl, hb1⟩
    have HB1 := hide hb1
    clear hb1
    go_wp2_with fail
    go_ret
    exact ⟨ret_int HE.out.symm, R, HP.out.symm, HR.out.below HB1.out, RTurned.of_below HB1.out⟩
end Go.Proofs.Ytpjibiimakclfab
