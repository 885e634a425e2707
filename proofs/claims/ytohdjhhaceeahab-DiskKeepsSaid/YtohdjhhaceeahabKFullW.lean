/-
  The walk of DiskFull.
-/
import Derived.Test.YtohdjhhaceeahabKCalm
namespace Go.Proofs.Ytohdjhhaceeahab
open Go.RowKit

/-- The slice at A reads as these integers, below block B. -/
def IntsAt (B : Nat) (w : World) (A : Option Addr) (l : List Int) : Prop :=
  ∀ j, j < l.length → ∃ b off, A = some ⟨b, off, none⟩ ∧ b < B ∧ w.cell? ⟨b, off + j, none⟩ = some (.int .i64 (l.getD j 0))
theorem IntsAt.below {B : Nat} {w w' : World} {A : Option Addr} {l : List Int} (h : IntsAt B w A l) (hb : Below B w w') : IntsAt B w' A l := fun j hj => by
  obtain ⟨b, off, e, hlt, h0⟩ := h j hj
  exact ⟨b, off, e, hlt, (hb.cell (p := ⟨b, off + j, none⟩) hlt).trans h0⟩
set_option maxHeartbeats 3200000 in
set_option maxRecDepth 100000 in
theorem diskFull_walk (cap : Int) (A : Option Addr) (c : Nat) (ns : List Int) (cut : Int) (w : World) (c0 : -9223372036854775808 ≤ cap) (c1 : cap ≤ 9223372036854775807) (hI : IntsAt w.heap.size w A ns) (hl : ns.length ≤ maxLen) (hb : ∀ j, j < ns.length → -9223372036854775808 ≤ ns.getD j 0 ∧ ns.getD j 0 ≤ 9223372036854775807) (d0 : -9223372036854775808 ≤ cut) (d1 : cut ≤ 9223372036854775807) :
    Calls Try.prog 5 #[.int .i64 cap, .slice A ns.length c, .int .i64 cut] w fun e w' => e = .returned (.bool true) ∧ Below w.heap.size w w' := by
  have HAw := hide (fun w' => awake_any w')
  unfold maxLen at hl
  by_cases h1 : cap < 0
  · clear hI hb
    go_enter Try.func5, Try.ntmps5
    go_wp2_with fail
    refine (HAw.out _).mono ?_
    rintro e wa ⟨rfl, hba⟩
    have HBA := hide hba
    clear hba
    go_wp2_with fail
    go_ret
    exact ⟨rfl, HBA.out⟩
  by_cases h2 : 2000 < cap
  · clear hI hb
    go_enter Try.func5, Try.ntmps5
    go_wp2_with fail
    refine (HAw.out _).mono ?_
    rintro e wa ⟨rfl, hba⟩
    have HBA := hide hba
    clear hba
    go_wp2_with fail
    go_ret
    exact ⟨rfl, HBA.out⟩
  by_cases h3 : 40 < ns.length
  · have h3' : (40 : Int) < (ns.length : Int) := by omega
    clear hI hb h3
    go_enter Try.func5, Try.ntmps5
    go_wp2_with fail
    refine (HAw.out _).mono ?_
    rintro e wa ⟨rfl, hba⟩
    have HBA := hide hba
    clear hba
    go_wp2_with fail
    go_ret
    exact ⟨rfl, HBA.out⟩
  have h3' : ¬ (40 : Int) < (ns.length : Int) := by omega
  have hcb : capB cap = true := by unfold capB; simp; omega
  have HNew := hide (new_yes cap w hcb)
  have HCalm := hide (calm_new hcb)
  have HIn := hide hI
  have HBd := hide hb
  obtain ⟨i0, hi, hz0, hz1, hz2⟩ := info_parts u8_info
  clear hI hb hcb
  go_enter Try.func5, Try.ntmps5
  go_wp2_with fail
  refine HNew.out.mono ?_
  rintro e w1 ⟨⟨g, rfl, hD0⟩, hb1⟩
  have HSt := hide (show ∃ D : DS, Calm D.p cap 0 ∧ D.p.done ≤ 0 ∧ DiskAt w.heap.size g w1 D ∧ Below w.heap.size w w1 from ⟨_, HCalm.out, Int.le_refl _, hD0, hb1⟩)
  clear hD0 hb1 HNew HCalm
  go_wp2_with fail
  go_loopw [8, 32] (fun u i wr => ∃ (k uu : Nat) (D : DS), k ≤ ns.length ∧ i = .int .i64 k ∧ u = .int .i64 uu ∧ Calm D.p cap uu ∧ (uu : Int) ≤ cap ∧ D.p.done ≤ k ∧ DiskAt w.heap.size g wr D ∧ Below w.heap.size w wr) (fun _ i _ => ns.length - (intOf i).toNat)
  case atStart =>
    obtain ⟨D, h1, h2, h3, h4⟩ := HSt.out
    exact ⟨0, 0, D, Nat.zero_le _, rfl, rfl, h1, by show (0 : Int) ≤ cap; omega, h2, h3, h4⟩
  case round =>
    obtain ⟨k, uu, D, hk, rfl, rfl, hCa, huc, hdn, hD, hbw⟩ := hrel
    have HCa := hide hCa
    have HD := hide hD
    have HB := hide hbw
    have hucap : uu ≤ 1073741824 := by have := hCa.ok.used; rw [hCa.used] at this; exact this
    clear HSt
    by_cases hlt : k < ns.length
    · obtain ⟨b, off, rfl, hbb, hcx⟩ := (HIn.out.below hbw) k hlt
      have hbb' : b < wr.heap.size := Nat.lt_of_lt_of_le hbb hbw.size
      obtain ⟨x0, x1⟩ := HBd.out k hlt
      generalize ns.getD k 0 = x at *
      clear hCa hD hbw hbb
      by_cases x2 : x < 0
      · go_wp2_with fail
        refine (HAw.out _).mono ?_
        rintro e wa ⟨rfl, hba⟩
        have HBA := hide (HB.out.trans (hba.mono HB.out.size))
        clear hba
        go_wp2_with fail
        go_ret
        exact ⟨rfl, HBA.out⟩
      by_cases x3 : 3000 < x
      · go_wp2_with fail
        refine (HAw.out _).mono ?_
        rintro e wa ⟨rfl, hba⟩
        have HBA := hide (HB.out.trans (hba.mono HB.out.size))
        clear hba
        go_wp2_with fail
        go_ret
        exact ⟨rfl, HBA.out⟩
      obtain ⟨m, rfl⟩ : ∃ m : Nat, x = m := ⟨x.toNat, by omega⟩
      go_wp2_with (at_make; go_must (refine wpList_make_full _ rfl _ _ 28 rfl wr.heap.size 5 i0 (.int .u8 0) 1 Try.underlying28 hi hz0 hz1 .i64 .i64 m m m rfl rfl rfl rfl (by rw [hz2]; omega) (by unfold maxLen; omega) (Nat.le_refl _) ?_))
      intro w2 hown2 hgrow2
      have hbz : BytesAt w2.heap.size w2 (some ⟨wr.heap.size, 0, none⟩) (List.replicate m 0) := made_at hown2
      have HB2 := hide (show Below w.heap.size w w2 from HB.out.grown hgrow2 HB.out.size (fun j hj => by cases hj))
      have HD2 := hide (HD.out.below (show Below wr.heap.size wr w2 from (Below.refl _ _).grown hgrow2 (Nat.le_refl _) (fun j hj => by cases hj)))
      have HZ := hide hbz
      have hfb : fileB ((k : Int) % 4) = true := by unfold fileB; simp; omega
      have hdn2 : D.p.done ≤ 1000000000 := by omega
      have hum : IntKind.i64.wrap ((uu : Int) + (m : Int)) = (uu : Int) + (m : Int) := by
        unfold IntKind.wrap
        simp [IntKind.signed, IntKind.bits]
        omega
      clear hown2 hgrow2 hbz
      by_cases hr : cap < (uu : Int) + m
      · have HCl := hide (cApp_no (c := m) HD2.out HCa.out hdn2 hfb List.length_replicate HZ.out (fun e => by cases e) (by omega) hr)
        have hr2 : ¬ (m : Int) ≤ cap - uu := by omega
        go_wp2_with fail
        refine HCl.out.mono ?_
        rintro e w3 ⟨rfl, D3, e3, hD3, hT3⟩
        have HC3 := hide (show Calm D3.p cap uu by rw [e3]; exact HCa.out)
        have HDn3 := hide (show D3.p.done ≤ ((k + 1 : Nat) : Int) by rw [e3]; omega)
        have HD3 := hide hD3
        have HB3 := hide (HB2.out.trans (hT3.below HD2.out))
        have HU := hide (cUsed hD3 HC3.out)
        clear HCl e3 hD3 hT3 HD2 HB2 HZ
        go_wp2_with fail
        refine HU.out.mono ?_
        rintro e w4 ⟨rfl, hb4⟩
        have HB4 := hide (HB3.out.trans (hb4.mono HB3.out.size))
        have HD4 := hide (HD3.out.below hb4)
        clear HU hb4
        go_wp2_with fail
        go_roundw
        case rel => exact ⟨k + 1, uu, D3, hlt, by go_num, rfl, HC3.out, huc, HDn3.out, HD4.out, HB4.out⟩
        case measure => simp [intOf]; omega
      · have HCl := hide (cApp_yes (c := m) HD2.out HCa.out hdn2 hfb List.length_replicate HZ.out (fun e => by cases e) (by omega) hr)
        have hr2 : (m : Int) ≤ cap - uu := by omega
        have hr3 : (uu : Int) + m ≤ cap := by omega
        go_wp2_with fail
        refine HCl.out.mono ?_
        rintro e w3 ⟨rfl, D3, e3, f3, hD3, hT3⟩
        have HC3 := hide e3
        have HDn3 := hide (show D3.p.done ≤ ((k + 1 : Nat) : Int) by rw [f3]; omega)
        have HD3 := hide hD3
        have HB3 := hide (HB2.out.trans (hT3.below HD2.out))
        have HU := hide (cUsed hD3 HC3.out)
        have HR3 := hide hr3
        clear HCl e3 f3 hD3 hT3 HD2 HB2 HZ hr3
        go_wp2_with fail
        refine HU.out.mono ?_
        rintro e w4 ⟨rfl, hb4⟩
        have HB4 := hide (HB3.out.trans (hb4.mono HB3.out.size))
        have HD4 := hide (HD3.out.below hb4)
        clear HU hb4
        go_wp2_with fail
        go_roundw
        case rel => exact ⟨k + 1, uu + m, D3, hlt, by go_num, by go_num, HC3.out, by have := HR3.out; omega, HDn3.out, HD4.out, HB4.out⟩
        case measure => simp [intOf]; omega
    · obtain rfl : k = ns.length := by omega
      have hdn2 : D.p.done ≤ 1000 := by omega
      have HSz := hide (cSize hD)
      have hzu : (D.p.xs 0).length ≤ uu := by
        have := hCa.used
        unfold PD.used at this
        omega
      have hz32 : (D.p.xs 0).length ≤ 1073741824 := by omega
      have HX := hide (show (D.p.xs 0).length = (D.p.xs 0).length from rfl)
      clear hD hbw hCa hdn hk hlt
      by_cases hc : 0 ≤ cut ∧ cut ≤ ((D.p.xs 0).length : Int)
      · obtain ⟨m, rfl⟩ : ∃ m : Nat, cut = m := ⟨cut.toNat, by omega⟩
        have hm : m ≤ (D.p.xs 0).length := by omega
        have q0 : ¬ (m : Int) < 0 := by omega
        have q1 : ¬ ((D.p.xs 0).length : Int) < (m : Int) := by omega
        have HCut := hide (fun w' (h : Below wr.heap.size wr w') => cCut_yes (HD.out.below h) HCa.out (by omega) hm)
        obtain ⟨u2, hu2⟩ : ∃ u2 : Nat, u2 = uu - (D.p.xs 0).length + m := ⟨_, rfl⟩
        rw [← hu2] at HCut
        have hu3 : (u2 : Int) = (uu : Int) - ((D.p.xs 0).length : Int) + (m : Int) := by omega
        have hne : ((u2 : Int) != (uu : Int) - ((D.p.xs 0).length : Int) + (m : Int)) = false := by rw [bne_eq_false_iff_eq]; exact hu3
        have HU3 := hide hu3
        have hu4 : u2 ≤ uu := by omega
        clear hc hu2 hu3
        generalize (D.p.xs 0).length = z at *
        go_wp2_with fail
        refine HSz.out.mono ?_
        rintro e w2 ⟨rfl, hb2⟩
        have HB2 := hide hb2
        clear hb2
        go_wp2_with fail
        refine (HCut.out _ HB2.out).mono ?_
        rintro e w3 ⟨rfl, D3, e3, s3, f3, hD3, hT3⟩
        have HC3 := hide e3
        have HD3 := hide hD3
        have HB3 := hide ((HB.out.trans (HB2.out.mono HB.out.size)).trans (hT3.below (HD.out.below HB2.out)))
        have HDn3 := hide (show D3.p.done ≤ 1001 by omega)
        have HU := hide (fun w' (h : Below w3.heap.size w3 w') => cUsed (HD3.out.below h) HC3.out)
        have HSf := hide (fun w' (h : Below w3.heap.size w3 w') => safe_any 0 w' (HD3.out.below h))
        rw [s3] at HSf
        clear e3 s3 f3 hD3 hT3 HSz HCut
        go_wp2_with fail
        refine (HU.out _ (Below.refl _ _)).mono ?_
        rintro e w4 ⟨rfl, hb4⟩
        have HB4 := hide hb4
        clear hb4
        go_wp2_with fail
        refine (HSf.out _ HB4.out).mono ?_
        rintro e w5 ⟨rfl, hb5⟩
        have HB5 := hide (then_below HB4.out hb5)
        clear hb5
        go_wp2_with fail
        refine (HU.out _ HB5.out).mono ?_
        rintro e w6 ⟨rfl, hb6⟩
        have HB6 := hide (then_below HB5.out hb6)
        clear hb6
        have hroom : (u2 : Int) ≤ cap := by omega
        obtain ⟨r, hr⟩ : ∃ r : Nat, cap - (u2 : Int) = r := ⟨(cap - (u2 : Int)).toNat, by omega⟩
        have hr0 : r ≤ 2000 := by omega
        go_wp2_with (at_make; go_must (refine wpList_make_full _ rfl _ _ 28 rfl w6.heap.size 5 i0 (.int .u8 0) 1 Try.underlying28 hi hz0 hz1 .i64 .i64 r r r rfl rfl rfl rfl (by rw [hz2]; omega) (by unfold maxLen; omega) (Nat.le_refl _) ?_))
        intro w7 hown7 hgrow7
        have HZ := hide (show BytesAt w7.heap.size w7 (some ⟨w6.heap.size, 0, none⟩) (List.replicate r 0) from made_at hown7)
        have HB7 := hide (show Below w3.heap.size w3 w7 from then_below HB6.out ((Below.refl _ _).grown hgrow7 (Nat.le_refl _) (fun j hj => by cases hj)))
        have HCl := hide (cApp_yes (n := 1) (c := r) (HD3.out.below HB7.out) HC3.out (by have := HDn3.out; omega) rfl List.length_replicate HZ.out (fun e => by cases e) (by omega) (show ¬ cap < (u2 : Int) + (r : Int) by omega))
        clear hown7 hgrow7
        have HR := hide hr
        clear hr
        go_wp2_with fail
        refine HCl.out.mono ?_
        rintro e w8 ⟨rfl, D8, e8, f8, hD8, hT8⟩
        have HB8 := hide ((HB3.out.trans (HB7.out.mono HB3.out.size)).trans (hT8.below (HD3.out.below HB7.out)))
        have HBl := hide (Joins.below_alloc1 w8 (.cells (byC [1]).toArray 5))
        have HD9 := hide (hD8.below HBl.out)
        have HCn := hide (cApp_no (n := 1) (ys := [1]) (m := 1) (c := 1) HD9.out e8 (by rw [f8]; have := HDn3.out; omega) rfl rfl (bytes_new w8 [1] (0, 0)) (fun e => by cases e) (by decide) (by have := HR.out; omega))
        have HB9 := hide (HB8.out.trans (HBl.out.mono HB8.out.size))
        clear e8 f8 hD8 hT8 HCl
        go_wp2_with fail
        refine HCn.out.mono ?_
        rintro e w9 ⟨rfl, D9, e9, hD9, hT9⟩
        have HB10 := hide (HB9.out.trans (hT9.below HD9.out))
        clear e9 hD9 hT9 HCn
        go_wp2_with fail
        refine (HAw.out _).mono ?_
        rintro e wa ⟨rfl, hba⟩
        have HBA := hide (HB10.out.trans (hba.mono HB10.out.size))
        clear hba
        go_wp2_with fail
        go_ret
        exact ⟨rfl, HBA.out⟩
      · have HCut := hide (fun w' (h : Below wr.heap.size wr w') => cCut_no (HD.out.below h) HCa.out (by omega) hc)
        have HU := hide (fun (D' : DS) w' (h : D'.p = D.p) (h2 : DiskAt w.heap.size g w' D') => cUsed h2 (show Calm D'.p cap uu by rw [h]; exact HCa.out))
        generalize (D.p.xs 0).length = z at *
        rcases (by omega : cut < 0 ∨ (¬ cut < 0 ∧ (z : Int) < cut)) with q | ⟨q, q2⟩
        all_goals
          clear hc
          go_wp2_with fail
          refine HSz.out.mono ?_
          rintro e w2 ⟨rfl, hb2⟩
          have HB2 := hide hb2
          clear hb2
          go_wp2_with fail
          refine (HCut.out _ HB2.out).mono ?_
          rintro e w3 ⟨rfl, D3, e3, hD3, hT3⟩
          have HB3 := hide ((HB.out.trans (HB2.out.mono HB.out.size)).trans (hT3.below (HD.out.below HB2.out)))
          have HU3 := hide (HU.out _ _ e3 hD3)
          clear e3 hD3 hT3 HSz HCut HU
          go_wp2_with fail
          refine HU3.out.mono ?_
          rintro e w4 ⟨rfl, hb4⟩
          have HB4 := hide (HB3.out.trans (hb4.mono HB3.out.size))
          clear hb4
          go_wp2_with fail
          refine (HAw.out _).mono ?_
          rintro e wa ⟨rfl, hba⟩
          have HBA := hide (HB4.out.trans (hba.mono HB4.out.size))
          clear hba
          go_wp2_with fail
          go_ret
          exact ⟨rfl, HBA.out⟩
end Go.Proofs.Ytohdjhhaceeahab
