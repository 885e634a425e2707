/-
  Crash.
-/
import Derived.Test.YtkdihekhdnnheaaDoorMK
import Derived.RegionTactic
import Derived.Deep.RegionWith
namespace Go.Proofs.YtkdihekhdnnheaaDoor
open Go.RowKit

/-- The slice at A reads as these integers, and lies in none of the disk's blocks. -/
def KeepAt (g : Nat) (D : DS) (w : World) (A : Option Addr) (ks : List Int) : Prop :=
  ∀ j, j < ks.length → ∃ b off, A = some ⟨b, off, none⟩ ∧ b < w.heap.size ∧ b ≠ g ∧ (∀ i, i < 4 → (D.v i).ownBlock ≠ some b) ∧ w.cell? ⟨b, off + j, none⟩ = some (.int .i64 (ks.getD j 0))
theorem KeepAt.spot {g : Nat} {D D' : DS} {w w' : World} {A : Option Addr} {ks : List Int} (h : KeepAt g D w A ks) (hT : Turned g D D' w w') {j : Nat} (hj : j < ks.length) : ∃ b off, A = some ⟨b, off, none⟩ ∧ b < w'.heap.size ∧ w'.cell? ⟨b, off + j, none⟩ = some (.int .i64 (ks.getD j 0)) := by
  obtain ⟨b, off, e, h1, h2, h3, h4⟩ := h j hj
  exact ⟨b, off, e, Nat.lt_of_lt_of_le h1 hT.size, (World.cell?_of_block (w := w) (hT.block b h1 h2 h3)).trans h4⟩
def crI (p : PD) (ks : List Int) (i : Nat) : Int := p.s i + (if i < ks.length then min (max (ks.getD i 0) 0) ((p.xs i).length - p.s i) else 0)
def crN (p : PD) (ks : List Int) (i : Nat) : Nat := (crI p ks i).toNat
theorem crI_ok {p : PD} (h : p.Ok) (ks : List Int) {i : Nat} (hi : i < 4) : ((crN p ks i : Nat) : Int) = crI p ks i ∧ crN p ks i ≤ (p.xs i).length := by
  have h0 := h.s0 i hi
  have h1 := h.s1 i hi
  have h2 : 0 ≤ crI p ks i ∧ crI p ks i ≤ (p.xs i).length := by
    unfold crI
    split <;> omega
  unfold crN
  omega
def crK (p : PD) (ks : List Int) : Nat → PD
  | 0 => p
  | k + 1 => cutP (crK p ks k) k (crN (crK p ks k) ks k)
theorem crK_ok {p : PD} (h : p.Ok) (ks : List Int) : ∀ k, k ≤ 4 → (crK p ks k).Ok
  | 0, _ => h
  | k + 1, hk => cut_ok (crK_ok h ks k (by omega)) (crI_ok (crK_ok h ks k (by omega)) ks (by omega)).2
def crashP (p : PD) (ks : List Int) : PD := { crK p ks 4 with left := -1, down := false }
set_option maxHeartbeats 3200000 in
set_option maxRecDepth 100000 in
theorem crash_any {base g : Nat} {D : DS} (A : Option Addr) (c : Nat) (ks : List Int) (w : World) (hD : DiskAt base g w D) (hO : D.p.Ok) (hK : KeepAt g D w A ks) (hl : ks.length ≤ 140737488355328) (hb : ∀ j, j < ks.length → -9223372036854775808 ≤ ks.getD j 0 ∧ ks.getD j 0 ≤ 9223372036854775807) :
    Calls Tryd.prog 23 #[vD g, .slice A ks.length c] w fun e w' => e = .returned (.tuple #[]) ∧ ∃ D' : DS, D'.p = crashP D.p ks ∧ DiskAt base g w' D' ∧ Turned g D D' w w' := by
  have HK := hide hK
  have HO := hide hO
  have HIn := hide (show ∃ D' : DS, D'.p = crK D.p ks 0 ∧ DiskAt base g w D' ∧ Turned g D D' w w from ⟨D, rfl, hD, Turned.of_below (Below.refl _ _)⟩)
  have HRt := hide (fun (D' : DS) (i : Nat) w' (hi : i < 4) (h1 : D'.p.Ok) (h2 : DiskAt base g w' D') => (crI_ok h1 ks hi).1 ▸ retain_any i (crN D'.p ks i) w' hi (crI_ok h1 ks hi).2 h2)
  have HBd := hide hb
  clear hD hO hK hb
  go_enter Tryd.func23, Tryd.ntmps23
  go_wp2_with fail
  go_loopw [7] (fun i wr => ∃ k : Nat, k ≤ 4 ∧ i = .int .i64 k ∧ ∃ D' : DS, D'.p = crK D.p ks k ∧ DiskAt base g wr D' ∧ Turned g D D' w wr) (fun i _ => 4 - (intOf i).toNat)
  case atStart => exact ⟨0, Nat.zero_le _, rfl, HIn.out⟩
  case round =>
    obtain ⟨k, hk, rfl, D1, e1, hD1, hT1⟩ := hrel
    have HD1 := hide hD1
    have HT1 := hide hT1
    have HE1 := hide e1
    have hOk := crK_ok HO.out ks k hk
    rw [← e1] at hOk
    have hlt := hD1.lt
    clear e1 hT1 HIn
    obtain ⟨c0, c1, c2, c3, c4, c5, c6, c7, c8, c9, c10, c11⟩ := hD1.cells
    rcases (by omega : k = 0 ∨ k = 1 ∨ k = 2 ∨ k = 3 ∨ k = 4) with rfl | rfl | rfl | rfl | rfl
    · obtain ⟨A1, m1, hA1, -, -⟩ := row_slice (hD1.row 0 (by decide))
      rw [hA1] at c0
      have s0 := hOk.s0 0 (by decide)
      have s1 := hOk.s1 0 (by decide)
      have s2 := hOk.len (i := 0) (by decide)
      clear hA1 hD1
      by_cases hk2 : 0 < ks.length
      · have hk3 : (0 : Int) < (ks.length : Int) := by omega
        have hk0 : (0 : Int) ≤ 0 := by decide
        have HR2 := hide (HRt.out D1 0 wr.drew (by decide) hOk (HD1.out.below (Below.refl _ _).drew))
        obtain ⟨b, off, rfl, hbl, hc⟩ := HK.out.spot HT1.out hk2
        obtain ⟨bb0, bb1⟩ := HBd.out 0 hk2
        have HI := hide (show crI D1.p ks 0 = D1.p.s 0 + min (max (ks.getD 0 0) 0) ((D1.p.xs 0).length - D1.p.s 0) by unfold crI; rw [if_pos hk2])
        generalize ks.getD 0 0 = x at *
        clear hk2 hOk
        have hw1 : IntKind.i64.wrap (((D1.p.xs 0).length : Int) - D1.p.s 0) = ((D1.p.xs 0).length : Int) - D1.p.s 0 := by
          unfold IntKind.wrap
          simp [IntKind.signed, IntKind.bits]
          omega
        simp only [Nat.add_zero] at hc
        by_cases hx : x < 0
        · have hz : ¬ ((D1.p.xs 0).length : Int) - D1.p.s 0 < 0 := by omega
          have HV := hide (show crI D1.p ks 0 = D1.p.s 0 by rw [HI.out]; omega)
          rw [HV.out] at HR2
          clear HV HI HRt
          go_wp2_with fail
          go_region
          all_goals go_wp2_with fail
          refine HR2.out.mono ?_
          rintro e w2 ⟨rfl, D2, e2, hD2, hT2⟩
          have HF := hide (show ∃ D' : DS, D'.p = crK D.p ks (0 + 1) ∧ DiskAt base g w2 D' ∧ Turned g D D' w w2 from ⟨D2, by rw [e2, HE1.out]; rfl, hD2, (HT1.out.trans (Turned.of_below (Below.refl _ _).drew)).trans hT2⟩)
          clear e2 hD2 hT2
          go_wp2_with fail
          go_roundw
          case rel => exact ⟨1, by omega, by go_num, HF.out⟩
          case measure => simp [intOf]
        · by_cases hy : ((D1.p.xs 0).length : Int) - D1.p.s 0 < x
          · have HV := hide (show crI D1.p ks 0 = D1.p.s 0 + (((D1.p.xs 0).length : Int) - D1.p.s 0) by rw [HI.out]; omega)
            rw [HV.out] at HR2
            clear HV HI HRt
            go_wp2_with fail
            go_region
            all_goals go_wp2_with fail
            refine HR2.out.mono ?_
            rintro e w2 ⟨rfl, D2, e2, hD2, hT2⟩
            have HF := hide (show ∃ D' : DS, D'.p = crK D.p ks (0 + 1) ∧ DiskAt base g w2 D' ∧ Turned g D D' w w2 from ⟨D2, by rw [e2, HE1.out]; rfl, hD2, (HT1.out.trans (Turned.of_below (Below.refl _ _).drew)).trans hT2⟩)
            clear e2 hD2 hT2
            go_wp2_with fail
            go_roundw
            case rel => exact ⟨1, by omega, by go_num, HF.out⟩
            case measure => simp [intOf]
          · have HV := hide (show crI D1.p ks 0 = D1.p.s 0 + x by rw [HI.out]; omega)
            rw [HV.out] at HR2
            clear HV HI HRt
            go_wp2_with fail
            go_region
            all_goals go_wp2_with fail
            refine HR2.out.mono ?_
            rintro e w2 ⟨rfl, D2, e2, hD2, hT2⟩
            have HF := hide (show ∃ D' : DS, D'.p = crK D.p ks (0 + 1) ∧ DiskAt base g w2 D' ∧ Turned g D D' w w2 from ⟨D2, by rw [e2, HE1.out]; rfl, hD2, (HT1.out.trans (Turned.of_below (Below.refl _ _).drew)).trans hT2⟩)
            clear e2 hD2 hT2
            go_wp2_with fail
            go_roundw
            case rel => exact ⟨1, by omega, by go_num, HF.out⟩
            case measure => simp [intOf]
      · have hk3 : ¬ (0 : Int) < (ks.length : Int) := by omega
        have HR2 := hide (HRt.out D1 0 wr (by decide) hOk HD1.out)
        have HV := hide (show crI D1.p ks 0 = D1.p.s 0 by unfold crI; rw [if_neg hk2]; omega)
        rw [HV.out] at HR2
        clear HV HRt hk2 hOk
        go_wp2_with fail
        refine HR2.out.mono ?_
        rintro e w2 ⟨rfl, D2, e2, hD2, hT2⟩
        have HF := hide (show ∃ D' : DS, D'.p = crK D.p ks (0 + 1) ∧ DiskAt base g w2 D' ∧ Turned g D D' w w2 from ⟨D2, by rw [e2, HE1.out]; rfl, hD2, (HT1.out.trans (Turned.of_below (Below.refl _ _))).trans hT2⟩)
        clear e2 hD2 hT2
        go_wp2_with fail
        go_roundw
        case rel => exact ⟨1, by omega, by go_num, HF.out⟩
        case measure => simp [intOf]
    · obtain ⟨A1, m1, hA1, -, -⟩ := row_slice (hD1.row 1 (by decide))
      rw [hA1] at c2
      have s0 := hOk.s0 1 (by decide)
      have s1 := hOk.s1 1 (by decide)
      have s2 := hOk.len (i := 1) (by decide)
      clear hA1 hD1
      by_cases hk2 : 1 < ks.length
      · have hk3 : (1 : Int) < (ks.length : Int) := by omega
        have hk0 : (0 : Int) ≤ 1 := by decide
        have HR2 := hide (HRt.out D1 1 wr.drew (by decide) hOk (HD1.out.below (Below.refl _ _).drew))
        obtain ⟨b, off, rfl, hbl, hc⟩ := HK.out.spot HT1.out hk2
        obtain ⟨bb0, bb1⟩ := HBd.out 1 hk2
        have HI := hide (show crI D1.p ks 1 = D1.p.s 1 + min (max (ks.getD 1 0) 0) ((D1.p.xs 1).length - D1.p.s 1) by unfold crI; rw [if_pos hk2])
        generalize ks.getD 1 0 = x at *
        clear hk2 hOk
        have hw1 : IntKind.i64.wrap (((D1.p.xs 1).length : Int) - D1.p.s 1) = ((D1.p.xs 1).length : Int) - D1.p.s 1 := by
          unfold IntKind.wrap
          simp [IntKind.signed, IntKind.bits]
          omega
        skip
        by_cases hx : x < 0
        · have hz : ¬ ((D1.p.xs 1).length : Int) - D1.p.s 1 < 0 := by omega
          have HV := hide (show crI D1.p ks 1 = D1.p.s 1 by rw [HI.out]; omega)
          rw [HV.out] at HR2
          clear HV HI HRt
          go_wp2_with fail
          go_region
          all_goals go_wp2_with fail
          refine HR2.out.mono ?_
          rintro e w2 ⟨rfl, D2, e2, hD2, hT2⟩
          have HF := hide (show ∃ D' : DS, D'.p = crK D.p ks (1 + 1) ∧ DiskAt base g w2 D' ∧ Turned g D D' w w2 from ⟨D2, by rw [e2, HE1.out]; rfl, hD2, (HT1.out.trans (Turned.of_below (Below.refl _ _).drew)).trans hT2⟩)
          clear e2 hD2 hT2
          go_wp2_with fail
          go_roundw
          case rel => exact ⟨2, by omega, by go_num, HF.out⟩
          case measure => simp [intOf]
        · by_cases hy : ((D1.p.xs 1).length : Int) - D1.p.s 1 < x
          · have HV := hide (show crI D1.p ks 1 = D1.p.s 1 + (((D1.p.xs 1).length : Int) - D1.p.s 1) by rw [HI.out]; omega)
            rw [HV.out] at HR2
            clear HV HI HRt
            go_wp2_with fail
            go_region
            all_goals go_wp2_with fail
            refine HR2.out.mono ?_
            rintro e w2 ⟨rfl, D2, e2, hD2, hT2⟩
            have HF := hide (show ∃ D' : DS, D'.p = crK D.p ks (1 + 1) ∧ DiskAt base g w2 D' ∧ Turned g D D' w w2 from ⟨D2, by rw [e2, HE1.out]; rfl, hD2, (HT1.out.trans (Turned.of_below (Below.refl _ _).drew)).trans hT2⟩)
            clear e2 hD2 hT2
            go_wp2_with fail
            go_roundw
            case rel => exact ⟨2, by omega, by go_num, HF.out⟩
            case measure => simp [intOf]
          · have HV := hide (show crI D1.p ks 1 = D1.p.s 1 + x by rw [HI.out]; omega)
            rw [HV.out] at HR2
            clear HV HI HRt
            go_wp2_with fail
            go_region
            all_goals go_wp2_with fail
            refine HR2.out.mono ?_
            rintro e w2 ⟨rfl, D2, e2, hD2, hT2⟩
            have HF := hide (show ∃ D' : DS, D'.p = crK D.p ks (1 + 1) ∧ DiskAt base g w2 D' ∧ Turned g D D' w w2 from ⟨D2, by rw [e2, HE1.out]; rfl, hD2, (HT1.out.trans (Turned.of_below (Below.refl _ _).drew)).trans hT2⟩)
            clear e2 hD2 hT2
            go_wp2_with fail
            go_roundw
            case rel => exact ⟨2, by omega, by go_num, HF.out⟩
            case measure => simp [intOf]
      · have hk3 : ¬ (1 : Int) < (ks.length : Int) := by omega
        have HR2 := hide (HRt.out D1 1 wr (by decide) hOk HD1.out)
        have HV := hide (show crI D1.p ks 1 = D1.p.s 1 by unfold crI; rw [if_neg hk2]; omega)
        rw [HV.out] at HR2
        clear HV HRt hk2 hOk
        go_wp2_with fail
        refine HR2.out.mono ?_
        rintro e w2 ⟨rfl, D2, e2, hD2, hT2⟩
        have HF := hide (show ∃ D' : DS, D'.p = crK D.p ks (1 + 1) ∧ DiskAt base g w2 D' ∧ Turned g D D' w w2 from ⟨D2, by rw [e2, HE1.out]; rfl, hD2, (HT1.out.trans (Turned.of_below (Below.refl _ _))).trans hT2⟩)
        clear e2 hD2 hT2
        go_wp2_with fail
        go_roundw
        case rel => exact ⟨2, by omega, by go_num, HF.out⟩
        case measure => simp [intOf]
    · obtain ⟨A1, m1, hA1, -, -⟩ := row_slice (hD1.row 2 (by decide))
      rw [hA1] at c4
      have s0 := hOk.s0 2 (by decide)
      have s1 := hOk.s1 2 (by decide)
      have s2 := hOk.len (i := 2) (by decide)
      clear hA1 hD1
      by_cases hk2 : 2 < ks.length
      · have hk3 : (2 : Int) < (ks.length : Int) := by omega
        have hk0 : (0 : Int) ≤ 2 := by decide
        have HR2 := hide (HRt.out D1 2 wr.drew (by decide) hOk (HD1.out.below (Below.refl _ _).drew))
        obtain ⟨b, off, rfl, hbl, hc⟩ := HK.out.spot HT1.out hk2
        obtain ⟨bb0, bb1⟩ := HBd.out 2 hk2
        have HI := hide (show crI D1.p ks 2 = D1.p.s 2 + min (max (ks.getD 2 0) 0) ((D1.p.xs 2).length - D1.p.s 2) by unfold crI; rw [if_pos hk2])
        generalize ks.getD 2 0 = x at *
        clear hk2 hOk
        have hw1 : IntKind.i64.wrap (((D1.p.xs 2).length : Int) - D1.p.s 2) = ((D1.p.xs 2).length : Int) - D1.p.s 2 := by
          unfold IntKind.wrap
          simp [IntKind.signed, IntKind.bits]
          omega
        skip
        by_cases hx : x < 0
        · have hz : ¬ ((D1.p.xs 2).length : Int) - D1.p.s 2 < 0 := by omega
          have HV := hide (show crI D1.p ks 2 = D1.p.s 2 by rw [HI.out]; omega)
          rw [HV.out] at HR2
          clear HV HI HRt
          go_wp2_with fail
          go_region
          all_goals go_wp2_with fail
          refine HR2.out.mono ?_
          rintro e w2 ⟨rfl, D2, e2, hD2, hT2⟩
          have HF := hide (show ∃ D' : DS, D'.p = crK D.p ks (2 + 1) ∧ DiskAt base g w2 D' ∧ Turned g D D' w w2 from ⟨D2, by rw [e2, HE1.out]; rfl, hD2, (HT1.out.trans (Turned.of_below (Below.refl _ _).drew)).trans hT2⟩)
          clear e2 hD2 hT2
          go_wp2_with fail
          go_roundw
          case rel => exact ⟨3, by omega, by go_num, HF.out⟩
          case measure => simp [intOf]
        · by_cases hy : ((D1.p.xs 2).length : Int) - D1.p.s 2 < x
          · have HV := hide (show crI D1.p ks 2 = D1.p.s 2 + (((D1.p.xs 2).length : Int) - D1.p.s 2) by rw [HI.out]; omega)
            rw [HV.out] at HR2
            clear HV HI HRt
            go_wp2_with fail
            go_region
            all_goals go_wp2_with fail
            refine HR2.out.mono ?_
            rintro e w2 ⟨rfl, D2, e2, hD2, hT2⟩
            have HF := hide (show ∃ D' : DS, D'.p = crK D.p ks (2 + 1) ∧ DiskAt base g w2 D' ∧ Turned g D D' w w2 from ⟨D2, by rw [e2, HE1.out]; rfl, hD2, (HT1.out.trans (Turned.of_below (Below.refl _ _).drew)).trans hT2⟩)
            clear e2 hD2 hT2
            go_wp2_with fail
            go_roundw
            case rel => exact ⟨3, by omega, by go_num, HF.out⟩
            case measure => simp [intOf]
          · have HV := hide (show crI D1.p ks 2 = D1.p.s 2 + x by rw [HI.out]; omega)
            rw [HV.out] at HR2
            clear HV HI HRt
            go_wp2_with fail
            go_region
            all_goals go_wp2_with fail
            refine HR2.out.mono ?_
            rintro e w2 ⟨rfl, D2, e2, hD2, hT2⟩
            have HF := hide (show ∃ D' : DS, D'.p = crK D.p ks (2 + 1) ∧ DiskAt base g w2 D' ∧ Turned g D D' w w2 from ⟨D2, by rw [e2, HE1.out]; rfl, hD2, (HT1.out.trans (Turned.of_below (Below.refl _ _).drew)).trans hT2⟩)
            clear e2 hD2 hT2
            go_wp2_with fail
            go_roundw
            case rel => exact ⟨3, by omega, by go_num, HF.out⟩
            case measure => simp [intOf]
      · have hk3 : ¬ (2 : Int) < (ks.length : Int) := by omega
        have HR2 := hide (HRt.out D1 2 wr (by decide) hOk HD1.out)
        have HV := hide (show crI D1.p ks 2 = D1.p.s 2 by unfold crI; rw [if_neg hk2]; omega)
        rw [HV.out] at HR2
        clear HV HRt hk2 hOk
        go_wp2_with fail
        refine HR2.out.mono ?_
        rintro e w2 ⟨rfl, D2, e2, hD2, hT2⟩
        have HF := hide (show ∃ D' : DS, D'.p = crK D.p ks (2 + 1) ∧ DiskAt base g w2 D' ∧ Turned g D D' w w2 from ⟨D2, by rw [e2, HE1.out]; rfl, hD2, (HT1.out.trans (Turned.of_below (Below.refl _ _))).trans hT2⟩)
        clear e2 hD2 hT2
        go_wp2_with fail
        go_roundw
        case rel => exact ⟨3, by omega, by go_num, HF.out⟩
        case measure => simp [intOf]
    · obtain ⟨A1, m1, hA1, -, -⟩ := row_slice (hD1.row 3 (by decide))
      rw [hA1] at c6
      have s0 := hOk.s0 3 (by decide)
      have s1 := hOk.s1 3 (by decide)
      have s2 := hOk.len (i := 3) (by decide)
      clear hA1 hD1
      by_cases hk2 : 3 < ks.length
      · have hk3 : (3 : Int) < (ks.length : Int) := by omega
        have hk0 : (0 : Int) ≤ 3 := by decide
        have HR2 := hide (HRt.out D1 3 wr.drew (by decide) hOk (HD1.out.below (Below.refl _ _).drew))
        obtain ⟨b, off, rfl, hbl, hc⟩ := HK.out.spot HT1.out hk2
        obtain ⟨bb0, bb1⟩ := HBd.out 3 hk2
        have HI := hide (show crI D1.p ks 3 = D1.p.s 3 + min (max (ks.getD 3 0) 0) ((D1.p.xs 3).length - D1.p.s 3) by unfold crI; rw [if_pos hk2])
        generalize ks.getD 3 0 = x at *
        clear hk2 hOk
        have hw1 : IntKind.i64.wrap (((D1.p.xs 3).length : Int) - D1.p.s 3) = ((D1.p.xs 3).length : Int) - D1.p.s 3 := by
          unfold IntKind.wrap
          simp [IntKind.signed, IntKind.bits]
          omega
        skip
        by_cases hx : x < 0
        · have hz : ¬ ((D1.p.xs 3).length : Int) - D1.p.s 3 < 0 := by omega
          have HV := hide (show crI D1.p ks 3 = D1.p.s 3 by rw [HI.out]; omega)
          rw [HV.out] at HR2
          clear HV HI HRt
          go_wp2_with fail
          go_region
          all_goals go_wp2_with fail
          refine HR2.out.mono ?_
          rintro e w2 ⟨rfl, D2, e2, hD2, hT2⟩
          have HF := hide (show ∃ D' : DS, D'.p = crK D.p ks (3 + 1) ∧ DiskAt base g w2 D' ∧ Turned g D D' w w2 from ⟨D2, by rw [e2, HE1.out]; rfl, hD2, (HT1.out.trans (Turned.of_below (Below.refl _ _).drew)).trans hT2⟩)
          clear e2 hD2 hT2
          go_wp2_with fail
          go_roundw
          case rel => exact ⟨4, by omega, by go_num, HF.out⟩
          case measure => simp [intOf]
        · by_cases hy : ((D1.p.xs 3).length : Int) - D1.p.s 3 < x
          · have HV := hide (show crI D1.p ks 3 = D1.p.s 3 + (((D1.p.xs 3).length : Int) - D1.p.s 3) by rw [HI.out]; omega)
            rw [HV.out] at HR2
            clear HV HI HRt
            go_wp2_with fail
            go_region
            all_goals go_wp2_with fail
            refine HR2.out.mono ?_
            rintro e w2 ⟨rfl, D2, e2, hD2, hT2⟩
            have HF := hide (show ∃ D' : DS, D'.p = crK D.p ks (3 + 1) ∧ DiskAt base g w2 D' ∧ Turned g D D' w w2 from ⟨D2, by rw [e2, HE1.out]; rfl, hD2, (HT1.out.trans (Turned.of_below (Below.refl _ _).drew)).trans hT2⟩)
            clear e2 hD2 hT2
            go_wp2_with fail
            go_roundw
            case rel => exact ⟨4, by omega, by go_num, HF.out⟩
            case measure => simp [intOf]
          · have HV := hide (show crI D1.p ks 3 = D1.p.s 3 + x by rw [HI.out]; omega)
            rw [HV.out] at HR2
            clear HV HI HRt
            go_wp2_with fail
            go_region
            all_goals go_wp2_with fail
            refine HR2.out.mono ?_
            rintro e w2 ⟨rfl, D2, e2, hD2, hT2⟩
            have HF := hide (show ∃ D' : DS, D'.p = crK D.p ks (3 + 1) ∧ DiskAt base g w2 D' ∧ Turned g D D' w w2 from ⟨D2, by rw [e2, HE1.out]; rfl, hD2, (HT1.out.trans (Turned.of_below (Below.refl _ _).drew)).trans hT2⟩)
            clear e2 hD2 hT2
            go_wp2_with fail
            go_roundw
            case rel => exact ⟨4, by omega, by go_num, HF.out⟩
            case measure => simp [intOf]
      · have hk3 : ¬ (3 : Int) < (ks.length : Int) := by omega
        have HR2 := hide (HRt.out D1 3 wr (by decide) hOk HD1.out)
        have HV := hide (show crI D1.p ks 3 = D1.p.s 3 by unfold crI; rw [if_neg hk2]; omega)
        rw [HV.out] at HR2
        clear HV HRt hk2 hOk
        go_wp2_with fail
        refine HR2.out.mono ?_
        rintro e w2 ⟨rfl, D2, e2, hD2, hT2⟩
        have HF := hide (show ∃ D' : DS, D'.p = crK D.p ks (3 + 1) ∧ DiskAt base g w2 D' ∧ Turned g D D' w w2 from ⟨D2, by rw [e2, HE1.out]; rfl, hD2, (HT1.out.trans (Turned.of_below (Below.refl _ _))).trans hT2⟩)
        clear e2 hD2 hT2
        go_wp2_with fail
        go_roundw
        case rel => exact ⟨4, by omega, by go_num, HF.out⟩
        case measure => simp [intOf]
    · have HS1 := hide (hD1.set 10 (.int .i64 (-1)) { D1.p with left := -1 } rfl (by simp))
      have HS2 := hide (HS1.out.1.set 11 (.bool false) { D1.p with left := -1, down := false } rfl (by simp))
      have f10 := hD1.frozen 10
      have f11 := hD1.frozen 11
      clear hOk hD1 HRt
      go_wp2_with fail
      refine bodyPost_end (results_none rfl _ _ _) rfl ?_
      exact ⟨rfl, ⟨_, D1.v⟩, by show PD.mk _ _ _ _ _ _ = PD.mk _ _ _ _ _ _; rw [HE1.out], HS2.out.1, (HT1.out.trans HS1.out.2).trans HS2.out.2⟩
end Go.Proofs.YtkdihekhdnnheaaDoor
