/-
  The laws' fixed example.
-/
import Derived.Test.YtkdihekhdnnheaaDoorMG6
namespace Go.Proofs.YtkdihekhdnnheaaDoor
open Go.RowKit

theorem found_at {w : World} {a b : Value} : ∃ w', w' = w.alloc (.cells #[a, b] 31) ∧ Below w.heap.size w w' ∧ w'.heap[w.heap.size]? = some (.cells #[a, b] 31 (0, 0)) ∧ w'.heap.size = w.heap.size + 1 :=
  ⟨_, rfl, (Below.refl _ _).alloc (Nat.le_refl _) _, heap_alloc_new w _, by simp⟩
/-- Two records of one byte, one behind the other; one record. -/
theorem recs2 (w : World) (x y : UInt8) : ∃ w', w' = ((w.alloc (.cells #[.int .u8 x.toNat] 5 (1, 2))).alloc (.cells #[.int .u8 y.toNat] 5 (1, 2))).alloc (.cells #[.slice (some ⟨w.heap.size, 0, none⟩) 1 1, .slice (some ⟨w.heap.size + 1, 0, none⟩) 1 1] 28) ∧ Below w.heap.size w w' ∧
    RecsIn (fun b => w.heap.size ≤ b) w' (some ⟨w.heap.size + 2, 0, none⟩) [⟨some ⟨w.heap.size, 0, none⟩, 1, [x]⟩, ⟨some ⟨w.heap.size + 1, 0, none⟩, 1, [y]⟩] := by
  refine ⟨_, rfl, (((Below.refl _ _).alloc (Nat.le_refl _) _).alloc (by simp) _).alloc (by simp; omega) _, fun j hj => ?_⟩
  have hh : (((w.alloc (.cells #[.int .u8 x.toNat] 5 (1, 2))).alloc (.cells #[.int .u8 y.toNat] 5 (1, 2))).alloc (.cells #[.slice (some ⟨w.heap.size, 0, none⟩) 1 1, .slice (some ⟨w.heap.size + 1, 0, none⟩) 1 1] 28)).heap[w.heap.size + 2]? = some (.cells #[.slice (some ⟨w.heap.size, 0, none⟩) 1 1, .slice (some ⟨w.heap.size + 1, 0, none⟩) 1 1] 28 (0, 0)) := by
    have h := heap_alloc_new ((w.alloc (.cells #[.int .u8 x.toNat] 5 (1, 2))).alloc (.cells #[.int .u8 y.toNat] 5 (1, 2))) (.cells #[.slice (some ⟨w.heap.size, 0, none⟩) 1 1, .slice (some ⟨w.heap.size + 1, 0, none⟩) 1 1] 28)
    simpa using h
  have h0 : (((w.alloc (.cells #[.int .u8 x.toNat] 5 (1, 2))).alloc (.cells #[.int .u8 y.toNat] 5 (1, 2))).alloc (.cells #[.slice (some ⟨w.heap.size, 0, none⟩) 1 1, .slice (some ⟨w.heap.size + 1, 0, none⟩) 1 1] 28)).heap[w.heap.size]? = some (.cells #[.int .u8 x.toNat] 5 (1, 2)) := (Below.heap_alloc _ _ _ (by simp; omega)).trans ((Below.heap_alloc _ _ _ (by simp)).trans (heap_alloc_new w _))
  have h1 : (((w.alloc (.cells #[.int .u8 x.toNat] 5 (1, 2))).alloc (.cells #[.int .u8 y.toNat] 5 (1, 2))).alloc (.cells #[.slice (some ⟨w.heap.size, 0, none⟩) 1 1, .slice (some ⟨w.heap.size + 1, 0, none⟩) 1 1] 28)).heap[w.heap.size + 1]? = some (.cells #[.int .u8 y.toNat] 5 (1, 2)) := (Below.heap_alloc _ _ _ (by simp)).trans (by
    have h := heap_alloc_new (w.alloc (.cells #[.int .u8 x.toNat] 5 (1, 2))) (.cells #[.int .u8 y.toNat] 5 (1, 2))
    simpa using h)
  have hb0 := block_lt h0
  have hb1 := block_lt h1
  have hb2 := block_lt hh
  simp at hj
  rcases (by omega : j = 0 ∨ j = 1) with rfl | rfl
  · refine ⟨w.heap.size + 2, 0, rfl, Nat.le_add_right _ _, hb2, ?_, fun i hi => ⟨w.heap.size, 0, rfl, Nat.le_refl _, hb0, ?_⟩, ⟨Nat.le_of_lt (by show 1 < maxLen; unfold maxLen; decide), fun e => by cases e⟩⟩
    · exact Lib.cell_of_heap hh 0
    · have : i = 0 := by have : i < 1 := hi; omega
      subst this
      exact Lib.cell_of_heap h0 0
  · refine ⟨w.heap.size + 2, 0, rfl, Nat.le_add_right _ _, hb2, ?_, fun i hi => ⟨w.heap.size + 1, 0, rfl, Nat.le_succ _, hb1, ?_⟩, ⟨Nat.le_of_lt (by show 1 < maxLen; unfold maxLen; decide), fun e => by cases e⟩⟩
    · exact Lib.cell_of_heap hh 1
    · have : i = 0 := by have : i < 1 := hi; omega
      subst this
      exact Lib.cell_of_heap h1 0
theorem recs1 (w : World) (x : UInt8) : ∃ w', w' = (w.alloc (.cells #[.int .u8 x.toNat] 5 (1, 2))).alloc (.cells #[.slice (some ⟨w.heap.size, 0, none⟩) 1 1] 28) ∧ Below w.heap.size w w' ∧
    RecsIn (fun b => w.heap.size ≤ b) w' (some ⟨w.heap.size + 1, 0, none⟩) [⟨some ⟨w.heap.size, 0, none⟩, 1, [x]⟩] := by
  refine ⟨_, rfl, ((Below.refl _ _).alloc (Nat.le_refl _) _).alloc (by simp) _, fun j hj => ?_⟩
  have hh : ((w.alloc (.cells #[.int .u8 x.toNat] 5 (1, 2))).alloc (.cells #[.slice (some ⟨w.heap.size, 0, none⟩) 1 1] 28)).heap[w.heap.size + 1]? = some (.cells #[.slice (some ⟨w.heap.size, 0, none⟩) 1 1] 28 (0, 0)) := by
    have h := heap_alloc_new (w.alloc (.cells #[.int .u8 x.toNat] 5 (1, 2))) (.cells #[.slice (some ⟨w.heap.size, 0, none⟩) 1 1] 28)
    simpa using h
  have h0 : ((w.alloc (.cells #[.int .u8 x.toNat] 5 (1, 2))).alloc (.cells #[.slice (some ⟨w.heap.size, 0, none⟩) 1 1] 28)).heap[w.heap.size]? = some (.cells #[.int .u8 x.toNat] 5 (1, 2)) := (Below.heap_alloc _ _ _ (by simp)).trans (heap_alloc_new w _)
  have hb0 := block_lt h0
  have hb2 := block_lt hh
  simp at hj
  obtain rfl : j = 0 := by omega
  refine ⟨w.heap.size + 1, 0, rfl, Nat.le_add_right _ _, hb2, ?_, fun i hi => ⟨w.heap.size, 0, rfl, Nat.le_refl _, hb0, ?_⟩, ⟨Nat.le_of_lt (by show 1 < maxLen; unfold maxLen; decide), fun e => by cases e⟩⟩
  · exact Lib.cell_of_heap hh 0
  · have : i = 0 := by have : i < 1 := hi; omega
    subst this
    exact Lib.cell_of_heap h0 0
set_option maxHeartbeats 12800000 in
set_option maxRecDepth 100000 in
theorem awake_any (w : World) (hT : Tab w) (hgt : 0 < w.heap.size) : Calls Tryd.prog 5 #[] w fun e w' => e = .returned (.bool true) ∧ Below w.heap.size w w' := by
  obtain ⟨a1, a2, a3, a4, a5, a6, k1, k2, k3, k4, z1, z2, q1, q2, q3, q4⟩ := ex_all
  have HA := hide (And.intro a1 (And.intro a2 (And.intro a3 (And.intro a4 (And.intro a5 a6)))))
  have HK := hide (And.intro k1 (And.intro k2 (And.intro k3 k4)))
  have HZ := hide (And.intro z1 z2)
  have HQ := hide (And.intro q1 (And.intro q2 (And.intro q3 q4)))
  have HN := hide (new_yes 1000 w rfl)
  have HT := hide hT
  have HX2 := hide (show commitR (openR (newP 1000)).2.1 (openR (newP 1000)).2.2 [[120], [121]] = ex2 from rfl)
  clear a1 a2 a3 a4 a5 a6 k1 k2 k3 k4 z1 z2 q1 q2 q3 q4 hT
  go_enter Tryd.func5, Tryd.ntmps5
  go_wp2_with fail
  refine HN.out.mono ?_
  rintro e w1 ⟨⟨g, rfl, hD1⟩, hb1⟩
  have HB1 := hide hb1
  have HOp := hide (open_any w1 hD1 (new_ok (cap := 1000) rfl) (by show (0 : Int) ≤ _; decide) (HT.out.on hb1) hgt)
  unfold OpenRes at HOp
  have HD1 := hide hD1
  clear hb1 hD1 HN
  go_wp2_with fail
  refine HOp.out.mono ?_
  rintro e w2 hc
  rcases hc with ⟨hdn, -⟩ | ⟨-, -, hc⟩
  · exact absurd (show (newP 1000).down = true from hdn) (by decide)
  rcases hc with ⟨hne, -⟩ | ⟨-, h, A, c, A2, c2, gs, D2, rfl, hh, hp2, hL2, ht2, hgs, hcp, hgr, -, -, -⟩
  · exact absurd HA.out.1 hne
  have hg0 : gs = [] := by
    have h1 : openS (newD 1000).p = seg0 := HA.out.2.2.2.1
    rw [h1] at hgs
    have h2 := congrArg List.length hgs
    rw [gsOf_len] at h2
    exact List.length_eq_zero_iff.1 h2
  subst hg0
  have hcp0 : (openS (newD 1000).p).cp = [] := by
    have h1 : openS (newD 1000).p = seg0 := HA.out.2.2.2.1
    rw [h1]; rfl
  rw [hcp0]
  have HL2 := hide hL2
  have HP2 := hide hp2
  have HB2 := hide (HB1.out.trans ((ht2.below HD1.out)))
  clear hp2 hL2 ht2 hgs hcp hgr hcp0 HOp
  simp only [List.length_nil]
  obtain ⟨w3, hw3⟩ : ∃ w3, w3 = w2.alloc (.cells #[.slice A 0 c, .slice A2 0 c2] 31) := ⟨_, rfl⟩
  have hb3 : Below w2.heap.size w2 w3 := by rw [hw3]; exact (Below.refl _ _).alloc (Nat.le_refl _) _
  have hx3 : w3.heap[w2.heap.size]? = some (.cells #[.slice A 0 c, .slice A2 0 c2] 31 (0, 0)) := by rw [hw3]; exact heap_alloc_new w2 _
  have HWE := hide hw3
  obtain ⟨⟨s0, s1⟩, -, hlt3⟩ := found_cells hx3
  clear hw3 hx3
  have kc := fun (w : World) (C : Array Value) (n c : Nat) => Lib.run_convert_bytes_const (P := Tryd.prog) w 28 5 C n c Tryd.underlying28 Tryd.underlying5
  have kc2 : (convert 28 28 (.slice (some ⟨w3.heap.size + 1, 0, none⟩) 1 1)).run Tryd.prog ((w3.alloc (.cells #[.int .u8 120] 5 (1, 2))).alloc (.cells #[.int .u8 121] 5)) = .ok (.slice (some ⟨w3.heap.size + 1, 0, none⟩) 1 1) ((w3.alloc (.cells #[.int .u8 120] 5 (1, 2))).alloc (.cells #[.int .u8 121] 5 (1, 2))) := by
    have h := kc (w3.alloc (.cells #[.int .u8 120] 5 (1, 2))) #[.int .u8 121] 1 1
    simpa using h
  obtain ⟨w4, hw4, hb4, hr4⟩ := recs2 w3 120 121
  have HWE4 := hide (show w4 = ((w3.alloc (.cells #[.int .u8 120] 5 (1, 2))).alloc (.cells #[.int .u8 121] 5 (1, 2))).alloc (.cells #[.slice (some ⟨w3.heap.size, 0, none⟩) 1 1, .slice (some ⟨w3.heap.size + 1, 0, none⟩) 1 1] 28) from hw4)
  have HB3 := hide (hb3.trans (hb4.mono hb3.size))
  have HL4 := hide (HL2.out.below HB3.out)
  have HB4 := hide (HB2.out.trans (HB3.out.mono HB2.out.size))
  have HR4 := hide hr4
  have HS3 := hide hb3.size
  have hs4 : w4.heap.size = w3.heap.size + 3 := by rw [hw4]; simp
  have HC := hide (logCommit_any (some ⟨w3.heap.size + 2, 0, none⟩) 2 [⟨some ⟨w3.heap.size, 0, none⟩, 1, [120]⟩, ⟨some ⟨w3.heap.size + 1, 0, none⟩, 1, [121]⟩] w4 HL4.out (by rw [HP2.out]; exact HK.out.1) (by rw [HP2.out]; have h := HQ.out.1; show ex1.2.1.done ≤ _; omega) (by have h := HZ.out.1; show ex1.2.2.size ≤ _; omega) ((HT.out.on HB4.out)) (HR4.out.mono fun b h1 _ => HL2.out.off_new (Nat.le_trans HS3.out h1)) (by simp) (by intro j hj; simp at hj; rcases (by omega : j = 0 ∨ j = 1) with rfl | rfl <;> simp))
  rw [HP2.out] at HC
  have HC2 := hide (show Calls Tryd.prog 13 #[vD h, .slice (some ⟨w3.heap.size + 1 + 1, 0, none⟩) 2 2] w4 (LRes w.heap.size h g D2 w4 ex2) from HC.out)
  unfold LRes at HC2
  rw [HA.out.2.1] at HC2
  clear hw4 hb4 hr4 hb3 HC
  go_wp2_with (first | (guard_target =~ wpList _ _ _ (Oper.mk _ (Op.fieldAddr _ _ _) _ _ _ _ :: _) _ _; rw [← HWE.out]) | fail)
  rw [← HWE4.out]
  refine HC2.out.mono ?_
  rintro e w5 ⟨rfl, D5, hp5, hL5, ht5⟩
  have HL5 := hide hL5
  have HP5 := hide hp5
  have HT5 := hide ht5
  have HB5 := hide (HB4.out.trans (ht5.below HL4.out))
  obtain ⟨w6, hw6, hb6, hr6⟩ := recs1 w5 122
  have HWE6 := hide (show w6 = (w5.alloc (.cells #[.int .u8 122] 5 (1, 2))).alloc (.cells #[.slice (some ⟨w5.heap.size, 0, none⟩) 1 1] 28) from hw6)
  have HL6 := hide (HL5.out.below hb6)
  have HB6 := hide (HB5.out.trans (hb6.mono HB5.out.size))
  have HC6 := hide (logAppend_any (some ⟨w5.heap.size + 1, 0, none⟩) 1 [⟨some ⟨w5.heap.size, 0, none⟩, 1, [122]⟩] w6 HL6.out (by rw [HP5.out]; exact HK.out.2.1) (by rw [HP5.out]; have h := HQ.out.2.1; omega) (by have h := HZ.out.2; omega) (HT.out.on HB6.out) (hr6.mono fun b h1 _ => HL5.out.off_new h1) (by simp) (by intro j hj; simp at hj; subst hj; simp))
  rw [HP5.out] at HC6
  have HC7 := hide (show Calls Tryd.prog 12 #[vD h, .slice (some ⟨w5.heap.size + 1, 0, none⟩) 1 1] w6 (LRes w.heap.size h g D5 w6 ex3) from HC6.out)
  unfold LRes at HC7
  rw [HA.out.2.2.1] at HC7
  clear hw6 hb6 hr6 hp5 hL5 ht5 HC6 HC2 s0 s1 hlt3 kc2
  go_wp2_with fail
  rw [← HWE6.out]
  refine HC7.out.mono ?_
  rintro e w7 ⟨rfl, D7, hp7, hL7, ht7⟩
  have HP7 := hide hp7
  have HD7 := hide hL7.disk
  have HB7 := hide (HB6.out.trans (ht7.below HL6.out))
  have HCr := hide (crash_any none 0 [] w7 hL7.disk (by rw [hp7]; exact HK.out.2.2.1) (fun j hj => by simp at hj) (by simp) (fun j hj => by simp at hj))
  rw [hp7] at HCr
  have HCr2 := hide (show Calls Tryd.prog 23 #[vD g, .slice none 0 0] w7 fun e w' => e = .returned (.tuple #[]) ∧ ∃ D' : DS, D'.p = ex4 ∧ DiskAt w.heap.size g w' D' ∧ Turned g D7 D' w7 w' from HCr.out)
  clear hp7 hL7 ht7 HCr HC7
  go_wp2_with fail
  refine HCr2.out.mono ?_
  rintro e w8 ⟨rfl, D8, hp8, hD8, ht8⟩
  have HB8 := hide (HB7.out.trans (ht8.below HD7.out))
  have HO8 := hide (open_any w8 hD8 (by rw [hp8]; exact HK.out.2.2.2) (by rw [hp8]; have h := HQ.out.2.2.2; omega) (HT.out.on HB8.out) hgt)
  unfold OpenRes at HO8
  rw [hp8] at HO8
  have HD8 := hide hD8
  clear hp8 hD8 ht8 HCr2
  go_wp2_with fail
  refine HO8.out.mono ?_
  rintro e w9 hc
  rcases hc with ⟨hdn, -⟩ | ⟨-, -, hc⟩
  · exact absurd (show (crashP ex3.2.1 []).down = true from hdn) (by decide)
  rcases hc with ⟨hne, -⟩ | ⟨-, h9, A9, c9, B9, d9, gs9, D9, rfl, hh9, hp9, hL9, ht9, hgs9, hcp9, hgr9, -, -, -⟩
  · exact absurd HA.out.2.2.2.2.1 hne
  have HB9 := hide (HB8.out.trans (ht9.below HD8.out))
  rw [HA.out.2.2.2.2.2] at hgs9
  have hl9 : gs9.length = 1 := by have h2 := congrArg List.length hgs9; rw [gsOf_len] at h2; exact h2
  obtain ⟨x9, rfl⟩ : ∃ x, gs9 = [x] := by
    match gs9, hl9 with
    | [x], _ => exact ⟨x, rfl⟩
  have hx9 : lsOf x9.rs = [[120], [121]] := by simpa [gsOf] using hgs9
  obtain ⟨b, off, A0, c0, rs0, rfl, -, hbl, hcell, hrs, hg0, -, -⟩ := hgr9.got (k := 0) (by simp)
  have hrs0 : lsOf rs0 = [[120], [121]] := by rw [← hg0]; simp [gsOf, hx9]
  have hrl : rs0.length = 2 := by have h2 := congrArg List.length hrs0; rw [lsOf_len] at h2; exact h2
  obtain ⟨b2, off2, A1, c1, l1, rfl, -, hbl2, hcell2, hby, hl1, -, -⟩ := hrs.got (k := 1) (by omega)
  have hl1' : l1 = [121] := by rw [← hl1, hrs0]; rfl
  subst hl1'
  rw [hrl] at hcell
  have HB9r := hide ((Below.refl w9.heap.size w9).alloc (Nat.le_refl _) (.cells #[.slice A9 (openS ex4).cp.length c9, .slice (some ⟨b, off, none⟩) 1 d9] 31))
  have hcv : (convert 28 9 (.slice A1 1 c1)).run Tryd.prog (w9.alloc (.cells #[.slice A9 (openS ex4).cp.length c9, .slice (some ⟨b, off, none⟩) 1 d9] 31)) = .ok (.string ⟨#[121]⟩) (w9.alloc (.cells #[.slice A9 (openS ex4).cp.length c9, .slice (some ⟨b, off, none⟩) 1 d9] 31)) := conv_bytes A1 c1 [121] _ (hby.bytes.on HB9r.out)
  have hca := (HB9r.out.cell (p := ⟨b, off + 0, none⟩) hbl).trans hcell
  have hcb := (HB9r.out.cell (p := ⟨b2, off2 + 1, none⟩) hbl2).trans hcell2
  clear hgs9 hl9 hx9 hg0 hrs0 hrl hrs hl1 hgr9 hcp9 hp9 hL9 ht9 hh9
  rw [Nat.add_zero] at hca
  have hcb1 : (w9.alloc (.cells #[.slice A9 (openS ex4).cp.length c9, .slice (some ⟨b, off, none⟩) 1 d9] 31)).cell? ⟨b2, off2 + 1, none⟩ = some (.slice A1 1 c1) := hcb
  clear hcb
  have HB10 := hide (HB9.out.trans (HB9r.out.mono HB9.out.size))
  clear hcell hcell2 hby
  simp only [List.length_singleton]
  go_wp2_with fail
  go_ret
  exact ⟨rfl, HB10.out⟩
end Go.Proofs.YtkdihekhdnnheaaDoor
