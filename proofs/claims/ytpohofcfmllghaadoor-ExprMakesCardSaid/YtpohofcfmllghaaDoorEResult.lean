/-
  What type a rule gives for arguments of these types: the walk of result.
-/
import Derived.Test.YtpohofcfmllghaaDoorERule
namespace Go.Proofs.YtpohofcfmllghaaDoor
open Go.RowKit

def stepR (t want same : Int) : Option Int :=
  if t = 0 ∨ want = 0 then some same
  else if want = 3 then (if same = 0 then some t else if t = same then some same else none)
  else if t = want then some same else none
def resF (r : RL) (ty : List Int) : Nat → Option Int
  | 0 => some 0
  | k + 1 => (resF r ty k).bind fun s => stepR (ty.getD k 0) ([r.a, r.b, r.c].getD k 0) s
def resX (r : RL) (ty : List Int) : Int × Bool := match resF r ty r.n.toNat with
  | none => (0, false)
  | some s => if r.g = 3 then (s, true) else (r.g, true)
theorem resF_none {r : RL} {ty : List Int} {k : Nat} (h : resF r ty k = none) : ∀ d, resF r ty (k + d) = none
  | 0 => h
  | d + 1 => by show (resF r ty (k + d)).bind _ = none; rw [resF_none h d]; rfl

set_option maxHeartbeats 3200000 in
set_option maxRecDepth 100000 in
theorem result_any (r : RL) (t0 t1 t2 : Int) (w : World) (h1 : 0 ≤ r.n) (h3 : r.n ≤ 3) :
    Calls Tryd.prog 35 #[.agg (rCells r), .agg #[.int .i64 t0, .int .i64 t1, .int .i64 t2]] w fun e w' => e = .returned (.tuple #[.int .i64 (resX r [t0, t1, t2]).1, .bool (resX r [t0, t1, t2]).2]) ∧ Below w.heap.size w w' := by
  obtain ⟨rk, rw', rn, ra, rb, rc, rg⟩ := r
  simp only at h1 h3
  obtain ⟨n, rfl⟩ : ∃ n : Nat, rn = n := ⟨rn.toNat, by omega⟩
  have hn3 : n ≤ 3 := by omega
  clear h1 h3
  show Calls Tryd.prog 35 #[.agg #[.int .i64 rk, .string rw', .int .i64 (n : Int), .int .i64 ra, .int .i64 rb, .int .i64 rc, .int .i64 rg], .agg #[.int .i64 t0, .int .i64 t1, .int .i64 t2]] w _
  have hal : Below w.heap.size w ((w.alloc (.cells (#[.int .i64 rk, .string rw', .int .i64 (n : Int), .int .i64 ra, .int .i64 rb, .int .i64 rc, .int .i64 rg] : Array Value) 75)).alloc (.cells #[.int .i64 t0, .int .i64 t1, .int .i64 t2] 73)) := Joins.below_alloc2 w _ _
  have s1 : (w.alloc (.cells (#[.int .i64 rk, .string rw', .int .i64 (n : Int), .int .i64 ra, .int .i64 rb, .int .i64 rc, .int .i64 rg] : Array Value) 75)).heap.size = w.heap.size + 1 := by simp
  have hz : ((w.alloc (.cells (#[.int .i64 rk, .string rw', .int .i64 (n : Int), .int .i64 ra, .int .i64 rb, .int .i64 rc, .int .i64 rg] : Array Value) 75)).alloc (.cells #[.int .i64 t0, .int .i64 t1, .int .i64 t2] 73)).heap.size = w.heap.size + 2 := by simp
  have k0 : ∀ i u, (#[.int .i64 rk, .string rw', .int .i64 (n : Int), .int .i64 ra, .int .i64 rb, .int .i64 rc, .int .i64 rg] : Array Value)[i]? = some u → ((w.alloc (.cells (#[.int .i64 rk, .string rw', .int .i64 (n : Int), .int .i64 ra, .int .i64 rb, .int .i64 rc, .int .i64 rg] : Array Value) 75)).alloc (.cells #[.int .i64 t0, .int .i64 t1, .int .i64 t2] 73)).cell? ⟨w.heap.size, i, none⟩ = some u := fun i u hu => by
    rw [World.cell?_alloc_lt _ _ _ (by rw [s1]; simp only; omega)]
    exact (World.cell?_alloc_mark w _ _ (0, 0) i).trans hu
  have k1 : ∀ i u, (#[.int .i64 t0, .int .i64 t1, .int .i64 t2] : Array Value)[i]? = some u → ((w.alloc (.cells (#[.int .i64 rk, .string rw', .int .i64 (n : Int), .int .i64 ra, .int .i64 rb, .int .i64 rc, .int .i64 rg] : Array Value) 75)).alloc (.cells #[.int .i64 t0, .int .i64 t1, .int .i64 t2] 73)).cell? ⟨w.heap.size + 1, i, none⟩ = some u := fun i u hu => by
    have m := World.cell?_alloc_mark (w.alloc (.cells (#[.int .i64 rk, .string rw', .int .i64 (n : Int), .int .i64 ra, .int .i64 rb, .int .i64 rc, .int .i64 rg] : Array Value) 75)) #[.int .i64 t0, .int .i64 t1, .int .i64 t2] 73 (0, 0) i
    rw [s1] at m
    exact m.trans hu
  have HWE := hide (show ∃ W, W = (w.alloc (.cells (#[.int .i64 rk, .string rw', .int .i64 (n : Int), .int .i64 ra, .int .i64 rb, .int .i64 rc, .int .i64 rg] : Array Value) 75)).alloc (.cells #[.int .i64 t0, .int .i64 t1, .int .i64 t2] 73) from ⟨_, rfl⟩)
  obtain ⟨W, hW⟩ := HWE.out
  rw [← hW] at hal hz k0 k1
  have HW := hide hW
  have HAt := hide (fun w' (h : Below W.heap.size W w') => (by
    have c0 : ∀ i u, W.cell? ⟨w.heap.size, i, none⟩ = some u → w'.cell? ⟨w.heap.size, i, none⟩ = some u := fun i u hu => (h.cell (p := ⟨w.heap.size, i, none⟩) (by simp only; omega)).trans hu
    have c1 : ∀ i u, W.cell? ⟨w.heap.size + 1, i, none⟩ = some u → w'.cell? ⟨w.heap.size + 1, i, none⟩ = some u := fun i u hu => (h.cell (p := ⟨w.heap.size + 1, i, none⟩) (by simp only; omega)).trans hu
    exact ⟨c0 _ _ (k0 2 _ rfl), fun j hj => (by
      rcases (by omega : j = 0 ∨ j = 1 ∨ j = 2) with rfl | rfl | rfl
      · exact ⟨c0 _ _ (k0 3 _ rfl), c1 _ _ (k1 0 _ rfl)⟩
      · exact ⟨c0 _ _ (k0 4 _ rfl), c1 _ _ (k1 1 _ rfl)⟩
      · exact ⟨c0 _ _ (k0 5 _ rfl), c1 _ _ (k1 2 _ rfl)⟩ : w'.cell? ⟨w.heap.size, 3 + j, none⟩ = some (.int .i64 ([ra, rb, rc].getD j 0)) ∧ w'.cell? ⟨w.heap.size + 1, j, none⟩ = some (.int .i64 ([t0, t1, t2].getD j 0))), c0 _ _ (k0 6 _ rfl), by have := h.size; omega⟩ :
    w'.cell? ⟨w.heap.size, 2, none⟩ = some (.int .i64 (n : Int)) ∧ (∀ j, j < 3 → w'.cell? ⟨w.heap.size, 3 + j, none⟩ = some (.int .i64 ([ra, rb, rc].getD j 0)) ∧ w'.cell? ⟨w.heap.size + 1, j, none⟩ = some (.int .i64 ([t0, t1, t2].getD j 0))) ∧ w'.cell? ⟨w.heap.size, 6, none⟩ = some (.int .i64 rg) ∧ w.heap.size + 1 < w'.heap.size))
  have HL := hide hal
  have HF := hide (show ∀ k, resF ⟨rk, rw', n, ra, rb, rc, rg⟩ [t0, t1, t2] (k + 1) = (resF ⟨rk, rw', n, ra, rb, rc, rg⟩ [t0, t1, t2] k).bind fun s => stepR ([t0, t1, t2].getD k 0) ([ra, rb, rc].getD k 0) s from fun _ => rfl)
  have HN := hide (fun k (h : resF ⟨rk, rw', n, ra, rb, rc, rg⟩ [t0, t1, t2] k = none) d => resF_none h d)
  have HX := hide (show resX ⟨rk, rw', n, ra, rb, rc, rg⟩ [t0, t1, t2] = match resF ⟨rk, rw', n, ra, rb, rc, rg⟩ [t0, t1, t2] (n : Int).toNat with | none => (0, false) | some s => if rg = 3 then (s, true) else (rg, true) from rfl)
  have H0 := hide (show resF ⟨rk, rw', n, ra, rb, rc, rg⟩ [t0, t1, t2] 0 = some 0 from rfl)
  generalize resX ⟨rk, rw', n, ra, rb, rc, rg⟩ [t0, t1, t2] = q at HX ⊢
  generalize hfs : resF ⟨rk, rw', n, ra, rb, rc, rg⟩ [t0, t1, t2] = F at *
  generalize hty : [t0, t1, t2] = ty at *
  generalize htk : [ra, rb, rc] = tk at *
  rw [Int.toNat_natCast] at HX
  clear hal hz k0 k1 s1 hW HWE hfs hty htk
  go_enter Tryd.func35, Tryd.ntmps35
  go_wp2_with fail
  rw [← HW.out]
  go_loopw [6, 12] (fun s i wr => ∃ (k : Nat) (z : Int), k ≤ n ∧ i = .int .i64 k ∧ s = .int .i64 z ∧ F k = some z ∧ Below W.heap.size W wr) (fun _ i _ => n - (intOf i).toNat)
  case atStart => exact ⟨0, 0, Nat.zero_le _, rfl, rfl, H0.out, Below.refl _ _⟩
  case round =>
    obtain ⟨k, z, hk, rfl, rfl, hF, hbw⟩ := hrel
    have HFk := hide hF
    have HB := hide hbw
    clear hF
    obtain ⟨c2, cc, c6, cz⟩ := HAt.out _ HB.out
    by_cases hlt : k < n
    · obtain ⟨x0, x1⟩ := cc k (by omega)
      have HS := hide (show F (k + 1) = stepR (ty.getD k 0) (tk.getD k 0) z by rw [HF.out k, HFk.out]; rfl)
      have HNo := hide (fun h => HN.out (k + 1) h (n - (k + 1)))
      generalize ty.getD k 0 = t at *
      generalize tk.getD k 0 = wt at *
      have hkk : (k : Int) < 3 := by omega
      have y0 := fun d os => cell_regrown x0 d os
      have y1 := fun d os => cell_regrown x1 d os
      clear cc c2 c6
      go_wp2_with fail
      refine wp_region_quiet_below (by kernel_rfl) (by kernel_rfl) ?_
      repeat (go_big_quiet_step (fail))
      refine wpQuiet_nil ?_
      intro _ hw'
      obtain ⟨⟨dq, osq⟩, hw''⟩ := hw'
      subst hw''
      have hq := hide (then_below HB.out (below_regrown _ dq osq))
      clear y0 y1 x0 x1 cz
      by_cases ht : t = 0
      · have bt : (t == 0) = true := by rw [beq_iff_eq]; exact ht
        have HSt := hide (show F (k + 1) = some z by rw [HS.out]; unfold stepR; rw [if_pos (.inl ht)])
        clear HS HNo ht
        go_wp2_with fail
        go_roundw
        case rel => exact ⟨k + 1, z, by omega, by go_num, rfl, HSt.out, hq.out⟩
        case measure => simp [intOf]; omega
      have bt : (t == 0) = false := by rw [beq_eq_false_iff_ne]; exact ht
      by_cases hw : wt = 0
      · have bw : (wt == 0) = true := by rw [beq_iff_eq]; exact hw
        have HSt := hide (show F (k + 1) = some z by rw [HS.out]; unfold stepR; rw [if_pos (.inr hw)])
        clear HS HNo ht hw
        go_wp2_with fail
        go_roundw
        case rel => exact ⟨k + 1, z, by omega, by go_num, rfl, HSt.out, hq.out⟩
        case measure => simp [intOf]; omega
      have bw : (wt == 0) = false := by rw [beq_eq_false_iff_ne]; exact hw
      have hor : ¬ (t = 0 ∨ wt = 0) := by rintro (h | h); exact ht h; exact hw h
      by_cases h3 : wt = 3
      · have b3 : (wt == 3) = true := by rw [beq_iff_eq]; exact h3
        by_cases hz : z = 0
        · have bz : (z == 0) = true := by rw [beq_iff_eq]; exact hz
          have bn : (t != t) = false := by simp
          have HSt := hide (show F (k + 1) = some t by rw [HS.out]; unfold stepR; rw [if_neg hor, if_pos h3, if_pos hz])
          clear HS HNo ht hw hor h3 hz
          go_wp2_with fail
          go_roundw
          case rel => exact ⟨k + 1, t, by omega, by go_num, rfl, HSt.out, hq.out⟩
          case measure => simp [intOf]; omega
        have bz : (z == 0) = false := by rw [beq_eq_false_iff_ne]; exact hz
        by_cases htz : t = z
        · have bn : (t != z) = false := by rw [bne_eq_false_iff_eq]; exact htz
          have HSt := hide (show F (k + 1) = some z by rw [HS.out]; unfold stepR; rw [if_neg hor, if_pos h3, if_neg hz, if_pos htz])
          clear HS HNo ht hw hor h3 hz htz
          go_wp2_with fail
          go_roundw
          case rel => exact ⟨k + 1, z, by omega, by go_num, rfl, HSt.out, hq.out⟩
          case measure => simp [intOf]; omega
        · have bn : (t != z) = true := by rw [bne_iff_ne]; exact htz
          have HSt := hide (show F (k + 1) = none by rw [HS.out]; unfold stepR; rw [if_neg hor, if_pos h3, if_neg hz, if_neg htz])
          have HQ := hide (show q = (0, false) by rw [HX.out, show n = k + 1 + (n - (k + 1)) by omega, HNo.out HSt.out])
          clear HS HNo ht hw hor h3 hz htz
          go_wp2_with fail
          go_ret2
          exact ⟨by rw [HQ.out]; rfl, HL.out.trans (hq.out.mono HL.out.size)⟩
      · have b3 : (wt == 3) = false := by rw [beq_eq_false_iff_ne]; exact h3
        by_cases htw : t = wt
        · have bn : (t != wt) = false := by rw [bne_eq_false_iff_eq]; exact htw
          have HSt := hide (show F (k + 1) = some z by rw [HS.out]; unfold stepR; rw [if_neg hor, if_neg h3, if_pos htw])
          clear HS HNo ht hw hor h3 htw
          go_wp2_with fail
          go_roundw
          case rel => exact ⟨k + 1, z, by omega, by go_num, rfl, HSt.out, hq.out⟩
          case measure => simp [intOf]; omega
        · have bn : (t != wt) = true := by rw [bne_iff_ne]; exact htw
          have HSt := hide (show F (k + 1) = none by rw [HS.out]; unfold stepR; rw [if_neg hor, if_neg h3, if_neg htw])
          have HQ := hide (show q = (0, false) by rw [HX.out, show n = k + 1 + (n - (k + 1)) by omega, HNo.out HSt.out])
          clear HS HNo ht hw hor h3 htw
          go_wp2_with fail
          go_ret2
          exact ⟨by rw [HQ.out]; rfl, HL.out.trans (hq.out.mono HL.out.size)⟩
    · obtain rfl : k = n := by omega
      rw [HFk.out] at HX
      simp only at HX
      clear cc c2
      by_cases hg : rg = 3
      · have bg : (rg == 3) = true := by rw [beq_iff_eq]; exact hg
        have HQ := hide (show q = (z, true) by rw [HX.out, if_pos hg])
        clear hg HX
        go_wp2_with fail
        go_ret2
        exact ⟨by rw [HQ.out]; rfl, HL.out.trans (HB.out.mono HL.out.size)⟩
      · have bg : (rg == 3) = false := by rw [beq_eq_false_iff_ne]; exact hg
        have HQ := hide (show q = (rg, true) by rw [HX.out, if_neg hg])
        clear hg HX
        go_wp2_with fail
        go_ret2
        exact ⟨by rw [HQ.out]; rfl, HL.out.trans (HB.out.mono HL.out.size)⟩
end Go.Proofs.YtpohofcfmllghaaDoor
