/-
  The reference's Crash.
-/
import Derived.Test.YtpjibiimakclfabPCut
namespace Go.Proofs.Ytpjibiimakclfab
open Go.RowKit

def RKeepAt (g : Nat) (R : RS) (w : World) (A : Option Addr) (ks : List Int) : Prop :=
  ∀ j, j < ks.length → ∃ b off, A = some ⟨b, off, none⟩ ∧ b < w.heap.size ∧ b ≠ g ∧ (∀ i, i < 8 → (R.v i).ownBlock ≠ some b) ∧ w.cell? ⟨b, off + j, none⟩ = some (.int .i64 (ks.getD j 0))
theorem RKeepAt.spot {g : Nat} {R R' : RS} {w w' : World} {A : Option Addr} {ks : List Int} (h : RKeepAt g R w A ks) (hT : RTurned g R R' w w') {j : Nat} (hj : j < ks.length) : ∃ b off, A = some ⟨b, off, none⟩ ∧ b < w'.heap.size ∧ w'.cell? ⟨b, off + j, none⟩ = some (.int .i64 (ks.getD j 0)) := by
  obtain ⟨b, off, e, h1, h2, h3, h4⟩ := h j hj
  exact ⟨b, off, e, Nat.lt_of_lt_of_le h1 hT.size, (World.cell?_of_block (w := w) (hT.block b h1 h2 h3)).trans h4⟩
/-- How many bytes more than the safe ones stay. -/
def rkM (p : RP) (ks : List Int) (i : Nat) : Nat := if i < ks.length then (min (max (ks.getD i 0) 0) (((p.bs i).length : Int) - (heads (p.sf i) : Int))).toNat else 0
def rzP (p : RP) (ks : List Int) : Nat → RP
  | 0 => p
  | k + 1 => rfP (rzP p ks k) k (heads ((rzP p ks k).sf k) + rkM (rzP p ks k) ks k)
def rxP (p : RP) (ks : List Int) : RP := { rzP p ks 4 with armed := false, down := false }
structure RP.Fit (p : RP) : Prop where
  len : ∀ i, i < 4 → (p.sf i).length = (p.bs i).length
  most : ∀ i, i < 4 → (p.bs i).length ≤ 1073741824
theorem RP.Ok.fit {p : RP} (h : p.Ok) : p.Fit := ⟨h.len, fun i hi => by
  have hu := h.used
  unfold RP.used at hu
  rcases (by omega : i = 0 ∨ i = 1 ∨ i = 2 ∨ i = 3) with rfl | rfl | rfl | rfl <;> omega⟩
theorem rk_le {p : RP} (h : p.Fit) (ks : List Int) {i : Nat} (hi : i < 4) : heads (p.sf i) + rkM p ks i ≤ (p.bs i).length := by
  have h1 := heads_le (p.sf i)
  have h2 := h.len i hi
  unfold rkM
  split <;> omega
theorem rf_fit {p : RP} (h : p.Fit) {i k : Nat} (hk : k ≤ (p.bs i).length) : (rfP p i k).Fit := by
  refine ⟨fun j hj => ?_, fun j hj => ?_⟩
  · show (upd p.sf i (List.replicate k true) j).length = (upd p.bs i ((p.bs i).take k) j).length
    by_cases e : j = i
    · rw [e, upd_same, upd_same, List.length_replicate, List.length_take, Nat.min_eq_left hk]
    · rw [upd_other _ _ e, upd_other _ _ e]; exact h.len j hj
  · show (upd p.bs i ((p.bs i).take k) j).length ≤ _
    have := h.most j hj
    by_cases e : j = i
    · rw [e] at this ⊢; rw [upd_same, List.length_take]; omega
    · rw [upd_other _ _ e]; exact this
theorem rz_fit {p : RP} (h : p.Fit) (ks : List Int) : ∀ k, k ≤ 4 → (rzP p ks k).Fit
  | 0, _ => h
  | k + 1, hk => rf_fit (rz_fit h ks k (by omega)) (rk_le (rz_fit h ks k (by omega)) ks (by omega))
set_option maxHeartbeats 6400000 in
set_option maxRecDepth 100000 in
theorem rcrash_any {base g : Nat} {R : RS} (A : Option Addr) (c : Nat) (ks : List Int) (w : World) (hR : RefAt base g w R) (hO : R.p.Fit) (hK : RKeepAt g R w A ks) (hb : ∀ j, j < ks.length → -9223372036854775808 ≤ ks.getD j 0 ∧ ks.getD j 0 ≤ 9223372036854775807) :
    Calls Try.prog 26 #[vD g, .slice A ks.length c] w fun e w' => e = .returned (.tuple #[]) ∧ ∃ R' : RS, R'.p = rxP R.p ks ∧ RefAt base g w' R' ∧ RTurned g R R' w w' := by
  have HK := hide hK
  have HO := hide hO
  have HIn := hide (show ∃ R' : RS, R'.p = rzP R.p ks 0 ∧ RefAt base g w R' ∧ RTurned g R R' w w from ⟨R, rfl, hR, RTurned.of_below (Below.refl _ _)⟩)
  have HBd := hide hb
  clear hR hO hK hb
  go_enter Try.func26, Try.ntmps26
  go_wp2_with fail
  go_loopw [4] (fun iv wr => ∃ k : Nat, k ≤ 4 ∧ iv = .int .i64 k ∧ ∃ R' : RS, R'.p = rzP R.p ks k ∧ RefAt base g wr R' ∧ RTurned g R R' w wr) (fun iv _ => 4 - (intOf iv).toNat)
  case atStart => exact ⟨0, Nat.zero_le _, rfl, HIn.out⟩
  case round =>
    obtain ⟨i, hi, rfl, R1, e1, hR1, hT1⟩ := hrel
    have HR1 := hide hR1
    have HT1 := hide hT1
    have HE1 := hide e1
    have hFt := rz_fit HO.out ks i hi
    rw [← e1] at hFt
    clear e1 hT1 HIn
    by_cases hi4 : i < 4
    · have hI0 : (0 : Int) ≤ (i : Int) := by omega
      have hI1 : (i : Int) < 4 := by omega
      obtain ⟨A2, c2, ev2, hy2⟩ := rbytes hi4 hR1
      obtain ⟨A3, c3, ev3, hy3⟩ := rbools hi4 hR1
      have cw2 := hR1.at (j := i * 2) (by omega)
      have cw3 := hR1.at (j := i * 2 + 1) (by omega)
      rw [ev2] at cw2
      rw [ev3] at cw3
      have hkl := rk_le hFt ks hi4
      have hbl := hFt.most i hi4
      have hsl := hFt.len i hi4
      have HSf := hide (rsafe_any (.slice A2 (R1.p.bs i).length c2) A3 c3 (R1.p.sf i) wr (by omega) hy3)
      have HC := hide (fun w' (h : Below wr.heap.size wr w') => (rfirst_any A2 c2 (.slice A3 (R1.p.sf i).length c3) (R1.p.bs i) (heads (R1.p.sf i) + rkM R1.p ks i) w' hbl hkl (hy2.on h)).mono fun e w3 hh => by
        obtain ⟨⟨r, e1, hF⟩, hb3⟩ := hh
        exact (⟨r, e1, rstore (i := i) hi4 (hR1.below h) hb3 hkl hF⟩ : ∃ r, e = .returned r ∧ StoreOk base g i (heads (R1.p.sf i) + rkM R1.p ks i) R1 w' w3 r))
      have HNx := hide (show rzP R.p ks (i + 1) = rfP (rzP R.p ks i) i (heads (R1.p.sf i) + rkM R1.p ks i) by rw [HE1.out]; rfl)
      have HNx := hide (show rfP R1.p i (heads (R1.p.sf i) + rkM R1.p ks i) = rzP R.p ks (i + 1) by rw [HNx.out, HE1.out])
      have HM := hide (show rkM R1.p ks i = if i < ks.length then (min (max (ks.getD i 0) 0) (((R1.p.bs i).length : Int) - (heads (R1.p.sf i) : Int))).toNat else 0 from rfl)
      have hhl : heads (R1.p.sf i) ≤ (R1.p.bs i).length := by have := heads_le (R1.p.sf i); omega
      clear hR1 hFt ev2 ev3 hy2 hy3 hsl
      generalize rkM R1.p ks i = M at *
      generalize heads (R1.p.sf i) = hd at *
      obtain ⟨N, hN⟩ : ∃ N, hd + M = N := ⟨_, rfl⟩
      rw [hN] at HC HNx hkl
      have HN := hide hN
      clear hN
      go_wp2_with fail
      refine HSf.out.mono ?_
      rintro e w2 ⟨rfl, hb2⟩
      have HB2 := hide hb2
      have hs2 := hb2.size
      have cx2 := (World.cell?_of_block (hb2.block g HR1.out.lt)).trans cw2
      have cx3 := (World.cell?_of_block (hb2.block g HR1.out.lt)).trans cw3
      clear hb2 HSf cw2 cw3
      by_cases hk2 : i < ks.length
      · have hk3 : (i : Int) < (ks.length : Int) := by omega
        obtain ⟨b, off, rfl, hbl2, hc⟩ := HK.out.spot (HT1.out.trans (RTurned.of_below (R := R1) HB2.out)) hk2
        obtain ⟨bb0, bb1⟩ := HBd.out i hk2
        have hM : M = (min (max (ks.getD i 0) 0) (((R1.p.bs i).length : Int) - (hd : Int))).toNat := by rw [HM.out, if_pos hk2]
        have HM2 := hide hM
        generalize ks.getD i 0 = x at *
        clear hk2 hM HM
        go_wp2_with fail
        go_loopw [5, 6] (fun nv kv wr => ∃ m t : Nat, m ≤ M ∧ t = hd + m ∧ nv = .int .i64 t ∧ kv = .int .i64 m ∧ wr = w2) (fun _ kv _ => M - (intOf kv).toNat)
        case atStart => exact ⟨0, hd, Nat.zero_le _, rfl, rfl, rfl, rfl⟩
        case round =>
          obtain ⟨m, t, hm, htm, rfl, rfl, rfl⟩ := hrel
          have HTm := hide htm
          have hdm : hd + m ≤ 1073741824 + 1 := by have := HM2.out; have := HN.out; omega
          have htl : t ≤ 1073741824 + 1 := by omega
          by_cases h1 : (m : Int) < x
          · by_cases h2 : t < (R1.p.bs i).length
            · have hmM : m + 1 ≤ M := by have := HM2.out; omega
              have HmM := hide hmM
              clear hmM htm hdm
              go_wp2_with fail
              go_roundw
              case rel => exact ⟨m + 1, t + 1, HmM.out, by rw [HTm.out]; omega, by go_num, by go_num, by trivial⟩
              case measure => have := HmM.out; simp only [intOf]; omega
            · clear htm hdm
              obtain rfl : t = N := by have := HM2.out; have := HN.out; have := HTm.out; omega
              clear HTm
              go_wp2_with fail
              go_region_law (go_simp; go_at_call 36; refine (HC.out _ (HB2.out.drew)).mono ?_; rintro e w3 ⟨r, rfl, A4, c4, A5, c5, rfl, q1, q2, f1, f2, hs, R3, e3, hR3, hT3⟩; have HR3 := hide hR3; have HT3 := hide hT3; have HE3 := hide e3; clear hR3 hT3 e3)
              all_goals
                go_wp2_with fail
                go_roundw
                case rel => exact ⟨i + 1, by omega, by go_num, R3, by rw [HE3.out, HNx.out], HR3.out, HT1.out.trans ((RTurned.of_below (R := R1) (HB2.out.drew)).trans HT3.out)⟩
                case measure => simp only [intOf]; omega
          · clear htm hdm
            obtain rfl : t = N := by have := HM2.out; have := HN.out; have := HTm.out; omega
            clear HTm
            go_wp2_with fail
            go_region_law (go_simp; go_at_call 36; refine (HC.out _ (HB2.out.drew)).mono ?_; rintro e w3 ⟨r, rfl, A4, c4, A5, c5, rfl, q1, q2, f1, f2, hs, R3, e3, hR3, hT3⟩; have HR3 := hide hR3; have HT3 := hide hT3; have HE3 := hide e3; clear hR3 hT3 e3)
            all_goals
              go_wp2_with fail
              go_roundw
              case rel => exact ⟨i + 1, by omega, by go_num, R3, by rw [HE3.out, HNx.out], HR3.out, HT1.out.trans ((RTurned.of_below (R := R1) (HB2.out.drew)).trans HT3.out)⟩
              case measure => simp only [intOf]; omega
      · have hk3 : ¬ (i : Int) < (ks.length : Int) := by omega
        have hM : M = 0 := by rw [HM.out, if_neg hk2]
        have HM2 := hide hM
        clear hk2 hM HM
        go_wp2_with fail
        go_loopw [5, 6] (fun nv kv wr => ∃ m t : Nat, m ≤ M ∧ t = hd + m ∧ nv = .int .i64 t ∧ kv = .int .i64 m ∧ wr = w2) (fun _ kv _ => M - (intOf kv).toNat)
        case atStart => exact ⟨0, hd, Nat.zero_le _, rfl, rfl, rfl, rfl⟩
        case round =>
          obtain ⟨m, t, hm, htm, rfl, rfl, rfl⟩ := hrel
          have HTm := hide htm
          clear htm
          obtain rfl : t = N := by have := HM2.out; have := HN.out; have := HTm.out; omega
          clear HTm
          go_wp2_with fail
          go_region_law (go_simp; go_at_call 36; refine (HC.out _ (HB2.out.drew)).mono ?_; rintro e w3 ⟨r, rfl, A4, c4, A5, c5, rfl, q1, q2, f1, f2, hs, R3, e3, hR3, hT3⟩; have HR3 := hide hR3; have HT3 := hide hT3; have HE3 := hide e3; clear hR3 hT3 e3)
          all_goals
            go_wp2_with fail
            go_roundw
            case rel => exact ⟨i + 1, by omega, by go_num, R3, by rw [HE3.out, HNx.out], HR3.out, HT1.out.trans ((RTurned.of_below (R := R1) (HB2.out.drew)).trans HT3.out)⟩
            case measure => simp only [intOf]; omega
    · obtain rfl : i = 4 := by omega
      have HS1 := hide (hR1.set 11 (.bool false) { R1.p with armed := false } rfl rfl (by simp))
      have HS2 := hide (HS1.out.1.set 12 (.bool false) { R1.p with armed := false, down := false } rfl rfl (by simp))
      have f11 := hR1.frozen 11
      have f12 := hR1.frozen 12
      have hlt := hR1.lt
      obtain ⟨d8, d9, d10, d11, d12⟩ := hR1.nums
      clear hFt hR1
      go_wp2_with fail
      refine bodyPost_end (results_none rfl _ _ _) rfl ?_
      exact ⟨rfl, ⟨_, R1.v⟩, by show RP.mk _ _ _ _ _ _ _ = RP.mk _ _ _ _ _ _ _; rw [HE1.out], HS2.out.1, (HT1.out.trans HS1.out.2).trans HS2.out.2⟩
end Go.Proofs.Ytpjibiimakclfab
