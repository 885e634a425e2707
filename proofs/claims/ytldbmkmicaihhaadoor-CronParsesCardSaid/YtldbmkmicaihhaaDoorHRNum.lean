/-
  The reference's number: of one or two digits at a place.
-/
import Derived.Test.YtldbmkmicaihhaaDoorHNum
namespace Go.Proofs.YtldbmkmicaihhaaDoor
open Go.RowKit CM HM

theorem tw_ge : ∀ (r : List UInt8) (k : Nat), k ≤ r.length → (r.take k).all dig? = true → k ≤ (r.takeWhile dig?).length
  | _, 0, _, _ => by omega
  | [], k + 1, h, _ => by simp at h
  | b :: r, k + 1, h, ha => by
    rw [List.take_succ_cons, List.all_cons, Bool.and_eq_true] at ha
    rw [List.takeWhile_cons, ha.1, if_pos rfl]
    have := tw_ge r k (by simpa using h) ha.2
    simpa using this
theorem tw_eq : ∀ (r : List UInt8) (k : Nat), k ≤ r.length → (r.take k).all dig? = true → (k = r.length ∨ dig? (r.getD k 0) = false) → r.takeWhile dig? = r.take k
  | [], k, h, _, _ => by simp
  | b :: r, 0, _, _, h => by
    rcases h with h | h
    · simp at h
    · simp at h
      rw [List.takeWhile_cons, h]; simp
  | b :: r, k + 1, h, ha, hd => by
    rw [List.take_succ_cons, List.all_cons, Bool.and_eq_true] at ha
    rw [List.takeWhile_cons, ha.1, if_pos rfl, List.take_succ_cons]
    congr 1
    exact tw_eq r k (by simpa using h) ha.2 (by simpa using hd)
/-- What number tells: the number and where it ends. -/
def rnE (l : List UInt8) (p : Nat) : Int := if ((l.drop p).takeWhile dig?).length = 0 ∨ 2 < ((l.drop p).takeWhile dig?).length then -1 else (p + ((l.drop p).takeWhile dig?).length : Nat)
def rnV (l : List UInt8) (p : Nat) : Nat := if ((l.drop p).takeWhile dig?).length = 0 ∨ 2 < ((l.drop p).takeWhile dig?).length then 0 else valD ((l.drop p).takeWhile dig?)
set_option maxHeartbeats 2000000 in
theorem rnum_any (s : ByteArray) (p : Nat) (w : World) (hs : s.size ≤ 1000000) (hp : p ≤ s.size) : Calls Tryd.prog 48 #[.string s, .int .i64 (p : Nat)] w fun e w' => e = .returned (.tuple #[.int .i64 (rnV s.data.toList p : Nat), .int .i64 (rnE s.data.toList p)]) ∧ w' = w := by
  have HL : Hid ((s.data.toList.drop p).length = s.size - p) := hide (by simp)
  have HG : Hid (∀ k (h : p + k < s.size), s[p + k]'h = (s.data.toList.drop p).getD k 0) := hide (fun k h => by
    rw [List.getD_eq_getElem?_getD, List.getElem?_drop, Lib.data_getElem? s (p + k) h]; rfl)
  have HX1 : Hid (∀ k, k ≤ s.size - p → 2 < k → ((s.data.toList.drop p).take k).all dig? = true → rnV s.data.toList p = 0 ∧ rnE s.data.toList p = -1) := hide (fun k hk h2 ha => by
    have := tw_ge _ k (by rw [HL.out]; exact hk) ha
    unfold rnV rnE
    rw [if_pos (by omega), if_pos (by omega)]
    exact ⟨rfl, rfl⟩)
  have HX2 : Hid (∀ k, k ≤ s.size - p → k ≤ 2 → ((s.data.toList.drop p).take k).all dig? = true → (k = s.size - p ∨ dig? ((s.data.toList.drop p).getD k 0) = false) → (k = 0 → rnV s.data.toList p = 0 ∧ rnE s.data.toList p = -1) ∧ (k ≠ 0 → rnV s.data.toList p = valD ((s.data.toList.drop p).take k) ∧ rnE s.data.toList p = ((p + k : Nat) : Int))) := hide (fun k hk h2 ha hd => by
    have e := tw_eq _ k (by rw [HL.out]; exact hk) ha (by rw [HL.out]; exact hd)
    have el : ((s.data.toList.drop p).take k).length = k := by rw [List.length_take, HL.out]; omega
    unfold rnV rnE
    rw [e, el]
    constructor
    · intro h0; rw [if_pos (by omega), if_pos (by omega)]; exact ⟨rfl, rfl⟩
    · intro h0; rw [if_neg (by omega), if_neg (by omega)]; exact ⟨rfl, rfl⟩)
  generalize rnV s.data.toList p = rv at *
  generalize rnE s.data.toList p = re at *
  generalize s.data.toList.drop p = l at *
  go_enter Tryd.func48, Tryd.ntmps48
  go_wp2_with fail
  go_loop [6, 7] (fun v i => ∃ k n : Nat, p + k ≤ s.size ∧ k ≤ 2 ∧ i = .int .i64 ((p + k : Nat) : Int) ∧ v = .int .i64 (n : Nat) ∧ (l.take k).all dig? = true ∧ n = valD (l.take k) ∧ n ≤ 99 ∧ (k ≤ 1 → n ≤ 9) ∧ (k = 0 → n = 0)) (fun _ i => s.size - (intOf i).toNat)
  case atStart => exact ⟨0, 0, by omega, by omega, by first | rfl | simp, rfl, by simp, by simp [valD], by omega, by omega, fun _ => rfl⟩
  case round =>
    obtain ⟨k, n, hk, hk2, rfl, rfl, hal, hn, hn1, hn2, hn3⟩ := hrel
    have HA := hide hal
    have HN := hide hn
    clear hal hn
    by_cases hlt : p + k < s.size
    · obtain ⟨b, hb⟩ : ∃ b : UInt8, s[p + k]'hlt = b := ⟨_, rfl⟩
      have hbg : l.getD k 0 = b := by rw [← HG.out k hlt]; exact hb
      have HS := hide (valD_snoc (l := l) (k := k) (by rw [HL.out]; omega))
      have HT := hide (all_snoc (l := l) (k := k) (by rw [HL.out]; omega))
      have HD : Hid (dig? b = (decide (48 ≤ b.toNat) && decide (b.toNat ≤ 57))) := hide rfl
      have HX3 := hide (HX2.out k (by omega) hk2 HA.out)
      rw [hbg] at HS HT HX3
      have hltI : ((p : Int) + (k : Int)) < (s.size : Int) := by omega
      clear hbg
      by_cases hd1 : 48 ≤ b.toNat
      · have e1 : (48 : Int) ≤ (b.toNat : Int) := by omega
        by_cases hd2 : b.toNat ≤ 57
        · have e2 : (b.toNat : Int) ≤ 57 := by omega
          have HA1 : Hid ((l.take (k + 1)).all dig? = true) := hide (by rw [HT.out, HA.out, HD.out, decide_eq_true hd1, decide_eq_true hd2]; rfl)
          by_cases hk3 : k = 2
          · have HE := hide (HX1.out (k + 1) (by omega) (by omega) HA1.out)
            subst hk3
            go_wp2_with fail
            go_ret2
            rw [HE.out.1, HE.out.2]
            exact ⟨rfl, rfl⟩
          · have hn9 : n ≤ 9 := hn2 (by omega)
            have HN1 : Hid (10 * n + (b.toNat - 48) = valD (l.take (k + 1))) := hide (by rw [HS.out, HN.out])
            have HQ : Hid (k + 1 ≤ 1 → 10 * n + (b.toNat - 48) ≤ 9) := hide (fun h => by have := hn3 (by omega); omega)
            clear hn2 hn3
            go_wp2_with fail
            go_round
            case rel => exact ⟨k + 1, 10 * n + (b.toNat - 48), by omega, by omega, by go_num, by congr 1; omega, HA1.out, HN1.out, by omega, HQ.out, by omega⟩
            case measure => simp [intOf]; omega
        · have e2 : ¬ ((b.toNat : Int) ≤ 57) := by omega
          have HE := hide (HX3.out (.inr (by rw [HD.out, decide_eq_false hd2]; simp)))
          by_cases hk0 : k = 0
          · have HE1 := hide (HE.out.1 hk0)
            have heq : ((p : Int) + (k : Int) == (p : Int)) = true := by rw [beq_iff_eq]; omega
            clear hk0
            go_wp2_with fail
            go_ret2
            rw [HE1.out.1, HE1.out.2]
            exact ⟨rfl, rfl⟩
          · have HE1 := hide (HE.out.2 hk0)
            have hne : ((p : Int) + (k : Int) == (p : Int)) = false := by rw [beq_eq_false_iff_ne]; omega
            go_wp2_with fail
            go_ret2
            rw [HE1.out.1, HE1.out.2, HN.out]
            exact ⟨by simp, rfl⟩
      · have e1 : ¬ ((48 : Int) ≤ (b.toNat : Int)) := by omega
        have HE := hide (HX3.out (.inr (by rw [HD.out, decide_eq_false hd1]; simp)))
        by_cases hk0 : k = 0
        · have HE1 := hide (HE.out.1 hk0)
          have heq : ((p : Int) + (k : Int) == (p : Int)) = true := by rw [beq_iff_eq]; omega
          clear hk0
          go_wp2_with fail
          go_ret2
          rw [HE1.out.1, HE1.out.2]
          exact ⟨rfl, rfl⟩
        · have HE1 := hide (HE.out.2 hk0)
          have hne : ((p : Int) + (k : Int) == (p : Int)) = false := by rw [beq_eq_false_iff_ne]; omega
          go_wp2_with fail
          go_ret2
          rw [HE1.out.1, HE1.out.2, HN.out]
          exact ⟨by simp, rfl⟩
    · have hltI : ¬ (((p : Int) + (k : Int)) < (s.size : Int)) := by omega
      have HE := hide (HX2.out k (by omega) hk2 HA.out (.inl (by omega)))
      by_cases hk0 : k = 0
      · have HE1 := hide (HE.out.1 hk0)
        have heq : ((p : Int) + (k : Int) == (p : Int)) = true := by rw [beq_iff_eq]; omega
        clear hk0
        go_wp2_with fail
        go_ret2
        rw [HE1.out.1, HE1.out.2]
        exact ⟨rfl, rfl⟩
      · have HE1 := hide (HE.out.2 hk0)
        have hne : ((p : Int) + (k : Int) == (p : Int)) = false := by rw [beq_eq_false_iff_ne]; omega
        go_wp2_with fail
        go_ret2
        rw [HE1.out.1, HE1.out.2, HN.out]
        exact ⟨by simp, rfl⟩
end Go.Proofs.YtldbmkmicaihhaaDoor
