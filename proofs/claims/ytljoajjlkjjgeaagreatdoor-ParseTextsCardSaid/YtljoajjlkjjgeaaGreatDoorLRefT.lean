/-
  The reference's letter, digit, sign and quoted.
-/
import Derived.Test.YtljoajjlkjjgeaaGreatDoorML3
import Derived.Test.YtljoajjlkjjgeaaGreatDoorML1
namespace Go.Proofs.YtljoajjlkjjgeaaGreatDoor
open Go.RowKit Go.Sort LM

theorem rletter_any (c : UInt8) (w : World) : Calls Tryz.prog 43 #[.int .u8 (c.toNat : Nat)] w fun e w' => e = .returned (.bool (lowP c)) ∧ w = w' := by
 have HL : Hid (lowP c = (decide ((97 : Int) ≤ (c.toNat : Int)) && decide ((c.toNat : Int) ≤ 122))) := hide (by
  unfold lowP
  rw [show decide (97 ≤ c.toNat) = decide ((97 : Int) ≤ (c.toNat : Int)) from decide_eq_decide.2 (by omega), show decide (c.toNat ≤ 122) = decide ((c.toNat : Int) ≤ 122) from decide_eq_decide.2 (by omega)])
 cases h1 : decide ((97 : Int) ≤ (c.toNat : Int)) <;> cases h2 : decide ((c.toNat : Int) ≤ 122)
 all_goals
  go_enter Tryz.func43, Tryz.ntmps43
  go_wp2
  go_ret
  exact ⟨ret_bool (by rw [HL.out, h1, h2]; rfl), rfl⟩
theorem rdigit_any (c : UInt8) (w : World) : Calls Tryz.prog 44 #[.int .u8 (c.toNat : Nat)] w fun e w' => e = .returned (.bool (digP c)) ∧ w = w' := by
 have HL : Hid (digP c = (decide ((48 : Int) ≤ (c.toNat : Int)) && decide ((c.toNat : Int) ≤ 57))) := hide (by
  unfold digP
  rw [show decide (48 ≤ c.toNat) = decide ((48 : Int) ≤ (c.toNat : Int)) from decide_eq_decide.2 (by omega), show decide (c.toNat ≤ 57) = decide ((c.toNat : Int) ≤ 57) from decide_eq_decide.2 (by omega)])
 cases h1 : decide ((48 : Int) ≤ (c.toNat : Int)) <;> cases h2 : decide ((c.toNat : Int) ≤ 57)
 all_goals
  go_enter Tryz.func44, Tryz.ntmps44
  go_wp2
  go_ret
  exact ⟨ret_bool (by rw [HL.out, h1, h2]; rfl), rfl⟩
/-- What quoted tells. -/
def quoE (s : ByteArray) (at' : Nat) : Ending := match litL (rest s (at' + 1)) with
 | some (t, m) => .returned (.tuple #[txt t, .int .i64 ((at' + 1 + m : Nat) : Int)])
 | none => .returned (.tuple #[txt [], .int .i64 (-1)])
/-- So far read. -/
def QuK (s : ByteArray) (at' k : Nat) (T : List UInt8) : Prop := quo (rest s (at' + 1)) = (quo (rest s k)).map fun x => (T ++ x.1, (k - (at' + 1)) + x.2)
theorem quoE_none {s : ByteArray} {at' k : Nat} {T : List UInt8} (h : QuK s at' k T) (hq : quo (rest s k) = none) : quoE s at' = .returned (.tuple #[txt [], .int .i64 (-1)]) := by
 unfold QuK at h
 rw [hq] at h
 unfold quoE litL
 rw [h]; rfl
theorem quoE_end {s : ByteArray} {at' k : Nat} {T : List UInt8} (h : QuK s at' k T) (hk : k < s.size) (hc : s[k] = 34) (h1 : at' + 1 ≤ k) : quoE s at' = if T.length ≤ 64 then .returned (.tuple #[txt T, .int .i64 ((k + 1 : Nat) : Int)]) else .returned (.tuple #[txt [], .int .i64 (-1)]) := by
 unfold QuK at h
 rw [rest_at hk, hc, quo_34] at h
 unfold quoE litL
 rw [h]
 simp only [Option.map_some, List.append_nil]
 by_cases h2 : T.length ≤ 64
 ·rw [if_pos h2, if_pos h2]
  simp only
  rw [show at' + 1 + (k - (at' + 1) + 1) = k + 1 by omega]
 ·rw [if_neg h2, if_neg h2]
theorem quK_one {s : ByteArray} {at' k : Nat} {T : List UInt8} (h : QuK s at' k T) (hk : k < s.size) (h1 : at' + 1 ≤ k) (ho : okByte s[k] = true) (h34 : s[k] ≠ 34) (h92 : s[k] ≠ 92) : QuK s at' (k + 1) (T ++ [s[k]]) := by
 unfold QuK at *
 rw [h, rest_at hk, quo_one _ ho h34 h92, Option.map_map]
 congr 1
 funext x
 simp only [Function.comp, List.append_assoc, List.singleton_append]
 rw [show k - (at' + 1) + (x.2 + 1) = k + 1 - (at' + 1) + x.2 by omega]
theorem quK_two {s : ByteArray} {at' k : Nat} {T : List UInt8} (h : QuK s at' k T) (hk : k + 1 < s.size) (h1 : at' + 1 ≤ k) (h92 : s[k] = 92) (hd : s[k + 1] = 34 ∨ s[k + 1] = 92) : QuK s at' (k + 2) (T ++ [s[k + 1]]) := by
 unfold QuK at *
 rw [h, rest_at (show k < s.size by omega), rest_at hk, h92, quo_two _ hd, Option.map_map]
 congr 1
 funext x
 simp only [Function.comp, List.append_assoc, List.singleton_append]
 rw [show k - (at' + 1) + (x.2 + 2) = k + 2 - (at' + 1) + x.2 by omega]
theorem quK_bad {s : ByteArray} {k : Nat} (hk : k < s.size) (ho : okByte s[k] = false) (h34 : s[k] ≠ 34) : quo (rest s k) = none := by rw [rest_at hk, quo_bad ho h34]
theorem quK_esc {s : ByteArray} {k : Nat} (hk : k < s.size) (h92 : s[k] = 92) (hn : ∀ h : k + 1 < s.size, s[k + 1] ≠ 34 ∧ s[k + 1] ≠ 92) : quo (rest s k) = none := by
 rw [rest_at hk, h92]
 by_cases h : k + 1 < s.size
 ·obtain ⟨h1, h2⟩ := hn h
  rw [rest_at h, quo, if_neg (by decide), if_neg (by decide), if_pos rfl, if_neg (by rintro (h | h); exact h1 h; exact h2 h)]
 ·rw [rest_end (by omega)]; rfl
theorem cat_cut {s : ByteArray} {k : Nat} (h : k < s.size) (T : List UInt8) : (⟨T.toArray⟩ ++ s.extract k (k + 1) : ByteArray) = ⟨(T ++ [s[k]]).toArray⟩ := of_dataK (by rw [cat_data, list_of, cut_one h])
theorem okB_no (c : UInt8) (h : okByte c = false) : decide ((c.toNat : Int) < 32) = true ∨ decide ((c.toNat : Int) < 32) = false ∧ decide ((126 : Int) < (c.toNat : Int)) = true := by
 unfold okByte at h
 simp at h ⊢
 omega
theorem okB_yes (c : UInt8) (h : okByte c = true) : decide ((c.toNat : Int) < 32) = false ∧ decide ((126 : Int) < (c.toNat : Int)) = false := by
 unfold okByte at h
 simp at h ⊢
 omega
set_option maxHeartbeats 8000000 in
theorem rquoted_any (s : ByteArray) (at' : Nat) (w : World) (hs : s.size ≤ 20000) (ha : at' < s.size) :
  Calls Tryz.prog 45 #[.string s, .int .i64 at'] w fun e w' => e = quoE s at' ∧ w = w' := by
 have HQ0 : Hid (QuK s at' (at' + 1) []) := hide (by unfold QuK; simp)
 go_enter Tryz.func45, Tryz.ntmps45
 go_wp2_with fail
 go_loop [6, 7] (fun t i => ∃ (k : Nat) (T : List UInt8), i = .int .i64 k ∧ at' + 1 ≤ k ∧ k ≤ s.size ∧ T.length ≤ k ∧ t = txt T ∧ Hid (QuK s at' k T)) (fun _ i => s.size - (intOf i).toNat)
 case atStart => exact ⟨at' + 1, [], rfl, Nat.le_refl _, ha, Nat.zero_le _, rfl, HQ0⟩
 case round =>
  obtain ⟨k, T, rfl, hk1, hk, hT, rfl, HK⟩ := hrel
  clear HQ0
  by_cases hlt : k < s.size
  rotate_left 1
  ·have HE := hide (quoE_none HK.out (by rw [rest_end (by omega)]; rfl))
   clear HK
   go_wp2_with fail
   go_ret2
   exact ⟨HE.out.symm, rfl⟩
  by_cases h34 : s[k] = 34
  ·have t1 : ((s[k].toNat : Int) == 34) = true := byte_is s[k] 34 (by decide) h34
   have HE := hide (quoE_end HK.out hlt h34 hk1)
   clear HK
   by_cases h64 : T.length ≤ 64
   ·rw [if_pos h64] at HE
    go_wp2_with fail
    go_ret2
    exact ⟨HE.out.symm, rfl⟩
   ·rw [if_neg h64] at HE
    go_wp2_with fail
    go_ret2
    exact ⟨HE.out.symm, rfl⟩
  have t1 : ((s[k].toNat : Int) == 34) = false := byte_not s[k] 34 (by decide) h34
  cases hok : okByte s[k]
  ·have HE := hide (quoE_none HK.out (quK_bad hlt hok h34))
   clear HK
   rcases okB_no s[k] hok with d1 | ⟨d1, d2⟩
   ·clear hok
    go_wp2_with fail
    go_ret2
    exact ⟨HE.out.symm, rfl⟩
   ·clear hok
    go_wp2_with fail
    go_ret2
    exact ⟨HE.out.symm, rfl⟩
  obtain ⟨d1, d2⟩ := okB_yes s[k] hok
  by_cases h92 : s[k] = 92
  ·have t2 : ((s[k].toNat : Int) == 92) = true := byte_is s[k] 92 (by decide) h92
   by_cases hlt1 : k + 1 < s.size
   rotate_left 1
   ·have HE := hide (quoE_none HK.out (quK_esc hlt h92 (fun h => absurd h hlt1)))
    have hks : s.size = k + 1 := by omega
    have t3 : ((k : Int) + 1 == (s.size : Int)) = true := by rw [hks]; simp
    clear HK hok h92 h34
    go_wp2_with fail
    go_ret2
    exact ⟨HE.out.symm, rfl⟩
   have t3 : ((k : Int) + 1 == (s.size : Int)) = false := by simp; omega
   by_cases hq : s[k + 1] = 34
   ·have t4 : ((s[k + 1].toNat : Int) != 34) = false := byte_bne_no s[k + 1] 34 (by decide) hq
    have HN := hide (quK_two HK.out hlt1 hk1 h92 (Or.inl hq))
    have HC := hide (cat_cut hlt1 T)
    clear HK hok h92 h34 hq
    go_wp2_with fail
    go_round
    case rel => exact ⟨k + 2, T ++ [s[k + 1]], by go_num, by omega, by omega, by simp; omega, by rw [HC.out], HN⟩
    case measure => simp [intOf]; omega
   have t4 : ((s[k + 1].toNat : Int) != 34) = true := byte_bne_yes s[k + 1] 34 (by decide) hq
   by_cases hb : s[k + 1] = 92
   ·have t5 : ((s[k + 1].toNat : Int) != 92) = false := byte_bne_no s[k + 1] 92 (by decide) hb
    have HN := hide (quK_two HK.out hlt1 hk1 h92 (Or.inr hb))
    have HC := hide (cat_cut hlt1 T)
    clear HK hok h92 h34 hq hb
    go_wp2_with fail
    go_round
    case rel => exact ⟨k + 2, T ++ [s[k + 1]], by go_num, by omega, by omega, by simp; omega, by rw [HC.out], HN⟩
    case measure => simp [intOf]; omega
   ·have t5 : ((s[k + 1].toNat : Int) != 92) = true := byte_bne_yes s[k + 1] 92 (by decide) hb
    have HE := hide (quoE_none HK.out (quK_esc hlt h92 (fun _ => ⟨hq, hb⟩)))
    clear HK hok h92 h34 hq hb
    go_wp2_with fail
    go_ret2
    exact ⟨HE.out.symm, rfl⟩
  ·have t2 : ((s[k].toNat : Int) == 92) = false := byte_not s[k] 92 (by decide) h92
   have HN := hide (quK_one HK.out hlt hk1 hok h34 h92)
   have HC := hide (cat_cut hlt T)
   clear HK hok h92 h34
   go_wp2_with fail
   go_round
   case rel => exact ⟨k + 1, T ++ [s[k]], by go_num, by omega, by omega, by simp; omega, by rw [HC.out], HN⟩
   case measure => simp [intOf]; omega
end Go.Proofs.YtljoajjlkjjgeaaGreatDoor
