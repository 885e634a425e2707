/-
  The reference's Lex.
-/
import Derived.Test.YtljoajjlkjjgeaaGreatDoorLRefS
import Derived.Test.YtljoajjlkjjgeaaGreatDoorLShowsW
namespace Go.Proofs.YtljoajjlkjjgeaaGreatDoor
open Go.RowKit Go.Sort LM

/-- Between two places of the reference. -/
def MidG (s : ByteArray) (X : Res) (L : List Tk) (p : Nat) : Prop := ∃ f, s.size - p < f ∧ X = joinT L (lexG f (rest s p) p)
theorem midG_end {s : ByteArray} {X : Res} {L : List Tk} {p : Nat} (h : MidG s X L p) (hp : s.size ≤ p) : X = (L, p, 0) := by
 obtain ⟨f, -, rfl⟩ := h
 rw [rest_end hp]
 unfold lexG
 rw [show gap [] = 0 from rfl, List.drop_nil, lexF_end, joinT_ok rfl]; simp
theorem midG_blank {s : ByteArray} {X : Res} {L : List Tk} {p : Nat} (h : MidG s X L p) (hp : p < s.size) (hc : s[p] = 32 ∨ s[p] = 9 ∨ s[p] = 10) : MidG s X L (p + 1) := by
 obtain ⟨f, hf, rfl⟩ := h
 refine ⟨f, by omega, ?_⟩
 unfold lexG
 rw [rest_at hp]
 have e : gap (s[p] :: rest s (p + 1)) = gap (rest s (p + 1)) + 1 := by show preS skF false _ = _; rw [preS, sk_blank hc, if_pos rfl]
 rw [e, List.drop_succ_cons, show p + (gap (rest s (p + 1)) + 1) = p + 1 + gap (rest s (p + 1)) by omega]
/-- Within a remark. -/
def Rem (s : ByteArray) (X : Res) (L : List Tk) (p q : Nat) : Prop := MidG s X L p ∧ gap (rest s p) = (q - p) + preS skF true (rest s q)
theorem rem_start {s : ByteArray} {X : Res} {L : List Tk} {p : Nat} (h : MidG s X L p) (hp : p < s.size) (hc : s[p] = 35) : Rem s X L p p := by
 refine ⟨h, ?_⟩
 rw [Nat.sub_self, Nat.zero_add, rest_at hp, hc]
 show preS skF false (35 :: rest s (p + 1)) = preS skF true (35 :: rest s (p + 1))
 rfl
theorem rem_step {s : ByteArray} {X : Res} {L : List Tk} {p q : Nat} (h : Rem s X L p q) (hq : q < s.size) (hpq : p ≤ q) (hc : s[q] ≠ 10) : Rem s X L p (q + 1) := by
 refine ⟨h.1, ?_⟩
 have h2 := h.2
 rw [rest_at hq] at h2
 have e : skF true s[q] = (true, true) := by
  unfold skF skB
  by_cases h35 : s[q] = 35
  ·rw [if_pos h35]; rfl
  ·rw [if_neg h35, if_neg hc]; rfl
 rw [preS, e, if_pos rfl] at h2
 simp only at h2
 omega
theorem rem_end {s : ByteArray} {X : Res} {L : List Tk} {p q : Nat} (h : Rem s X L p q) (hpq : p ≤ q) (hqs : q ≤ s.size) (he : q = s.size ∨ ∃ h : q < s.size, s[q] = 10) : MidG s X L q := by
 obtain ⟨⟨f, hf, rfl⟩, h2⟩ := h
 have e : preS skF true (rest s q) = gap (rest s q) := by
  rcases he with he | ⟨hq, hc⟩
  ·rw [rest_end (by omega)]; rfl
  ·rw [rest_at hq, hc]; rfl
 rw [e] at h2
 refine ⟨f, by omega, ?_⟩
 unfold lexG
 rw [h2]
 have : (rest s p).drop (q - p + gap (rest s q)) = (rest s q).drop (gap (rest s q)) := by
  rw [← List.drop_drop, rest_rest, show p + (q - p) = q by omega]
 rw [this, show p + (q - p + gap (rest s q)) = q + gap (rest s q) by omega]
theorem gap_zero {s : ByteArray} {p : Nat} (hp : p < s.size) (hc : sepB s[p] = false) : gap (rest s p) = 0 := by
 rw [rest_at hp]
 show preS skF false _ = 0
 rw [preS, sk_no hc]; rfl
theorem midG_no {s : ByteArray} {X : Res} {L : List Tk} {p : Nat} {z : Int} (h : MidG s X L p) (hp : p < s.size) (hc : sepB s[p] = false) (ht : tokL (rest s p) = .no z) : X = ([], p, z) := by
 obtain ⟨f, hf, rfl⟩ := h
 obtain ⟨f, rfl⟩ : ∃ g, f = g + 1 := ⟨f - 1, by omega⟩
 unfold lexG
 rw [gap_zero hp hc, List.drop_zero, Nat.add_zero, lexF_no (rest_ne hp) ht, joinT_no (by rcases tokNo_ne ht with rfl | rfl <;> (intro h; cases h))]
 rfl
theorem midG_ok {s : ByteArray} {X : Res} {L : List Tk} {p : Nat} {k n : Int} {t : List UInt8} {m : Nat} (h : MidG s X L p) (hp : p < s.size) (hc : sepB s[p] = false) (ht : tokL (rest s p) = .ok k t n m) :
  MidG s X (L ++ [⟨k, t, n, p⟩]) (p + m) := by
 obtain ⟨f, hf, rfl⟩ := h
 obtain ⟨f, rfl⟩ : ∃ g, f = g + 1 := ⟨f - 1, by omega⟩
 have hm := (tok_some ht).1
 refine ⟨f, by omega, ?_⟩
 unfold lexG
 rw [gap_zero hp hc, List.drop_zero, Nat.add_zero, lexF_ok (rest_ne hp) ht, joinT_join, rest_rest]
 rfl
theorem rtok_info : (Tryz.prog.info? 87).map (fun i => (i.zero, i.size, i.bytes)) = some (some (.agg #[.int .i64 0, .string ⟨#[]⟩, .int .i64 0, .int .i64 0]), 4, 40) := by kernel_rfl

/-! Digits, as the reference reckons with them. -/
/-- What stands in t.Int and in over. -/
def DigI (l : List UInt8) (n : Int) (o : Bool) : Prop := if valN l < 9223372036854775808 then n = (valN l : Nat) ∧ o = false else o = true
theorem digI_nil : DigI [] 0 false := by unfold DigI; rw [if_pos (by decide)]; exact ⟨rfl, rfl⟩
/-- Does one digit more not fit? -/
def overB (n d : Int) : Bool := decide (922337203685477580 < n) || (n == 922337203685477580 && decide (7 < d))
theorem digI_step {l : List UInt8} {n : Int} {o : Bool} {c : UInt8} (h : DigI l n o) (hc : digP c = true) :
  DigI (l ++ [c]) (if (o || overB n ((c.toNat : Int) - 48)) then n else n * 10 + ((c.toNat : Int) - 48)) (o || overB n ((c.toNat : Int) - 48)) ∧ (o = false → 0 ≤ n ∧ n ≤ 9223372036854775807) := by
 unfold digP at hc
 simp only [Bool.and_eq_true, decide_eq_true_eq] at hc
 unfold DigI at *
 rw [val_snoc]
 by_cases h1 : valN l < 9223372036854775808
 ·rw [if_pos h1] at h
  obtain ⟨rfl, rfl⟩ := h
  refine ⟨?_, fun _ => by omega⟩
  rw [Bool.false_or]
  unfold overB
  by_cases h2 : valN l * 10 + (c.toNat - 48) < 9223372036854775808
  ·rw [if_pos h2]
   have e1 : decide ((922337203685477580 : Int) < (valN l : Nat)) = false := by simp; omega
   have e2 : (((valN l : Nat) : Int) == 922337203685477580 && decide ((7 : Int) < (c.toNat : Int) - 48)) = false := by
    rw [Bool.and_eq_false_iff]
    by_cases h3 : valN l = 922337203685477580
    ·right; simp; omega
    ·left; rw [beq_eq_false_iff_ne]; omega
   rw [e1, e2]
   simp only [Bool.or_self, Bool.false_eq_true, if_false]
   exact ⟨by omega, trivial⟩
  ·rw [if_neg h2]
   by_cases h3 : valN l = 922337203685477580
   ·have e2 : (((valN l : Nat) : Int) == 922337203685477580 && decide ((7 : Int) < (c.toNat : Int) - 48)) = true := by
     rw [Bool.and_eq_true]
     exact ⟨by rw [beq_iff_eq]; omega, by rw [decide_eq_true_iff]; omega⟩
    rw [e2, Bool.or_true]
   ·have e1 : decide ((922337203685477580 : Int) < (valN l : Nat)) = true := by rw [decide_eq_true_iff]; omega
    rw [e1, Bool.true_or]
 ·rw [if_neg h1] at h
  subst h
  rw [if_neg (by omega)]
  exact ⟨by simp, fun h => by cases h⟩
end Go.Proofs.YtljoajjlkjjgeaaGreatDoor
