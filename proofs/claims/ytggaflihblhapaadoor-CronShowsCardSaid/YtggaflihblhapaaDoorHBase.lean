/-
  Words that the walks of the cron seat share; bits, spans and full sets.
-/
import Derived.Test.YtggaflihblhapaaDoorCMonth
import Derived.Test.YtggaflihblhapaaDoorCRef
import Derived.Test.YtggaflihblhapaaDoorHMath
import Derived.Laws.BitsAll
import Derived.Lib.LaidTab
namespace Go.Proofs.YtggaflihblhapaaDoor
open Go.RowKit CM HM

/-- A spec as a value. -/
abbrev vC (c : Sp) : Value := .agg #[.int .u64 (c.S 0 : Nat), .int .u64 (c.S 1 : Nat), .int .u64 (c.S 2 : Nat), .int .u64 (c.S 3 : Nat), .int .u64 (c.S 4 : Nat), .bool (c.A 0), .bool (c.A 1), .bool (c.A 2), .bool (c.A 3), .bool (c.A 4)]
/-- The fields' bounds lie in their variables. -/
def Bnd (w : World) : Prop := (∀ i, i < 5 → w.cell? ⟨1, i, none⟩ = some (.int .i64 (loN i : Nat))) ∧ ∀ i, i < 5 → w.cell? ⟨2, i, none⟩ = some (.int .i64 (hiN i : Nat))
theorem lt_of_cell {w : World} {a o : Nat} {v : Value} (h0 : w.cell? ⟨a, o, none⟩ = some v) : a < w.heap.size := by
  rcases Nat.lt_or_ge a w.heap.size with h' | h'
  · exact h'
  · exfalso
    have : w.heap[a]? = none := Array.getElem?_eq_none h'
    simp [World.cell?, this] at h0
theorem Bnd.stays {B : Nat} {w w' : World} (h : Bnd w) (hB : w.heap.size ≤ B) (hb : Below B w w') : Bnd w' :=
  ⟨fun i hi => (hb.cell (p := ⟨1, i, none⟩) (Nat.lt_of_lt_of_le (lt_of_cell (h.1 i hi)) hB)).trans (h.1 i hi),
   fun i hi => (hb.cell (p := ⟨2, i, none⟩) (Nat.lt_of_lt_of_le (lt_of_cell (h.2 i hi)) hB)).trans (h.2 i hi)⟩
theorem Bnd.on {w w' : World} (h : Bnd w) (hb : Below w.heap.size w w') : Bnd w' := h.stays (Nat.le_refl _) hb
/-- The table that math/bits.TrailingZeros64 reads. -/
def Bru (w : World) : Prop := ∀ i, i < 64 → w.cell? ⟨6, i, none⟩ = some (.int .u8 (Lib.deBruijn64tab.getD i 0))
theorem Bru.stays {B : Nat} {w w' : World} (h : Bru w) (hB : w.heap.size ≤ B) (hb : Below B w w') : Bru w' :=
  fun i hi => (hb.cell (p := ⟨6, i, none⟩) (Nat.lt_of_lt_of_le (lt_of_cell (h i hi)) hB)).trans (h i hi)
theorem Bru.on {w w' : World} (h : Bru w) (hb : Below w.heap.size w w') : Bru w' := h.stays (Nat.le_refl _) hb
theorem u64_shr (S n : Nat) : (S : Int) / 2 ^ n = ((S / 2 ^ n : Nat) : Int) := by
  rw [Int.natCast_ediv, Int.natCast_pow]; rfl
theorem has_eq (S n : Nat) (hS : S < 18446744073709551616) : (bits .and .u64 ((S : Int) / 2 ^ n) 1 == 1) = S.testBit n := by
  have h1 : S / 2 ^ n < 18446744073709551616 := Nat.lt_of_le_of_lt (Nat.div_le_self _ _) hS
  rw [u64_shr, show (1 : Int) = ((1 : Nat) : Int) from rfl, u64_and_nat _ 1 h1 (by omega), Nat.and_one_is_mod, has_pow]
  cases S.testBit n <;> rfl
theorem has_any (S : Nat) (n : Int) (w : World) (hS : S < 18446744073709551616) (h0 : 0 ≤ n) (h1 : n ≤ 63) : Calls Tryd.prog 51 #[.int .u64 (S : Nat), .int .i64 n] w fun e w' => e = .returned (.bool (S.testBit n.toNat)) ∧ w = w' := by
  obtain ⟨k, rfl⟩ := Int.eq_ofNat_of_zero_le h0
  have HE := hide (has_eq S k hS)
  go_enter Tryd.func51, Tryd.ntmps51
  go_wp2
  go_ret
  exact ⟨ret_bool (by simpa using HE.out), rfl⟩
theorem up_eq (S n : Nat) (hS : S < 18446744073709551616) : IntKind.u64.wrap ((S : Int) / 2 ^ n * 2 ^ n) = ((upN S n : Nat) : Int) := by
  have h := upN_le S n
  have e : (S : Int) / 2 ^ n * 2 ^ n = ((upN S n : Nat) : Int) := by
    rw [u64_shr, upN, Int.natCast_mul, Int.natCast_pow]; rfl
  rw [e, IntKind.wrap_u64]
  omega
theorem up_any (S : Nat) (n : Int) (w : World) (hS : S < 18446744073709551616) (h0 : 0 ≤ n) (h1 : n ≤ 63) : Calls Tryd.prog 97 #[.int .u64 (S : Nat), .int .i64 n] w fun e w' => e = .returned (.int .u64 (upN S n.toNat : Nat)) ∧ w = w' := by
  obtain ⟨k, rfl⟩ := Int.eq_ofNat_of_zero_le h0
  have HE := hide (up_eq S k hS)
  go_enter Tryd.func97, Tryd.ntmps97
  go_wp2
  go_ret
  exact ⟨ret_int (by simpa using HE.out), rfl⟩
theorem or_eq (a n : Nat) (ha : a < 18446744073709551616) (hn : n < 64) : bits .or .u64 (a : Int) (IntKind.u64.wrap (1 * 2 ^ n)) = ((a ||| 2 ^ n : Nat) : Int) := by
  have hp : (2 : Nat) ^ n < 18446744073709551616 := by
    have : (2 : Nat) ^ n < 2 ^ 64 := Nat.pow_lt_pow_right (by omega) hn
    exact this
  have e : IntKind.u64.wrap (1 * 2 ^ n) = ((2 ^ n : Nat) : Int) := by
    rw [IntKind.wrap_u64, Int.one_mul, show (2 : Int) ^ n = ((2 ^ n : Nat) : Int) by rw [Int.natCast_pow]; rfl]
    exact Int.emod_eq_of_lt (Int.natCast_nonneg _) (Int.ofNat_lt.2 hp)
  rw [e, u64_or_nat _ _ ha hp]
set_option maxHeartbeats 1000000 in
theorem span_any (a b s : Nat) (w : World) (ha : a ≤ 63) (hb : b ≤ 63) (hs : 1 ≤ s) (hs1 : s ≤ 99) : Calls Tryd.prog 58 #[.int .i64 (a : Nat), .int .i64 (b : Nat), .int .i64 (s : Nat)] w fun e w' => e = .returned (.int .u64 (spanN a b s : Nat)) ∧ w = w' := by
  go_enter Tryd.func58, Tryd.ntmps58
  go_wp2
  go_loop [7, 8] (fun t n => ∃ k : Nat, a ≤ k ∧ k ≤ 200 ∧ (k - a) % s = 0 ∧ n = .int .i64 (k : Nat) ∧ t = .int .u64 (upto a b s k : Nat)) (fun _ n => 300 - (intOf n).toNat)
  case atStart => exact ⟨a, by omega, by omega, by simp, rfl, by rw [upto_start]; rfl⟩
  case round =>
    obtain ⟨k, hk, hk2, hm, rfl, rfl⟩ := hrel
    by_cases hc : k ≤ b
    · have HE := hide (or_eq (upto a b s k) k (upto_lt _ _ _ _) (by omega))
      have HS := hide (upto_step hs hk hc hb hm)
      have HM := hide hm
      clear hm
      go_wp2
      go_round
      case rel => exact ⟨k + s, by omega, by omega, by rw [show k + s - a = (k - a) + s by omega, Nat.add_mod_right]; exact HM.out, by simp, by rw [HS.out, ← HE.out]; simp⟩
      case measure => simp [intOf]; omega
    · have HE := hide (upto_done (a := a) (b := b) (s := s) (n := k) (by omega))
      clear hm
      go_wp2
      go_ret
      exact ⟨ret_int (by rw [HE.out]), rfl⟩
theorem full_any (f : Nat) (w : World) (hf : f < 5) (hB : Bnd w) : Calls Tryd.prog 34 #[.int .i64 (f : Nat)] w fun e w' => e = .returned (.int .u64 (maskN f : Nat)) ∧ Below w.heap.size w w' := by
  have c1 := hB.1 f hf
  have c2 := hB.2 f hf
  clear hB
  have hl := lohi f
  have HS := hide (fun w => span_any (loN f) (hiN f) 1 w (by omega) (by omega) (by omega) (by omega))
  clear hl
  go_enter Tryd.func34, Tryd.ntmps34
  go_wp2_with fail
  go_quiet ((go_at_call 58; exact Calls.quiet_of_same ((HS.out _).mono fun e w' h => ⟨h.1, h.2.symm⟩)))
  go_wp2_with fail
  go_ret
  exact ⟨rfl, Joins.below_draws _ _ _⟩
end Go.Proofs.YtggaflihblhapaaDoor
