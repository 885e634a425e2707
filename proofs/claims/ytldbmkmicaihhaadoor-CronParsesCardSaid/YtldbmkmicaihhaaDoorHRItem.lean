/-
  The reference's item.
-/
import Derived.Test.YtldbmkmicaihhaaDoorHRItm
import Derived.Test.YtldbmkmicaihhaaDoorHRefR
import Derived.Test.YtldbmkmicaihhaaDoorHFit
import Derived.Test.YtldbmkmicaihhaaDoorHBetw
namespace Go.Proofs.YtldbmkmicaihhaaDoor
open Go.RowKit CM HM

/-- Block b is a row of fields that reads as h. -/
def RowB (w : World) (b : Nat) (h : Nat → Bool) : Prop :=
  ∃ arr : Array Value, arr.size = 325 ∧ w.heap[b]? = some (.cells arr 35 (0, 0)) ∧ ∀ i, i < 325 → arr[i]? = some (.bool (h i))
theorem RowB.lt {w : World} {b : Nat} {h : Nat → Bool} (hr : RowB w b h) : b < w.heap.size := by
  obtain ⟨arr, a1, a2, a3⟩ := hr
  exact (Array.getElem?_eq_some_iff.1 a2).1
theorem RowB.cell {w : World} {b : Nat} {h : Nat → Bool} (hr : RowB w b h) {i : Nat} (hi : i < 325) : w.cell? ⟨b, i, none⟩ = some (.bool (h i)) ∧ w.frozen? ⟨b, i, none⟩ = false := by
  obtain ⟨arr, a1, a2, a3⟩ := hr
  exact ⟨by rw [cell_of_row w b i arr _ (0, 0) a2, a3 i hi], by simp [World.frozen?, a2]⟩
theorem RowB.same {w w' : World} {b : Nat} {h : Nat → Bool} (hr : RowB w b h) (hb : w'.heap[b]? = w.heap[b]?) : RowB w' b h := by
  obtain ⟨arr, a1, a2, a3⟩ := hr
  exact ⟨arr, a1, hb.trans a2, a3⟩
theorem RowB.on {w w' : World} {b : Nat} {h : Nat → Bool} (hr : RowB w b h) (hb : Below w.heap.size w w') : RowB w' b h := hr.same (hb.block b hr.lt)
theorem RowB.set {w : World} {b : Nat} {h : Nat → Bool} (hr : RowB w b h) (i : Nat) (v : Bool) : RowB (w.setCell ⟨b, i, none⟩ (.bool v)) b (fun j => if j = i then v else h j) := by
  obtain ⟨arr, a1, a2, a3⟩ := hr
  refine ⟨arr.setIfInBounds i (.bool v), by simp [a1], ?_, fun j hj => ?_⟩
  · rw [setCell_eq_setRow w b i arr _ (0, 0) _ a2]
    exact setRow_heap w b arr _ _ (0, 0) a2
  · rw [Array.getElem?_setIfInBounds]
    by_cases e : i = j
    · subst e; simp [a1, hj]
    · rw [if_neg e]
      show arr[j]? = some (.bool (if j = i then v else h j))
      rw [if_neg (fun x => e x.symm), a3 j hj]
theorem RowB.ext {w : World} {b : Nat} {h g : Nat → Bool} (hr : RowB w b h) (he : ∀ i, i < 325 → h i = g i) : RowB w b g := by
  obtain ⟨arr, a1, a2, a3⟩ := hr
  exact ⟨arr, a1, a2, fun i hi => by rw [a3 i hi, he i hi]⟩
theorem grown_set (w : World) (b i : Nat) (v : Value) : w.grownBy (w.setCell ⟨b, i, none⟩ v) (some b) :=
  ⟨rfl, rfl, rfl, by simp, fun k _ hk => Below.heap_setCell w ⟨b, i, none⟩ v k (fun e => hk (by simp [e]))⟩
theorem grown_trans {w w1 w2 : World} {b : Nat} (h : w.grownBy w1 (some b)) (h2 : w1.grownBy w2 (some b)) : w.grownBy w2 (some b) :=
  ⟨h2.os.trans h.os, h2.tape.trans h.tape, h2.output.trans h.output, Nat.le_trans h.size h2.size, fun k hk hne => (h2.block k (Nat.lt_of_lt_of_le hk h.size) hne).trans (h.block k hk hne)⟩
theorem grown_below {w w1 : World} {b : Nat} (h : Below w.heap.size w w1) : w.grownBy w1 (some b) := only_of_below h _
theorem rn_bd {l : List UInt8} {p : Nat} (hp : p ≤ l.length) (h : ¬ rnE l p < 0) : ∃ k : Nat, rnE l p = (k : Int) ∧ p < k ∧ k ≤ l.length := by
  obtain ⟨d, rest, e1, e2, e3, e4⟩ := rn_to h
  have h1 := congrArg List.length e1
  rw [List.length_drop, List.length_append] at h1
  have h2 : d.length ≠ 0 := fun e => numB_ne e2 (List.length_eq_zero_iff.1 e)
  exact ⟨p + d.length, e3, by omega, by omega⟩
theorem rnV_le (l : List UInt8) (p : Nat) : rnV l p ≤ 99 := by
  by_cases h : rnE l p < 0
  · unfold rnV
    by_cases hc : ((l.drop p).takeWhile dig?).length = 0 ∨ 2 < ((l.drop p).takeWhile dig?).length
    · rw [if_pos hc]; omega
    · exfalso
      unfold rnE at h
      rw [if_neg hc] at h
      omega
  · obtain ⟨d, rest, e1, e2, e3, e4⟩ := rn_to h
    rw [e4]; exact numV_le d
theorem byte_ne {b c : UInt8} (h : ¬ b = c) : ((b.toNat : Int) == (c.toNat : Int)) = false := by
  rw [beq_eq_false_iff_ne]
  intro e
  exact h (UInt8.toNat_inj.1 (by omega))
/-- The error of an item. -/
def iE (f : Nat) (l : List UInt8) : Int := match rI f l with
  | none => 20
  | some (a, z, s) => if fitB f a z s = true then 0 else 30
theorem iE_none {f : Nat} {l : List UInt8} (h : rI f l = none) : iE f l = 20 := by unfold iE; rw [h]
theorem iE_no {f : Nat} {l : List UInt8} {a z s : Nat} (h : rI f l = some (a, z, s)) (hf : fitB f a z s = false) : iE f l = 30 := by unfold iE; rw [h]; simp [hf]
theorem iE_yes {f : Nat} {l : List UInt8} {a z s : Nat} (h : rI f l = some (a, z, s)) (hf : fitB f a z s = true) : iE f l = 0 := by unfold iE; rw [h]; simp [hf]
/-- What an item adds to the row. -/
def addI (f : Nat) (l : List UInt8) (h : Nat → Bool) (i : Nat) : Bool := match rI f l with
  | none => h i
  | some (a, z, s) => h i || (decide (65 * f ≤ i) && (decide (i < 65 * f + 64) && inS a z s (i - 65 * f)))
def ItOut (f : Nat) (l : List UInt8) (b : Nat) (h : Nat → Bool) (w : World) (e : Ending) (w' : World) : Prop :=
  e = .returned (.int .i64 (iE f l)) ∧ w.grownBy w' (some b) ∧ (iE f l = 0 → RowB w' b (addI f l h))
theorem it_fail {f : Nat} {l : List UInt8} {b : Nat} {h : Nat → Bool} {w w' : World} (hn : rI f l = none) (hg : w.grownBy w' (some b)) : ItOut f l b h w (.returned (.int .i64 20)) w' :=
  ⟨by rw [iE_none hn], hg, fun h0 => by rw [iE_none hn] at h0; cases h0⟩
theorem it_range {f : Nat} {l : List UInt8} {b : Nat} {h : Nat → Bool} {w w' : World} {a z s : Nat} (hn : rI f l = some (a, z, s)) (hf : fitB f a z s = false) (hg : w.grownBy w' (some b)) : ItOut f l b h w (.returned (.int .i64 30)) w' :=
  ⟨by rw [iE_no hn hf], hg, fun h0 => by rw [iE_no hn hf] at h0; cases h0⟩
theorem row_start (h : Nat → Bool) (f a z s i : Nat) : h i = (h i || (decide (65 * f ≤ i) && (decide (i < 65 * f + 64) && (inS a z s (i - 65 * f) && decide (i - 65 * f < a))))) := by
  unfold inS
  by_cases e : a ≤ i - 65 * f
  · rw [decide_eq_false (show ¬ i - 65 * f < a by omega)]; simp
  · rw [decide_eq_false e]; simp
theorem row_hit (h : Nat → Bool) (f a z s n i : Nat) (h0 : a ≤ n) (h1 : n ≤ z) (hm : (n - a) % s = 0) (hn : n < 64) : (if i = f * 65 + n then true else (h i || (decide (65 * f ≤ i) && (decide (i < 65 * f + 64) && (inS a z s (i - 65 * f) && decide (i - 65 * f < n)))))) = (h i || (decide (65 * f ≤ i) && (decide (i < 65 * f + 64) && (inS a z s (i - 65 * f) && decide (i - 65 * f < n + 1))))) := by
  by_cases e : i = f * 65 + n
  · rw [if_pos e]
    have e2 : i - 65 * f = n := by omega
    have e3 : inS a z s n = true := by unfold inS; rw [decide_eq_true h0, decide_eq_true h1, decide_eq_true hm]; rfl
    rw [e2, e3, decide_eq_true (show 65 * f ≤ i by omega), decide_eq_true (show i < 65 * f + 64 by omega), decide_eq_true (show n < n + 1 by omega)]
    simp
  · rw [if_neg e]
    by_cases h3 : 65 * f ≤ i
    · have : decide (i - 65 * f < n) = decide (i - 65 * f < n + 1) := by congr 1; exact propext ⟨fun h => by omega, fun h => by omega⟩
      rw [this]
    · rw [decide_eq_false h3]; rfl
theorem row_miss (h : Nat → Bool) (f a z s n i : Nat) (hm : ¬ (n - a) % s = 0) : (h i || (decide (65 * f ≤ i) && (decide (i < 65 * f + 64) && (inS a z s (i - 65 * f) && decide (i - 65 * f < n))))) = (h i || (decide (65 * f ≤ i) && (decide (i < 65 * f + 64) && (inS a z s (i - 65 * f) && decide (i - 65 * f < n + 1))))) := by
  by_cases e : i - 65 * f = n
  · have : inS a z s n = false := by unfold inS; rw [decide_eq_false hm]; simp
    rw [e, this]; rfl
  · have : decide (i - 65 * f < n) = decide (i - 65 * f < n + 1) := by congr 1; exact propext ⟨fun h => by omega, fun h => by omega⟩
    rw [this]
theorem row_done (h : Nat → Bool) (f a z s n i : Nat) (hz : z < n) : (h i || (decide (65 * f ≤ i) && (decide (i < 65 * f + 64) && (inS a z s (i - 65 * f) && decide (i - 65 * f < n))))) = (h i || (decide (65 * f ≤ i) && (decide (i < 65 * f + 64) && inS a z s (i - 65 * f)))) := by
  by_cases e : i - 65 * f < n
  · rw [decide_eq_true e, Bool.and_true]
  · have : inS a z s (i - 65 * f) = false := by unfold inS; rw [decide_eq_false (show ¬ i - 65 * f ≤ z by omega)]; simp
    rw [this]; rfl
set_option maxRecDepth 100000 in
set_option maxHeartbeats 8000000 in
theorem ritem_any (f : Nat) (s : ByteArray) (b : Nat) (h : Nat → Bool) (w : World) (hf : f < 5) (hs : s.size ≤ 1000000) (hr : RowB w b h) : Calls Tryd.prog 31 #[.int .i64 (f : Nat), .string s, .pointer (some ⟨b, f * 65, none⟩)] w (ItOut f s.data.toList b h w) := by
  have HL := hide (fun w => (rlow_any f w hf).mono fun _ _ h => (⟨h.1, h.2.symm⟩ : _ ∧ _))
  have HH := hide (fun w => rhigh_any f w hf)
  have HNm := hide (fun p w hp => (rnum_any s p w hs hp).mono fun _ _ h => (⟨h.1, h.2.symm⟩ : _ ∧ _))
  have HRB := hide hr
  have HLn : Hid (s.data.toList.length = s.size) := hide (by simp)
  have HG : Hid (∀ k (h : k < s.size), s[k]'h = s.data.toList.getD k 0) := hide (fun k h => by
    rw [List.getD_eq_getElem?_getD, Lib.data_getElem? s k h]; rfl)
  have HG0 : Hid (s.size = 0 → s.data.toList.getD 0 0 = 0) := hide (fun h => by
    rw [List.length_eq_zero_iff.1 (HLn.out.trans h)]; rfl)
  have HBd : Hid (∀ p, p ≤ s.size → ¬ rnE s.data.toList p < 0 → ∃ k : Nat, rnE s.data.toList p = (k : Int) ∧ p < k ∧ k ≤ s.size) := hide (fun p hp hn => by
    have := rn_bd (by rw [HLn.out]; exact hp) hn
    rw [HLn.out] at this; exact this)
  have HV : Hid (∀ p, rnV s.data.toList p ≤ 99) := hide (fun p => rnV_le _ p)
  have HFt : Hid (∀ a z st, fitB f a z st = (decide (loN f ≤ a) && (decide (a ≤ z) && (decide (z ≤ hiN f) && (decide (1 ≤ st) && decide (st ≤ 59)))))) := hide (fun _ _ _ => rfl)
  have HFh : Hid (hiN f ≤ 59) := hide (lohi f).2.2
  have HLh : Hid (loN f ≤ hiN f) := hide (by have := lohi f; omega)
  have HI := hide (rI.eq_def f s.data.toList)
  rw [HLn.out] at HI
  have HIO := hide (fun (w' : World) (a z st : Nat) (h1 : rI f s.data.toList = some (a, z, st)) (h2 : fitB f a z st = true) (hg : w.grownBy w' (some b)) (h3 : RowB w' b (fun i => h i || (decide (65 * f ≤ i) && (decide (i < 65 * f + 64) && inS a z st (i - 65 * f))))) => (⟨by rw [iE_yes h1 h2], hg, fun _ => by unfold addI; rw [h1]; exact h3⟩ : ItOut f s.data.toList b h w (.returned (.int .i64 0)) w'))
  have HIF := hide (fun (w' : World) (h1 : rI f s.data.toList = none) (hg : w.grownBy w' (some b)) => (it_fail h1 hg : ItOut f s.data.toList b h w (.returned (.int .i64 20)) w'))
  have HIR := hide (fun (w' : World) (a z st : Nat) (h1 : rI f s.data.toList = some (a, z, st)) (h2 : fitB f a z st = false) (hg : w.grownBy w' (some b)) => (it_range h1 h2 hg : ItOut f s.data.toList b h w (.returned (.int .i64 30)) w'))
  generalize hlL : s.data.toList = l at *
  generalize hlo : loN f = lo at *
  generalize hhi : hiN f = hi at *
  clear hr hlL hlo hhi
  go_enter Tryd.func31, Tryd.ntmps31
  go_wp2_with ((go_at_call 29; refine (HL.out _).mono ?_; rintro e w' ⟨rfl, rfl⟩))
  go_wp2_with (go_at_call 29; refine (HL.out _).mono ?_; rintro e w' ⟨rfl, rfl⟩)
  refine (HH.out _).mono ?_
  rintro e w1 ⟨rfl, hb1⟩
  have HW1 : Hid (w.grownBy w1 (some b)) := hide (grown_below hb1)
  have HR1 : Hid (RowB w1 b h) := hide (HRB.out.on hb1)
  clear hb1
  by_cases h0 : s.size = 0
  · have g0 : ¬ l.getD 0 0 = 42 := by rw [HG0.out h0]; decide
    have hE : rnE l 0 < 0 := Classical.byContradiction fun hn => by
      obtain ⟨k, -, k1, k2⟩ := HBd.out 0 (by omega) (by omega)
      omega
    have HE := hide hE
    go_wp2_with fail
    refine (HNm.out (0) _ (by omega)).mono ?_
    rintro e w' ⟨rfl, rfl⟩
    go_wp2_with fail
    go_ret
    exact HIF.out _ (by rw [HI.out, if_neg g0, if_pos HE.out]) HW1.out
  · have hs0 : 0 < s.size := by omega
    have hd : (0 : Int) < (s.size : Int) := by omega
    obtain ⟨b0, hb0⟩ : ∃ b0 : UInt8, s[0]'hs0 = b0 := ⟨_, rfl⟩
    have hg0 := HG.out 0 hs0
    rw [hb0] at hg0
    have HG0 := hide hg0.symm
    clear hg0
    by_cases hst : b0 = 42
    · have HS0 : Hid (l.getD 0 0 = 42) := hide (by rw [HG0.out]; exact hst)
      have hbI : ((b0.toNat : Int) == 42) = true := by rw [hst]; rfl
      clear hst
      by_cases h1 : 1 < s.size
      · obtain ⟨b1, hb1⟩ : ∃ b1 : UInt8, s[1]'h1 = b1 := ⟨_, rfl⟩
        have hg1 := HG.out 1 h1
        rw [hb1] at hg1
        have HG1 := hide hg1.symm
        have h1I : (1 : Int) < (s.size : Int) := by omega
        clear hg1
        by_cases h47 : b1 = 47
        · have h47I : ((b1.toNat : Int) == 47) = true := by rw [h47]; rfl
          have HC : Hid (1 < s.size ∧ l.getD 1 0 = 47) := hide ⟨h1, by rw [HG1.out]; exact h47⟩
          clear h47
          go_wp2_with fail
          refine (HNm.out (2) _ (by omega)).mono ?_
          rintro e w' ⟨rfl, rfl⟩
          by_cases hE2 : rnE l 2 < 0
          · have HE2 := hide hE2
            go_wp2_with fail
            go_ret
            exact HIF.out _ (by rw [HI.out, if_pos HS0.out, if_pos HC.out, if_pos HE2.out]) HW1.out
          · obtain ⟨k2, hk2, hk3, hk4⟩ := HBd.out 2 (by omega) (by omega)
            have HK2 := hide hk2
            have HE2 : Hid (0 ≤ rnE l 2) := hide (by omega)
            rw [hk2]
            clear hk2 hE2
            by_cases he : k2 = s.size
            · subst he
              have HRI : Hid (rI f l = some (lo, hi, rnV l 2)) := hide (by rw [HI.out, if_pos HS0.out, if_pos HC.out, if_neg (Int.not_lt.2 HE2.out), HK2.out, if_pos rfl])
              by_cases c1 : lo ≤ lo
              · have c1I : (lo : Int) ≤ ((lo : Nat) : Int) := by omega
                go_wp2_with (go_at_call 29; refine (HL.out _).mono ?_; rintro e w' ⟨rfl, rfl⟩)
                refine (HH.out _).mono ?_
                rintro e w2 ⟨rfl, hb2⟩
                have HW2 : Hid (w.grownBy w2 (some b)) := hide (grown_trans HW1.out (grown_below hb2))
                have HR2 : Hid (RowB w2 b h) := hide (HR1.out.on hb2)
                clear hb2
                by_cases c2 : hi ≤ hi
                · have c2I : ((hi : Nat) : Int) ≤ (hi : Int) := by omega
                  by_cases c3 : lo ≤ hi
                  · have c3I : ((lo : Nat) : Int) ≤ ((hi : Nat) : Int) := by omega
                    by_cases c4 : 1 ≤ rnV l 2
                    · by_cases c5 : rnV l 2 ≤ 59
                      · have HFit : Hid (fitB f (lo) (hi) (rnV l 2) = true) := hide (by rw [HFt.out, decide_eq_true c1, decide_eq_true c2, decide_eq_true c3, decide_eq_true c4, decide_eq_true c5]; rfl)
                        have hz59 : hi ≤ 59 := Nat.le_trans c2 HFh.out
                        have c4I : (1 : Int) ≤ ((rnV l 2 : Nat) : Int) := by omega
                        have c4J : (((rnV l 2 : Nat) : Int) == 0) = false := by rw [beq_eq_false_iff_ne]; omega
                        have c5I : ((rnV l 2 : Nat) : Int) ≤ 59 := by omega
                        go_wp2_with fail
                        go_loopw [13] (fun u wr => ∃ n : Nat, lo ≤ n ∧ n ≤ hi + 1 ∧ u = .int .i64 (n : Nat) ∧ RowB wr b (fun i => h i || (decide (65 * f ≤ i) && (decide (i < 65 * f + 64) && (inS (lo) (hi) (rnV l 2) (i - 65 * f) && decide (i - 65 * f < n))))) ∧ w.grownBy wr (some b)) (fun u _ => hi + 1 - (intOf u).toNat)
                        case atStart => exact ⟨lo, Nat.le_refl _, by omega, rfl, HR2.out.ext (fun i _ => row_start h f _ _ _ i), HW2.out⟩
                        case round =>
                          obtain ⟨n, hn0, hn1, rfl, hrow, hgr⟩ := hrel
                          have HRW := hide hrow
                          have HGR := hide hgr
                          by_cases hn : n ≤ hi
                          · have hnI : (n : Int) ≤ ((hi : Nat) : Int) := by omega
                            have hn64 : n < 64 := by omega
                            obtain ⟨r1, r2⟩ := hrow.cell (i := f * 65 + n) (by omega)
                            have hrem : ((n : Int) - ((lo : Nat) : Int)) % ((rnV l 2 : Nat) : Int) = (((n - lo) % rnV l 2 : Nat) : Int) := by rw [← Int.ofNat_sub hn0]; rfl
                            clear hrow hgr
                            by_cases hm : (n - lo) % rnV l 2 = 0
                            · have hremT : (((n : Int) - ((lo : Nat) : Int)) % ((rnV l 2 : Nat) : Int) == 0) = true := by rw [hrem, hm]; rfl
                              clear hrem
                              have HSt : Hid (RowB (wr.setCell ⟨b, f * 65 + n, none⟩ (.bool true)) b (fun i => h i || (decide (65 * f ≤ i) && (decide (i < 65 * f + 64) && (inS (lo) (hi) (rnV l 2) (i - 65 * f) && decide (i - 65 * f < n + 1)))))) := hide ((HRW.out.set (f * 65 + n) true).ext (fun i _ => row_hit h f _ _ _ n i hn0 hn hm hn64))
                              have HG3 : Hid (w.grownBy (wr.setCell ⟨b, f * 65 + n, none⟩ (.bool true)) (some b)) := hide (grown_trans HGR.out (grown_set _ _ _ _))
                              go_wp2_with fail
                              go_round
                              case rel => exact ⟨n + 1, by omega, by omega, by first | rfl | simp, HSt.out, HG3.out⟩
                              case measure => simp [intOf]; omega
                            · have hremF : (((n : Int) - ((lo : Nat) : Int)) % ((rnV l 2 : Nat) : Int) == 0) = false := by rw [hrem, beq_eq_false_iff_ne]; omega
                              clear hrem
                              have HSt : Hid (RowB wr b (fun i => h i || (decide (65 * f ≤ i) && (decide (i < 65 * f + 64) && (inS (lo) (hi) (rnV l 2) (i - 65 * f) && decide (i - 65 * f < n + 1)))))) := hide (HRW.out.ext (fun i _ => row_miss h f _ _ _ n i hm))
                              go_wp2_with fail
                              go_round
                              case rel => exact ⟨n + 1, by omega, by omega, by first | rfl | simp, HSt.out, HGR.out⟩
                              case measure => simp [intOf]; omega
                          · have hnI : ¬ ((n : Int) ≤ ((hi : Nat) : Int)) := by omega
                            have HSt : Hid (RowB wr b (fun i => h i || (decide (65 * f ≤ i) && (decide (i < 65 * f + 64) && inS (lo) (hi) (rnV l 2) (i - 65 * f))))) := hide (HRW.out.ext (fun i _ => row_done h f _ _ _ n i (by omega)))
                            clear hrow hgr
                            go_wp2_with fail
                            go_ret
                            exact HIO.out _ (lo) (hi) (rnV l 2) HRI.out HFit.out HGR.out HSt.out
                      · have c5I : ¬ (((rnV l 2 : Nat) : Int) ≤ 59) := by omega
                        have c4I : (1 : Int) ≤ ((rnV l 2 : Nat) : Int) := by omega
                        go_wp2_with fail
                        go_ret
                        exact HIR.out _ (lo) (hi) (rnV l 2) HRI.out (by rw [HFt.out, decide_eq_false c5]; simp) HW2.out
                    · have c4I : ¬ ((1 : Int) ≤ ((rnV l 2 : Nat) : Int)) := by omega
                      go_wp2_with fail
                      go_ret
                      exact HIR.out _ (lo) (hi) (rnV l 2) HRI.out (by rw [HFt.out, decide_eq_false c4]; simp) HW2.out
                  · have c3I : ¬ (((lo : Nat) : Int) ≤ ((hi : Nat) : Int)) := by omega
                    have := HLh.out
                    omega
                · have c2I : ¬ (((hi : Nat) : Int) ≤ (hi : Int)) := by omega
                  exact absurd (Nat.le_refl _) c2
              · have c1I : ¬ ((lo : Int) ≤ ((lo : Nat) : Int)) := by omega
                exact absurd (Nat.le_refl _) c1
            · have heI : ((k2 : Int) == (s.size : Int)) = false := by rw [beq_eq_false_iff_ne]; omega
              have HKE : Hid (¬ ((k2 : Int) = (s.size : Nat))) := hide (by omega)
              clear he
              go_wp2_with fail
              go_ret
              exact HIF.out _ (by rw [HI.out, if_pos HS0.out, if_pos HC.out, if_neg (Int.not_lt.2 HE2.out), HK2.out, if_neg HKE.out]) HW1.out
        · have h47I : ((b1.toNat : Int) == 47) = false := byte_ne (c := 47) h47
          have HC : Hid (¬ (1 < s.size ∧ l.getD 1 0 = 47)) := hide (fun h => h47 (by rw [← HG1.out]; exact h.2))
          have h1ne : ((1 : Int) == (s.size : Int)) = false := by rw [beq_eq_false_iff_ne]; omega
          clear h47
          go_wp2_with fail
          go_ret
          exact HIF.out _ (by rw [HI.out, if_pos HS0.out, if_neg HC.out]) HW1.out
      · have HC : Hid (¬ (1 < s.size ∧ l.getD 1 0 = 47)) := hide (fun h => h1 h.1)
        have h1I : ¬ ((1 : Int) < (s.size : Int)) := by omega
        have h1e : ((1 : Int) == (s.size : Int)) = true := by rw [beq_iff_eq]; omega
        clear h1
        go_wp2_with fail
        go_ret
        exact HIF.out _ (by rw [HI.out, if_pos HS0.out, if_neg HC.out]) HW1.out
    · have HS0 : Hid (¬ l.getD 0 0 = 42) := hide (by rw [HG0.out]; exact hst)
      have hbI : ((b0.toNat : Int) == 42) = false := byte_ne (c := 42) hst
      clear hst
      go_wp2_with fail
      refine (HNm.out (0) _ (by omega)).mono ?_
      rintro e w' ⟨rfl, rfl⟩
      by_cases hE0 : rnE l 0 < 0
      · have HE0 := hide hE0
        go_wp2_with fail
        go_ret
        exact HIF.out _ (by rw [HI.out, if_neg HS0.out, if_pos HE0.out]) HW1.out
      · obtain ⟨k0, hk0, hk1, hk2⟩ := HBd.out 0 (by omega) (by omega)
        have HK0 := hide hk0
        have HE0 : Hid (0 ≤ rnE l 0) := hide (by omega)
        rw [hk0]
        clear hk0 hE0
        by_cases hlt : k0 < s.size
        · obtain ⟨b1, hb1⟩ : ∃ b1 : UInt8, s[k0]'hlt = b1 := ⟨_, rfl⟩
          have hg1 := HG.out k0 hlt
          rw [hb1] at hg1
          have HG1 := hide hg1.symm
          have hltI : (k0 : Int) < (s.size : Int) := by omega
          have hneI : ((k0 : Int) == (s.size : Int)) = false := by rw [beq_eq_false_iff_ne]; omega
          have HNE : Hid (¬ ((k0 : Int) = (s.size : Nat))) := hide (by omega)
          clear hg1
          by_cases h45 : b1 = 45
          · have h45I : ((b1.toNat : Int) == 45) = true := by rw [h45]; rfl
            have HC1 : Hid ((k0 : Int) < (s.size : Nat) ∧ l.getD k0 0 = 45) := hide ⟨hltI, by rw [HG1.out]; exact h45⟩
            clear h45
            go_wp2_with fail
            refine (HNm.out (k0 + 1) _ (by omega)).mono ?_
            rintro e w' ⟨rfl, rfl⟩
            by_cases hE1 : rnE l (k0 + 1) < 0
            · have HE1 := hide hE1
              go_wp2_with fail
              go_ret
              exact HIF.out _ (by rw [HI.out, if_neg HS0.out, if_neg (Int.not_lt.2 HE0.out), HK0.out, Int.toNat_natCast, if_pos HC1.out, if_pos HE1.out]) HW1.out
            · obtain ⟨k1, hk3, hk4, hk5⟩ := HBd.out (k0 + 1) (by omega) (by omega)
              have HK1 := hide hk3
              have HE1 : Hid (0 ≤ rnE l (k0 + 1)) := hide (by omega)
              rw [hk3]
              clear hk3 hE1
              by_cases hl2 : k1 < s.size
              · obtain ⟨b2, hb2⟩ : ∃ b2 : UInt8, s[k1]'hl2 = b2 := ⟨_, rfl⟩
                have hg2 := HG.out k1 hl2
                rw [hb2] at hg2
                have HG2 := hide hg2.symm
                have hl2I : (k1 : Int) < (s.size : Int) := by omega
                have hn2I : ((k1 : Int) == (s.size : Int)) = false := by rw [beq_eq_false_iff_ne]; omega
                have HNE2 : Hid (¬ ((k1 : Int) = (s.size : Nat))) := hide (by omega)
                clear hg2
                by_cases h47 : b2 = 47
                · have h47I : ((b2.toNat : Int) == 47) = true := by rw [h47]; rfl
                  have HC2 : Hid ((k1 : Int) < (s.size : Nat) ∧ l.getD k1 0 = 47) := hide ⟨hl2I, by rw [HG2.out]; exact h47⟩
                  clear h47
                  go_wp2_with fail
                  refine (HNm.out (k1 + 1) _ (by omega)).mono ?_
                  rintro e w' ⟨rfl, rfl⟩
                  by_cases hE2 : rnE l (k1 + 1) < 0
                  · have HE2 := hide hE2
                    go_wp2_with fail
                    go_ret
                    exact HIF.out _ (by rw [HI.out, if_neg HS0.out, if_neg (Int.not_lt.2 HE0.out), HK0.out, Int.toNat_natCast, if_pos HC1.out, if_neg (Int.not_lt.2 HE1.out), HK1.out, Int.toNat_natCast, if_pos HC2.out, if_pos HE2.out]) HW1.out
                  · obtain ⟨k2, hk6, hk7, hk8⟩ := HBd.out (k1 + 1) (by omega) (by omega)
                    have HK2 := hide hk6
                    have HE2 : Hid (0 ≤ rnE l (k1 + 1)) := hide (by omega)
                    rw [hk6]
                    clear hk6 hE2
                    by_cases he : k2 = s.size
                    · subst he
                      have HRI : Hid (rI f l = some (rnV l 0, rnV l (k0 + 1), rnV l (k1 + 1))) := hide (by rw [HI.out, if_neg HS0.out, if_neg (Int.not_lt.2 HE0.out), HK0.out, Int.toNat_natCast, if_pos HC1.out, if_neg (Int.not_lt.2 HE1.out), HK1.out, Int.toNat_natCast, if_pos HC2.out, if_neg (Int.not_lt.2 HE2.out), HK2.out, if_pos rfl])
                      by_cases c1 : lo ≤ rnV l 0
                      · have c1I : (lo : Int) ≤ ((rnV l 0 : Nat) : Int) := by omega
                        go_wp2_with (go_at_call 29; refine (HL.out _).mono ?_; rintro e w' ⟨rfl, rfl⟩)
                        refine (HH.out _).mono ?_
                        rintro e w2 ⟨rfl, hb2⟩
                        have HW2 : Hid (w.grownBy w2 (some b)) := hide (grown_trans HW1.out (grown_below hb2))
                        have HR2 : Hid (RowB w2 b h) := hide (HR1.out.on hb2)
                        clear hb2
                        by_cases c2 : rnV l (k0 + 1) ≤ hi
                        · have c2I : ((rnV l (k0 + 1) : Nat) : Int) ≤ (hi : Int) := by omega
                          by_cases c3 : rnV l 0 ≤ rnV l (k0 + 1)
                          · have c3I : ((rnV l 0 : Nat) : Int) ≤ ((rnV l (k0 + 1) : Nat) : Int) := by omega
                            by_cases c4 : 1 ≤ rnV l (k1 + 1)
                            · by_cases c5 : rnV l (k1 + 1) ≤ 59
                              · have HFit : Hid (fitB f (rnV l 0) (rnV l (k0 + 1)) (rnV l (k1 + 1)) = true) := hide (by rw [HFt.out, decide_eq_true c1, decide_eq_true c2, decide_eq_true c3, decide_eq_true c4, decide_eq_true c5]; rfl)
                                have hz59 : rnV l (k0 + 1) ≤ 59 := Nat.le_trans c2 HFh.out
                                have c4I : (1 : Int) ≤ ((rnV l (k1 + 1) : Nat) : Int) := by omega
                                have c4J : (((rnV l (k1 + 1) : Nat) : Int) == 0) = false := by rw [beq_eq_false_iff_ne]; omega
                                have c5I : ((rnV l (k1 + 1) : Nat) : Int) ≤ 59 := by omega
                                go_wp2_with fail
                                go_loopw [13] (fun u wr => ∃ n : Nat, rnV l 0 ≤ n ∧ n ≤ rnV l (k0 + 1) + 1 ∧ u = .int .i64 (n : Nat) ∧ RowB wr b (fun i => h i || (decide (65 * f ≤ i) && (decide (i < 65 * f + 64) && (inS (rnV l 0) (rnV l (k0 + 1)) (rnV l (k1 + 1)) (i - 65 * f) && decide (i - 65 * f < n))))) ∧ w.grownBy wr (some b)) (fun u _ => rnV l (k0 + 1) + 1 - (intOf u).toNat)
                                case atStart => exact ⟨rnV l 0, Nat.le_refl _, by omega, rfl, HR2.out.ext (fun i _ => row_start h f _ _ _ i), HW2.out⟩
                                case round =>
                                  obtain ⟨n, hn0, hn1, rfl, hrow, hgr⟩ := hrel
                                  have HRW := hide hrow
                                  have HGR := hide hgr
                                  by_cases hn : n ≤ rnV l (k0 + 1)
                                  · have hnI : (n : Int) ≤ ((rnV l (k0 + 1) : Nat) : Int) := by omega
                                    have hn64 : n < 64 := by omega
                                    obtain ⟨r1, r2⟩ := hrow.cell (i := f * 65 + n) (by omega)
                                    have hrem : ((n : Int) - ((rnV l 0 : Nat) : Int)) % ((rnV l (k1 + 1) : Nat) : Int) = (((n - rnV l 0) % rnV l (k1 + 1) : Nat) : Int) := by rw [← Int.ofNat_sub hn0]; rfl
                                    clear hrow hgr
                                    by_cases hm : (n - rnV l 0) % rnV l (k1 + 1) = 0
                                    · have hremT : (((n : Int) - ((rnV l 0 : Nat) : Int)) % ((rnV l (k1 + 1) : Nat) : Int) == 0) = true := by rw [hrem, hm]; rfl
                                      clear hrem
                                      have HSt : Hid (RowB (wr.setCell ⟨b, f * 65 + n, none⟩ (.bool true)) b (fun i => h i || (decide (65 * f ≤ i) && (decide (i < 65 * f + 64) && (inS (rnV l 0) (rnV l (k0 + 1)) (rnV l (k1 + 1)) (i - 65 * f) && decide (i - 65 * f < n + 1)))))) := hide ((HRW.out.set (f * 65 + n) true).ext (fun i _ => row_hit h f _ _ _ n i hn0 hn hm hn64))
                                      have HG3 : Hid (w.grownBy (wr.setCell ⟨b, f * 65 + n, none⟩ (.bool true)) (some b)) := hide (grown_trans HGR.out (grown_set _ _ _ _))
                                      go_wp2_with fail
                                      go_round
                                      case rel => exact ⟨n + 1, by omega, by omega, by first | rfl | simp, HSt.out, HG3.out⟩
                                      case measure => simp [intOf]; omega
                                    · have hremF : (((n : Int) - ((rnV l 0 : Nat) : Int)) % ((rnV l (k1 + 1) : Nat) : Int) == 0) = false := by rw [hrem, beq_eq_false_iff_ne]; omega
                                      clear hrem
                                      have HSt : Hid (RowB wr b (fun i => h i || (decide (65 * f ≤ i) && (decide (i < 65 * f + 64) && (inS (rnV l 0) (rnV l (k0 + 1)) (rnV l (k1 + 1)) (i - 65 * f) && decide (i - 65 * f < n + 1)))))) := hide (HRW.out.ext (fun i _ => row_miss h f _ _ _ n i hm))
                                      go_wp2_with fail
                                      go_round
                                      case rel => exact ⟨n + 1, by omega, by omega, by first | rfl | simp, HSt.out, HGR.out⟩
                                      case measure => simp [intOf]; omega
                                  · have hnI : ¬ ((n : Int) ≤ ((rnV l (k0 + 1) : Nat) : Int)) := by omega
                                    have HSt : Hid (RowB wr b (fun i => h i || (decide (65 * f ≤ i) && (decide (i < 65 * f + 64) && inS (rnV l 0) (rnV l (k0 + 1)) (rnV l (k1 + 1)) (i - 65 * f))))) := hide (HRW.out.ext (fun i _ => row_done h f _ _ _ n i (by omega)))
                                    clear hrow hgr
                                    go_wp2_with fail
                                    go_ret
                                    exact HIO.out _ (rnV l 0) (rnV l (k0 + 1)) (rnV l (k1 + 1)) HRI.out HFit.out HGR.out HSt.out
                              · have c5I : ¬ (((rnV l (k1 + 1) : Nat) : Int) ≤ 59) := by omega
                                have c4I : (1 : Int) ≤ ((rnV l (k1 + 1) : Nat) : Int) := by omega
                                go_wp2_with fail
                                go_ret
                                exact HIR.out _ (rnV l 0) (rnV l (k0 + 1)) (rnV l (k1 + 1)) HRI.out (by rw [HFt.out, decide_eq_false c5]; simp) HW2.out
                            · have c4I : ¬ ((1 : Int) ≤ ((rnV l (k1 + 1) : Nat) : Int)) := by omega
                              go_wp2_with fail
                              go_ret
                              exact HIR.out _ (rnV l 0) (rnV l (k0 + 1)) (rnV l (k1 + 1)) HRI.out (by rw [HFt.out, decide_eq_false c4]; simp) HW2.out
                          · have c3I : ¬ (((rnV l 0 : Nat) : Int) ≤ ((rnV l (k0 + 1) : Nat) : Int)) := by omega
                            go_wp2_with fail
                            go_ret
                            exact HIR.out _ (rnV l 0) (rnV l (k0 + 1)) (rnV l (k1 + 1)) HRI.out (by rw [HFt.out, decide_eq_false c3]; simp) HW2.out
                        · have c2I : ¬ (((rnV l (k0 + 1) : Nat) : Int) ≤ (hi : Int)) := by omega
                          go_wp2_with fail
                          go_ret
                          exact HIR.out _ (rnV l 0) (rnV l (k0 + 1)) (rnV l (k1 + 1)) HRI.out (by rw [HFt.out, decide_eq_false c2]; simp) HW2.out
                      · have c1I : ¬ ((lo : Int) ≤ ((rnV l 0 : Nat) : Int)) := by omega
                        go_wp2_with (go_at_call 29; refine (HL.out _).mono ?_; rintro e w' ⟨rfl, rfl⟩)
                        go_ret
                        exact HIR.out _ (rnV l 0) (rnV l (k0 + 1)) (rnV l (k1 + 1)) HRI.out (by rw [HFt.out, decide_eq_false c1]; simp) HW1.out
                    · have heI : ((k2 : Int) == (s.size : Int)) = false := by rw [beq_eq_false_iff_ne]; omega
                      have HKE : Hid (¬ ((k2 : Int) = (s.size : Nat))) := hide (by omega)
                      clear he
                      go_wp2_with fail
                      go_ret
                      exact HIF.out _ (by rw [HI.out, if_neg HS0.out, if_neg (Int.not_lt.2 HE0.out), HK0.out, Int.toNat_natCast, if_pos HC1.out, if_neg (Int.not_lt.2 HE1.out), HK1.out, Int.toNat_natCast, if_pos HC2.out, if_neg (Int.not_lt.2 HE2.out), HK2.out, if_neg HKE.out]) HW1.out
                · have h47I : ((b2.toNat : Int) == 47) = false := byte_ne (c := 47) h47
                  have HC2 : Hid (¬ ((k1 : Int) < (s.size : Nat) ∧ l.getD k1 0 = 47)) := hide (fun h => h47 (by rw [← HG2.out]; exact h.2))
                  clear h47
                  go_wp2_with fail
                  go_ret
                  exact HIF.out _ (by rw [HI.out, if_neg HS0.out, if_neg (Int.not_lt.2 HE0.out), HK0.out, Int.toNat_natCast, if_pos HC1.out, if_neg (Int.not_lt.2 HE1.out), HK1.out, Int.toNat_natCast, if_neg HC2.out, if_neg HNE2.out]) HW1.out
              · have hl2I : ¬ ((k1 : Int) < (s.size : Int)) := by omega
                have HC2 : Hid (¬ ((k1 : Int) < (s.size : Nat) ∧ l.getD k1 0 = 47)) := hide (fun h => hl2I h.1)
                obtain rfl : k1 = s.size := by omega
                clear hl2 hl2I
                have HRI : Hid (rI f l = some (rnV l 0, rnV l (k0 + 1), 1)) := hide (by rw [HI.out, if_neg HS0.out, if_neg (Int.not_lt.2 HE0.out), HK0.out, Int.toNat_natCast, if_pos HC1.out, if_neg (Int.not_lt.2 HE1.out), HK1.out, Int.toNat_natCast, if_neg HC2.out, if_pos rfl])
                by_cases c1 : lo ≤ rnV l 0
                · have c1I : (lo : Int) ≤ ((rnV l 0 : Nat) : Int) := by omega
                  go_wp2_with (go_at_call 29; refine (HL.out _).mono ?_; rintro e w' ⟨rfl, rfl⟩)
                  refine (HH.out _).mono ?_
                  rintro e w2 ⟨rfl, hb2⟩
                  have HW2 : Hid (w.grownBy w2 (some b)) := hide (grown_trans HW1.out (grown_below hb2))
                  have HR2 : Hid (RowB w2 b h) := hide (HR1.out.on hb2)
                  clear hb2
                  by_cases c2 : rnV l (k0 + 1) ≤ hi
                  · have c2I : ((rnV l (k0 + 1) : Nat) : Int) ≤ (hi : Int) := by omega
                    by_cases c3 : rnV l 0 ≤ rnV l (k0 + 1)
                    · have c3I : ((rnV l 0 : Nat) : Int) ≤ ((rnV l (k0 + 1) : Nat) : Int) := by omega
                      by_cases c4 : 1 ≤ 1
                      · by_cases c5 : 1 ≤ 59
                        · have HFit : Hid (fitB f (rnV l 0) (rnV l (k0 + 1)) (1) = true) := hide (by rw [HFt.out, decide_eq_true c1, decide_eq_true c2, decide_eq_true c3, decide_eq_true c4, decide_eq_true c5]; rfl)
                          have hz59 : rnV l (k0 + 1) ≤ 59 := Nat.le_trans c2 HFh.out
                          have c4I : (1 : Int) ≤ ((1 : Nat) : Int) := by omega
                          have c4J : (((1 : Nat) : Int) == 0) = false := by rw [beq_eq_false_iff_ne]; omega
                          have c5I : ((1 : Nat) : Int) ≤ 59 := by omega
                          go_wp2_with fail
                          go_loopw [13] (fun u wr => ∃ n : Nat, rnV l 0 ≤ n ∧ n ≤ rnV l (k0 + 1) + 1 ∧ u = .int .i64 (n : Nat) ∧ RowB wr b (fun i => h i || (decide (65 * f ≤ i) && (decide (i < 65 * f + 64) && (inS (rnV l 0) (rnV l (k0 + 1)) (1) (i - 65 * f) && decide (i - 65 * f < n))))) ∧ w.grownBy wr (some b)) (fun u _ => rnV l (k0 + 1) + 1 - (intOf u).toNat)
                          case atStart => exact ⟨rnV l 0, Nat.le_refl _, by omega, rfl, HR2.out.ext (fun i _ => row_start h f _ _ _ i), HW2.out⟩
                          case round =>
                            obtain ⟨n, hn0, hn1, rfl, hrow, hgr⟩ := hrel
                            have HRW := hide hrow
                            have HGR := hide hgr
                            by_cases hn : n ≤ rnV l (k0 + 1)
                            · have hnI : (n : Int) ≤ ((rnV l (k0 + 1) : Nat) : Int) := by omega
                              have hn64 : n < 64 := by omega
                              obtain ⟨r1, r2⟩ := hrow.cell (i := f * 65 + n) (by omega)
                              clear hrow hgr
                              have hm : (n - rnV l 0) % 1 = 0 := Nat.mod_one _
                              · skip
                                have HSt : Hid (RowB (wr.setCell ⟨b, f * 65 + n, none⟩ (.bool true)) b (fun i => h i || (decide (65 * f ≤ i) && (decide (i < 65 * f + 64) && (inS (rnV l 0) (rnV l (k0 + 1)) (1) (i - 65 * f) && decide (i - 65 * f < n + 1)))))) := hide ((HRW.out.set (f * 65 + n) true).ext (fun i _ => row_hit h f _ _ _ n i hn0 hn hm hn64))
                                have HG3 : Hid (w.grownBy (wr.setCell ⟨b, f * 65 + n, none⟩ (.bool true)) (some b)) := hide (grown_trans HGR.out (grown_set _ _ _ _))
                                go_wp2_with fail
                                go_round
                                case rel => exact ⟨n + 1, by omega, by omega, by first | rfl | simp, HSt.out, HG3.out⟩
                                case measure => simp [intOf]; omega
                            · have hnI : ¬ ((n : Int) ≤ ((rnV l (k0 + 1) : Nat) : Int)) := by omega
                              have HSt : Hid (RowB wr b (fun i => h i || (decide (65 * f ≤ i) && (decide (i < 65 * f + 64) && inS (rnV l 0) (rnV l (k0 + 1)) (1) (i - 65 * f))))) := hide (HRW.out.ext (fun i _ => row_done h f _ _ _ n i (by omega)))
                              clear hrow hgr
                              go_wp2_with fail
                              go_ret
                              exact HIO.out _ (rnV l 0) (rnV l (k0 + 1)) (1) HRI.out HFit.out HGR.out HSt.out
                        · omega
                      · omega
                    · have c3I : ¬ (((rnV l 0 : Nat) : Int) ≤ ((rnV l (k0 + 1) : Nat) : Int)) := by omega
                      go_wp2_with fail
                      go_ret
                      exact HIR.out _ (rnV l 0) (rnV l (k0 + 1)) (1) HRI.out (by rw [HFt.out, decide_eq_false c3]; simp) HW2.out
                  · have c2I : ¬ (((rnV l (k0 + 1) : Nat) : Int) ≤ (hi : Int)) := by omega
                    go_wp2_with fail
                    go_ret
                    exact HIR.out _ (rnV l 0) (rnV l (k0 + 1)) (1) HRI.out (by rw [HFt.out, decide_eq_false c2]; simp) HW2.out
                · have c1I : ¬ ((lo : Int) ≤ ((rnV l 0 : Nat) : Int)) := by omega
                  go_wp2_with (go_at_call 29; refine (HL.out _).mono ?_; rintro e w' ⟨rfl, rfl⟩)
                  go_ret
                  exact HIR.out _ (rnV l 0) (rnV l (k0 + 1)) (1) HRI.out (by rw [HFt.out, decide_eq_false c1]; simp) HW1.out
          · have h45I : ((b1.toNat : Int) == 45) = false := byte_ne (c := 45) h45
            have HC1 : Hid (¬ ((k0 : Int) < (s.size : Nat) ∧ l.getD k0 0 = 45)) := hide (fun h => h45 (by rw [← HG1.out]; exact h.2))
            clear h45
            by_cases h47 : b1 = 47
            · have h47I : ((b1.toNat : Int) == 47) = true := by rw [h47]; rfl
              have HC3 : Hid ((k0 : Int) < (s.size : Nat) ∧ l.getD k0 0 = 47) := hide ⟨hltI, by rw [HG1.out]; exact h47⟩
              clear h47
              go_wp2_with fail
              refine (HNm.out (k0 + 1) _ (by omega)).mono ?_
              rintro e w' ⟨rfl, rfl⟩
              by_cases hE1 : rnE l (k0 + 1) < 0
              · skip
                go_wp2_with fail
                go_ret
                exact HIF.out _ (by rw [HI.out, if_neg HS0.out, if_neg (Int.not_lt.2 HE0.out), HK0.out, Int.toNat_natCast, if_neg HC1.out, if_pos HC3.out]) HW1.out
              · skip
                go_wp2_with fail
                go_ret
                exact HIF.out _ (by rw [HI.out, if_neg HS0.out, if_neg (Int.not_lt.2 HE0.out), HK0.out, Int.toNat_natCast, if_neg HC1.out, if_pos HC3.out]) HW1.out
            · have h47I : ((b1.toNat : Int) == 47) = false := byte_ne (c := 47) h47
              have HC3 : Hid (¬ ((k0 : Int) < (s.size : Nat) ∧ l.getD k0 0 = 47)) := hide (fun h => h47 (by rw [← HG1.out]; exact h.2))
              clear h47
              go_wp2_with fail
              go_ret
              exact HIF.out _ (by rw [HI.out, if_neg HS0.out, if_neg (Int.not_lt.2 HE0.out), HK0.out, Int.toNat_natCast, if_neg HC1.out, if_neg HC3.out, if_neg HNE.out]) HW1.out
        · have hltI : ¬ ((k0 : Int) < (s.size : Int)) := by omega
          have HC1 : Hid (¬ ((k0 : Int) < (s.size : Nat) ∧ l.getD k0 0 = 45)) := hide (fun h => hltI h.1)
          have HC3 : Hid (¬ ((k0 : Int) < (s.size : Nat) ∧ l.getD k0 0 = 47)) := hide (fun h => hltI h.1)
          obtain rfl : k0 = s.size := by omega
          clear hlt hltI
          have HRI : Hid (rI f l = some (rnV l 0, rnV l 0, 1)) := hide (by rw [HI.out, if_neg HS0.out, if_neg (Int.not_lt.2 HE0.out), HK0.out, Int.toNat_natCast, if_neg HC1.out, if_neg HC3.out, if_pos rfl])
          by_cases c1 : lo ≤ rnV l 0
          · have c1I : (lo : Int) ≤ ((rnV l 0 : Nat) : Int) := by omega
            go_wp2_with (go_at_call 29; refine (HL.out _).mono ?_; rintro e w' ⟨rfl, rfl⟩)
            refine (HH.out _).mono ?_
            rintro e w2 ⟨rfl, hb2⟩
            have HW2 : Hid (w.grownBy w2 (some b)) := hide (grown_trans HW1.out (grown_below hb2))
            have HR2 : Hid (RowB w2 b h) := hide (HR1.out.on hb2)
            clear hb2
            by_cases c2 : rnV l 0 ≤ hi
            · have c2I : ((rnV l 0 : Nat) : Int) ≤ (hi : Int) := by omega
              by_cases c3 : rnV l 0 ≤ rnV l 0
              · have c3I : ((rnV l 0 : Nat) : Int) ≤ ((rnV l 0 : Nat) : Int) := by omega
                by_cases c4 : 1 ≤ 1
                · by_cases c5 : 1 ≤ 59
                  · have HFit : Hid (fitB f (rnV l 0) (rnV l 0) (1) = true) := hide (by rw [HFt.out, decide_eq_true c1, decide_eq_true c2, decide_eq_true c3, decide_eq_true c4, decide_eq_true c5]; rfl)
                    have hz59 : rnV l 0 ≤ 59 := Nat.le_trans c2 HFh.out
                    have c4I : (1 : Int) ≤ ((1 : Nat) : Int) := by omega
                    have c4J : (((1 : Nat) : Int) == 0) = false := by rw [beq_eq_false_iff_ne]; omega
                    have c5I : ((1 : Nat) : Int) ≤ 59 := by omega
                    go_wp2_with fail
                    go_loopw [13] (fun u wr => ∃ n : Nat, rnV l 0 ≤ n ∧ n ≤ rnV l 0 + 1 ∧ u = .int .i64 (n : Nat) ∧ RowB wr b (fun i => h i || (decide (65 * f ≤ i) && (decide (i < 65 * f + 64) && (inS (rnV l 0) (rnV l 0) (1) (i - 65 * f) && decide (i - 65 * f < n))))) ∧ w.grownBy wr (some b)) (fun u _ => rnV l 0 + 1 - (intOf u).toNat)
                    case atStart => exact ⟨rnV l 0, Nat.le_refl _, by omega, rfl, HR2.out.ext (fun i _ => row_start h f _ _ _ i), HW2.out⟩
                    case round =>
                      obtain ⟨n, hn0, hn1, rfl, hrow, hgr⟩ := hrel
                      have HRW := hide hrow
                      have HGR := hide hgr
                      by_cases hn : n ≤ rnV l 0
                      · have hnI : (n : Int) ≤ ((rnV l 0 : Nat) : Int) := by omega
                        have hn64 : n < 64 := by omega
                        obtain ⟨r1, r2⟩ := hrow.cell (i := f * 65 + n) (by omega)
                        clear hrow hgr
                        have hm : (n - rnV l 0) % 1 = 0 := Nat.mod_one _
                        · skip
                          have HSt : Hid (RowB (wr.setCell ⟨b, f * 65 + n, none⟩ (.bool true)) b (fun i => h i || (decide (65 * f ≤ i) && (decide (i < 65 * f + 64) && (inS (rnV l 0) (rnV l 0) (1) (i - 65 * f) && decide (i - 65 * f < n + 1)))))) := hide ((HRW.out.set (f * 65 + n) true).ext (fun i _ => row_hit h f _ _ _ n i hn0 hn hm hn64))
                          have HG3 : Hid (w.grownBy (wr.setCell ⟨b, f * 65 + n, none⟩ (.bool true)) (some b)) := hide (grown_trans HGR.out (grown_set _ _ _ _))
                          go_wp2_with fail
                          go_round
                          case rel => exact ⟨n + 1, by omega, by omega, by first | rfl | simp, HSt.out, HG3.out⟩
                          case measure => simp [intOf]; omega
                      · have hnI : ¬ ((n : Int) ≤ ((rnV l 0 : Nat) : Int)) := by omega
                        have HSt : Hid (RowB wr b (fun i => h i || (decide (65 * f ≤ i) && (decide (i < 65 * f + 64) && inS (rnV l 0) (rnV l 0) (1) (i - 65 * f))))) := hide (HRW.out.ext (fun i _ => row_done h f _ _ _ n i (by omega)))
                        clear hrow hgr
                        go_wp2_with fail
                        go_ret
                        exact HIO.out _ (rnV l 0) (rnV l 0) (1) HRI.out HFit.out HGR.out HSt.out
                  · omega
                · omega
              · have c3I : ¬ (((rnV l 0 : Nat) : Int) ≤ ((rnV l 0 : Nat) : Int)) := by omega
                exact absurd (Nat.le_refl _) c3
            · have c2I : ¬ (((rnV l 0 : Nat) : Int) ≤ (hi : Int)) := by omega
              go_wp2_with fail
              go_ret
              exact HIR.out _ (rnV l 0) (rnV l 0) (1) HRI.out (by rw [HFt.out, decide_eq_false c2]; simp) HW2.out
          · have c1I : ¬ ((lo : Int) ≤ ((rnV l 0 : Nat) : Int)) := by omega
            go_wp2_with (go_at_call 29; refine (HL.out _).mono ?_; rintro e w' ⟨rfl, rfl⟩)
            go_ret
            exact HIR.out _ (rnV l 0) (rnV l 0) (1) HRI.out (by rw [HFt.out, decide_eq_false c1]; simp) HW1.out
end Go.Proofs.YtldbmkmicaihhaaDoor
