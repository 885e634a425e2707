/-
  ParseTexts: its walk.
-/
import Derived.Test.YtljoajjlkjjgeaaGreatDoorNTextsP
import Derived.Test.YtljoajjlkjjgeaaGreatDoorLRefW
import Derived.Test.YtljoajjlkjjgeaaGreatDoorNAwake
import Derived.Test.YtljoajjlkjjgeaaGreatDoorMEq2
import Derived.Test.YtljoajjlkjjgeaaGreatDoorMLw
import Derived.Deep.DeepCutAuto
import Derived.Laws.AppendOwnNone
namespace Go.Proofs.YtljoajjlkjjgeaaGreatDoor
open Go.RowKit Go.Sort LM Go

theorem own_on {w w' : World} {base sz n : Nat} {t : TypeId} {v : Value} {cs : List Value} (h : w.ownsRow base t sz v n cs) (hb : Below w.heap.size w w') : w'.ownsRow base t sz v n cs :=
 ⟨h.1, h.2.imp id fun ⟨g, cap, cur, e, hg, hh, r⟩ => ⟨g, cap, cur, e, hg, (hb.block g (by
  rcases Nat.lt_or_ge g w.heap.size with h' | h'
  ·exact h'
  ·simp [Array.getElem?_eq_none h'] at hh)).trans hh, r⟩⟩
theorem cat3 (s0 s1 : ByteArray) : (s0 ++ (⟨#[10]⟩ : ByteArray) ++ s1).data.toList = s0.data.toList ++ 10 :: s1.data.toList := by
 rw [ByteArray.data_append, ByteArray.data_append]; simp
theorem infoDefT : (Tryz.prog.info? 43).map (fun i => (i.zero, i.size, i.bytes)) = some (some (.agg #[.int .i64 0, .string ⟨#[]⟩, .slice none 0 0, .int .i64 0, .int .i64 0, .int .i64 0, .slice none 0 0, .int .i64 0, .string ⟨#[]⟩, .slice none 0 0, .int .i64 0, .string ⟨#[]⟩, .int .i64 0, .int .i64 0, .string ⟨#[]⟩, .string ⟨#[]⟩, .slice none 0 0, .slice none 0 0, .slice none 0 0, .slice none 0 0, .slice none 0 0, .slice none 0 0, .int .i64 0, .string ⟨#[]⟩, .slice none 0 0]), 25, 408) := by kernel_rfl
theorem off1_below {base : Nat} {w w' : World} {v : Value} (hb : Below w.heap.size w w') : Stay (Off1 base w v) (Off1 base w' v) w w' := ⟨fun _ _ k => ⟨k.1, Nat.lt_of_lt_of_le k.2.1 hb.size, k.2.2⟩, hb.size, fun b _ hlt => hb.block b hlt⟩
theorem eq_at {P P' : Nat → Prop} {els : List Df} {w1 w2 : World} {v v' : Value} (h : Rep P w1 (.row 25 (els.map Df.enc)) v) (h' : Rep P' w2 (.row 25 (els.map Df.enc)) v') (hd : ∀ d ∈ els, ∃ n, DfOk n d) :
  ∃ A c A' c', v = .slice A els.length c ∧ v' = .slice A' els.length c' ∧ ∀ wr, Below w1.heap.size w1 wr → Below w2.heap.size w2 wr → ∀ j, j < els.length → ∃ b off b' off', ∃ vs vs' : List Value, A = some ⟨b, off, none⟩ ∧ A' = some ⟨b', off', none⟩ ∧ b < w1.heap.size ∧ b' < w2.heap.size ∧ vs.length = 25 ∧ vs'.length = 25 ∧ (∀ u ∈ vs', u.oneCell' = true) ∧
   (∀ i, i < 25 → wr.cell? ⟨b, off + j * 25 + i, none⟩ = some (vs.getD i v0)) ∧ (∀ i, i < 25 → wr.cell? ⟨b', off' + j * 25 + i, none⟩ = some (vs'.getD i v0)) ∧
   ∀ w3, Below w1.heap.size w1 w3 → Below w2.heap.size w2 w3 → Calls Tryz.prog 26 #[.agg vs.toArray, .agg vs'.toArray] w3 fun e w' => e = .returned (.bool true) ∧ Below w3.heap.size w3 w' := by
 have hl : ∀ e ∈ els.map Df.enc, e.length = 25 := fun e he => by
  obtain ⟨d, _, rfl⟩ := List.mem_map.1 he
  exact def_len d
 obtain ⟨A, c, rfl, hA⟩ := h.elems hl
 obtain ⟨A', c', rfl, hA'⟩ := h'.elems hl
 refine ⟨A, c, A', c', by rw [List.length_map], by rw [List.length_map], fun wr k1 k2 j hj => ?_⟩
 obtain ⟨b, off, vs, e1, e2, e3, e4, e5⟩ := hA wr k1 j (by rw [List.length_map]; exact hj)
 obtain ⟨b', off', vs', f1, f2, f3, f4, f5⟩ := hA' wr k2 j (by rw [List.length_map]; exact hj)
 have hg : (els.map Df.enc).getD j [] = els[j].enc := by
  rw [List.getD_eq_getElem?_getD, List.getElem?_map, List.getElem?_eq_getElem hj]; rfl
 rw [hg] at e5 f5
 obtain ⟨n, hn⟩ := hd els[j] (List.getElem_mem hj)
 exact ⟨b, off, b', off', vs, vs', e1, f1, e2, f2, e3, f3, f5.one_cell, e4, f4, fun w3 q1 q2 => eqDef_same (n := n) els[j] vs vs' w3 hn (e5.stay (Stay.below q1)) (f5.stay (Stay.below q2))⟩
set_option maxHeartbeats 8000000 in
set_option maxRecDepth 100000 in
theorem texts_long (s0 s1 : ByteArray) (w : World) (hL : Lw w) (h : 2000 < s0.size ∨ 2000 < s1.size) (f0 : s0.size ≤ maxLen) (f1 : s1.size ≤ maxLen) : Calls Tryz.prog 7 #[.string s0, .string s1] w fun e w' => e = .returned (.bool true) ∧ Below w.heap.size w w' := by
 have HAw := hide (fun w1 (hb : Below w.heap.size w w1) => awake_any w1 (hL.on hb))
 have HB0 := hide (Below.refl w.heap.size w)
 unfold maxLen at f0 f1
 by_cases h1 : 2000 < s0.size
 ·have g1 : (2000 : Int) < (s0.size : Nat) := by omega
  clear h
  go_enter Tryz.func7, Tryz.ntmps7
  go_wp2_with fail
  refine (HAw.out _ HB0.out).mono ?_
  rintro e w9 ⟨rfl, hb⟩
  have HB9 := hide (then_below HB0.out hb)
  clear hb
  go_wp2_with fail
  go_ret
  exact ⟨rfl, HB9.out⟩
 ·have h2 : 2000 < s1.size := h.resolve_left h1
  have g1 : ¬ (2000 : Int) < (s0.size : Nat) := by omega
  have g2 : (2000 : Int) < (s1.size : Nat) := by omega
  clear h
  go_enter Tryz.func7, Tryz.ntmps7
  go_wp2_with fail
  refine (HAw.out _ HB0.out).mono ?_
  rintro e w9 ⟨rfl, hb⟩
  have HB9 := hide (then_below HB0.out hb)
  clear hb
  go_wp2_with fail
  go_ret
  exact ⟨rfl, HB9.out⟩
set_option maxHeartbeats 8000000 in
set_option maxRecDepth 100000 in
theorem texts_lex (s0 s1 : ByteArray) (w : World) (hL : Lw w) (h0 : s0.size ≤ 2000) (h1 : s1.size ≤ 2000) (h : (lexA s0.data.toList).2.2 ≠ 0) : Calls Tryz.prog 7 #[.string s0, .string s1] w fun e w' => e = .returned (.bool true) ∧ Below w.heap.size w w' := by
 have HAw := hide (fun w1 (hb : Below w.heap.size w w1) => awake_any w1 (hL.on hb))
 have HB0 := hide (Below.refl w.heap.size w)
 have HRl := hide (fun w1 => rlex_any s0 w1 (by omega))
 unfold LexOut at HRl
 have g1 : ¬ (2000 : Int) < (s0.size : Nat) := by omega
 have g2 : ¬ (2000 : Int) < (s1.size : Nat) := by omega
 have HP := hide (parse_lex s0 w hL (by omega) h)
 have hne : ((lexA s0.data.toList).2.2 != 0) = true := by simpa using h
 generalize lexA s0.data.toList = X at *
 clear hL h
 go_enter Tryz.func7, Tryz.ntmps7
 go_wp2_with fail
 refine HP.out.mono ?_
 rintro e w1 ⟨rfl, hb⟩
 have HB1 := hide hb
 clear hb HP
 go_wp2_with fail
 refine (HRl.out w1).mono ?_
 rintro e w2 ⟨⟨A2, c2, rfl, hA2⟩, hb⟩
 have HB2 := hide (then_below HB1.out hb)
 clear hb
 clear hA2
 go_wp2_with fail
 refine (HAw.out _ HB2.out).mono ?_
 rintro e w9 ⟨rfl, hb⟩
 have HB9 := hide (then_below HB2.out hb)
 clear hb
 go_wp2_with fail
 go_ret
 exact ⟨rfl, HB9.out⟩
set_option maxHeartbeats 8000000 in
set_option maxRecDepth 100000 in
theorem texts_rule (s0 s1 : ByteArray) (w : World) (hL : Lw w) (h0 : s0.size ≤ 2000) (h1 : s1.size ≤ 2000) (h : (lexA s0.data.toList).2.2 = 0) (hn : errP s0.data.toList ≠ 0) : Calls Tryz.prog 7 #[.string s0, .string s1] w fun e w' => e = .returned (.bool true) ∧ Below w.heap.size w w' := by
 have HAw := hide (fun w1 (hb : Below w.heap.size w w1) => awake_any w1 (hL.on hb))
 have HB0 := hide (Below.refl w.heap.size w)
 have HRl := hide (fun w1 => rlex_any s0 w1 (by omega))
 unfold LexOut at HRl
 have g1 : ¬ (2000 : Int) < (s0.size : Nat) := by omega
 have g2 : ¬ (2000 : Int) < (s1.size : Nat) := by omega
 obtain ⟨c, p, hc, hp, HP'⟩ := parse_rule s0 w hL (by omega) h hn
 have HP := hide HP'
 have hcn : (c != 0) = true := by rcases hc with rfl | rfl <;> decide
 have hfew := lex_few s0
 have Hh := hide h
 clear HP' hL h hn
 generalize lexA s0.data.toList = X at *
 have hXz : (X.2.2 != 0) = false := by rw [Hh.out]; decide
 rw [Hh.out] at HRl
 clear hXz
 have Hp := hide (show (decide (p = s0.size) || anyAt X.1 p X.1.length) = true by
  rcases hp with e | ⟨j, hj, e⟩
  ·simp [e]
  ·rw [anyAt_is hj e]; simp)
 have Hsu := hide (fun j (hj : j < X.1.length) => anyAt_succ (L := X.1) (p := p) hj)
 have Hz := hide (anyAt_0 X.1 p)
 have Hc := hide hc
 clear hp Hh hc
 go_enter Tryz.func7, Tryz.ntmps7
 go_wp2_with fail
 refine HP.out.mono ?_
 rintro e w1 ⟨rfl, hb⟩
 have HB1 := hide hb
 clear hb HP
 go_wp2_with fail
 refine (HRl.out w1).mono ?_
 rintro e w2 ⟨⟨A2, c2, rfl, hA2⟩, hb⟩
 have HB2 := hide (then_below HB1.out hb)
 clear hb
 have HA2 := hide hA2
 clear hA2
 go_wp2_with fail
 go_loopw [11, 69] (fun ov iv wr => ∃ (j : Nat) (ok : Bool), ov = .bool ok ∧ iv = .int .i64 j ∧ j ≤ X.1.length ∧ Hid (ok = (decide (p = s0.size) || anyAt X.1 p j)) ∧ Hid (Below w2.heap.size w2 wr)) (fun _ iv _ => X.1.length - (intOf iv).toNat)
 case atStart => exact ⟨0, _, rfl, rfl, Nat.zero_le _, hide (by rw [Hz.out, Bool.or_false, Bool.eq_iff_iff]; simp; omega), hide (Below.refl _ _)⟩
 case round =>
  obtain ⟨j, ok, rfl, rfl, hj, HO, HBr⟩ := hrel
  by_cases hlt : j < X.1.length
  ·obtain ⟨b, off, rfl, hbl, c0, c1, c2', c3⟩ := (HA2.out.below HBr.out) j hlt
   have HSj := hide (Hsu.out j hlt)
   have hli : ((j : Nat) : Int) < ((X.1.length : Nat) : Int) := by omega
   generalize X.1[j] = t at *
   obtain ⟨tk, tt, tn, ta⟩ := t
   simp only at c0 c1 c2' c3
   obtain ⟨wb, hwb⟩ : ∃ wb, wb = wr.alloc (.cells #[.int .i64 tk, txt tt, .int .i64 tn, .int .i64 (ta : Nat)] 87) := ⟨_, rfl⟩
   have HWB := hide hwb
   have hXb : HoldB wr.heap.size 87 [.int .i64 tk, txt tt, .int .i64 tn, .int .i64 (ta : Nat)] wb := by rw [hwb]; exact heap_alloc_new _ _
   have d3 := Lib.cell_of_heap hXb 3
   simp only [List.getElem?_toArray, List.getElem?_cons_zero, List.getElem?_cons_succ] at d3
   have HBb := hide (show Below w2.heap.size w2 wb by rw [hwb]; exact then_below HBr.out (Joins.below_alloc1 _ _))
   clear hwb hXb
   cases ok with
   | true =>
    go_wp2_with (first | rw [← HWB.out])
    go_roundw
    case rel => exact ⟨j + 1, true, rfl, by go_num, by omega, hide (by have := HO.out; rw [HSj.out, ← Bool.or_assoc, ← this]; rfl), HBb⟩
    case measure => simp [intOf]; omega
   | false =>
    go_wp2_with (first | rw [← HWB.out])
    go_roundw
    case rel => exact ⟨j + 1, _, rfl, by go_num, by omega, hide (by have := HO.out; rw [HSj.out, ← Bool.or_assoc, ← this, Bool.false_or, Bool.eq_iff_iff]; simp; omega), HBb⟩
    case measure => simp [intOf]; omega
  ·obtain rfl : j = X.1.length := by omega
   obtain rfl : ok = true := HO.out.trans Hp.out
   have HB3 := hide (then_below HB2.out HBr.out)
   have hcc := Hc.out
   rcases hcc with rfl | rfl
   ·go_wp2_with fail
    refine (HAw.out _ HB3.out).mono ?_
    rintro e w9 ⟨rfl, hb⟩
    have HB9 := hide (then_below HB3.out hb)
    clear hb
    go_wp2_with fail
    go_ret
    exact ⟨rfl, HB9.out⟩
   ·go_wp2_with fail
    refine (HAw.out _ HB3.out).mono ?_
    rintro e w9 ⟨rfl, hb⟩
    have HB9 := hide (then_below HB3.out hb)
    clear hb
    go_wp2_with fail
    go_ret
    exact ⟨rfl, HB9.out⟩
set_option maxHeartbeats 8000000 in
set_option maxRecDepth 100000 in
theorem texts_fail (s0 s1 : ByteArray) (w : World) (hL : Lw w) (h0 : s0.size ≤ 2000) (h1 : s1.size ≤ 2000) (h : errP s0.data.toList = 0) (hn : errP s1.data.toList ≠ 0) : Calls Tryz.prog 7 #[.string s0, .string s1] w fun e w' => e = .returned (.bool true) ∧ Below w.heap.size w w' := by
 have HAw := hide (fun w1 (hb : Below w.heap.size w w1) => awake_any w1 (hL.on hb))
 have HB0 := hide (Below.refl w.heap.size w)
 have HRl := hide (fun w1 => rlex_any s0 w1 (by omega))
 unfold LexOut at HRl
 have g1 : ¬ (2000 : Int) < (s0.size : Nat) := by omega
 have g2 : ¬ (2000 : Int) < (s1.size : Nat) := by omega
 obtain ⟨he1, -⟩ := errP_zero h
 have HP := hide (parse_good s0 w hL (by omega) h)
 have hl0 : s0.data.toList.length = s0.size := Array.length_toList
 have hl1 : s1.data.toList.length = s1.size := Array.length_toList
 obtain ⟨t1, t2⟩ := errP_two (a := s0.data.toList) (b := s1.data.toList) (by omega) (by omega) h
 rw [← cat3] at t1 t2
 have hs3 : (s0 ++ (⟨#[10]⟩ : ByteArray) ++ s1).size ≤ 4001 := by rw [ByteArray.size_append, ByteArray.size_append]; show s0.size + 1 + s1.size ≤ 4001; omega
 have hs3b : (s0 ++ (⟨#[10]⟩ : ByteArray)).size ≤ 2001 := by rw [ByteArray.size_append]; show s0.size + 1 ≤ 2001; omega
 have HP1 := hide (fun w1 (hb : Below w.heap.size w w1) => parse_fail s1 w1 (hL.on hb) (by omega) hn)
 have HP2 := hide (fun w1 (hb : Below w.heap.size w w1) => parse_fail (s0 ++ (⟨#[10]⟩ : ByteArray) ++ s1) w1 (hL.on hb) (by omega) (by rw [t1]; exact hn))
 rw [t1] at HP2
 have hne : (errP s1.data.toList != 0) = true := by simpa using hn
 generalize errP s1.data.toList = g at *
 generalize lexA s0.data.toList = X at *
 rw [he1] at HRl
 clear hL h hn t1 t2 hl0 hl1 he1
 go_enter Tryz.func7, Tryz.ntmps7
 go_wp2_with fail
 refine HP.out.mono ?_
 rintro e w1 ⟨⟨v, rfl, -⟩, hb⟩
 have HB1 := hide hb
 clear hb HP
 go_wp2_with fail
 refine (HRl.out w1).mono ?_
 rintro e w2 ⟨⟨A2, c2, rfl, hA2⟩, hb⟩
 have HB2 := hide (then_below HB1.out hb)
 clear hb
 clear hA2
 go_wp2_with fail
 refine (HP1.out w2 HB2.out).mono ?_
 rintro e w3 ⟨⟨p3, rfl⟩, hb⟩
 have HB3 := hide (then_below HB2.out hb)
 clear hb HP1
 go_wp2_with fail
 refine (HP2.out w3 HB3.out).mono ?_
 rintro e w4 ⟨⟨p4, rfl⟩, hb⟩
 have HB4 := hide (then_below HB3.out hb)
 clear hb HP2
 go_wp2_with fail
 refine (HAw.out _ HB4.out).mono ?_
 rintro e w9 ⟨rfl, hb⟩
 have HB9 := hide (then_below HB4.out hb)
 clear hb
 go_wp2_with fail
 go_ret
 exact ⟨rfl, HB9.out⟩
set_option maxHeartbeats 8000000 in
set_option maxRecDepth 100000 in
theorem texts_good (s0 s1 : ByteArray) (w : World) (hL : Lw w) (h0 : s0.size ≤ 2000) (h1 : s1.size ≤ 2000) (h : errP s0.data.toList = 0) (hn : errP s1.data.toList = 0) : Calls Tryz.prog 7 #[.string s0, .string s1] w fun e w' => e = .returned (.bool true) ∧ Below w.heap.size w w' := by
 have HAw := hide (fun w1 (hb : Below w.heap.size w w1) => awake_any w1 (hL.on hb))
 have HB0 := hide (Below.refl w.heap.size w)
 have HRl := hide (fun w1 => rlex_any s0 w1 (by omega))
 unfold LexOut at HRl
 have g1 : ¬ (2000 : Int) < (s0.size : Nat) := by omega
 have g2 : ¬ (2000 : Int) < (s1.size : Nat) := by omega
 obtain ⟨he1, -⟩ := errP_zero h
 have HP := hide (parse_good s0 w hL (by omega) h)
 have hl0 : s0.data.toList.length = s0.size := Array.length_toList
 have hl1 : s1.data.toList.length = s1.size := Array.length_toList
 obtain ⟨t1, t2⟩ := errP_two (a := s0.data.toList) (b := s1.data.toList) (by omega) (by omega) h
 rw [← cat3] at t1 t2
 have hs3 : (s0 ++ (⟨#[10]⟩ : ByteArray) ++ s1).size ≤ 4001 := by rw [ByteArray.size_append, ByteArray.size_append]; show s0.size + 1 + s1.size ≤ 4001; omega
 have hs3b : (s0 ++ (⟨#[10]⟩ : ByteArray)).size ≤ 2001 := by rw [ByteArray.size_append]; show s0.size + 1 ≤ 2001; omega
 have HP1 := hide (fun w1 (hb : Below w.heap.size w w1) => parse_good s1 w1 (hL.on hb) (by omega) hn)
 have HP2 := hide (fun w1 (hb : Below w.heap.size w w1) => parse_good (s0 ++ (⟨#[10]⟩ : ByteArray) ++ s1) w1 (hL.on hb) (by omega) (by rw [t1]; exact hn))
 rw [t2 hn] at HP2
 obtain ⟨q0, q1⟩ := par_dp (F := 16384) (by decide) s0.data.toList (by omega)
 obtain ⟨q2, q3⟩ := par_dp (F := 16384) (by decide) s1.data.toList (by omega)
 generalize (parR 16384 (lexA s0.data.toList)).1 = dA at *
 generalize (parR 16384 (lexA s1.data.toList)).1 = dB at *
 have hq : ∀ d ∈ dA ++ dB, ∃ n, DfOk n d := fun d hd => (List.mem_append.1 hd).elim (q0 d) (q2 d)
 generalize lexA s0.data.toList = X at *
 rw [he1] at HRl
 obtain ⟨i0, hi, hz0, hz1, hz2⟩ := info_parts infoDefT
 have Hq := hide hq
 clear hL h hn t1 t2 hl0 hl1 he1 q0 q2 hq
 go_enter Tryz.func7, Tryz.ntmps7
 go_wp2_with fail
 refine HP.out.mono ?_
 rintro e w1 ⟨⟨v, rfl, csA, hoA, hrA⟩, hb⟩
 have HB1 := hide hb
 clear hb HP
 go_wp2_with fail
 refine (HRl.out w1).mono ?_
 rintro e w2 ⟨⟨A2, c2, rfl, hA2⟩, hb⟩
 have hb12 := hb
 have HB2 := hide (then_below HB1.out hb)
 clear hb
 clear hA2
 go_wp2_with fail
 refine (HP1.out w2 HB2.out).mono ?_
 rintro e w3 ⟨⟨vf, rfl, csB, hoB, hrB⟩, hb⟩
 have hb23 := hb
 have HB3 := hide (then_below HB2.out hb)
 clear hb HP1
 go_wp2_with fail
 refine (HP2.out w3 HB3.out).mono ?_
 rintro e w4 ⟨⟨vb, rfl, csC, hoC, hrC⟩, hb⟩
 have hb34 := hb
 have HB4 := hide (then_below HB3.out hb)
 clear hb HP2
 have hb14 := then_below (then_below hb12 hb23) hb34
 have HoA := hide (own_on hoA hb14)
 have HrA := hide (hrA.stay (off1_below hb14))
 have HoB := hide (own_on hoB hb34)
 have HrB := hide (hrB.stay ((off1_below hb34).trans (Stay.at (Q := New w2.heap.size) (fun _ k => k.1) _)))
 have HoC := hide hoC
 have HrC := hide hrC
 have hz12 := hb12.size
 have hz23 := hb23.size
 have hz34 := hb34.size
 have hltA : ∀ g, v.ownBlock = some g → w.heap.size ≤ g ∧ g < w1.heap.size := fun g hg => hoA.lt g hg
 have HltA := hide hltA
 obtain ⟨A1, c1, rfl⟩ := own_val hoA
 obtain ⟨Ab, cb, rfl⟩ := own_val hoC
 clear hoA hrA hoB hrB hrC hb12 hb23 hb34 hb14 hltA HB2 HB3
 have hone : ∀ u ∈ csB, u.oneCell' = true := HrB.out.2.one_cell
 have Hone := hide hone
 rw [show (dA ++ dB).length = dA.length + dB.length from List.length_append] at HoC ⊢
 generalize hA : dA.length = nA at *
 generalize hB : dB.length = nB at *
 have HA := hide hA
 have HB := hide hB
 clear hA hB hone
 rcases own_src HoB.out with ⟨e1, e2, e3⟩ | ⟨g, cap, e1, hl, hnew⟩
 ·subst e1 e2 e3
  obtain rfl : dB = [] := List.length_eq_zero_iff.1 HB.out
  simp only [Nat.add_zero, List.append_nil] at HoC HrC Hq ⊢
  have hoA4 := HoA.out
  have hR1 : Rep (fun _ => True) w4 (.row 25 (dA.map Df.enc)) (.slice Ab nA cb) := rep_of_row (base := w3.heap.size) (t := 43) (by rw [List.length_map, HA.out]; exact HoC.out) (fun _ _ => trivial) (HrC.out.stay (Stay.at (fun _ _ => trivial) _))
  have hR2 : Rep (fun _ => True) w4 (.row 25 (dA.map Df.enc)) (.slice A1 nA c1) := rep_of_row (base := w.heap.size) (t := 43) (by rw [List.length_map, HA.out]; exact HoA.out) (fun _ _ => trivial) (HrA.out.stay (Stay.at (fun _ _ => trivial) _))
  obtain ⟨Ax, cx, Ay, cy, e4, e8, hel⟩ := eq_at hR1 hR2 Hq.out
  rw [HA.out] at e4 e8 hel
  injection e4 with e5 e6 e7
  injection e8 with e9 e10 e11
  subst e5 e7 e9 e11
  clear hR1 hR2 HoB HrB HoC HrC Hone e6 e10 HltA HrA
  go_wp2_with (at_builtin; go_must (refine wpList_append_own_none rfl _ _ 80 rfl w.heap.size 43 i0 25 Tryz.underlying80 hi _ nA _ rfl hoA4 rfl ?_))
  clear hoA4 HoA hi hz0 hz1 hz2
  generalize hn : nA = n at *
  have Hn := hide hn
  clear hn
  have HEl := hide (fun wr (hb : Below w4.heap.size w4 wr) j (hj : j < n) => hel wr hb hb j hj)
  clear hel
  go_loopw [142] (fun iv wr => ∃ j : Nat, iv = .int .i64 j ∧ j ≤ n ∧ Hid (Below w4.heap.size w4 wr)) (fun iv _ => n - (intOf iv).toNat)
  case atStart => exact ⟨0, rfl, Nat.zero_le _, hide (Below.refl _ _)⟩
  case round =>
   obtain ⟨j, rfl, hj, HBr⟩ := hrel
   by_cases hlt : j < n
   ·obtain ⟨b, off, b', off', vs, vs', rfl, rfl, hbl, hbl', hv1, hv2, hone, hcc, hcc', hcall⟩ := HEl.out wr HBr.out j hlt
    have hli : ((j : Nat) : Int) < ((n : Nat) : Int) := by omega
    obtain ⟨wb, hwb⟩ : ∃ wb, wb = wr.alloc (.cells vs'.toArray 43) := ⟨_, rfl⟩
    have HWB := hide (show wb = (wr.alloc (.cells #[.int .i64 0, .string ⟨#[]⟩, .slice none 0 0, .int .i64 0, .int .i64 0, .int .i64 0, .slice none 0 0, .int .i64 0, .string ⟨#[]⟩, .slice none 0 0, .int .i64 0, .string ⟨#[]⟩, .int .i64 0, .int .i64 0, .string ⟨#[]⟩, .string ⟨#[]⟩, .slice none 0 0, .slice none 0 0, .slice none 0 0, .slice none 0 0, .slice none 0 0, .slice none 0 0, .int .i64 0, .string ⟨#[]⟩, .slice none 0 0] 43)).setRow wr.heap.size vs'.toArray by rw [hwb, World.setRow_alloc_new])
    have hBx : BoxAt wr.heap.size 43 25 (wr.alloc (.cells #[.int .i64 0, .string ⟨#[]⟩, .slice none 0 0, .int .i64 0, .int .i64 0, .int .i64 0, .slice none 0 0, .int .i64 0, .string ⟨#[]⟩, .slice none 0 0, .int .i64 0, .string ⟨#[]⟩, .int .i64 0, .int .i64 0, .string ⟨#[]⟩, .string ⟨#[]⟩, .slice none 0 0, .slice none 0 0, .slice none 0 0, .slice none 0 0, .slice none 0 0, .slice none 0 0, .int .i64 0, .string ⟨#[]⟩, .slice none 0 0] 43)) := box_new _ _ _ rfl
    have hXb : HoldB wr.heap.size 43 vs' wb := by rw [hwb]; exact heap_alloc_new _ _
    have HBb := hide (show Below w4.heap.size w4 wb by rw [hwb]; exact then_below HBr.out (Joins.below_alloc1 _ _))
    have HXb := hide hXb
    have Hcc := hide (fun w' (hb : Below wb.heap.size wb w') => (fun i hi => (hb.cell (p := ⟨b, off + j * 25 + i, none⟩) (by have := HBb.out.size; show b < wb.heap.size; omega)).trans ((by rw [hwb]; exact (Joins.below_alloc1 wr _).cell (p := ⟨b, off + j * 25 + i, none⟩) (by have := HBr.out.size; show b < wr.heap.size; omega) : wb.cell? ⟨b, off + j * 25 + i, none⟩ = wr.cell? ⟨b, off + j * 25 + i, none⟩).trans (hcc i hi)) : ∀ i, i < 25 → w'.cell? ⟨b, off + j * 25 + i, none⟩ = some (vs.getD i v0)))
    have HCall := hide (fun w' (hb : Below wb.heap.size wb w') => hcall w' (then_below HBb.out hb) (then_below HBb.out hb))
    clear hwb hXb hcc hcall
    go_upto_region 26 with (first | (refine wpList_loadBigAt rfl 43 _ rfl b' (off' + j * 25) 25 vs' big_def hv2 rfl hcc' ?_) | (refine wpList_storeBig rfl 43 _ _ rfl wr.heap.size 25 vs' big_def hv2 hone rfl rfl hBx ?_; rw [← HWB.out]))
    clear hBx HWB hcc'
    refine wp_region_held_drew (S := fun w' => Below wb.heap.size wb w') (by kernel_rfl) ((Below.refl _ _).drew) (fun hS => ?_)
    (refine wpAnyH_take (i := 0) (oi := ⟨some 147, _, _, _, _, _⟩) (v := ?_) rfl (by kernel_rfl) (by kernel_rfl) (by kernel_rfl) (fun _ _ _ h => h) (Or.inl ⟨by rfl, ?_⟩) hS ?_; rotate_left 1; (focus (intro w' hw'; go_simp; all_goals first | with_reducible rfl | rw [if_neg (by omega)] | rw [if_pos (by omega)])); try simp only [Act.put, List.setIfInBounds_toArray, List.set_cons_zero, List.set_cons_succ])
    (refine wpAnyH_take (i := 1) (oi := ⟨some 148, _, _, _, _, _⟩) (v := ?_) rfl (by kernel_rfl) (by kernel_rfl) (by kernel_rfl) (fun _ _ _ h => h) (Or.inl ⟨by rfl, ?_⟩) hS ?_; rotate_left 1; (focus (intro w' hw'; go_simp; all_goals first | with_reducible rfl | rw [if_neg (by omega)] | rw [if_pos (by omega)])); try simp only [Act.put, List.setIfInBounds_toArray, List.set_cons_zero, List.set_cons_succ])
    (refine wpAnyH_take (i := 2) (oi := ⟨some 149, _, _, _, _, _⟩) (v := ?_) rfl (by kernel_rfl) (by kernel_rfl) (by kernel_rfl) (fun _ _ _ h => h) (Or.inl ⟨by rfl, ?_⟩) hS ?_; rotate_left 1; (focus (intro w' hw'; go_simp; all_goals first | with_reducible rfl | rw [if_neg (by omega)] | rw [if_pos (by omega)])); try simp only [Act.put, List.setIfInBounds_toArray, List.set_cons_zero, List.set_cons_succ])
    refine wpAnyH_take (i := 3) (oi := ⟨some 150, _, _, _, _, _⟩) (v := ?_) rfl (by kernel_rfl) (by kernel_rfl) (by kernel_rfl) (fun _ _ _ h => h) (Or.inl ⟨by rfl, ?_⟩) hS ?_
    rotate_left 1
    ·intro w' hw'
     refine run_loadAt_op 43 (.tmp 149) ?_ b (off + j * 25) 25 vs big_def hv1 ?_ (Hcc.out w' hw') <;> rfl
    try simp only [Act.put, List.setIfInBounds_toArray, List.set_cons_zero, List.set_cons_succ]
    refine wpAnyH_take (i := 4) (oi := ⟨some 151, _, _, _, _, _⟩) (v := ?_) rfl (by kernel_rfl) (by kernel_rfl) (by kernel_rfl) (fun _ _ _ h => h) (Or.inl ⟨by rfl, ?_⟩) hS ?_
    rotate_left 1
    ·intro w' hw'
     refine run_load_op 43 (.tmp 21) ?_ wr.heap.size 25 vs' big_def hv2 ?_ ((hw'.block _ (holds_size HXb.out)).trans HXb.out) <;> rfl
    try simp only [Act.put, List.setIfInBounds_toArray, List.set_cons_zero, List.set_cons_succ]
    refine wpAnyH_ready (rs := [5]) (by kernel_rfl) (by simp) ?_; refine (AllReadyH.cons (o := ⟨some 152, _, _, _, _, _⟩) rfl (fun K hK => ?_) AllReadyH.nil)
    go_simp
    go_at_call 26
    refine (HCall.out _ hS).mono ?_
    rintro e wc ⟨rfl, hb⟩
    refine hK.out _ _ (hS.trans (hb.mono hS.size)) (fun hS => ?_)
    clear hK K hb
    try simp only [Act.put, List.setIfInBounds_toArray, List.set_cons_zero, List.set_cons_succ]
    (refine wpAnyH_take (i := 6) (oi := ⟨some 153, _, _, _, _, _⟩) (v := ?_) rfl (by kernel_rfl) (by kernel_rfl) (by kernel_rfl) (fun _ _ _ h => h) (Or.inl ⟨by rfl, ?_⟩) hS ?_; rotate_left 1; (focus (intro w' hw'; go_simp; all_goals first | with_reducible rfl | rw [if_neg (by omega)] | rw [if_pos (by omega)])); try simp only [Act.put, List.setIfInBounds_toArray, List.set_cons_zero, List.set_cons_succ])
    refine wpAnyH_done (by kernel_rfl) ?_ _
    have HBc := hide (then_below HBb.out hS)
    clear hS HBb Hcc HCall HXb
    go_wp2_with fail
    go_roundw
    case rel => exact ⟨j + 1, by go_num, by omega, HBc⟩
    case measure => simp [intOf]; omega
   ·obtain rfl : j = n := by omega
    have HB9' := hide (then_below HB4.out HBr.out)
    go_wp2_with fail
    refine (HAw.out _ HB9'.out).mono ?_
    rintro e wx ⟨rfl, hb⟩
    have HBx := hide (then_below HB9'.out hb)
    clear hb
    go_wp2_with fail
    go_ret
    exact ⟨rfl, HBx.out⟩
 ·subst e1
  have hoA4 := HoA.out
  have hone := Hone.out
  have hbase : w.heap.size ≤ w4.heap.size := HB4.out.size
  go_wp2_with (at_builtin; go_must (refine wpList_append_own_at _ rfl _ _ 80 rfl w.heap.size 43 i0 _ 25 408 Tryz.underlying80 hi hz0 hz1 hz2 rfl (by decide) (.slice A1 nA c1) nA _ rfl hoA4 ⟨g, 0, none⟩ nB cap csB rfl hl hnew hone (by unfold maxLen; omega) (by omega) hbase ?_))
  intro v5 w5 hown5 hgrow5 _ hat5
  have hsz5 := hgrow5.size
  have HB5 := hide (HB4.out.grown hgrow5 HB4.out.size (fun g hg => (HltA.out g hg).1))
  have hC5 : w5.ownsRow w3.heap.size 43 25 (.slice Ab (nA + nB) cb) (nA + nB) csC := HoC.out.kept hgrow5 (by
   cases hv : (Value.slice Ab (nA + nB) cb).ownBlock with
   | none => exact Or.inl rfl
   | some q => exact Or.inr (fun e => by have h1 := (HoC.out.lt q hv).1; have h2 := (HltA.out q e.symm).2; omega))
  have hrC5 : RepL (fun _ => True) w5 25 ((dA ++ dB).map Df.enc) csC := HrC.out.stay ⟨fun _ _ _ => trivial, hsz5, fun q hq hlt => hgrow5.block q hlt (fun e => by have h1 := hq.1; have h2 := (HltA.out q e.symm).2; omega)⟩
  have hrA5 : RepL (fun _ => True) w5 25 (dA.map Df.enc) csA := HrA.out.stay ((Off1.grow hgrow5 (v' := v5) hat5).trans (Stay.at (fun _ _ => trivial) _))
  have hrB5 : RepL (fun _ => True) w5 25 (dB.map Df.enc) csB := HrB.out.stay ⟨fun _ _ _ => trivial, hsz5, fun q hq hlt => hgrow5.block q hlt (fun e => by have h1 : w2.heap.size ≤ q := hq; have h2 := (HltA.out q e.symm).2; omega)⟩
  have hnl : nA + nB = ((dA ++ dB).map Df.enc).length := by rw [List.length_map, List.length_append, HA.out, HB.out]
  have hrX : RepL (fun _ => True) w5 25 ((dA ++ dB).map Df.enc) (csA ++ csB) := ⟨fun e he => by
   obtain ⟨d, _, rfl⟩ := List.mem_map.1 he
   exact def_len d, by rw [List.map_append, List.flatten_append]; exact hrA5.2.append hrB5.2⟩
  have hR1 : Rep (fun _ => True) w5 (.row 25 ((dA ++ dB).map Df.enc)) (.slice Ab (nA + nB) cb) := rep_of_row (base := w3.heap.size) (t := 43) (by rw [← hnl]; exact hC5) (fun _ _ => trivial) hrC5
  have hR2 : Rep (fun _ => True) w5 (.row 25 ((dA ++ dB).map Df.enc)) v5 := rep_of_row (base := w.heap.size) (t := 43) (by rw [← hnl]; exact hown5) (fun _ _ => trivial) hrX
  obtain ⟨Ax, cx, Ay, cy, e4, rfl, hel⟩ := eq_at hR1 hR2 Hq.out
  have hn2 : (dA ++ dB).length = nA + nB := by rw [List.length_append, HA.out, HB.out]
  rw [hn2] at e4 hel ⊢
  injection e4 with e5 e6 e7
  subst e5 e7
  clear hown5 hgrow5 hat5 hC5 hrC5 hrA5 hrB5 hrX hR1 hR2 HoA HrA HoB HrB HoC HrC hoA4 hone Hone hnew hl hn2 e6 hnl HltA hi hz0 hz1 hz2
  generalize hn : nA + nB = n at *
  have hnb : n ≤ 40000 := by omega
  have Hn := hide hn
  clear hn
  go_wp2_with fail
  have HEl := hide (fun wr (hb : Below w5.heap.size w5 wr) j (hj : j < n) => hel wr hb hb j hj)
  clear hel
  go_loopw [142] (fun iv wr => ∃ j : Nat, iv = .int .i64 j ∧ j ≤ n ∧ Hid (Below w5.heap.size w5 wr)) (fun iv _ => n - (intOf iv).toNat)
  case atStart => exact ⟨0, rfl, Nat.zero_le _, hide (Below.refl _ _)⟩
  case round =>
   obtain ⟨j, rfl, hj, HBr⟩ := hrel
   by_cases hlt : j < n
   ·obtain ⟨b, off, b', off', vs, vs', rfl, rfl, hbl, hbl', hv1, hv2, hone, hcc, hcc', hcall⟩ := HEl.out wr HBr.out j hlt
    have hli : ((j : Nat) : Int) < ((n : Nat) : Int) := by omega
    obtain ⟨wb, hwb⟩ : ∃ wb, wb = wr.alloc (.cells vs'.toArray 43) := ⟨_, rfl⟩
    have HWB := hide (show wb = (wr.alloc (.cells #[.int .i64 0, .string ⟨#[]⟩, .slice none 0 0, .int .i64 0, .int .i64 0, .int .i64 0, .slice none 0 0, .int .i64 0, .string ⟨#[]⟩, .slice none 0 0, .int .i64 0, .string ⟨#[]⟩, .int .i64 0, .int .i64 0, .string ⟨#[]⟩, .string ⟨#[]⟩, .slice none 0 0, .slice none 0 0, .slice none 0 0, .slice none 0 0, .slice none 0 0, .slice none 0 0, .int .i64 0, .string ⟨#[]⟩, .slice none 0 0] 43)).setRow wr.heap.size vs'.toArray by rw [hwb, World.setRow_alloc_new])
    have hBx : BoxAt wr.heap.size 43 25 (wr.alloc (.cells #[.int .i64 0, .string ⟨#[]⟩, .slice none 0 0, .int .i64 0, .int .i64 0, .int .i64 0, .slice none 0 0, .int .i64 0, .string ⟨#[]⟩, .slice none 0 0, .int .i64 0, .string ⟨#[]⟩, .int .i64 0, .int .i64 0, .string ⟨#[]⟩, .string ⟨#[]⟩, .slice none 0 0, .slice none 0 0, .slice none 0 0, .slice none 0 0, .slice none 0 0, .slice none 0 0, .int .i64 0, .string ⟨#[]⟩, .slice none 0 0] 43)) := box_new _ _ _ rfl
    have hXb : HoldB wr.heap.size 43 vs' wb := by rw [hwb]; exact heap_alloc_new _ _
    have HBb := hide (show Below w5.heap.size w5 wb by rw [hwb]; exact then_below HBr.out (Joins.below_alloc1 _ _))
    have HXb := hide hXb
    have Hcc := hide (fun w' (hb : Below wb.heap.size wb w') => (fun i hi => (hb.cell (p := ⟨b, off + j * 25 + i, none⟩) (by have := HBb.out.size; show b < wb.heap.size; omega)).trans ((by rw [hwb]; exact (Joins.below_alloc1 wr _).cell (p := ⟨b, off + j * 25 + i, none⟩) (by have := HBr.out.size; show b < wr.heap.size; omega) : wb.cell? ⟨b, off + j * 25 + i, none⟩ = wr.cell? ⟨b, off + j * 25 + i, none⟩).trans (hcc i hi)) : ∀ i, i < 25 → w'.cell? ⟨b, off + j * 25 + i, none⟩ = some (vs.getD i v0)))
    have HCall := hide (fun w' (hb : Below wb.heap.size wb w') => hcall w' (then_below HBb.out hb) (then_below HBb.out hb))
    clear hwb hXb hcc hcall
    go_upto_region 26 with (first | (refine wpList_loadBigAt rfl 43 _ rfl b' (off' + j * 25) 25 vs' big_def hv2 rfl hcc' ?_) | (refine wpList_storeBig rfl 43 _ _ rfl wr.heap.size 25 vs' big_def hv2 hone rfl rfl hBx ?_; rw [← HWB.out]))
    clear hBx HWB hcc'
    refine wp_region_held_drew (S := fun w' => Below wb.heap.size wb w') (by kernel_rfl) ((Below.refl _ _).drew) (fun hS => ?_)
    (refine wpAnyH_take (i := 0) (oi := ⟨some 147, _, _, _, _, _⟩) (v := ?_) rfl (by kernel_rfl) (by kernel_rfl) (by kernel_rfl) (fun _ _ _ h => h) (Or.inl ⟨by rfl, ?_⟩) hS ?_; rotate_left 1; (focus (intro w' hw'; go_simp; all_goals first | with_reducible rfl | rw [if_neg (by omega)] | rw [if_pos (by omega)])); try simp only [Act.put, List.setIfInBounds_toArray, List.set_cons_zero, List.set_cons_succ])
    (refine wpAnyH_take (i := 1) (oi := ⟨some 148, _, _, _, _, _⟩) (v := ?_) rfl (by kernel_rfl) (by kernel_rfl) (by kernel_rfl) (fun _ _ _ h => h) (Or.inl ⟨by rfl, ?_⟩) hS ?_; rotate_left 1; (focus (intro w' hw'; go_simp; all_goals first | with_reducible rfl | rw [if_neg (by omega)] | rw [if_pos (by omega)])); try simp only [Act.put, List.setIfInBounds_toArray, List.set_cons_zero, List.set_cons_succ])
    (refine wpAnyH_take (i := 2) (oi := ⟨some 149, _, _, _, _, _⟩) (v := ?_) rfl (by kernel_rfl) (by kernel_rfl) (by kernel_rfl) (fun _ _ _ h => h) (Or.inl ⟨by rfl, ?_⟩) hS ?_; rotate_left 1; (focus (intro w' hw'; go_simp; all_goals first | with_reducible rfl | rw [if_neg (by omega)] | rw [if_pos (by omega)])); try simp only [Act.put, List.setIfInBounds_toArray, List.set_cons_zero, List.set_cons_succ])
    refine wpAnyH_take (i := 3) (oi := ⟨some 150, _, _, _, _, _⟩) (v := ?_) rfl (by kernel_rfl) (by kernel_rfl) (by kernel_rfl) (fun _ _ _ h => h) (Or.inl ⟨by rfl, ?_⟩) hS ?_
    rotate_left 1
    ·intro w' hw'
     refine run_loadAt_op 43 (.tmp 149) ?_ b (off + j * 25) 25 vs big_def hv1 ?_ (Hcc.out w' hw') <;> rfl
    try simp only [Act.put, List.setIfInBounds_toArray, List.set_cons_zero, List.set_cons_succ]
    refine wpAnyH_take (i := 4) (oi := ⟨some 151, _, _, _, _, _⟩) (v := ?_) rfl (by kernel_rfl) (by kernel_rfl) (by kernel_rfl) (fun _ _ _ h => h) (Or.inl ⟨by rfl, ?_⟩) hS ?_
    rotate_left 1
    ·intro w' hw'
     refine run_load_op 43 (.tmp 21) ?_ wr.heap.size 25 vs' big_def hv2 ?_ ((hw'.block _ (holds_size HXb.out)).trans HXb.out) <;> rfl
    try simp only [Act.put, List.setIfInBounds_toArray, List.set_cons_zero, List.set_cons_succ]
    refine wpAnyH_ready (rs := [5]) (by kernel_rfl) (by simp) ?_; refine (AllReadyH.cons (o := ⟨some 152, _, _, _, _, _⟩) rfl (fun K hK => ?_) AllReadyH.nil)
    go_simp
    go_at_call 26
    refine (HCall.out _ hS).mono ?_
    rintro e wc ⟨rfl, hb⟩
    refine hK.out _ _ (hS.trans (hb.mono hS.size)) (fun hS => ?_)
    clear hK K hb
    try simp only [Act.put, List.setIfInBounds_toArray, List.set_cons_zero, List.set_cons_succ]
    (refine wpAnyH_take (i := 6) (oi := ⟨some 153, _, _, _, _, _⟩) (v := ?_) rfl (by kernel_rfl) (by kernel_rfl) (by kernel_rfl) (fun _ _ _ h => h) (Or.inl ⟨by rfl, ?_⟩) hS ?_; rotate_left 1; (focus (intro w' hw'; go_simp; all_goals first | with_reducible rfl | rw [if_neg (by omega)] | rw [if_pos (by omega)])); try simp only [Act.put, List.setIfInBounds_toArray, List.set_cons_zero, List.set_cons_succ])
    refine wpAnyH_done (by kernel_rfl) ?_ _
    have HBc := hide (then_below HBb.out hS)
    clear hS HBb Hcc HCall HXb
    go_wp2_with fail
    go_roundw
    case rel => exact ⟨j + 1, by go_num, by omega, HBc⟩
    case measure => simp [intOf]; omega
   ·obtain rfl : j = n := by omega
    have HB9' := hide (then_below HB5.out HBr.out)
    go_wp2_with fail
    refine (HAw.out _ HB9'.out).mono ?_
    rintro e wx ⟨rfl, hb⟩
    have HBx := hide (then_below HB9'.out hb)
    clear hb
    go_wp2_with fail
    go_ret
    exact ⟨rfl, HBx.out⟩
theorem parseTexts_walk (s0 s1 : ByteArray) (w : World) (f0 : s0.size ≤ maxLen) (f1 : s1.size ≤ maxLen) (hL : Lw w) : Calls Tryz.prog 7 #[.string s0, .string s1] w fun e w' => e = .returned (.bool true) ∧ Below w.heap.size w w' := by
 by_cases h : 2000 < s0.size ∨ 2000 < s1.size
 ·exact texts_long s0 s1 w hL h f0 f1
 ·have h0 : s0.size ≤ 2000 := by omega
  have h1 : s1.size ≤ 2000 := by omega
  by_cases e0 : errP s0.data.toList = 0
  ·by_cases e1 : errP s1.data.toList = 0
   ·exact texts_good s0 s1 w hL h0 h1 e0 e1
   ·exact texts_fail s0 s1 w hL h0 h1 e0 e1
  ·by_cases hx : (lexA s0.data.toList).2.2 = 0
   ·exact texts_rule s0 s1 w hL h0 h1 hx e0
   ·exact texts_lex s0 s1 w hL h0 h1 hx
end Go.Proofs.YtljoajjlkjjgeaaGreatDoor
