/-
  readLiteral and readSign.
  readSign: the longest sign.
  read: the token at a place.
  Lex: all tokens of a text.
-/
import Derived.Test.YtljoajjlkjjgeaaGreatDoorML2
namespace Go.Proofs.YtljoajjlkjjgeaaGreatDoor
open Go.RowKit Go.Sort LM

/-- What Parse tells of what begins with a quote. -/
theorem litParse (s : ByteArray) (at' : Nat) (w : World) (hT : Tab w) (hE : Errs w) (hs : s.size ≤ 140737488355328) (ha : at' < s.size) (hc : s[at'] = 34) :
  Calls Tryz.prog 125 #[.string ⟨((rest s at').take (endL s at' - at')).toArray⟩] w fun e w' => e = (match litR (rest s at') with | .ok _ t _ _ => .returned (.tuple #[vVal 2 0 ⟨t.toArray⟩, .int .i64 0]) | .no _ => .returned (.tuple #[vNull, .int .i64 20])) ∧ Below w.heap.size w w' := by
 have hr := rest_at ha
 rw [hc] at hr
 have hlen := rest_len s (at' + 1)
 have hm : endL s at' - at' = min (preS qtF false (rest s (at' + 1)) + 2) (s.size - at') := by unfold endL; omega
 rw [hm, hr]
 unfold litR
 simp only [List.tail_cons]
 generalize rest s (at' + 1) = r at *
 cases hq : litL r with
 | some x =>
  obtain ⟨t, m⟩ := x
  obtain ⟨i1, i2, ⟨r', i3⟩, i4⟩ := lit_some hq
  have hz : (34 :: r : List UInt8) = quoteL t ++ r' := by rw [i3]; unfold quoteL; simp
  have hqt : preS qtF false r = (esc t).length := by rw [i3]; exact qt_esc t r'
  have hl : (quoteL t).length = (esc t).length + 2 := by unfold quoteL; simp
  have hl2 : (esc t).length + 2 ≤ s.size - at' := by rw [i3] at hlen; simp at hlen; omega
  have hv : rightV 2 0 ⟨t.toArray⟩ = true := by
   unfold rightV rightT
   rw [list_of, size_of, i1]
   simp [i2]
  have hsh : showV 2 0 ⟨t.toArray⟩ = (34 :: r).take (min (preS qtF false r + 2) (s.size - at')) := by
   unfold showV
   rw [hv, hqt, Nat.min_eq_left hl2, hz, ← hl, List.take_left]
   simp
  have := parse_right 2 0 ⟨t.toArray⟩ w hv (by unfold I64; omega) hT
  rw [hsh] at this
  exact this
 | none =>
  refine (parse_any ⟨((34 :: r).take (min (preS qtF false r + 2) (s.size - at'))).toArray⟩ w (by rw [size_of, List.length_take]; omega) hT hE).mono ?_
  rintro e w' ⟨h, hb⟩
  refine ⟨?_, hb⟩
  rcases h with ⟨k, n, t, h1, h2, h3, h4, -⟩ | rfl
  ·exfalso
   rw [list_of] at h4
   have hhd : (showV k n t).head? = some 34 := by
    rw [h4]
    obtain ⟨j, hj⟩ : ∃ j, min (preS qtF false r + 2) (s.size - at') = j + 1 := ⟨min (preS qtF false r + 2) (s.size - at') - 1, by omega⟩
    rw [hj]; rfl
   rcases rightV_cases h1 with ⟨rfl, rfl, rfl⟩ | ⟨rfl, rfl⟩ | ⟨rfl, rfl, ht⟩
   ·have e : showV 0 0 ⟨#[]⟩ = [110, 117, 108, 108] := by unfold showV; rw [h1]; rfl
    rw [e] at hhd; simp at hhd
   ·have e : showV 1 n ⟨#[]⟩ = Lib.itoa n := by unfold showV; rw [h1]; rfl
    obtain ⟨c, q, e2, h5⟩ := itoa_head n
    rw [e, e2] at hhd
    injection hhd with hhd
    subst hhd
    revert h5; decide
   ·have e : showV 2 0 t = quoteL t.data.toList := by unfold showV; rw [h1]; rfl
    rw [e] at h4
    obtain ⟨D, hD⟩ : ∃ D, D = (34 :: r : List UInt8).drop (min (preS qtF false r + 2) (s.size - at')) := ⟨_, rfl⟩
    have h5 : (34 :: r : List UInt8) = quoteL t.data.toList ++ D := by rw [h4, hD, List.take_append_drop]
    have h6 : r = esc t.data.toList ++ 34 :: D := by
     unfold quoteL at h5
     have h8 := List.tail_eq_of_cons_eq h5
     rw [h8]; simp
    have h7 : t.data.toList.all okByte = true := by
     unfold rightV rightT at h1; simp at h1; simpa using h1.2
    rw [h6, lit_esc _ h7 (by rw [Array.length_toList]; exact ht)] at hq
    cases hq
  ·rfl
/-- A value told beside an error. -/
def ValRes (V : Value) (z : Int) (w : World) (e : Ending) (w' : World) : Prop := e = .returned (.tuple #[V, .int .i64 z]) ∧ Below w.heap.size w w'
set_option maxHeartbeats 4000000 in
theorem lit_any (s : ByteArray) (at' : Nat) (w : World) (hT : Tab w) (hE : Errs w) (hs : s.size ≤ 140737488355328) (ha : at' < s.size) (hc : s[at'] = 34) :
  Calls Tryz.prog 102 #[.string s, .int .i64 at'] w fun e w' => e = outR at' (litR (rest s at')) ∧ Below w.heap.size w w' := by
 have HB0 := hide (boxT_below w)
 have HEnd := hide (fun w1 => litEnd_any s at' w1 hs ha)
 have hE1 : at' + 1 ≤ endL s at' ∧ endL s at' ≤ s.size := by unfold endL; omega
 have HX := hide (ext_rest s at' (endL s at' - at'))
 rw [show at' + (endL s at' - at') = endL s at' by omega] at HX
 have HP : Hid (∀ w1, Below w.heap.size w w1 → Calls Tryz.prog 125 #[.string (s.extract at' (endL s at'))] w1 fun e w' => e = (match litR (rest s at') with | .ok _ t _ _ => .returned (.tuple #[vVal 2 0 ⟨t.toArray⟩, .int .i64 0]) | .no _ => .returned (.tuple #[vNull, .int .i64 20])) ∧ Below w1.heap.size w1 w') := hide fun w1 hb => by
  rw [HX.out]
  exact litParse s at' w1 (hT.stays hb (Nat.le_refl _)) (hE.stays hb (Nat.le_refl _)) hs ha hc
 have HQ : Hid ((∃ t m, litR (rest s at') = .ok 3 t 0 m ∧ endL s at' = at' + m) ∨ litR (rest s at') = .no 50) := hide (by
  unfold litR
  have hr := rest_at ha
  have hlen := rest_len s (at' + 1)
  rw [hr, List.tail_cons]
  unfold endL
  generalize rest s (at' + 1) = r at *
  cases hq : litL r with
  | none => exact Or.inr rfl
  | some x =>
   obtain ⟨t, m⟩ := x
   obtain ⟨i1, i2, ⟨r', i3⟩, i4⟩ := lit_some hq
   have hqt : preS qtF false r = (esc t).length := by rw [i3]; exact qt_esc t r'
   refine Or.inl ⟨t, m + 1, rfl, ?_⟩
   rw [i3] at hlen; simp at hlen
   rw [hqt]; omega)
 clear HX hT hE hc
 generalize endL s at' = T at *
 generalize litR (rest s at') = R at *
 obtain ⟨hE1, hE2⟩ := hE1
 rcases HQ.out with ⟨t, m, rfl, hm⟩ | rfl
 ·clear HQ
  have HM := hide hm
  clear hm
  go_enter Tryz.func102, Tryz.ntmps102
  go_wp2_with fail
  refine (HEnd.out _).mono ?_
  rintro e w1 ⟨rfl, hb⟩
  have HB := hide (HB0.out.trans (hb.mono HB0.out.size))
  have HBb := hide hb
  clear hb HEnd
  go_wp2_with fail
  refine (HP.out _ HB.out).mono ?_
  rintro e w2 ⟨rfl, hb⟩
  obtain ⟨⟨c0, c1, c2, c3⟩, ff, hz⟩ := boxT_cells (HBb.out.trans (hb.mono HBb.out.size))
  have HB2 := hide (HB.out.trans (hb.mono HB.out.size))
  clear hb
  have f0 := ff 0; have f1 := ff 1; have f2 := ff 2; have f3 := ff 3
  clear ff
  go_wp2_with fail
  refine bodyPost_ret (v := .tuple #[vT 3 t 0 0, .int .i64 (T : Nat), .int .i64 0]) (by simp [results, Tryz.results102, go_sem, c0, c1, c2, c3, hz]) rfl ⟨by rw [HM.out]; rfl, ?_⟩
  have := HB2.out
  go_grown
 ·clear HQ
  go_enter Tryz.func102, Tryz.ntmps102
  go_wp2_with fail
  refine (HEnd.out _).mono ?_
  rintro e w1 ⟨rfl, hb⟩
  have HB := hide (HB0.out.trans (hb.mono HB0.out.size))
  have HBb := hide hb
  clear hb HEnd
  go_wp2_with fail
  refine (HP.out _ HB.out).mono ?_
  rintro e w2 ⟨rfl, hb⟩
  obtain ⟨⟨c0, c1, c2, c3⟩, ff, hz⟩ := boxT_cells (HBb.out.trans (hb.mono HBb.out.size))
  have HB2 := hide (HB.out.trans (hb.mono HB.out.size))
  clear hb
  have f0 := ff 0; have f1 := ff 1; have f2 := ff 2; have f3 := ff 3
  clear ff
  go_wp2_with fail
  refine bodyPost_ret (v := .tuple #[vT 0 [] 0 0, .int .i64 0, .int .i64 50]) (by simp [results, Tryz.results102, go_sem, c0, c1, c2, c3, hz]) rfl ⟨rfl, ?_⟩
  have := HB2.out
  go_grown
end Go.Proofs.YtljoajjlkjjgeaaGreatDoor
namespace Go.Proofs.YtljoajjlkjjgeaaGreatDoor
open Go.RowKit Go.Sort LM

/-- The variable signs holds the signs. -/
def Sg (w : World) : Prop := ∀ i, i < 18 → w.cell? ⟨1, i, none⟩ = some (txt (signsL.getD i []))
theorem Sg.lt {w : World} (h : Sg w) : 1 < w.heap.size := lt_of_cell (h 0 (by decide))
theorem Sg.on {w w' : World} (h : Sg w) (hb : Below w.heap.size w w') : Sg w' := fun i hi => (hb.cell (p := ⟨1, i, none⟩) h.lt).trans (h i hi)
theorem find_at {p : List UInt8 → Bool} : ∀ (L : List (List UInt8)) (j : Nat), j < L.length → (∀ i, i < j → p (L.getD i []) = false) → p (L.getD j []) = true → L.find? p = some (L.getD j [])
 | [], j, h, _, _ => by simp at h
 | a :: L, 0, _, _, h => by
  have h : p a = true := h
  rw [List.find?_cons, h]; rfl
 | a :: L, j + 1, hj, hn, h => by
  have h0 : p a = false := hn 0 (by omega)
  rw [List.find?_cons, h0]
  exact find_at L j (by simpa using hj) (fun i hi => hn (i + 1) (by omega)) h
theorem find_no {p : List UInt8 → Bool} : ∀ (L : List (List UInt8)), (∀ i, i < L.length → p (L.getD i []) = false) → L.find? p = none
 | [], _ => rfl
 | a :: L, h => by
  have h0 : p a = false := h 0 (by simp)
  rw [List.find?_cons, h0]
  exact find_no L (fun i hi => h (i + 1) (by simpa using hi))
def NoSign (s : ByteArray) (at' k : Nat) : Prop := ∀ j, j < k → (signsL.getD j []).isPrefixOf (rest s at') = false
theorem noSign_step {s : ByteArray} {at' k : Nat} (h : NoSign s at' k) (hp : (signsL.getD k []).isPrefixOf (rest s at') = false) : NoSign s at' (k + 1) := fun j hj => by
 by_cases e : j = k
 ·subst e; exact hp
 ·exact h j (by omega)
theorem sign_found {s : ByteArray} {at' j : Nat} (hj : j < signsL.length) (h : NoSign s at' j) (hp : (signsL.getD j []).isPrefixOf (rest s at') = true) : outR at' (sgnR (rest s at')) = .returned (.tuple #[vT 4 (signsL.getD j []) 0 0, .int .i64 ((at' + (signsL.getD j []).length : Nat) : Int), .int .i64 0]) := by
 unfold sgnR sgnL
 rw [find_at (p := fun g => g.isPrefixOf (rest s at')) signsL j hj h hp]
 rfl
theorem sign_none {s : ByteArray} {at' : Nat} (h : NoSign s at' 18) : outR at' (sgnR (rest s at')) = .returned (.tuple #[vT 0 [] 0 0, .int .i64 0, .int .i64 50]) := by
 unfold sgnR sgnL
 rw [find_no (p := fun g => g.isPrefixOf (rest s at')) signsL h]
 rfl
theorem rest_all (s : ByteArray) (at' : Nat) : (s.extract at' s.size).data.toList = rest s at' := by
 rw [Lib.extract_data]
 unfold rest
 rw [List.take_of_length_le]
 simp

theorem idx_und : Tryz.prog.underlying 189 = some (.array 18 9) := by kernel_rfl
theorem idx_arr (cs : Array Value) (j : Nat) (t : ByteArray) (w : World) (hj : j < 18) (hv : cs[j]? = some (.string t)) : (Instr.index 189 (.agg cs) (.int .i64 (j : Int))).run Tryz.prog w = .ok (.string t) w := by
 have h : (0 : Int) ≤ (j : Int) ∧ (j : Int) < 18 := by omega
 simp [Instr.index, asIntOf, run_underlying idx_und, h, go_sem]
 rw [if_pos hj, hv]
 rfl
/-- The array of the signs, as a value. -/
@[irreducible] def SGV : Value := .agg #[.string ⟨#[33, 61]⟩, .string ⟨#[60, 61]⟩, .string ⟨#[62, 61]⟩, .string ⟨#[46, 46]⟩, .string ⟨#[40]⟩, .string ⟨#[41]⟩, .string ⟨#[44]⟩, .string ⟨#[59]⟩, .string ⟨#[58]⟩, .string ⟨#[124]⟩, .string ⟨#[43]⟩, .string ⟨#[45]⟩, .string ⟨#[42]⟩, .string ⟨#[47]⟩, .string ⟨#[37]⟩, .string ⟨#[61]⟩, .string ⟨#[60]⟩, .string ⟨#[62]⟩]
theorem sg_fold : Value.agg #[.string ⟨#[33, 61]⟩, .string ⟨#[60, 61]⟩, .string ⟨#[62, 61]⟩, .string ⟨#[46, 46]⟩, .string ⟨#[40]⟩, .string ⟨#[41]⟩, .string ⟨#[44]⟩, .string ⟨#[59]⟩, .string ⟨#[58]⟩, .string ⟨#[124]⟩, .string ⟨#[43]⟩, .string ⟨#[45]⟩, .string ⟨#[42]⟩, .string ⟨#[47]⟩, .string ⟨#[37]⟩, .string ⟨#[61]⟩, .string ⟨#[60]⟩, .string ⟨#[62]⟩] = SGV := by unfold SGV; rfl
@[local go_sem] theorem idx_sgv (j : Nat) (w : World) (hj : j < 18) : (Instr.index 189 SGV (.int .i64 (j : Int))).run Tryz.prog w = .ok (txt (signsL.getD j [])) w := by
 unfold SGV
 refine idx_arr _ j _ w hj ?_
 have hc : j = 0 ∨ j = 1 ∨ j = 2 ∨ j = 3 ∨ j = 4 ∨ j = 5 ∨ j = 6 ∨ j = 7 ∨ j = 8 ∨ j = 9 ∨ j = 10 ∨ j = 11 ∨ j = 12 ∨ j = 13 ∨ j = 14 ∨ j = 15 ∨ j = 16 ∨ j = 17 := by omega
 rcases hc with rfl | rfl | rfl | rfl | rfl | rfl | rfl | rfl | rfl | rfl | rfl | rfl | rfl | rfl | rfl | rfl | rfl | rfl <;> rfl
set_option maxRecDepth 100000 in
set_option maxHeartbeats 20000000 in
theorem sign_any (s : ByteArray) (at' : Nat) (w : World) (hS : Sg w) (hs : s.size ≤ 140737488355328) (ha : at' < s.size) :
  Calls Tryz.prog 103 #[.string s, .int .i64 at'] w fun e w' => e = outR at' (sgnR (rest s at')) ∧ Below w.heap.size w w' := by
 have HB0 := hide (boxT_below w)
 have HS := hide (hS.on HB0.out)
 have HP : Hid (∀ (w1 : World) (g : List UInt8), Calls Tryz.prog 126 #[.string (s.extract at' s.size), .string ⟨g.toArray⟩] w1 fun e w' => e = .returned (.bool (g.isPrefixOf (rest s at'))) ∧ w1 = w') := hide fun w1 g => (Tryz.strings_HasPrefix (s.extract at' s.size) ⟨g.toArray⟩ w1).mono fun e w' h => by
  obtain ⟨rfl, rfl⟩ := h
  rw [rest_all, list_of]
  exact ⟨rfl, rfl⟩
 clear hS
 have k0 : (boxT w).cell? ⟨1, 0, none⟩ = some (.string ⟨#[33, 61]⟩) := HS.out 0 (by decide)
 have k1 : (boxT w).cell? ⟨1, 1, none⟩ = some (.string ⟨#[60, 61]⟩) := HS.out 1 (by decide)
 have k2 : (boxT w).cell? ⟨1, 2, none⟩ = some (.string ⟨#[62, 61]⟩) := HS.out 2 (by decide)
 have k3 : (boxT w).cell? ⟨1, 3, none⟩ = some (.string ⟨#[46, 46]⟩) := HS.out 3 (by decide)
 have k4 : (boxT w).cell? ⟨1, 4, none⟩ = some (.string ⟨#[40]⟩) := HS.out 4 (by decide)
 have k5 : (boxT w).cell? ⟨1, 5, none⟩ = some (.string ⟨#[41]⟩) := HS.out 5 (by decide)
 have k6 : (boxT w).cell? ⟨1, 6, none⟩ = some (.string ⟨#[44]⟩) := HS.out 6 (by decide)
 have k7 : (boxT w).cell? ⟨1, 7, none⟩ = some (.string ⟨#[59]⟩) := HS.out 7 (by decide)
 have k8 : (boxT w).cell? ⟨1, 8, none⟩ = some (.string ⟨#[58]⟩) := HS.out 8 (by decide)
 have k9 : (boxT w).cell? ⟨1, 9, none⟩ = some (.string ⟨#[124]⟩) := HS.out 9 (by decide)
 have k10 : (boxT w).cell? ⟨1, 10, none⟩ = some (.string ⟨#[43]⟩) := HS.out 10 (by decide)
 have k11 : (boxT w).cell? ⟨1, 11, none⟩ = some (.string ⟨#[45]⟩) := HS.out 11 (by decide)
 have k12 : (boxT w).cell? ⟨1, 12, none⟩ = some (.string ⟨#[42]⟩) := HS.out 12 (by decide)
 have k13 : (boxT w).cell? ⟨1, 13, none⟩ = some (.string ⟨#[47]⟩) := HS.out 13 (by decide)
 have k14 : (boxT w).cell? ⟨1, 14, none⟩ = some (.string ⟨#[37]⟩) := HS.out 14 (by decide)
 have k15 : (boxT w).cell? ⟨1, 15, none⟩ = some (.string ⟨#[61]⟩) := HS.out 15 (by decide)
 have k16 : (boxT w).cell? ⟨1, 16, none⟩ = some (.string ⟨#[60]⟩) := HS.out 16 (by decide)
 have k17 : (boxT w).cell? ⟨1, 17, none⟩ = some (.string ⟨#[62]⟩) := HS.out 17 (by decide)
 unfold boxT at k0 k1 k2 k3 k4 k5 k6 k7 k8 k9 k10 k11 k12 k13 k14 k15 k16 k17
 have HK0 : Hid (NoSign s at' 0) := hide fun j hj => absurd hj (Nat.not_lt_zero _)
 go_enter Tryz.func103, Tryz.ntmps103
 go_wp2_with fail
 clear k0 k1 k2 k3 k4 k5 k6 k7 k8 k9 k10 k11 k12 k13 k14 k15 k16 k17
 rw [sg_fold]
 go_loopw [10] (fun i wr => ∃ k : Nat, i = .int .i64 k ∧ k ≤ 18 ∧ Hid (NoSign s at' k) ∧ wr = boxT w) (fun i _ => 18 - (intOf i).toNat)
 case atStart => exact ⟨0, rfl, by omega, HK0, rfl⟩
 case round =>
  obtain ⟨k, rfl, hk, HK, rfl⟩ := hrel
  clear HK0
  unfold boxT
  by_cases hlt : k < 18
  ·have HY := hide (fun hp => sign_found (s := s) (at' := at') (j := k) hlt HK.out hp)
   have HN := hide (fun hp => noSign_step HK.out hp)
   have hgl : (signsL.getD k []).length ≤ 2 := by
    have : ∀ g ∈ signsL, g.length ≤ 2 := by decide
    rw [List.getD_eq_getElem?_getD, List.getElem?_eq_getElem hlt]
    exact this _ (List.getElem_mem hlt)
   rw [List.getD_eq_getElem?_getD] at HY HN hgl
   clear HK
   go_wp2_with fail
   generalize signsL[k]?.getD [] = g at *
   refine (HP.out _ g).mono ?_
   rintro e w1 ⟨rfl, rfl⟩
   generalize hp : List.isPrefixOf g (rest s at') = b at *
   cases b
   ·have HN2 := hide (HN.out rfl)
    clear HN HY
    go_wp2_with fail
    go_roundw
    case rel => exact ⟨k + 1, by go_num, by omega, HN2, by trivial⟩
    case measure => simp [intOf]; omega
   ·have HY2 := hide (HY.out rfl)
    clear HN HY
    go_wp2_with fail
    refine bodyPost_ret (v := .tuple #[vT 4 g 0 0, .int .i64 ((at' + g.length : Nat) : Int), .int .i64 0]) (by simp [results, Tryz.results103, go_sem]) rfl ⟨HY2.out.symm, ?_⟩
    have := HB0.out
    go_grown
  ·obtain rfl : k = 18 := by omega
   have HY := hide (sign_none HK.out)
   clear HK hlt hk
   go_wp2_with fail
   refine bodyPost_ret (v := .tuple #[vT 0 [] 0 0, .int .i64 0, .int .i64 50]) (by simp [results, Tryz.results103, go_sem]) rfl ⟨HY.out.symm, ?_⟩
   have := HB0.out
   go_grown
end Go.Proofs.YtljoajjlkjjgeaaGreatDoor
namespace Go.Proofs.YtljoajjlkjjgeaaGreatDoor
open Go.RowKit Go.Sort LM

/-- What the listed variables hold. -/
structure Lw (w : World) : Prop where
 tab : Tab w
 errs : Errs w
 sg : Sg w
theorem Lw.on {w w' : World} (h : Lw w) (hb : Below w.heap.size w w') : Lw w' := ⟨h.tab.stays hb (Nat.le_refl _), h.errs.stays hb (Nat.le_refl _), h.sg.on hb⟩
/-- What read tells. -/
def outA (at' : Nat) : Rd → Ending
 | .ok k t n m => .returned (.tuple #[vT k t n (at' : Nat), .int .i64 ((at' + m : Nat) : Int), .int .i64 0])
 | .no z => .returned (.tuple #[vT 0 [] 0 (at' : Nat), .int .i64 0, .int .i64 z])
theorem out_both (at' : Nat) (R : Rd) : ∃ k t n a z, outR at' R = .returned (.tuple #[vT k t n 0, .int .i64 a, .int .i64 z]) ∧ outA at' R = .returned (.tuple #[vT k t n (at' : Nat), .int .i64 a, .int .i64 z]) := by
 cases R with
 | ok k t n m => exact ⟨k, t, n, _, 0, rfl, rfl⟩
 | no z => exact ⟨0, [], 0, 0, z, rfl, rfl⟩
theorem tok_at {s : ByteArray} {at' : Nat} (ha : at' < s.size) : tokL (rest s at') = if lowP s[at'] then wordR (rest s at') else if digP s[at'] then numR (rest s at') else if s[at'] = 34 then litR (rest s at') else sgnR (rest s at') := by
 rw [rest_at ha]; rfl
/-- Four cells that may be written. -/
def At4 (w : World) (b : Nat) (x y z u : Value) : Prop := (w.cell? ⟨b, 0, none⟩ = some x ∧ w.cell? ⟨b, 1, none⟩ = some y ∧ w.cell? ⟨b, 2, none⟩ = some z ∧ w.cell? ⟨b, 3, none⟩ = some u) ∧ w.frozen? ⟨b, 0, none⟩ = false ∧ w.frozen? ⟨b, 1, none⟩ = false ∧ w.frozen? ⟨b, 2, none⟩ = false ∧ w.frozen? ⟨b, 3, none⟩ = false
theorem cell_off (w : World) (b i j : Nat) (v : Value) (h : i ≠ j) : (w.setCell ⟨b, j, none⟩ v).cell? ⟨b, i, none⟩ = w.cell? ⟨b, i, none⟩ := World.cell?_setCell_other _ _ _ _ (by intro x; injection x with _ x; exact h x.symm)
theorem At4.set0 {w : World} {b : Nat} {x y z u : Value} (h : At4 w b x y z u) (v : Value) : At4 (w.setCell ⟨b, 0, none⟩ v) b v y z u := by
 obtain ⟨⟨c0, c1, c2, c3⟩, f⟩ := h
 refine ⟨⟨World.cell?_setCell_same' _ _ _ (by rw [c0]; rfl), ?_, ?_, ?_⟩, by simp only [World.frozen?_setCell]; exact f⟩
 ·rw [cell_off _ _ _ _ _ (by decide)]; exact c1
 ·rw [cell_off _ _ _ _ _ (by decide)]; exact c2
 ·rw [cell_off _ _ _ _ _ (by decide)]; exact c3
theorem At4.set1 {w : World} {b : Nat} {x y z u : Value} (h : At4 w b x y z u) (v : Value) : At4 (w.setCell ⟨b, 1, none⟩ v) b x v z u := by
 obtain ⟨⟨c0, c1, c2, c3⟩, f⟩ := h
 refine ⟨⟨?_, World.cell?_setCell_same' _ _ _ (by rw [c1]; rfl), ?_, ?_⟩, by simp only [World.frozen?_setCell]; exact f⟩
 ·rw [cell_off _ _ _ _ _ (by decide)]; exact c0
 ·rw [cell_off _ _ _ _ _ (by decide)]; exact c2
 ·rw [cell_off _ _ _ _ _ (by decide)]; exact c3
theorem At4.set2 {w : World} {b : Nat} {x y z u : Value} (h : At4 w b x y z u) (v : Value) : At4 (w.setCell ⟨b, 2, none⟩ v) b x y v u := by
 obtain ⟨⟨c0, c1, c2, c3⟩, f⟩ := h
 refine ⟨⟨?_, ?_, World.cell?_setCell_same' _ _ _ (by rw [c2]; rfl), ?_⟩, by simp only [World.frozen?_setCell]; exact f⟩
 ·rw [cell_off _ _ _ _ _ (by decide)]; exact c0
 ·rw [cell_off _ _ _ _ _ (by decide)]; exact c1
 ·rw [cell_off _ _ _ _ _ (by decide)]; exact c3
theorem At4.set3 {w : World} {b : Nat} {x y z u : Value} (h : At4 w b x y z u) (v : Value) : At4 (w.setCell ⟨b, 3, none⟩ v) b x y z v := by
 obtain ⟨⟨c0, c1, c2, c3⟩, f⟩ := h
 refine ⟨⟨?_, ?_, ?_, World.cell?_setCell_same' _ _ _ (by rw [c3]; rfl)⟩, by simp only [World.frozen?_setCell]; exact f⟩
 ·rw [cell_off _ _ _ _ _ (by decide)]; exact c0
 ·rw [cell_off _ _ _ _ _ (by decide)]; exact c1
 ·rw [cell_off _ _ _ _ _ (by decide)]; exact c2
/-- A token written into its box, and then its place. -/
theorem box_put {w w2 : World} (k n a : Int) (t : List UInt8) (hb : Below (boxT w).heap.size (boxT w) w2) :
  ∃ w3, (((((w2.setCell ⟨w.heap.size, 0, none⟩ (.int .i64 k)).setCell ⟨w.heap.size, 1, none⟩ (.string ⟨t.toArray⟩)).setCell ⟨w.heap.size, 2, none⟩ (.int .i64 n)).setCell ⟨w.heap.size, 3, none⟩ (.int .i64 0)).setCell ⟨w.heap.size, 3, none⟩ (.int .i64 a)) = w3 ∧
   At4 w3 w.heap.size (.int .i64 k) (txt t) (.int .i64 n) (.int .i64 a) ∧ w.heap.size < w3.heap.size ∧ Below w.heap.size w w3 := by
 obtain ⟨⟨c0, c1, c2, c3⟩, ff, hz⟩ := boxT_cells hb
 have h0 : At4 w2 w.heap.size _ _ _ _ := ⟨⟨c0, c1, c2, c3⟩, ff 0, ff 1, ff 2, ff 3⟩
 refine ⟨_, rfl, ((((h0.set0 _).set1 _).set2 _).set3 _).set3 _, ?_, ?_⟩
 ·simpa using hz
 ·have hB := (boxT_below w).trans (hb.mono (boxT_below w).size)
  exact ((((hB.setCell (Nat.le_refl _) _).setCell (Nat.le_refl _) _).setCell (Nat.le_refl _) _).setCell (Nat.le_refl _) _).setCell (Nat.le_refl _) _
set_option maxHeartbeats 8000000 in
theorem read_any (s : ByteArray) (at' : Nat) (w : World) (hL : Lw w) (hs : s.size ≤ 140737488355328) (ha : at' < s.size) :
  Calls Tryz.prog 65 #[.string s, .int .i64 at'] w fun e w' => e = outA at' (tokL (rest s at')) ∧ Below w.heap.size w w' := by
 have HB0 := hide (boxT_below w)
 have HLe := hide (letter_any s[at'])
 have HDi := hide (digit_any s[at'])
 have hL1 := hL.on HB0.out
 have HW := hide (word_any s at' (boxT w) hs ha)
 have HN := hide (num_any s at' (boxT w) hL1.errs hs ha)
 have HT := hide (lit_any s at' (boxT w) hL1.tab hL1.errs hs ha)
 have HS := hide (sign_any s at' (boxT w) hL1.sg hs ha)
 have HR := hide (tok_at ha)
 clear hL hL1
 generalize tokL (rest s at') = R at *
 by_cases h1 : lowP s[at'] = true
 ·rw [if_pos h1] at HR
  rw [h1] at HLe
  obtain rfl := HR.out
  clear HDi HN HT HS HR h1
  obtain ⟨k, t, n, a, z, e1, e2⟩ := out_both at' (wordR (rest s at'))
  rw [e2]
  rw [e1] at HW
  clear e1 e2
  go_enter Tryz.func65, Tryz.ntmps65
  go_wp2_with fail
  refine (HLe.out _).mono ?_
  rintro e w1 ⟨rfl, rfl⟩
  go_wp2_with fail
  refine HW.out.mono ?_
  rintro e w2 ⟨rfl, hb⟩
  obtain ⟨⟨c0, c1, c2, c3⟩, ff, hz⟩ := boxT_cells hb
  have f0 := ff 0; have f1 := ff 1; have f2 := ff 2; have f3 := ff 3
  obtain ⟨w3, e3, ⟨⟨d0, d1, d2, d3⟩, g0, g1, g2, g3⟩, hz3, hb3⟩ := box_put k n (at' : Int) t hb
  have HB3 := hide hb3
  clear hb ff hb3 HB0
  go_wp2_with (rw [e3]; clear e3 c0 c1 c2 c3 f0 f1 f2 f3 hz)
  refine bodyPost_ret (v := .tuple #[vT k t n (at' : Nat), .int .i64 a, .int .i64 z]) (by simp [results, Tryz.results65, go_sem, d0, d1, d2, d3]) rfl ⟨rfl, ?_⟩
  have := HB3.out
  go_grown
 have h1' : lowP s[at'] = false := by simpa using h1
 rw [if_neg h1] at HR
 rw [h1'] at HLe
 clear h1 h1' HW
 by_cases h2 : digP s[at'] = true
 ·rw [if_pos h2] at HR
  rw [h2] at HDi
  obtain rfl := HR.out
  have HN2 := hide (HN.out h2)
  clear HN HT HS HR h2
  obtain ⟨k, t, n, a, z, e1, e2⟩ := out_both at' (numR (rest s at'))
  rw [e2]
  rw [e1] at HN2
  clear e1 e2
  go_enter Tryz.func65, Tryz.ntmps65
  go_wp2_with fail
  refine (HLe.out _).mono ?_
  rintro e w1 ⟨rfl, rfl⟩
  go_wp2_with fail
  refine (HDi.out _).mono ?_
  rintro e w1 ⟨rfl, rfl⟩
  go_wp2_with fail
  refine HN2.out.mono ?_
  rintro e w2 ⟨rfl, hb⟩
  obtain ⟨⟨c0, c1, c2, c3⟩, ff, hz⟩ := boxT_cells hb
  have f0 := ff 0; have f1 := ff 1; have f2 := ff 2; have f3 := ff 3
  obtain ⟨w3, e3, ⟨⟨d0, d1, d2, d3⟩, g0, g1, g2, g3⟩, hz3, hb3⟩ := box_put k n (at' : Int) t hb
  have HB3 := hide hb3
  clear hb ff hb3 HB0
  go_wp2_with (rw [e3]; clear e3 c0 c1 c2 c3 f0 f1 f2 f3 hz)
  refine bodyPost_ret (v := .tuple #[vT k t n (at' : Nat), .int .i64 a, .int .i64 z]) (by simp [results, Tryz.results65, go_sem, d0, d1, d2, d3]) rfl ⟨rfl, ?_⟩
  have := HB3.out
  go_grown
 have h2' : digP s[at'] = false := by simpa using h2
 rw [if_neg h2] at HR
 rw [h2'] at HDi
 clear h2 h2' HN
 by_cases h3 : s[at'] = 34
 ·rw [if_pos h3] at HR
  have t1 : ((s[at'].toNat : Int) == 34) = true := byte_is s[at'] 34 (by decide) h3
  obtain rfl := HR.out
  have HN2 := hide (HT.out h3)
  clear HT HS HR h3
  obtain ⟨k, t, n, a, z, e1, e2⟩ := out_both at' (litR (rest s at'))
  rw [e2]
  rw [e1] at HN2
  clear e1 e2
  go_enter Tryz.func65, Tryz.ntmps65
  go_wp2_with fail
  refine (HLe.out _).mono ?_
  rintro e w1 ⟨rfl, rfl⟩
  go_wp2_with fail
  refine (HDi.out _).mono ?_
  rintro e w1 ⟨rfl, rfl⟩
  go_wp2_with fail
  refine HN2.out.mono ?_
  rintro e w2 ⟨rfl, hb⟩
  obtain ⟨⟨c0, c1, c2, c3⟩, ff, hz⟩ := boxT_cells hb
  have f0 := ff 0; have f1 := ff 1; have f2 := ff 2; have f3 := ff 3
  obtain ⟨w3, e3, ⟨⟨d0, d1, d2, d3⟩, g0, g1, g2, g3⟩, hz3, hb3⟩ := box_put k n (at' : Int) t hb
  have HB3 := hide hb3
  clear hb ff hb3 HB0
  go_wp2_with (rw [e3]; clear e3 c0 c1 c2 c3 f0 f1 f2 f3 hz)
  refine bodyPost_ret (v := .tuple #[vT k t n (at' : Nat), .int .i64 a, .int .i64 z]) (by simp [results, Tryz.results65, go_sem, d0, d1, d2, d3]) rfl ⟨rfl, ?_⟩
  have := HB3.out
  go_grown
 ·rw [if_neg h3] at HR
  have t1 : ((s[at'].toNat : Int) == 34) = false := byte_not s[at'] 34 (by decide) h3
  obtain rfl := HR.out
  clear HT HR h3
  obtain ⟨k, t, n, a, z, e1, e2⟩ := out_both at' (sgnR (rest s at'))
  rw [e2]
  rw [e1] at HS
  clear e1 e2
  go_enter Tryz.func65, Tryz.ntmps65
  go_wp2_with fail
  refine (HLe.out _).mono ?_
  rintro e w1 ⟨rfl, rfl⟩
  go_wp2_with fail
  refine (HDi.out _).mono ?_
  rintro e w1 ⟨rfl, rfl⟩
  go_wp2_with fail
  refine HS.out.mono ?_
  rintro e w2 ⟨rfl, hb⟩
  obtain ⟨⟨c0, c1, c2, c3⟩, ff, hz⟩ := boxT_cells hb
  have f0 := ff 0; have f1 := ff 1; have f2 := ff 2; have f3 := ff 3
  obtain ⟨w3, e3, ⟨⟨d0, d1, d2, d3⟩, g0, g1, g2, g3⟩, hz3, hb3⟩ := box_put k n (at' : Int) t hb
  have HB3 := hide hb3
  clear hb ff hb3 HB0
  go_wp2_with (rw [e3]; clear e3 c0 c1 c2 c3 f0 f1 f2 f3 hz)
  refine bodyPost_ret (v := .tuple #[vT k t n (at' : Nat), .int .i64 a, .int .i64 z]) (by simp [results, Tryz.results65, go_sem, d0, d1, d2, d3]) rfl ⟨rfl, ?_⟩
  have := HB3.out
  go_grown
end Go.Proofs.YtljoajjlkjjgeaaGreatDoor
namespace Go.Proofs.YtljoajjlkjjgeaaGreatDoor
open Go.RowKit Go.Sort LM

/-- The slice at A reads as these tokens, and lies below block B. -/
def ToksAt (B : Nat) (w : World) (A : Option Addr) (L : List Tk) : Prop :=
 ∀ j, ∀ h : j < L.length, ∃ b off, A = some ⟨b, off, none⟩ ∧ b < B ∧ w.cell? ⟨b, off + j * 4, none⟩ = some (.int .i64 L[j].k) ∧ w.cell? ⟨b, off + j * 4 + 1, none⟩ = some (txt L[j].t) ∧ w.cell? ⟨b, off + j * 4 + 2, none⟩ = some (.int .i64 L[j].n) ∧ w.cell? ⟨b, off + j * 4 + 3, none⟩ = some (.int .i64 (L[j].at' : Nat))
theorem ToksAt.below {B : Nat} {w w' : World} {A : Option Addr} {L : List Tk} (h : ToksAt B w A L) (hb : Below B w w') : ToksAt B w' A L := fun j hj => by
 obtain ⟨b, off, e, hlt, h0, h1, h2, h3⟩ := h j hj
 exact ⟨b, off, e, hlt, (hb.cell (p := ⟨b, off + j * 4, none⟩) hlt).trans h0, (hb.cell (p := ⟨b, off + j * 4 + 1, none⟩) hlt).trans h1, (hb.cell (p := ⟨b, off + j * 4 + 2, none⟩) hlt).trans h2, (hb.cell (p := ⟨b, off + j * 4 + 3, none⟩) hlt).trans h3⟩
theorem ToksAt.mono {B B' : Nat} {w : World} {A : Option Addr} {L : List Tk} (h : ToksAt B w A L) (hB : B ≤ B') : ToksAt B' w A L := fun j hj => by
 obtain ⟨b, off, e, hlt, r⟩ := h j hj
 exact ⟨b, off, e, Nat.lt_of_lt_of_le hlt hB, r⟩
theorem ToksAt.on {w w' : World} {A : Option Addr} {L : List Tk} (h : ToksAt w.heap.size w A L) (hb : Below w.heap.size w w') : ToksAt w'.heap.size w' A L := (h.below hb).mono hb.size
theorem ToksAt.nil (B : Nat) (w : World) (A : Option Addr) : ToksAt B w A [] := fun j h => by simp at h
/-- The cells of tokens in a row. -/
def tokCells (L : List Tk) : List Value := L.flatMap fun x => [.int .i64 x.k, txt x.t, .int .i64 x.n, .int .i64 (x.at' : Nat)]
theorem tokCells_snoc (L : List Tk) (x : Tk) : tokCells (L ++ [x]) = tokCells L ++ [.int .i64 x.k, txt x.t, .int .i64 x.n, .int .i64 (x.at' : Nat)] := by simp [tokCells]
theorem tokCells_at : ∀ (L : List Tk) (j : Nat) (h : j < L.length), (tokCells L)[j * 4]? = some (.int .i64 L[j].k) ∧ (tokCells L)[j * 4 + 1]? = some (txt L[j].t) ∧ (tokCells L)[j * 4 + 2]? = some (.int .i64 L[j].n) ∧ (tokCells L)[j * 4 + 3]? = some (.int .i64 (L[j].at' : Nat))
 | [], j, h => by simp at h
 | x :: r, 0, _ => by simp [tokCells]
 | x :: r, j + 1, h => by
  have := tokCells_at r j (by simpa using h)
  have e : tokCells (x :: r) = .int .i64 x.k :: txt x.t :: .int .i64 x.n :: .int .i64 (x.at' : Nat) :: tokCells r := by simp [tokCells]
  rw [e, show (j + 1) * 4 = j * 4 + 1 + 1 + 1 + 1 by omega]
  simpa using this
theorem tok_info : (Tryz.prog.info? 134).map (fun i => (i.zero, i.size, i.bytes)) = some (some (.agg #[.int .i64 0, .string ⟨#[]⟩, .int .i64 0, .int .i64 0]), 4, 40) := by kernel_rfl
theorem toks_of_row {w : World} {base : Nat} {e : TypeId} {v : Value} {L : List Tk} (h : w.ownsRow base e 4 v L.length (tokCells L)) :
  ∃ A cap, v = .slice A L.length cap ∧ ToksAt w.heap.size w A L := by
 rcases h.2 with ⟨rfl, h0⟩ | ⟨g, cap, cur, rfl, _, hg, hn, _, hsz, htk⟩
 ·rw [h0]; exact ⟨none, 0, rfl, fun j hj => by omega⟩
 ·refine ⟨some ⟨g, 0, none⟩, cap, rfl, fun j hj => ⟨g, 0, rfl, ?_, ?_⟩⟩
  ·rcases Nat.lt_or_ge g w.heap.size with h' | h'
   ·exact h'
   ·simp [Array.getElem?_eq_none h'] at hg
  ·have hc := tokCells_at L j hj
   rw [← htk] at hc
   have hk : ∀ i u, i < L.length * 4 → (cur.toList.take (L.length * 4))[i]? = some u → w.cell? ⟨g, i, none⟩ = some u := fun i u hi hu => by
    rw [List.getElem?_take_of_lt hi] at hu
    rw [Lib.cell_of_heap hg]; simpa using hu
   rw [Nat.zero_add]
   exact ⟨hk _ _ (by omega) hc.1, hk _ _ (by omega) hc.2.1, hk _ _ (by omega) hc.2.2.1, hk _ _ (by omega) hc.2.2.2⟩
theorem tok_new (w : World) (t : TypeId) (x y z u : Value) (H : Nat) (hH : w.heap.size = H) : ∀ j v, ([x, y, z, u] : List Value)[j]? = some v → (w.alloc (.cells #[x, y, z, u] t)).cell? ((⟨H, 0, none⟩ : Addr).add j) = some v := fun j v hj => by
 subst hH
 match j, hj with
 | 0, hj => simp at hj; subst hj; simp [Addr.add]
 | 1, hj => simp at hj; subst hj; simp [Addr.add]
 | 2, hj => simp at hj; subst hj; simp [Addr.add]
 | 3, hj => simp at hj; subst hj; simp [Addr.add]
theorem tok_one (k n a : Int) (t : ByteArray) : ∀ u ∈ ([.int .i64 k, .string t, .int .i64 n, .int .i64 a] : List Value), u.oneCell' = true := fun u hu => by
 simp at hu; rcases hu with rfl | rfl | rfl | rfl <;> rfl

theorem lexF_form : ∀ (f : Nat) (l : List UInt8) (a : Nat), (lexF f l a).2.2 = 0 ∨ (lexF f l a).1 = []
 | 0, l, a => Or.inl rfl
 | f + 1, l, a => by
  unfold lexF
  by_cases h : l = []
  ·rw [if_pos h]; exact Or.inl rfl
  rw [if_neg h]
  cases tokL l with
  | no e => exact Or.inr rfl
  | ok k t n m =>
   simp only
   unfold joinT
   split
   ·exact Or.inl rfl
   ·exact Or.inr rfl
theorem lexF_end (f : Nat) (a : Nat) : lexF f [] a = ([], a, 0) := by cases f <;> simp [lexF]
theorem lexF_no {f : Nat} {l : List UInt8} {a : Nat} {z : Int} (hl : l ≠ []) (h : tokL l = .no z) : lexF (f + 1) l a = ([], a, z) := by
 rw [lexF, if_neg hl, h]
theorem lexF_ok {f : Nat} {l : List UInt8} {a : Nat} {k n : Int} {t : List UInt8} {m : Nat} (hl : l ≠ []) (h : tokL l = .ok k t n m) :
  lexF (f + 1) l a = joinT [⟨k, t, n, a⟩] (lexF f ((l.drop m).drop (gap (l.drop m))) (a + m + gap (l.drop m))) := by
 rw [lexF, if_neg hl, h]
theorem tokNo_ne {l : List UInt8} {z : Int} (h : tokL l = .no z) : z = 50 ∨ z = 10 := by
 cases l with
 | nil => injection h with h; exact Or.inl h.symm
 | cons c r =>
  unfold tokL at h
  simp only at h
  split at h
  ·unfold wordR at h
   split at h
   ·injection h with h; exact Or.inl h.symm
   ·cases h
  ·split at h
   ·unfold numR at h
    split at h
    ·injection h with h; exact Or.inl h.symm
    ·split at h
     ·cases h
     ·injection h with h; exact Or.inr h.symm
   ·split at h
    ·unfold litR at h
     split at h
     ·cases h
     ·injection h with h; exact Or.inl h.symm
    ·unfold sgnR at h
     split at h
     ·cases h
     ·injection h with h; exact Or.inl h.symm
/-- What Lex tells: a slice of these tokens in memory that reads so, the place, the error. -/
def LexOut (x : Res) (w : World) (e : Ending) (w' : World) : Prop :=
 (∃ A cap, e = .returned (.tuple #[.slice A x.1.length cap, .int .i64 (x.2.1 : Nat), .int .i64 x.2.2]) ∧ ToksAt w'.heap.size w' A x.1) ∧ Below w.heap.size w w'
/-- Between two tokens. -/
def Mid (s : ByteArray) (X : Res) (L : List Tk) (p : Nat) : Prop := ∃ f, s.size - p < f ∧ X = joinT L (lexF f (rest s p) p)
theorem rest_rest (s : ByteArray) (p m : Nat) : (rest s p).drop m = rest s (p + m) := by unfold rest; rw [List.drop_drop]
theorem mid_end {s : ByteArray} {X : Res} {L : List Tk} {p : Nat} (h : Mid s X L p) (hp : s.size ≤ p) : X = (L, p, 0) := by
 obtain ⟨f, -, rfl⟩ := h
 rw [rest_end hp, lexF_end, joinT_ok rfl]; simp
theorem rest_ne {s : ByteArray} {p : Nat} (hp : p < s.size) : rest s p ≠ [] := by rw [rest_at hp]; simp
theorem mid_no {s : ByteArray} {X : Res} {L : List Tk} {p : Nat} {z : Int} (h : Mid s X L p) (hp : p < s.size) (ht : tokL (rest s p) = .no z) : X = ([], p, z) := by
 obtain ⟨f, hf, rfl⟩ := h
 obtain ⟨f, rfl⟩ : ∃ g, f = g + 1 := ⟨f - 1, by omega⟩
 rw [lexF_no (rest_ne hp) ht, joinT_no (by rcases tokNo_ne ht with rfl | rfl <;> (intro h; cases h))]
theorem mid_ok {s : ByteArray} {X : Res} {L : List Tk} {p : Nat} {k n : Int} {t : List UInt8} {m : Nat} (h : Mid s X L p) (hp : p < s.size) (ht : tokL (rest s p) = .ok k t n m) :
  Mid s X (L ++ [⟨k, t, n, p⟩]) (p + m + gap (rest s (p + m))) := by
 obtain ⟨f, hf, rfl⟩ := h
 obtain ⟨f, rfl⟩ : ∃ g, f = g + 1 := ⟨f - 1, by omega⟩
 have hm := (tok_some ht).1
 refine ⟨f, by omega, ?_⟩
 rw [lexF_ok (rest_ne hp) ht, joinT_join, rest_rest, rest_rest]
set_option maxHeartbeats 8000000 in
set_option maxRecDepth 100000 in
theorem lex_any (s : ByteArray) (w : World) (hL : Lw w) (hs : s.size ≤ 140737488355328) :
  Calls Tryz.prog 54 #[.string s] w (LexOut (lexA s.data.toList) w) := by
 obtain ⟨i0, hi, hz0, hz1, hz2⟩ := info_parts tok_info
 have hlen : s.data.toList.length = s.size := Array.length_toList
 have HLw := hide hL
 clear hL
 by_cases hbig : 16384 < s.size
 ·have HA : Hid (lexA s.data.toList = ([], 0, 31)) := hide (by unfold lexA; rw [hlen, if_pos hbig])
  rw [HA.out]
  clear HA hlen
  go_enter Tryz.func54, Tryz.ntmps54
  go_wp2_with fail
  go_ret3
  exact ⟨⟨none, 0, rfl, ToksAt.nil _ _ _⟩, Below.refl _ _⟩
 have HM0 : Hid (Mid s (lexA s.data.toList) [] (0 + gap (rest s 0))) := hide (by
  refine ⟨s.size + 1, by omega, ?_⟩
  unfold lexA
  rw [hlen, if_neg hbig, Nat.zero_add, joinT_nil _ (lexF_form _ _ _)]
  rfl)
 have hg0 := preS_le skF false (rest s 0)
 rw [rest_len] at hg0
 have hp0 : 0 + gap (rest s 0) ≤ s.size := by
  show 0 + preS skF false (rest s 0) ≤ s.size
  omega
 have HSk := hide (fun p w1 (hp : p ≤ s.size) => skip_any s p w1 hs hp)
 have HS0 := hide (skip_any s 0 w hs (Nat.zero_le _))
 have HRd := hide (fun p w1 (hL : Lw w1) (hp : p < s.size) => read_any s p w1 hL hs hp)
 generalize lexA s.data.toList = X at *
 have HB0 := hide (Below.refl w.heap.size w)
 generalize 0 + gap (rest s 0) = p0 at *
 clear hlen hg0
 go_enter Tryz.func54, Tryz.ntmps54
 go_wp2_with fail
 refine HS0.out.mono ?_
 rintro e w1 ⟨rfl, hb⟩
 have HB1 := hide (HB0.out.trans hb)
 clear hb HS0
 go_wp2_with fail
 go_loopw [2, 3] (fun v p wr => ∃ (L : List Tk) (q : Nat), p = .int .i64 q ∧ q ≤ s.size ∧ L.length ≤ q ∧ Hid (Mid s X L q) ∧ wr.ownsRow w.heap.size 134 4 v L.length (tokCells L) ∧ Hid (Below w.heap.size w wr)) (fun _ p _ => s.size - (intOf p).toNat)
 case atStart => exact ⟨[], p0, rfl, hp0, Nat.zero_le _, HM0, World.ownsRow_nil _ _ _ _, HB1⟩
 case round =>
  obtain ⟨L, q, rfl, hq, hL, HM, hrow, HB⟩ := hrel
  clear HM0 HB1 hp0
  by_cases hlt : q < s.size
  ·have HR := hide (HRd.out q wr (HLw.out.on HB.out) hlt)
   cases ht : tokL (rest s q) with
   | no z =>
    have HX := hide (mid_no HM.out hlt ht)
    rw [ht] at HR
    have hz : (z != 0) = true := by rcases tokNo_ne ht with rfl | rfl <;> rfl
    clear HM HRd HSk ht hL hrow
    go_wp2_with fail
    refine HR.out.mono ?_
    rintro e w2 ⟨rfl, hb⟩
    have HB2 := hide (HB.out.trans (hb.mono HB.out.size))
    clear hb HR
    unfold outA
    go_wp2_with fail
    go_ret3
    rw [HX.out]
    exact ⟨⟨none, 0, rfl, ToksAt.nil _ _ _⟩, by have := HB2.out; have := HB2.out.size; go_grown⟩
   | ok k t n m =>
    have HX := hide (mid_ok HM.out hlt ht)
    rw [ht] at HR
    have hm := (tok_some ht).2.1
    have hm0 := (tok_some ht).1
    rw [rest_len] at hm
    have HS2 := hide (fun w1 => HSk.out (q + m) w1 (by omega))
    have hgp := preS_le skF false (rest s (q + m))
    rw [rest_len] at hgp
    have hgp' : gap (rest s (q + m)) ≤ s.size - (q + m) := hgp
    clear hgp
    generalize gap (rest s (q + m)) = g at *
    have HTC := hide (tokCells_snoc L ⟨k, t, n, q⟩)
    clear HM HRd HSk ht
    have hsz := HB.out.size
    go_wp2_with fail
    refine HR.out.mono ?_
    rintro e w2 ⟨rfl, hb⟩
    have HB2 := hide (HB.out.trans (hb.mono HB.out.size))
    have r1 := hrow.kept (only_of_below hb none) (by cases hv : u2.ownBlock <;> simp)
    have hs2 := hb.size
    clear hb HR HB
    unfold outA
    go_wp2_with (at_builtin; go_must (refine wpList_append_own_at _ rfl _ _ 121 rfl w.heap.size 134 i0 (.agg #[.int .i64 0, .string ⟨#[]⟩, .int .i64 0, .int .i64 0]) 4 40 Tryz.underlying121 hi hz0 hz1 hz2 rfl (by decide) _ _ _ rfl ((r1.alloc _).alloc _) ⟨w2.heap.size + 1, 0, none⟩ 1 1 [.int .i64 k, txt t, .int .i64 n, .int .i64 (q : Nat)] rfl rfl (tok_new _ _ _ _ _ _ _ (by simp)) (tok_one _ _ _ _) (by unfold maxLen; omega) (by omega) (by simp; omega) ?_))
    intro v1 w3 hown3 hgrow3 _ hat3
    have hs3 := hgrow3.size
    simp at hs3
    have HB3 := hide (((HB2.out.alloc (by omega) _).alloc (by simp; omega) _).grown hgrow3 (by simp; omega) (fun j hj => (r1.lt j hj).1))
    have HO3 := hide hown3
    clear hgrow3 hat3 hown3 HB2 r1 hrow
    go_wp2_with fail
    refine (HS2.out _).mono ?_
    rintro e w4 ⟨rfl, hb⟩
    have r4 := HO3.out.kept (only_of_below hb none) (by cases hv : v1.ownBlock <;> simp)
    have HB4 := hide (HB3.out.trans (hb.mono HB3.out.size))
    have HR4 := hide r4
    clear hb r4 HS2 HO3 HB3
    go_wp2_with fail
    go_roundw
    case rel =>
     refine ⟨L ++ [⟨k, t, n, q⟩], q + m + g, by go_num, by omega, by simp; omega, HX, ?_, HB4⟩
     rw [HTC.out, List.length_append]
     exact HR4.out
    case measure => simp [intOf]; omega
  ·have HX := hide (mid_end HM.out (by omega))
   clear HM HRd HSk
   obtain ⟨A, c, rfl, hA⟩ := toks_of_row hrow
   have HA := hide hA
   clear hrow hA
   go_wp2_with fail
   go_ret3
   rw [HX.out]
   exact ⟨⟨A, c, rfl, HA.out⟩, HB.out⟩
end Go.Proofs.YtljoajjlkjjgeaaGreatDoor
