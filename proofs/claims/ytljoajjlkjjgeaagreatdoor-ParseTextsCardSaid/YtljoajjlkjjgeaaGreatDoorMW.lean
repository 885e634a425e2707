/-
  Lex, with the capacity of what it tells.
  whole: what a rule reads, which must be all of a text.
-/
import Derived.Test.YtljoajjlkjjgeaaGreatDoorML3
import Derived.Test.YtljoajjlkjjgeaaGreatDoorMD2
import Derived.Test.YtljoajjlkjjgeaaGreatDoorML1
namespace Go.Proofs.YtljoajjlkjjgeaaGreatDoor
open Go.RowKit Go.Sort LM Go

def LexOutC (x : Res) (w : World) (e : Ending) (w' : World) : Prop :=
 (∃ A cap, e = .returned (.tuple #[.slice A x.1.length cap, .int .i64 (x.2.1 : Nat), .int .i64 x.2.2]) ∧ ToksAt w'.heap.size w' A x.1 ∧ x.1.length ≤ cap ∧ cap ≤ maxLen) ∧ Below w.heap.size w w'
theorem toks_of_rowC {w : World} {base : Nat} {v : Value} {L : List Tk} (h : w.ownsRow base 134 4 v L.length (tokCells L)) : ∃ A c, v = .slice A L.length c ∧ ToksAt w.heap.size w A L ∧ L.length ≤ c ∧ c ≤ maxLen := by
 obtain ⟨A, c, hv, hA⟩ := toks_of_row h
 obtain ⟨-, h⟩ := h
 rcases h with ⟨h1, h2⟩ | ⟨b, cap, cs, h1, -, -, h2, h3, -⟩
 ·rw [hv] at h1
  injection h1 with _ _ h6
  exact ⟨A, c, hv, hA, by omega, by rw [h6]; exact Nat.zero_le _⟩
 ·rw [hv] at h1
  injection h1 with h4 h5 h6
  subst h6
  exact ⟨A, c, hv, hA, h2, h3⟩
set_option maxHeartbeats 8000000 in
set_option maxRecDepth 100000 in
theorem lex_anyC (s : ByteArray) (w : World) (hL : Lw w) (hs : s.size ≤ 140737488355328) :
  Calls Tryz.prog 54 #[.string s] w (LexOutC (lexA s.data.toList) w) := by
 obtain ⟨i0, hi, hz0, hz1, hz2⟩ := info_parts tok_info
 have hlen : s.data.toList.length = s.size := Array.length_toList
 have HLw := hide hL
 clear hL
 by_cases hbig : 16384 < s.size
 ·have HA : Hid (lexA s.data.toList = ([], 0, 31)) := hide (by unfold lexA; rw [hlen, if_pos hbig])
  rw [HA.out]
  clear HA hlen
  go_enter Tryz.func54, Tryz.ntmps54
  go_wp2_with fail
  go_ret3
  exact ⟨⟨none, 0, rfl, ToksAt.nil _ _ _, Nat.le_refl _, Nat.zero_le _⟩, Below.refl _ _⟩
 have HM0 : Hid (Mid s (lexA s.data.toList) [] (0 + gap (rest s 0))) := hide (by
  refine ⟨s.size + 1, by omega, ?_⟩
  unfold lexA
  rw [hlen, if_neg hbig, Nat.zero_add, joinT_nil _ (lexF_form _ _ _)]
  rfl)
 have hg0 := preS_le skF false (rest s 0)
 rw [rest_len] at hg0
 have hp0 : 0 + gap (rest s 0) ≤ s.size := by
  show 0 + preS skF false (rest s 0) ≤ s.size
  omega
 have HSk := hide (fun p w1 (hp : p ≤ s.size) => skip_any s p w1 hs hp)
 have HS0 := hide (skip_any s 0 w hs (Nat.zero_le _))
 have HRd := hide (fun p w1 (hL : Lw w1) (hp : p < s.size) => read_any s p w1 hL hs hp)
 generalize lexA s.data.toList = X at *
 have HB0 := hide (Below.refl w.heap.size w)
 generalize 0 + gap (rest s 0) = p0 at *
 clear hlen hg0
 go_enter Tryz.func54, Tryz.ntmps54
 go_wp2_with fail
 refine HS0.out.mono ?_
 rintro e w1 ⟨rfl, hb⟩
 have HB1 := hide (HB0.out.trans hb)
 clear hb HS0
 go_wp2_with fail
 go_loopw [2, 3] (fun v p wr => ∃ (L : List Tk) (q : Nat), p = .int .i64 q ∧ q ≤ s.size ∧ L.length ≤ q ∧ Hid (Mid s X L q) ∧ wr.ownsRow w.heap.size 134 4 v L.length (tokCells L) ∧ Hid (Below w.heap.size w wr)) (fun _ p _ => s.size - (intOf p).toNat)
 case atStart => exact ⟨[], p0, rfl, hp0, Nat.zero_le _, HM0, World.ownsRow_nil _ _ _ _, HB1⟩
 case round =>
  obtain ⟨L, q, rfl, hq, hL, HM, hrow, HB⟩ := hrel
  clear HM0 HB1 hp0
  by_cases hlt : q < s.size
  ·have HR := hide (HRd.out q wr (HLw.out.on HB.out) hlt)
   cases ht : tokL (rest s q) with
   | no z =>
    have HX := hide (mid_no HM.out hlt ht)
    rw [ht] at HR
    have hz : (z != 0) = true := by rcases tokNo_ne ht with rfl | rfl <;> rfl
    clear HM HRd HSk ht hL hrow
    go_wp2_with fail
    refine HR.out.mono ?_
    rintro e w2 ⟨rfl, hb⟩
    have HB2 := hide (HB.out.trans (hb.mono HB.out.size))
    clear hb HR
    unfold outA
    go_wp2_with fail
    go_ret3
    rw [HX.out]
    exact ⟨⟨none, 0, rfl, ToksAt.nil _ _ _, Nat.le_refl _, Nat.zero_le _⟩, by have := HB2.out; have := HB2.out.size; go_grown⟩
   | ok k t n m =>
    have HX := hide (mid_ok HM.out hlt ht)
    rw [ht] at HR
    have hm := (tok_some ht).2.1
    have hm0 := (tok_some ht).1
    rw [rest_len] at hm
    have HS2 := hide (fun w1 => HSk.out (q + m) w1 (by omega))
    have hgp := preS_le skF false (rest s (q + m))
    rw [rest_len] at hgp
    have hgp' : gap (rest s (q + m)) ≤ s.size - (q + m) := hgp
    clear hgp
    generalize gap (rest s (q + m)) = g at *
    have HTC := hide (tokCells_snoc L ⟨k, t, n, q⟩)
    clear HM HRd HSk ht
    have hsz := HB.out.size
    go_wp2_with fail
    refine HR.out.mono ?_
    rintro e w2 ⟨rfl, hb⟩
    have HB2 := hide (HB.out.trans (hb.mono HB.out.size))
    have r1 := hrow.kept (only_of_below hb none) (by cases hv : u2.ownBlock <;> simp)
    have hs2 := hb.size
    clear hb HR HB
    unfold outA
    go_wp2_with (at_builtin; go_must (refine wpList_append_own_at _ rfl _ _ 121 rfl w.heap.size 134 i0 (.agg #[.int .i64 0, .string ⟨#[]⟩, .int .i64 0, .int .i64 0]) 4 40 Tryz.underlying121 hi hz0 hz1 hz2 rfl (by decide) _ _ _ rfl ((r1.alloc _).alloc _) ⟨w2.heap.size + 1, 0, none⟩ 1 1 [.int .i64 k, txt t, .int .i64 n, .int .i64 (q : Nat)] rfl rfl (tok_new _ _ _ _ _ _ _ (by simp)) (tok_one _ _ _ _) (by unfold maxLen; omega) (by omega) (by simp; omega) ?_))
    intro v1 w3 hown3 hgrow3 _ hat3
    have hs3 := hgrow3.size
    simp at hs3
    have HB3 := hide (((HB2.out.alloc (by omega) _).alloc (by simp; omega) _).grown hgrow3 (by simp; omega) (fun j hj => (r1.lt j hj).1))
    have HO3 := hide hown3
    clear hgrow3 hat3 hown3 HB2 r1 hrow
    go_wp2_with fail
    refine (HS2.out _).mono ?_
    rintro e w4 ⟨rfl, hb⟩
    have r4 := HO3.out.kept (only_of_below hb none) (by cases hv : v1.ownBlock <;> simp)
    have HB4 := hide (HB3.out.trans (hb.mono HB3.out.size))
    have HR4 := hide r4
    clear hb r4 HS2 HO3 HB3
    go_wp2_with fail
    go_roundw
    case rel =>
     refine ⟨L ++ [⟨k, t, n, q⟩], q + m + g, by go_num, by omega, by simp; omega, HX, ?_, HB4⟩
     rw [HTC.out, List.length_append]
     exact HR4.out
    case measure => simp [intOf]; omega
  ·have HX := hide (mid_end HM.out (by omega))
   clear HM HRd HSk
   obtain ⟨A, c, rfl, hA, hc1, hc2⟩ := toks_of_rowC hrow
   have HA := hide hA
   clear hrow hA
   go_wp2_with fail
   go_ret3
   rw [HX.out]
   exact ⟨⟨A, c, rfl, HA.out, hc1, hc2⟩, HB.out⟩
end Go.Proofs.YtljoajjlkjjgeaaGreatDoor
namespace Go.Proofs.YtljoajjlkjjgeaaGreatDoor
open Go.RowKit Go.Sort LM Go

/-- The parser at a text's beginning. -/
def beg (X : Res) : PSt := ⟨X.1.map keyT, 1, none⟩
/-- What whole tells. -/
def WholeO (X : Res) (T : PSt) (z : Value) (D : World → Value → Prop) (w : World) (e : Ending) (w' : World) : Prop :=
 Below w.heap.size w w' ∧ ((X.2.2 ≠ 0 ∧ e = .returned (.tuple #[z, .int .i64 (X.2.1 : Nat), .int .i64 X.2.2]))
  ∨ (X.2.2 = 0 ∧ (endS T).b = none ∧ ∃ v, e = .returned (.tuple #[v, .int .i64 (X.2.1 : Nat), .int .i64 0]) ∧ D w' v)
  ∨ (X.2.2 = 0 ∧ ∃ c k, (endS T).b = some (c, k) ∧ e = .returned (.tuple #[z, .int .i64 (posOf X.1 X.2.1 k : Nat), .int .i64 c])))
theorem tok_ok (l : List UInt8) : TokOk (lexA l).1 := fun x hx => by
 obtain ⟨k, m, e⟩ := (lexA_val l).1 x hx
 obtain ⟨-, -, -, -, h2, h3, -⟩ := tok_some e
 exact ⟨h2, h3⟩
theorem par_beg {w : World} {X : Res} {A : Option Addr} {c : Nat} (hA : ToksAt w.heap.size w A X.1) (h1 : X.1.length ≤ c) (h2 : c ≤ maxLen) :
  ParAt w.heap.size X.1 X.2.1 (w.alloc (.cells #[.slice A X.1.length c, .int .i64 (X.2.1 : Nat), .int .i64 1, .int .i64 0, .int .i64 0] 125)) (beg X) :=
 ⟨⟨A, c, X.1, rfl, List.suffix_refl _, h1, h2, hA.below (Joins.below_alloc1 w _), heap_alloc_new w _⟩, fun h => absurd rfl h, fun e k h => by cases h⟩
set_option maxHeartbeats 8000000 in
set_option maxRecDepth 100000 in
theorem wholeDefs {T : PSt} {d : Dt} (s : ByteArray) (w : World) (hL : Lw w) (hs : s.size ≤ 140737488355328) (X : Res) (hX : X = lexA s.data.toList)
  (HM : ∀ q w1, ParAt q X.1 X.2.1 w1 (beg X) → Calls Tryz.prog 42 #[pP q] w1 (OneTo q X.1 X.2.1 w1 d T)) :
  Calls Tryz.prog 41 #[.string s, .func (.func 42) #[] #[]] w (WholeO X T (.slice none 0 0) (fun w1 v => Rep (New w.heap.size) w1 d v) w) := by
 have HLx := hide (lex_anyC s w hL hs)
 have HMh := hide HM
 rw [← hX] at HLx
 have hEnd : endS T = if T.L = [] then T else failS 51 T := rfl
 have HEnd := hide hEnd
 clear hX HM hs hL hEnd
 have hqq : w.heap.size ≤ w.heap.size := Nat.le_refl _
 unfold OneTo at HMh
 unfold WholeO
 generalize endS T = TE at *
 go_enter Tryz.func41, Tryz.ntmps41
 go_wp2_with fail
 refine HLx.out.mono ?_
 rintro e w1 ⟨⟨A, c, rfl, hA, h1, h2⟩, hb⟩
 have HB1 := hide hb
 have hsz1 := hb.size
 have HP := hide (par_beg hA h1 h2)
 by_cases he : X.2.2 = 0
 ·have hne : (X.2.2 != 0) = false := by rw [he]; rfl
  obtain ⟨W, hW⟩ : ∃ W, W = w1.alloc (.cells #[.slice A X.1.length c, .int .i64 (X.2.1 : Nat), .int .i64 1, .int .i64 0, .int .i64 0] 125) := ⟨_, rfl⟩
  have HW := hide hW
  have HBW := hide (show Below w.heap.size w W by rw [hW]; exact hb.trans ((Joins.below_alloc1 w1 _).mono hsz1))
  have hszW : w.heap.size ≤ W.heap.size := HBW.out.size
  have HP := hide (show ParAt w1.heap.size X.1 X.2.1 W (beg X) by rw [hW]; exact HP.out)
  have HM := hide (HMh.out _ _ HP.out)
  have hqW : w1.heap.size < W.heap.size := HP.out.lt
  clear hb hA hW HMh HLx HB1 h1 h2
  go_wp2_with (first | rw [← HW.out])
  refine HM.out.mono ?_
  rintro e w2 ⟨v, rfl, hv, h3, ht3⟩
  have HV := hide hv
  have HT := hide ht3
  have HP2 := hide h3
  have hB2 := HBW.out.trans (ht3.below hsz1 hszW)
  have HB2 := hide hB2
  obtain ⟨A2, cap, K, hK, -, -, -, -, hbx⟩ := h3.ex
  obtain ⟨c0, c1, c2, c3, c4, cf, cq2⟩ := blk_cell hbx
  have hKl : K.length = T.L.length := by rw [← hK]; simp
  have hwf := h3.wf
  have her := h3.er
  have HF := hide (fail_any (q := w1.heap.size) (TL := X.1) (E := X.2.1) (s := T) 51 (by decide) w2 h3)
  unfold StepTo at HF
  by_cases hb : T.L = []
  ·rw [if_pos hb] at HEnd
   rw [hKl, hb] at c0
   simp only [List.length_nil] at c0
   have HE := HEnd.out
   subst HE
   cases hTb : TE.b with
   | none =>
    rw [hTb] at c4
    simp only [errOf] at c4
    clear hK hbx c1 c2 c3 h3 ht3 hv HF hB2 HM
    have HTb := hide hTb
    clear hTb her hwf
    go_wp2_with fail
    go_ret3
    exact ⟨HB2.out, Or.inr (Or.inl ⟨he, HTb.out, v, rfl, HV.out.stay ⟨fun _ _ k => Nat.le_trans hszW k, Nat.le_refl _, fun _ _ _ => rfl⟩⟩)⟩
   | some x =>
    obtain ⟨z, k⟩ := x
    have hz : (z != 0) = true := by simpa using her z k hTb
    rw [hTb] at c3 c4
    simp only [errOf, atOf] at c3 c4
    clear hK hbx c1 c2 h3 ht3 hv HF hB2 HM
    have HTb := hide hTb
    clear hTb her hwf
    go_wp2_with fail
    go_quiet (fail)
    go_wp2_with fail
    go_ret3
    exact ⟨HB2.out.trans (Joins.below_draws _ _ _), Or.inr (Or.inr ⟨he, z, k, HTb.out, rfl⟩)⟩
  ·have hTb : T.b = none := Classical.byContradiction fun k => hb (hwf k)
   rw [if_neg hb] at HEnd
   have hpos : (0 : Int) < (K.length : Nat) := by have := List.length_pos_iff.2 hb; omega
   have hfb : (failS 51 T).b = some (51, T.L.length) := by unfold failS; rw [hTb]
   have HFb := hide (HEnd.out ▸ hfb : TE.b = some (51, T.L.length))
   have hfb := hide hfb
   generalize failS 51 T = T2 at *
   clear hK hbx c1 c2 c3 c4 h3 ht3 hv hB2 HM HEnd
   generalize K.length = kn at *
   go_wp2_with fail
   refine HF.out.mono ?_
   rintro e w3 ⟨rfl, h5, ht5⟩
   have HB3 := hide (HB2.out.trans (ht5.below hsz1 (Nat.le_trans hszW HT.out.size)))
   obtain ⟨A3, cap3, K3, -, -, -, -, -, hbx⟩ := h5.ex
   obtain ⟨d0, d1, d2, d3, d4, df, dq2⟩ := blk_cell hbx
   rw [hfb.out] at d3 d4
   simp only [errOf, atOf] at d3 d4
   have hz : ((51 : Int) != 0) = true := by decide
   clear hbx ht5 h5 HF c0 d0 d1 d2 hb hTb
   go_wp2_with fail
   go_quiet (fail)
   go_wp2_with fail
   go_ret3
   exact ⟨HB3.out.trans (Joins.below_draws _ _ _), Or.inr (Or.inr ⟨he, 51, _, HFb.out, rfl⟩)⟩
 ·have hne : (X.2.2 != 0) = true := by simpa using he
  clear hb hA HMh HLx HP h1 h2 HEnd
  go_wp2_with fail
  go_ret3
  exact ⟨HB1.out, Or.inl ⟨he, rfl⟩⟩
end Go.Proofs.YtljoajjlkjjgeaaGreatDoor
