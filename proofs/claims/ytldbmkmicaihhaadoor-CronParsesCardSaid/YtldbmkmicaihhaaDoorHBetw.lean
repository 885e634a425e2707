/-
  Between: the minutes that match, in a list of its own.
-/
import Derived.Test.YtldbmkmicaihhaaDoorHBet
namespace Go.Proofs.YtldbmkmicaihhaaDoor
open Go.RowKit CM HM

/-- The slice at A reads as these integers, and lies below block B. -/
def IntsAt (B : Nat) (w : World) (A : Option Addr) (l : List Int) : Prop :=
  ∀ j, j < l.length → ∃ b off, A = some ⟨b, off, none⟩ ∧ b < B ∧ w.cell? ⟨b, off + j, none⟩ = some (.int .i64 (l.getD j 0))
theorem IntsAt.below {B : Nat} {w w' : World} {A : Option Addr} {l : List Int} (h : IntsAt B w A l) (hb : Below B w w') : IntsAt B w' A l := fun j hj => by
  obtain ⟨b, off, e, hlt, h0⟩ := h j hj
  exact ⟨b, off, e, hlt, (hb.cell (p := ⟨b, off + j, none⟩) hlt).trans h0⟩
theorem IntsAt.mono {B B' : Nat} {w : World} {A : Option Addr} {l : List Int} (h : IntsAt B w A l) (hB : B ≤ B') : IntsAt B' w A l := fun j hj => by
  obtain ⟨b, off, e, hlt, r⟩ := h j hj
  exact ⟨b, off, e, Nat.lt_of_lt_of_le hlt hB, r⟩
def intCells (l : List Int) : List Value := l.map (Value.int .i64)
theorem intCells_len (l : List Int) : (intCells l).length = l.length * 1 := by simp [intCells]
theorem ints_of_row {w : World} {base : Nat} {e : TypeId} {v : Value} {l : List Int} (h : w.ownsRow base e 1 v l.length (intCells l)) :
    ∃ A cap, v = .slice A l.length cap ∧ IntsAt w.heap.size w A l := by
  rcases h.2 with ⟨rfl, h0⟩ | ⟨g, cap, cur, rfl, _, hg, hn, _, hsz, htk⟩
  · rw [h0]; exact ⟨none, 0, rfl, fun j hj => by omega⟩
  · refine ⟨some ⟨g, 0, none⟩, cap, rfl, fun j hj => ⟨g, 0, rfl, ?_, ?_⟩⟩
    · rcases Nat.lt_or_ge g w.heap.size with h' | h'
      · exact h'
      · simp [Array.getElem?_eq_none h'] at hg
    · rw [Nat.zero_add, Lib.cell_of_heap hg]
      have hc : (intCells l)[j]? = some (.int .i64 (l.getD j 0)) := by
        unfold intCells; rw [List.getElem?_map, List.getElem?_eq_getElem hj, List.getD_eq_getElem?_getD, List.getElem?_eq_getElem hj]; rfl
      rw [← htk, List.getElem?_take_of_lt (by omega)] at hc
      simpa using hc
theorem int_row_info : (Tryd.prog.info? 3).map (fun i => (i.zero, i.size, i.bytes)) = some (some (.int .i64 0), 1, 8) := by kernel_rfl
theorem int_new (w : World) (t : TypeId) (n : Int) (H : Nat) (hH : w.heap.size = H) : ∀ j u, ([.int .i64 n] : List Value)[j]? = some u → (w.alloc (.cells #[.int .i64 n] t)).cell? ((⟨H, 0, none⟩ : Addr).add j) = some u := fun j u hj => by
  subst hH
  match j, hj with
  | 0, hj => simp at hj; subst hj; simp [Addr.add]
theorem int_one' (n : Int) : ∀ u ∈ ([.int .i64 n] : List Value), u.oneCell' = true := fun u hu => by
  simp at hu; subst hu; rfl
theorem only_of_below {a w : World} (h : Below a.heap.size a w) (row : Option Nat) : a.grownBy w row := ⟨h.os, h.tape, h.output, h.size, fun i hi _ => h.block i hi⟩

def BetGood (c : Sp) (f t : Int) : Prop := validB c = true ∧ -1 ≤ f ∧ f ≤ t ∧ 0 ≤ t ∧ t ≤ 2147483647
/-- What Between tells. -/
def BetOut (c : Sp) (f t : Int) (w : World) (e : Ending) (w' : World) : Prop :=
  ((BetGood c f t ∧ (mins c (f + 1) t).length ≤ 10000 ∧ ∃ v, e = .returned (.tuple #[v, .int .i64 0]) ∧ w'.ownsRow w.heap.size 3 1 v (mins c (f + 1) t).length (intCells (mins c (f + 1) t))) ∨
   (¬ (BetGood c f t ∧ (mins c (f + 1) t).length ≤ 10000) ∧ e = .returned (.tuple #[.slice none 0 0, .int .i64 30]))) ∧ Below w.heap.size w w'
def boolV : Value → Bool
  | .bool b => b
  | _ => false
def betMeas (t : Int) (u v : Value) : Nat := if boolV v = true then (t + 1 - intOf u).toNat else 0
set_option maxHeartbeats 2000000 in
theorem bet_bad (c : Sp) (f t : Int) (w : World) (hc : c.wf) (hbad : ¬ BetGood c f t) (hB : Bnd w) : Calls Tryd.prog 20 #[vC c, .int .i64 f, .int .i64 t] w (BetOut c f t w) := by
  have HB0 : Hid (Below w.heap.size w (boxC w c)) := hide ((Below.refl _ _).alloc (Nat.le_refl _) _)
  have HK := hide (check_any c (boxC w c) hc (hB.on HB0.out))
  have HE : Hid (¬ (BetGood c f t ∧ (mins c (f + 1) t).length ≤ 10000)) := hide (fun h => hbad h.1)
  clear hc hB
  cases hv : validB c
  · rw [chk_no hv] at HK
    clear hbad hv
    go_enter Tryd.func20, Tryd.ntmps20
    go_wp2_with fail
    refine HK.out.mono ?_
    rintro e w1 ⟨rfl, hb1⟩
    have HB1 := hide (HB0.out.trans (Below.mono hb1 HB0.out.size))
    clear hb1
    go_wp2_with fail
    go_ret2
    exact ⟨.inr ⟨HE.out, rfl⟩, HB1.out⟩
  · rw [chk_yes hv] at HK
    have hx : (f < -1) ∨ (-1 ≤ f ∧ (t < f ∨ (f ≤ t ∧ (t < 0 ∨ (0 ≤ t ∧ 2147483647 < t))))) := by
      unfold BetGood at hbad
      rw [hv] at hbad
      simp only [true_and] at hbad
      omega
    clear hbad hv
    rcases hx with h1 | ⟨h1, h2 | ⟨h2, h3 | ⟨h3, h4⟩⟩⟩
    · have d1 : decide (f < -1) = true := by simp; omega
      go_enter Tryd.func20, Tryd.ntmps20
      go_wp2_with fail
      refine HK.out.mono ?_
      rintro e w1 ⟨rfl, hb1⟩
      have HB1 := hide (HB0.out.trans (Below.mono hb1 HB0.out.size))
      clear hb1
      go_wp2_with fail
      go_ret2
      exact ⟨.inr ⟨HE.out, rfl⟩, HB1.out⟩
    · have d1 : decide (f < -1) = false := by simp; omega
      have d2 : decide (t < f) = true := by simp; omega
      go_enter Tryd.func20, Tryd.ntmps20
      go_wp2_with fail
      refine HK.out.mono ?_
      rintro e w1 ⟨rfl, hb1⟩
      have HB1 := hide (HB0.out.trans (Below.mono hb1 HB0.out.size))
      clear hb1
      go_wp2_with fail
      go_ret2
      exact ⟨.inr ⟨HE.out, rfl⟩, HB1.out⟩
    · have d1 : decide (f < -1) = false := by simp; omega
      have d2 : decide (t < f) = false := by simp; omega
      have d3 : decide (t < 0) = true := by simp; omega
      go_enter Tryd.func20, Tryd.ntmps20
      go_wp2_with fail
      refine HK.out.mono ?_
      rintro e w1 ⟨rfl, hb1⟩
      have HB1 := hide (HB0.out.trans (Below.mono hb1 HB0.out.size))
      clear hb1
      go_wp2_with fail
      go_ret2
      exact ⟨.inr ⟨HE.out, rfl⟩, HB1.out⟩
    · have d1 : decide (f < -1) = false := by simp; omega
      have d2 : decide (t < f) = false := by simp; omega
      have d3 : decide (t < 0) = false := by simp; omega
      have d4 : decide (2147483647 < t) = true := by simp; omega
      go_enter Tryd.func20, Tryd.ntmps20
      go_wp2_with fail
      refine HK.out.mono ?_
      rintro e w1 ⟨rfl, hb1⟩
      have HB1 := hide (HB0.out.trans (Below.mono hb1 HB0.out.size))
      clear hb1
      go_wp2_with fail
      go_ret2
      exact ⟨.inr ⟨HE.out, rfl⟩, HB1.out⟩
theorem own_mono {w : World} {b b' : Nat} {e : TypeId} {s n : Nat} {v : Value} {l : List Value} (h : w.ownsRow b e s v n l) (hb : b' ≤ b) : w.ownsRow b' e s v n l := by
  obtain ⟨h1, h2⟩ := h
  refine ⟨h1, ?_⟩
  rcases h2 with h2 | ⟨g, cap, cur, e0, e1, e2⟩
  · exact .inl h2
  · exact .inr ⟨g, cap, cur, e0, by omega, e2⟩
/-- The two results of first. -/
def Ans (r : Option Int) (x y : Value) : Prop := match r with
  | some n => x = .int .i64 n ∧ y = .bool true
  | none => x = .int .i64 0 ∧ y = .bool false
theorem fir_ans {c : Sp} {a z : Int} {w : World} (e : Ending) (w' : World) (h : FirOut c a z w e w') : (∃ r x y, FirIs c a z r ∧ Ans r x y ∧ e = .returned (.tuple #[x, y])) ∧ Below w.heap.size w w' := by
  obtain ⟨⟨r, hr, he⟩, hb⟩ := h
  refine ⟨?_, hb⟩
  cases r with
  | none => exact ⟨none, _, _, hr, ⟨rfl, rfl⟩, he⟩
  | some n => exact ⟨some n, _, _, hr, ⟨rfl, rfl⟩, he⟩
set_option maxHeartbeats 4000000 in
theorem bet_good (c : Sp) (f t : Int) (w : World) (hc : c.wf) (hg : BetGood c f t) (hM : Mon w) (hB : Bnd w) (hT : Bru w) : Calls Tryd.prog 20 #[vC c, .int .i64 f, .int .i64 t] w (BetOut c f t w) := by
  have HB0 : Hid (Below w.heap.size w (boxC w c)) := hide ((Below.refl _ _).alloc (Nat.le_refl _) _)
  have HA0 := hide (AtC.box w c)
  have HK := hide (check_any c (boxC w c) hc (hB.on HB0.out))
  have HG := hide hg
  obtain ⟨hv, h1, h2, h3, h4⟩ := hg
  rw [chk_yes hv] at HK
  have HF := hide (fun a w h0 h1 hM hT => first_any c a t w hc hv h0 h1 (by omega) hM hT)
  have HM := hide hM
  have HT := hide hT
  clear hc hv hM hB hT
  obtain ⟨i0, hi, hz0, hz1, hz2⟩ := info_parts int_row_info
  have d1 : decide (f < -1) = false := by simp; omega
  have d2 : decide (t < f) = false := by simp; omega
  have d3 : decide (t < 0) = false := by simp; omega
  have d4 : decide (2147483647 < t) = false := by simp; omega
  go_enter Tryd.func20, Tryd.ntmps20
  go_wp2_with fail
  refine HK.out.mono ?_
  rintro e w1 ⟨rfl, hb1⟩
  have HB1 := hide (HB0.out.trans (Below.mono hb1 HB0.out.size))
  have HA1 := hide (HA0.out.on hb1)
  have hz : w.heap.size < w1.heap.size := HA1.out.1
  obtain ⟨z9, c0, c1, c2, c3, c4, c5, c6, c7, c8, c9⟩ := HA1.out
  clear hb1
  have HF1 := hide (HF.out (f + 1) w1 (by omega) (by omega) (HM.out.on HB1.out) (HT.out.on HB1.out))
  go_wp2_with fail
  refine (HF1.out.mono fir_ans).mono ?_
  rintro e w2 ⟨⟨r, x, y, hr, hans, rfl⟩, hb2⟩
  have HR := hide hr
  have HX := hide hans
  have HB2 := hide hb2
  clear hb2 hr hans c0 c1 c2 c3 c4 c5 c6 c7 c8 c9 d1 d2 d3 d4 HF1
  go_wp2_with fail
  go_loopw [8, 9, 10] (fun v x y wr => ∃ (l : List Int) (lo : Int) (r : Option Int), 0 ≤ lo ∧ lo ≤ 2147483648 ∧ FirIs c lo t r ∧ mins c (f + 1) t = l ++ mins c lo t ∧ l.length ≤ 10000 ∧ wr.ownsRow w1.heap.size 3 1 v l.length (intCells l) ∧ Ans r x y ∧ Below w1.heap.size w1 wr) (fun _ x y _ => betMeas t x y)
  case atStart => exact ⟨[], f + 1, r, by omega, by omega, HR.out, rfl, by simp, World.ownsRow_nil _ _ _ _, HX.out, HB2.out⟩
  case round =>
    obtain ⟨l, lo, r, hlo, hlo2, hfir, hcat, hlen, hrow, hans, hbw⟩ := hrel
    have HBw := hide hbw
    clear hbw
    cases r with
    | none =>
      obtain ⟨rfl, rfl⟩ := hans
      have HL : Hid (mins c (f + 1) t = l) := hide (by rw [hcat, mins_none hfir, List.append_nil])
      have HE : Hid (wr.ownsRow w.heap.size 3 1 u8 (mins c (f + 1) t).length (intCells (mins c (f + 1) t))) := hide (by rw [HL.out]; exact own_mono hrow (by omega))
      have HE2 : Hid ((mins c (f + 1) t).length ≤ 10000) := hide (by rw [HL.out]; exact hlen)
      clear hfir hcat hlen hrow
      go_wp2_with fail
      go_ret2
      exact ⟨.inl ⟨HG.out, HE2.out, _, rfl, HE.out⟩, HB1.out.trans (HBw.out.mono HB1.out.size)⟩
    | some x =>
      obtain ⟨rfl, rfl⟩ := hans
      obtain ⟨x0, x1, x2, x3⟩ := hfir
      have HFs := hide (mins_some (c := c) (a := lo) (z := t) (x := x) ⟨x0, x1, x2, x3⟩)
      clear x2 x3
      by_cases hl : l.length = 10000
      · have HE : Hid (¬ (BetGood c f t ∧ (mins c (f + 1) t).length ≤ 10000)) := hide (fun h => by
          have := h.2
          rw [hcat, HFs.out, List.length_append, List.length_cons] at this
          omega)
        obtain ⟨A, cap, rfl, -⟩ := ints_of_row hrow
        rw [hl]
        clear hl hcat hrow hlen
        go_wp2_with fail
        go_ret2
        exact ⟨.inr ⟨HE.out, rfl⟩, HB1.out.trans (HBw.out.mono HB1.out.size)⟩
      · have HCat : Hid (mins c (f + 1) t = (l ++ [x]) ++ mins c (x + 1) t) := hide (by rw [hcat, HFs.out]; simp)
        have hl2 : l.length < 10000 := by omega
        have hd5 : ((l.length : Int) == 10000) = false := by simp; omega
        obtain ⟨A, cap, rfl, -⟩ := ints_of_row hrow
        have HF2 := hide (fun w hM hT => HF.out (x + 1) w (by omega) (by omega) hM hT)
        have hzr := HBw.out.size
        clear hl hcat hlen HFs
        go_wp2_with (at_builtin; go_must (refine wpList_append_own_at _ rfl _ _ 48 rfl w1.heap.size 3 i0 (.int .i64 0) 1 8 Tryd.underlying48 hi hz0 hz1 hz2 rfl (by decide) _ _ _ rfl (hrow.alloc _) ⟨wr.heap.size, 0, none⟩ 1 1 [.int .i64 x] rfl rfl (int_new _ _ _ _ rfl) (int_one' _) (by unfold maxLen; omega) (by omega) (by simp; omega) ?_))
        intro v1 w3 hown3 hgrow3 _ hat3
        have HO3 : Hid (w3.ownsRow w1.heap.size 3 1 v1 (l ++ [x]).length (intCells (l ++ [x]))) := hide (by
          have e1 : (l ++ [x]).length = l.length + 1 := by simp
          have e2 : intCells (l ++ [x]) = intCells l ++ [.int .i64 x] := by simp [intCells]
          rw [e1, e2]; exact hown3)
        have HB3 : Hid (Below w1.heap.size w1 w3) := hide ((HBw.out.alloc HBw.out.size _).grown hgrow3 (by simp; omega) (fun j hj => (hrow.lt j hj).1))
        clear hown3 hgrow3 hat3 hrow
        have HBB := hide (HB1.out.trans (HB3.out.mono HB1.out.size))
        obtain ⟨z8, c0, c1, c2, c3, c4, c5, c6, c7, c8, c9⟩ := HA1.out.below HB3.out hz
        go_wp2_with fail
        refine ((HF2.out _ (HM.out.on HBB.out) (HT.out.on HBB.out)).mono fir_ans).mono ?_
        rintro e w4 ⟨⟨r, p, q, hr, hans, rfl⟩, hb4⟩
        have HB4 := hide (HB3.out.trans (hb4.mono HB3.out.size))
        have HR4 := hide (HO3.out.kept (only_of_below hb4 none) (by cases hv : v1.ownBlock <;> simp))
        have HL : Hid ((l ++ [x]).length ≤ 10000) := hide (by simp; omega)
        have HM4 : Hid (betMeas t p q < betMeas t (.int .i64 x) (.bool true)) := hide (by
          cases r with
          | none => obtain ⟨rfl, rfl⟩ := hans; simp [betMeas, boolV, intOf]; omega
          | some n => obtain ⟨rfl, rfl⟩ := hans; have := hr.1; simp [betMeas, boolV, intOf]; omega)
        have HX4 := hide hans
        have HRr := hide hr
        clear hb4 hans hr c0 c1 c2 c3 c4 c5 c6 c7 c8 c9
        go_wp2_with fail
        go_roundw
        case rel => exact ⟨l ++ [x], x + 1, r, by omega, by omega, HRr.out, HCat.out, HL.out, HR4.out, HX4.out, HB4.out⟩
        case measure => exact HM4.out
end Go.Proofs.YtldbmkmicaihhaaDoor
