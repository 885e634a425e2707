/-
  The walk of CronParts.
-/
import Derived.Test.YtldbmkmicaihhaaDoorHAwake
import Derived.Laws.AppendOwnNone
namespace Go.Proofs.YtldbmkmicaihhaaDoor
open Go.RowKit CM HM

theorem bet_any (c : Sp) (f t : Int) (w : World) (hc : c.wf) (hR : Rd w) : Calls Tryd.prog 20 #[vC c, .int .i64 f, .int .i64 t] w (BetOut c f t w) := by
  by_cases hg : BetGood c f t
  · exact bet_good c f t w hc hg hR.1 hR.2.1 hR.2.2
  · exact bet_bad c f t w hc hg hR.2.1
set_option maxRecDepth 100000 in
theorem append_ints {w : World} {ops : Array Oper} {rest : List Oper} {o : Oper} {a : Act} {Q : Exit → Act → World → Prop} (hgd : o.guard = none) (s x : Operand)
    (ho : o.op = .call { callee := .builtin .append, args := #[s, x], argTypes := #[48, 48] })
    (base : Nat) (v : Value) (n : Nat) (xs ys : List Int) (hs : a.eval s = v) (hown : w.ownsRow base 3 1 v n (intCells xs)) (B : Nat)
    (A : Option Addr) (c : Nat) (hx : a.eval x = .slice A ys.length c) (hC : IntsAt B w A ys) (hnil : A = none → c = 0) (hlen : n + ys.length ≤ 65536) (hbase : base ≤ w.heap.size)
    (h : ∀ v' w', w'.ownsRow base 3 1 v' (n + ys.length) (intCells (xs ++ ys)) → w.grownBy w' v.ownBlock → wpList Tryd.prog ops Q rest (a.put o.dst v') w') : wpList Tryd.prog ops Q (o :: rest) a w := by
  obtain ⟨i0, hi, hz0, hz1, hz2⟩ := info_parts int_row_info
  have hcat : intCells (xs ++ ys) = intCells xs ++ intCells ys := by simp [intCells]
  cases A with
  | none =>
    have hy : ys = [] := by
      rcases ys with _ | ⟨y, r⟩
      · rfl
      · obtain ⟨_, _, e, _⟩ := hC 0 (by simp); cases e
    subst hy
    have hc0 := hnil rfl
    subst hc0
    exact wpList_append_own_none hgd s x _ ho base _ i0 1 Tryd.underlying48 hi v n _ hs hown hx (h v w (by simpa using hown) ⟨rfl, rfl, rfl, Nat.le_refl _, fun _ _ _ => rfl⟩)
  | some ad =>
    refine wpList_append_own w hgd s x _ ho base 3 i0 (.int .i64 0) 1 8 Tryd.underlying48 hi hz0 hz1 hz2 rfl (by decide) v n _ hs hown ad ys.length c (intCells ys) hx (intCells_len ys) ?_ ?_ (by unfold maxLen; omega) (by omega) hbase ?_
    · intro j u hu
      have hj : j < ys.length := by have := (List.getElem?_eq_some_iff.1 hu).1; rw [intCells_len] at this; omega
      obtain ⟨b, off, e, _, c0⟩ := hC j hj
      injection e with e
      subst e
      rw [show (⟨b, off, none⟩ : Addr).add j = ⟨b, off + j, none⟩ by unfold Addr.add; split <;> simp_all, c0]
      unfold intCells at hu
      rw [List.getElem?_map, List.getElem?_eq_getElem hj] at hu
      rw [List.getD_eq_getElem?_getD, List.getElem?_eq_getElem hj]
      exact hu
    · intro u hu
      unfold intCells at hu
      obtain ⟨n, _, rfl⟩ := List.mem_map.1 hu
      rfl
    · intro v' w' h1 h2 _
      exact h v' w' (by rw [hcat]; exact h1) h2
abbrev vZ (f m t : Int) : Value := .agg #[.int .i64 f, .int .i64 m, .int .i64 t]
/-- What Between tells, opened: a list of its own, or an error. -/
theorem bet_open {c : Sp} {f t : Int} {w : World} (e : Ending) (w' : World) (h : BetOut c f t w e w') : ∃ (v : Value) (er : Int), e = .returned (.tuple #[v, .int .i64 er]) ∧ Below w.heap.size w w' ∧
    ((er = 0 ∧ BetGood c f t ∧ (mins c (f + 1) t).length ≤ 10000 ∧ w'.ownsRow w.heap.size 3 1 v (mins c (f + 1) t).length (intCells (mins c (f + 1) t))) ∨ (er = 30 ∧ v = .slice none 0 0)) := by
  obtain ⟨⟨h1, h2, v, he, hr⟩ | ⟨_, he⟩, hb⟩ := h
  · exact ⟨v, 0, he, hb, .inl ⟨rfl, h1, h2, hr⟩⟩
  · exact ⟨_, 30, he, hb, .inr ⟨rfl, rfl⟩⟩
set_option maxHeartbeats 4000000 in
theorem cronParts_walk (c : Sp) (f m t : Int) (w : World) (hc : c.wf) (hR : Rd w) : Calls Tryd.prog 8 #[vC c, vZ f m t] w fun e w' => e = .returned (.bool true) ∧ Below w.heap.size w w' := by
  have HA := hide (fun w hR => awake_any w hR)
  have HBt := hide (fun f t w hR => bet_any c f t w hc hR)
  have HR := hide hR
  clear hc hR
  obtain ⟨W0, hW0⟩ : ∃ W0, W0 = (boxC w c).alloc (.cells #[.int .i64 f, .int .i64 m, .int .i64 t] 53) := ⟨_, rfl⟩
  have HB0 : Hid (Below w.heap.size w W0) := hide (by rw [hW0]; exact ((Below.refl _ _).alloc (Nat.le_refl _) _).alloc (by simp) _)
  have HC0 : Hid (AtC W0 w.heap.size c) := hide (by rw [hW0]; exact (AtC.box w c).on ((Below.refl _ _).alloc (Nat.le_refl _) _))
  have HZ0 : Hid (W0.cell? ⟨w.heap.size + 1, 0, none⟩ = some (.int .i64 f) ∧ W0.cell? ⟨w.heap.size + 1, 1, none⟩ = some (.int .i64 m) ∧ W0.cell? ⟨w.heap.size + 1, 2, none⟩ = some (.int .i64 t) ∧ w.heap.size + 1 < W0.heap.size) := hide (by
    have e := World.size_alloc w (.cells #[.int .u64 (c.S 0 : Nat), .int .u64 (c.S 1 : Nat), .int .u64 (c.S 2 : Nat), .int .u64 (c.S 3 : Nat), .int .u64 (c.S 4 : Nat), .bool (c.A 0), .bool (c.A 1), .bool (c.A 2), .bool (c.A 3), .bool (c.A 4)] 26)
    rw [hW0, ← e]
    refine ⟨by simp, by simp, by simp, by simp⟩)
  have HWE : Hid ((w.alloc (.cells #[.int .u64 (c.S 0 : Nat), .int .u64 (c.S 1 : Nat), .int .u64 (c.S 2 : Nat), .int .u64 (c.S 3 : Nat), .int .u64 (c.S 4 : Nat), .bool (c.A 0), .bool (c.A 1), .bool (c.A 2), .bool (c.A 3), .bool (c.A 4)] 26)).alloc (.cells #[.int .i64 f, .int .i64 m, .int .i64 t] 53) = W0) := hide hW0.symm
  clear hW0
  obtain ⟨z9, c0, c1, c2, c3, c4, c5, c6, c7, c8, c9⟩ := HC0.out
  obtain ⟨y0, y1, y2, yz⟩ := HZ0.out
  have H1 := hide (HBt.out f t W0 (HR.out.on HB0.out))
  go_enter Tryd.func8, Tryd.ntmps8
  go_wp2_with (first | (guard_target =~ wpList _ _ _ (Oper.mk _ (Op.load _ _) _ _ _ _ :: _) _ _; rw [HWE.out]) | fail)
  refine (H1.out.mono bet_open).mono ?_
  rintro e w1 ⟨v1, r1, rfl, hb1, h1⟩
  have HB1 := hide (HB0.out.trans (hb1.mono HB0.out.size))
  have HK1 := hide hb1
  have HR1 := hide h1
  clear z9 c0 c1 c2 c3 c4 c5 c6 c7 c8 c9
  obtain ⟨z9, c0, c1, c2, c3, c4, c5, c6, c7, c8, c9⟩ := HC0.out.on hb1
  have y0' := (hb1.cell (p := ⟨w.heap.size + 1, 0, none⟩) yz).trans y0
  have y1' := (hb1.cell (p := ⟨w.heap.size + 1, 1, none⟩) yz).trans y1
  have y2' := (hb1.cell (p := ⟨w.heap.size + 1, 2, none⟩) yz).trans y2
  have H2 := hide (HBt.out f m w1 (HR.out.on HB1.out))
  clear y0 y1 y2 h1
  have yz1 := Nat.lt_of_lt_of_le yz hb1.size
  clear hb1
  go_wp2_with fail
  refine (H2.out.mono bet_open).mono ?_
  rintro e w2 ⟨v2, r2, rfl, hb2, h2⟩
  have HB2 := hide (HB1.out.trans (hb2.mono HB1.out.size))
  have HK2 := hide hb2
  have HR2 := hide h2
  have hC2 := (show AtC w1 w.heap.size c from ⟨z9, c0, c1, c2, c3, c4, c5, c6, c7, c8, c9⟩).on hb2
  clear z9 c0 c1 c2 c3 c4 c5 c6 c7 c8 c9
  obtain ⟨z9, c0, c1, c2, c3, c4, c5, c6, c7, c8, c9⟩ := hC2
  have x1 := (hb2.cell (p := ⟨w.heap.size + 1, 1, none⟩) yz1).trans y1'
  have x2 := (hb2.cell (p := ⟨w.heap.size + 1, 2, none⟩) yz1).trans y2'
  have H3 := hide (HBt.out m t w2 (HR.out.on HB2.out))
  clear y0' y1' y2' h2 hb2
  go_wp2_with fail
  refine (H3.out.mono bet_open).mono ?_
  rintro e w3 ⟨v3, r3, rfl, hb3, h3⟩
  have HB3 := hide (HB2.out.trans (hb3.mono HB2.out.size))
  have HK3 := hide hb3
  have HA3 := hide (HA.out w3 (HR.out.on HB3.out))
  clear z9 c0 c1 c2 c3 c4 c5 c6 c7 c8 c9 x1 x2 hb3 yz1 yz H1 H2 H3 HBt
  rcases HR1.out with ⟨rfl, g1, n1, o1⟩ | ⟨rfl, rfl⟩
  · rcases HR2.out with ⟨rfl, g2, n2, o2⟩ | ⟨rfl, rfl⟩
    · rcases h3 with ⟨rfl, g3, n3, o3⟩ | ⟨rfl, rfl⟩
      · have hsp : mins c (f + 1) t = mins c (f + 1) m ++ mins c (m + 1) t := mins_split (by have := g2.2.2.1; omega) g3.2.2.1
        have hz1 := HK1.out.size; have hz2 := HK2.out.size; have hz3 := HK3.out.size
        rw [hsp] at n1 o1
        generalize mins c (f + 1) m = la at *
        generalize mins c (m + 1) t = lb at *
        clear g1 g2 g3 hsp HR1 HR2
        have q1 := (o1.kept (only_of_below HK2.out none) (by cases v1.ownBlock <;> simp)).kept (only_of_below HK3.out none) (by cases v1.ownBlock <;> simp)
        have q2 := o2.kept (only_of_below HK3.out none) (by cases v2.ownBlock <;> simp)
        have b1 : ∀ g, v1.ownBlock = some g → g < w1.heap.size := fun g hg => (o1.lt g hg).2
        have b2 : ∀ g, v2.ownBlock = some g → w1.heap.size ≤ g := fun g hg => (o2.lt g hg).1
        have nB : v3 = .slice none 0 0 ∨ ∃ ad cap, v3 = .slice (some ad) lb.length cap := by
          rcases o3.2 with ⟨rfl, _⟩ | ⟨g, cap, cur, rfl, _⟩
          · exact .inl rfl
          · exact .inr ⟨_, _, rfl⟩
        obtain ⟨B, cb, rfl, iB⟩ := ints_of_row o3
        have hnil : B = none → cb = 0 := fun e => by
          rcases nB with h | ⟨ad, cap, h⟩
          · injection h
          · subst e; injection h with h; cases h
        have HNil := hide hnil
        clear nB hnil
        have q1' := q1
        obtain ⟨A1, k1, rfl, -⟩ := ints_of_row q1
        have q2' := q2
        obtain ⟨A2, k2, rfl, -⟩ := ints_of_row q2
        have HO1 := hide q1'
        have hll : (la ++ lb).length = la.length + lb.length := List.length_append
        rw [hll] at n1
        have HLL := hide hll
        have he1 : (((la ++ lb).length : Int) != (la.length : Int) + lb.length) = false := by rw [hll]; simp
        clear q1 q1' q2 o1 o2 o3 hll
        obtain ⟨N, hN⟩ : ∃ N, N = (la ++ lb).length := ⟨_, rfl⟩
        rw [← hN] at he1 HO1 HLL
        have HN := hide hN
        rw [← hN]
        clear hN
        have hN2 : N ≤ 10000 := by have := HLL.out; omega
        go_wp2_with (at_builtin; go_must (refine append_ints rfl _ _ rfl w1.heap.size _ la.length la lb rfl q2' _ B cb rfl iB HNil.out (by omega) (by omega) ?_))
        intro v4 w4 h4 hg4
        have HO4 := hide (HO1.out.kept hg4 (by
          rcases hu : (Value.slice A1 N k1).ownBlock with _ | g
          · exact .inl rfl
          · exact .inr (fun e => by rw [HN.out] at hu; have := b1 g hu; have := b2 g e.symm; omega)))
        have HB4 : Hid (Below w.heap.size w w4) := hide (HB3.out.grown hg4 HB3.out.size (fun k e => by have := b2 k e; have := HB1.out.size; omega))
        have h4' : w4.ownsRow w1.heap.size 3 1 v4 (la ++ lb).length (intCells (la ++ lb)) := by rw [List.length_append]; exact h4
        obtain ⟨l, hl⟩ : ∃ l, l = la ++ lb := ⟨_, rfl⟩
        have hNl := HN.out
        rw [← hl] at h4' HO4 hNl
        subst hNl
        obtain ⟨A4, k4, rfl, i4⟩ := ints_of_row h4'
        have hq := HO4.out
        obtain ⟨A1', k1', hA1', i1⟩ := ints_of_row hq
        injection hA1' with ea eb ec
        subst ea ec
        have HI4 := hide i4
        have HI1 := hide i1
        have HA4 := hide (HA.out w4 (HR.out.on HB4.out))
        clear h4 h4' hg4 hq i4 i1 HO4 HO1 q2' iB b1 b2 n1 n2 n3 he1 eb hl
        go_wp2_with fail
        go_loop [63] (fun u => ∃ k : Nat, k ≤ l.length ∧ u = .int .i64 (k : Nat)) (fun u => l.length - (intOf u).toNat)
        case atStart => exact ⟨0, Nat.zero_le _, rfl⟩
        case round =>
          obtain ⟨k, hk, rfl⟩ := hrel
          by_cases hlt : k < l.length
          · obtain ⟨b, off, rfl, _, c0⟩ := HI4.out k hlt
            obtain ⟨b', off', rfl, _, c1⟩ := HI1.out k hlt
            have hne : (l.getD k 0 != l.getD k 0) = false := by simp
            generalize l.getD k 0 = x at *
            go_wp2_with fail
            go_round
            case rel => exact ⟨k + 1, by omega, by go_num⟩
            case measure => simp [intOf]; omega
          · go_wp2_with fail
            refine HA4.out.mono ?_
            rintro e w5 ⟨rfl, hb5⟩
            have HB5 := hide (HB4.out.trans (hb5.mono HB4.out.size))
            clear hb5
            go_wp2_with fail
            go_ret
            exact ⟨rfl, HB5.out⟩
      · (clear HR1 HR2)
        go_wp2_with fail
        refine HA3.out.mono ?_
        rintro e w4 ⟨rfl, hb4⟩
        have HB4 := hide (HB3.out.trans (hb4.mono HB3.out.size))
        clear hb4
        go_wp2_with fail
        go_ret
        exact ⟨rfl, HB4.out⟩
    · (clear h3 HR1 HR2)
      go_wp2_with fail
      refine HA3.out.mono ?_
      rintro e w4 ⟨rfl, hb4⟩
      have HB4 := hide (HB3.out.trans (hb4.mono HB3.out.size))
      clear hb4
      go_wp2_with fail
      go_ret
      exact ⟨rfl, HB4.out⟩
  · (clear HR2 h3 HR1)
    go_wp2_with fail
    refine HA3.out.mono ?_
    rintro e w4 ⟨rfl, hb4⟩
    have HB4 := hide (HB3.out.trans (hb4.mono HB3.out.size))
    clear hb4
    go_wp2_with fail
    go_ret
    exact ⟨rfl, HB4.out⟩
end Go.Proofs.YtldbmkmicaihhaaDoor
