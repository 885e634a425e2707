/-
  A field that is a list of items.
-/
import Derived.Test.YtggaflihblhapaaDoorHField
namespace Go.Proofs.YtggaflihblhapaaDoor
open Go.RowKit Go.Shelf HM
attribute [local go_sem] Oper.semAt_some

/-- Between two rounds. -/
def FI (f : Nat) (w : World) (b1 b2 b3 : Nat) (pre : List ByteArray) (W : World) : Prop :=
  (∃ acc : Nat, fieldF f (bytesOf pre) 0 = (0, acc) ∧ acc < 18446744073709551616 ∧ At W w.heap.size (.int .i64 (f : Nat)) ∧ At W b1 (.int .u64 0) ∧ At W b2 (.int .i64 0) ∧ At W b3 (.int .u64 (acc : Nat))) ∧ Below w.heap.size w W
/-- A round has told an error. -/
def FX (f : Nat) (w : World) (b1 b2 : Nat) (c : Code) (pre : List ByteArray) (W : World) : Prop :=
  (c = .ret ∧ (fieldF f (bytesOf pre) 0).1 ≠ 0 ∧ At W b1 (.int .u64 ((fieldF f (bytesOf pre) 0).2 : Nat)) ∧ At W b2 (.int .i64 (fieldF f (bytesOf pre) 0).1)) ∧ Below w.heap.size w W
theorem FI.firm {f : Nat} {w W0 : World} {b1 b2 b3 b4 : Nat} (h0 : w.heap.size ≤ W0.heap.size) (h : w.heap.size ≤ b4) (n0 : w.heap.size ≠ b4) (n1 : b1 ≠ b4) (n2 : b2 ≠ b4) (n3 : b3 ≠ b4) : Firm b4 W0.heap.size (FI f w b1 b2 b3) := by
  refine ⟨fun pre W W' row hs hg hr => ?_, fun pre W v hs => ?_⟩
  · obtain ⟨⟨acc, a1, a2, a3, a4, a5, a6⟩, hb⟩ := hs
    have hr' := fun r e => (hr r e).2
    exact ⟨⟨acc, a1, a2, a3.own hg hr', a4.own hg hr', a5.own hg hr', a6.own hg hr'⟩, hb.grown hg hb.size (fun k e => Nat.le_trans h0 (hr k e).1)⟩
  · obtain ⟨⟨acc, a1, a2, a3, a4, a5, a6⟩, hb⟩ := hs
    exact ⟨⟨acc, a1, a2, a3.other n0, a4.other n1, a5.other n2, a6.other n3⟩, hb.setCell (p := ⟨b4, 0, none⟩) h _⟩
theorem FX.firm {f : Nat} {w W0 : World} {b1 b2 b4 : Nat} {c : Code} (h0 : w.heap.size ≤ W0.heap.size) (h : w.heap.size ≤ b4) (n1 : b1 ≠ b4) (n2 : b2 ≠ b4) : Firm b4 W0.heap.size (FX f w b1 b2 c) := by
  refine ⟨fun pre W W' row hs hg hr => ?_, fun pre W v hs => ?_⟩
  · obtain ⟨⟨a1, a2, a3, a4⟩, hb⟩ := hs
    have hr' := fun r e => (hr r e).2
    exact ⟨⟨a1, a2, a3.own hg hr', a4.own hg hr'⟩, hb.grown hg hb.size (fun k e => Nat.le_trans h0 (hr k e).1)⟩
  · obtain ⟨⟨a1, a2, a3, a4⟩, hb⟩ := hs
    exact ⟨⟨a1, a2, a3.other n1, a4.other n2⟩, hb.setCell (p := ⟨b4, 0, none⟩) h _⟩
set_option maxRecDepth 100000 in
set_option maxHeartbeats 4000000 in
theorem pf_list (f : Nat) (s : ByteArray) (w : World) (hf : f < 5) (hs : s.size ≤ 1000000) (hst : s.data.toList ≠ [42]) (hB : Bnd w) : CallsIn Fence.wide 4 Tryd.prog 39 #[.int .i64 (f : Nat), .string s] w fun e w' => e = .returned (.tuple #[.int .u64 ((fieldF f (pieces 44 s.data.toList) 0).2 : Nat), .int .i64 (fieldF f (pieces 44 s.data.toList) 0).1]) ∧ Below w.heap.size w w' := by
  have hts : (s.toList == [42]) = false := by rw [Lib.toList_data]; simp; exact hst
  obtain ⟨W0, hW0⟩ : ∃ W0, W0 = (((((((w.alloc (.cells #[.int .i64 (f : Nat)] 3)).alloc (.cells #[.int .u64 0] 22)).alloc (.cells #[.int .i64 0] 29)).alloc (.cells #[.int .u64 0] 22)).alloc (.cells #[.string s] 9)).alloc (.cells #[.string ⟨#[44]⟩] 9)).alloc (.cells #[.int .i64 0] 3)) := ⟨_, rfl⟩
  have g0 : At W0 (w.heap.size) (.int .i64 (f : Nat)) := by rw [hW0]; exact ((((((At.new _ _ _ rfl).alloc _).alloc _).alloc _).alloc _).alloc _).alloc _
  have g1 : At W0 (w.heap.size + 1) (.int .u64 0) := by rw [hW0]; exact (((((At.new _ _ _ (by simp)).alloc _).alloc _).alloc _).alloc _).alloc _
  have g2 : At W0 (w.heap.size + 1 + 1) (.int .i64 0) := by rw [hW0]; exact ((((At.new _ _ _ (by simp)).alloc _).alloc _).alloc _).alloc _
  have g3 : At W0 (w.heap.size + 1 + 1 + 1) (.int .u64 0) := by rw [hW0]; exact (((At.new _ _ _ (by simp)).alloc _).alloc _).alloc _
  have g4 : At W0 (w.heap.size + 1 + 1 + 1 + 1) (.string s) := by rw [hW0]; exact ((At.new _ _ _ (by simp)).alloc _).alloc _
  have g5 : At W0 (w.heap.size + 1 + 1 + 1 + 1 + 1) (.string ⟨#[44]⟩) := by rw [hW0]; exact (At.new _ _ _ (by simp)).alloc _
  have g6 : At W0 (w.heap.size + 1 + 1 + 1 + 1 + 2) (.int .i64 0) := by rw [hW0]; exact At.new _ _ _ (by simp)
  have hz0 : W0.heap.size = w.heap.size + 7 := by rw [hW0]; simp
  have hBl : Below w.heap.size w W0 := by
    rw [hW0]
    exact (((((((Below.refl w.heap.size w).alloc (Nat.le_refl _) _).alloc (by simp) _).alloc (by simp; omega) _).alloc (by simp; omega) _).alloc (by simp; omega) _).alloc (by simp; omega) _).alloc (by simp; omega) _
  have HI0 : Hid (It (w.heap.size + 1 + 1 + 1 + 1 + 1) (w.heap.size + 1 + 1 + 1 + 1) (w.heap.size + 1 + 1 + 1 + 1 + 2) 44 W0 s) := hide ⟨g4.1, g4.2, g5.1, g6.1⟩
  have HBd := hide hB
  have HWE := hide hW0
  have G := hide (And.intro g0 (And.intro g1 (And.intro g2 g3)))
  clear hW0 g0 g1 g2 g3 g4 g5 g6 hB hst
  have HZ := hide hz0
  have HBl := hide hBl
  clear hz0 hBl
  refine callsIn_of_wp_marks Tryd.func39 rfl trivial ?_ rfl
  simp only [Tryd.ntmps39, List.size_toArray, List.length_cons, List.length_nil, Nat.reduceAdd, Nat.reduceSub, Array.replicate_succ, Array.replicate_zero, List.push_toArray, List.append_toArray, List.nil_append, List.cons_append]
  gi_wp2_with (refine ⟨trivial, ?_⟩; gi_at_call 65; refine (callsIn_wide.2 (splitSeq_any _ _ _)).mono ?_; rintro e w' ⟨rfl, rfl⟩)
  rw [← HWE.out]
  clear HWE
  obtain ⟨b1, hb1⟩ : ∃ b, b = w.heap.size + 1 := ⟨_, rfl⟩
  obtain ⟨b2, hb2⟩ : ∃ b, b = w.heap.size + 1 + 1 := ⟨_, rfl⟩
  obtain ⟨b3, hb3⟩ : ∃ b, b = w.heap.size + 1 + 1 + 1 := ⟨_, rfl⟩
  obtain ⟨b4, hb4⟩ : ∃ b, b = w.heap.size + 1 + 1 + 1 + 1 := ⟨_, rfl⟩
  obtain ⟨b5, hb5⟩ : ∃ b, b = w.heap.size + 1 + 1 + 1 + 1 + 1 := ⟨_, rfl⟩
  obtain ⟨b6, hb6⟩ : ∃ b, b = w.heap.size + 1 + 1 + 1 + 1 + 2 := ⟨_, rfl⟩
  rw [← hb6, ← hb5, ← hb4] at HI0
  rw [← hb3, ← hb2, ← hb1] at G
  rw [← hb6, ← hb5, ← hb4, ← hb3, ← hb2, ← hb1]
  have HN : Hid (b1 = w.heap.size + 1 ∧ b2 = w.heap.size + 2 ∧ b3 = w.heap.size + 3 ∧ b4 = w.heap.size + 4 ∧ b5 = w.heap.size + 5 ∧ b6 = w.heap.size + 6) := hide ⟨by omega, by omega, by omega, by omega, by omega, by omega⟩
  clear hb1 hb2 hb3 hb4 hb5 hb6
  obtain ⟨n1, n2, n3, n4, n5, n6⟩ := HN.out
  refine range_split 4 (by omega) b5 b4 b6 (by omega) (by omega) 44 s hs rfl rfl HI0.out (FI f w b1 b2 b3) (FX f w b1 b2)
    (FI.firm (by rw [HZ.out]; omega) (by omega) (by omega) (by omega) (by omega) (by omega)) (fun _ => FX.firm (by rw [HZ.out]; omega) (by omega) (by omega) (by omega))
    ⟨⟨0, rfl, by omega, G.out.1, G.out.2.1, G.out.2.2.1, G.out.2.2.2⟩, HBl.out⟩
    (fun x => { tmps := #[.int .i64 (f : Nat), .string s, .pointer (some ⟨w.heap.size, 0, none⟩), undef, .pointer (some ⟨b1, 0, none⟩), .pointer (some ⟨b2, 0, none⟩), .pointer (some ⟨b3, 0, none⟩), .string x, undef, undef, .string s, .bool false, undef, undef, .string s, clo b5 b4 b6, .string x, undef, undef, undef, undef, undef, undef, undef, undef, undef, undef, undef, undef, undef, undef, undef, undef, undef, undef, undef, undef, undef, undef], defers := [] }) ?assign ?body ?done ?stop
  case assign =>
    clear n1 n2 n3 n4 n5 n6
    intro l x W K hK
    gi_wp2
    exact hK
  case body =>
    rintro l pre x W t hxs ⟨⟨acc, p1, p2, p3, p4, p5, p6⟩, hBW⟩ _
    have HPI := hide (pi_any f x W hf hxs (HBd.out.on hBW))
    have HBd' := HBd
    have HFn := hide (fieldF_snoc f x.data.toList (bytesOf pre) 0 acc p1)
    have HE1 : Hid (fieldF f [x.data.toList] acc = if (itm f x.data.toList).2.2.2 = false then (20, 0) else if fitB f (itm f x.data.toList).1 (itm f x.data.toList).2.1 (itm f x.data.toList).2.2.1 = false then (30, 0) else (0, acc ||| spanN (itm f x.data.toList).1 (itm f x.data.toList).2.1 (itm f x.data.toList).2.2.1)) := hide rfl
    have HP : Hid (bytesOf (pre ++ [x]) = bytesOf pre ++ [x.data.toList]) := hide (by simp [bytesOf])
    have HFt := hide (fun a b c w hB => fit_any f a b c w hf hB)
    generalize itm f x.data.toList = it at *
    obtain ⟨ia, ib, is, io⟩ := it
    have HBW := hide hBW
    have hmx : Tryd.prog.follows .mixedOrders = true := by kernel_rfl
    have q0 := p3; have q1 := p4; have q2 := p5; have q3 := p6
    have l0 := p3.lt; have l1 := p4.lt; have l2 := p5.lt; have l3 := p6.lt
    have HN' := hide (And.intro n1 (And.intro n2 (And.intro n3 (And.intro n4 (And.intro n5 n6)))))
    clear n1 n2 n3 n4 n5 n6 hBW p1 hts
    have hm12 : b1 ≠ b2 := by have := HN'.out; omega
    obtain ⟨e0, f0⟩ := p3; obtain ⟨e1, f1⟩ := p4; obtain ⟨e2, f2⟩ := p5; obtain ⟨e3, f3⟩ := p6
    gi_wp2_with fail
    refine ⟨trivial, ?_⟩
    refine (CallsIn.inRound l (callsIn_wide.2 HPI.out)).mono ?_
    rintro e w1 ⟨rfl, hb1⟩
    have r0 := q0.on hb1; have r1 := q1.on hb1; have r2 := q2.on hb1; have r3 := q3.on hb1
    have HB1 := hide (HBW.out.trans (hb1.mono HBW.out.size))
    have hz1 := hb1.size
    have HK1 := hide hb1
    clear hb1 e0 f0 e1 f1 e2 f2 e3 f3 HPI
    cases io
    · have HE : Hid (fieldF f (bytesOf (pre ++ [x])) 0 = (20, 0)) := hide (by rw [HP.out, HFn.out, HE1.out]; rfl)
      clear HE1 HFn HP
      have s1 := r1; have s2 := r2
      obtain ⟨e1, f1⟩ := r1; obtain ⟨e2, f2⟩ := r2
      have z1 : b1 < w1.heap.size := by omega
      have z2 : b2 < w1.heap.size := by omega
      gi_wp2_with fail
      exact ⟨(keeps_below HK1.out).trans (((KeepsOthers.setCell _ _ _).trans (KeepsOthers.setCell _ _ _)).trans (KeepsOthers.alloc _ _)), ⟨rfl, by rw [HE.out]; decide, by rw [HE.out]; exact ((s1.same).other hm12).alloc _, by rw [HE.out]; exact ((s2.other (Ne.symm hm12)).same).alloc _⟩,
        Below.alloc ((HB1.out.setCell (p := ⟨b1, 0, none⟩) (by have := HN'.out; show _ ≤ b1; omega) _).setCell (p := ⟨b2, 0, none⟩) (by have := HN'.out; show _ ≤ b2; omega) _) (by simpa using HB1.out.size) _⟩
    · have HFt' := hide (fun w hB => HFt.out ia ib is w hB)
      obtain ⟨W2, hW2⟩ : ∃ W2, W2 = w1.alloc (.cells #[.int .i64 (ia : Nat), .int .i64 (ib : Nat), .int .i64 (is : Nat)] 99) := ⟨_, rfl⟩
      have HB2 : Hid (Below w.heap.size w W2) := hide (by rw [hW2]; exact Below.alloc HB1.out HB1.out.size _)
      have HK2 : Hid (Below W.heap.size W W2) := hide (by rw [hW2]; exact Below.alloc HK1.out HK1.out.size _)
      have d0 : W2.cell? ⟨w1.heap.size, 0, none⟩ = some (.int .i64 (ia : Nat)) := by rw [hW2]; simp
      have d1 : W2.cell? ⟨w1.heap.size, 1, none⟩ = some (.int .i64 (ib : Nat)) := by rw [hW2]; simp
      have d2 : W2.cell? ⟨w1.heap.size, 2, none⟩ = some (.int .i64 (is : Nat)) := by rw [hW2]; simp
      have zi : w1.heap.size < W2.heap.size := by rw [hW2]; simp
      have t0 : At W2 w.heap.size (.int .i64 (f : Nat)) := by rw [hW2]; exact r0.alloc _
      have t1 : At W2 b1 (.int .u64 0) := by rw [hW2]; exact r1.alloc _
      have t2 : At W2 b2 (.int .i64 0) := by rw [hW2]; exact r2.alloc _
      have t3 : At W2 b3 (.int .u64 (acc : Nat)) := by rw [hW2]; exact r3.alloc _
      have HWE := hide hW2
      clear hW2 r0 r1 r2 r3
      have u0 := t0
      obtain ⟨e0, f0⟩ := t0
      gi_wp2_with (first | (guard_target =~ wpListIn _ _ _ _ _ (Oper.mk _ (Op.load _ _) _ _ _ _ :: _) _ _; rw [← HWE.out]) | fail)
      refine ⟨trivial, ?_⟩
      refine (CallsIn.inRound l (callsIn_wide.2 (HFt'.out _ (HBd'.out.on HB2.out)))).mono ?_
      rintro e w3 ⟨rfl, hb3⟩
      have c0 := u0.on hb3; have c1 := t1.on hb3; have c2 := t2.on hb3; have c3 := t3.on hb3
      have HB3 := hide (HB2.out.trans (hb3.mono HB2.out.size))
      have HK3 := hide (HK2.out.trans (hb3.mono HK2.out.size))
      have d0' := (hb3.cell (p := ⟨w1.heap.size, 0, none⟩) zi).trans d0
      have d1' := (hb3.cell (p := ⟨w1.heap.size, 1, none⟩) zi).trans d1
      have d2' := (hb3.cell (p := ⟨w1.heap.size, 2, none⟩) zi).trans d2
      clear hb3 e0 f0 d0 d1 d2 t1 t2 t3
      cases hq : fitB f ia ib is
      · rw [hq] at HE1
        have HE : Hid (fieldF f (bytesOf (pre ++ [x])) 0 = (30, 0)) := hide (by rw [HP.out, HFn.out, HE1.out]; rfl)
        have s1 := c1; have s2 := c2
        clear HE1 HFn HP hq
        have z1 := c1.lt; have z2 := c2.lt
        obtain ⟨e1, f1⟩ := c1; obtain ⟨e2, f2⟩ := c2
        gi_wp2_with fail
        exact ⟨(keeps_below HK3.out).trans ((KeepsOthers.setCell _ _ _).trans (KeepsOthers.setCell _ _ _)), ⟨rfl, by rw [HE.out]; decide, by rw [HE.out]; exact (s1.same).other hm12, by rw [HE.out]; exact (s2.other (Ne.symm hm12)).same⟩,
          (HB3.out.setCell (p := ⟨b1, 0, none⟩) (by have := HN'.out; show _ ≤ b1; omega) _).setCell (p := ⟨b2, 0, none⟩) (by have := HN'.out; show _ ≤ b2; omega) _⟩
      · rw [hq] at HE1
        have hfb := hq
        unfold fitB at hfb
        simp only [Bool.and_eq_true, decide_eq_true_eq] at hfb
        obtain ⟨g1, g2, g3, g4, g5⟩ := hfb
        have hlh := lohi f
        have HE : Hid (fieldF f (bytesOf (pre ++ [x])) 0 = (0, acc ||| spanN ia ib is)) := hide (by rw [HP.out, HFn.out, HE1.out]; rfl)
        have HSp := hide (fun w => span_any ia ib is w (by omega) (by omega) g4 (by omega))
        have HOr := hide (u64_or_nat acc (spanN ia ib is) p2 (spanN_lt _ _ _))
        have HLt : Hid (acc ||| spanN ia ib is < 18446744073709551616) := hide (Nat.or_lt_two_pow (n := 64) p2 (spanN_lt _ _ _))
        have v3 := c3
        have z3 := c3.lt
        have f3 := c3.2
        clear HE1 HFn HP hq g1 g2 g3 g4 g5 hlh
        generalize spanN ia ib is = sp at *
        generalize hn7 : w1.heap.size = n7 at *
        gi_wp2_with fail
        refine region_roundBut (S := fun w' => w'.cell? ⟨b3, 0, none⟩ = some (.int .u64 (acc : Nat)) ∧ w'.cell? ⟨n7, 0, none⟩ = some (.int .i64 (ia : Nat)) ∧ w'.cell? ⟨n7, 1, none⟩ = some (.int .i64 (ib : Nat)) ∧ w'.cell? ⟨n7, 2, none⟩ = some (.int .i64 (is : Nat))) (L := 9) (by kernel_rfl) (by kernel_rfl) (⟨c3.1, d0', d1', d2'⟩) (fun hS => ?_)
        refine heldBut_take (i := 0) (oi := ⟨some 29, _, _, _, _, _⟩) (v := ?_) rfl (by kernel_rfl) (by kernel_rfl) (by kernel_rfl) (by kernel_rfl) (fun _ _ _ h => h) (Or.inl ⟨by rfl, ?_⟩) hS ?_
        rotate_left 1
        · intro w' hw'
          obtain ⟨k0, k1, k2, k3⟩ := hw'
          go_simp
          all_goals with_reducible rfl
        try simp only [Act.put, List.setIfInBounds_toArray, List.set_cons_zero, List.set_cons_succ]
        refine heldBut_take (i := 1) (oi := ⟨some 30, _, _, _, _, _⟩) (v := ?_) rfl (by kernel_rfl) (by kernel_rfl) (by kernel_rfl) (by kernel_rfl) (fun _ _ _ h => h) (Or.inl ⟨by rfl, ?_⟩) hS ?_
        rotate_left 1
        · intro w' hw'
          obtain ⟨k0, k1, k2, k3⟩ := hw'
          go_simp
          all_goals with_reducible rfl
        try simp only [Act.put, List.setIfInBounds_toArray, List.set_cons_zero, List.set_cons_succ]
        refine heldBut_take (i := 2) (oi := ⟨some 31, _, _, _, _, _⟩) (v := ?_) rfl (by kernel_rfl) (by kernel_rfl) (by kernel_rfl) (by kernel_rfl) (fun _ _ _ h => h) (Or.inl ⟨by rfl, ?_⟩) hS ?_
        rotate_left 1
        · intro w' hw'
          obtain ⟨k0, k1, k2, k3⟩ := hw'
          go_simp
          all_goals with_reducible rfl
        try simp only [Act.put, List.setIfInBounds_toArray, List.set_cons_zero, List.set_cons_succ]
        refine heldBut_take (i := 3) (oi := ⟨some 32, _, _, _, _, _⟩) (v := ?_) rfl (by kernel_rfl) (by kernel_rfl) (by kernel_rfl) (by kernel_rfl) (fun _ _ _ h => h) (Or.inl ⟨by rfl, ?_⟩) hS ?_
        rotate_left 1
        · intro w' hw'
          obtain ⟨k0, k1, k2, k3⟩ := hw'
          go_simp
          all_goals with_reducible rfl
        try simp only [Act.put, List.setIfInBounds_toArray, List.set_cons_zero, List.set_cons_succ]
        refine heldBut_take (i := 4) (oi := ⟨some 33, _, _, _, _, _⟩) (v := ?_) rfl (by kernel_rfl) (by kernel_rfl) (by kernel_rfl) (by kernel_rfl) (fun _ _ _ h => h) (Or.inl ⟨by rfl, ?_⟩) hS ?_
        rotate_left 1
        · intro w' hw'
          obtain ⟨k0, k1, k2, k3⟩ := hw'
          go_simp
          all_goals with_reducible rfl
        try simp only [Act.put, List.setIfInBounds_toArray, List.set_cons_zero, List.set_cons_succ]
        refine heldBut_take (i := 5) (oi := ⟨some 34, _, _, _, _, _⟩) (v := ?_) rfl (by kernel_rfl) (by kernel_rfl) (by kernel_rfl) (by kernel_rfl) (fun _ _ _ h => h) (Or.inl ⟨by rfl, ?_⟩) hS ?_
        rotate_left 1
        · intro w' hw'
          obtain ⟨k0, k1, k2, k3⟩ := hw'
          go_simp
          all_goals with_reducible rfl
        try simp only [Act.put, List.setIfInBounds_toArray, List.set_cons_zero, List.set_cons_succ]
        refine heldBut_take (i := 6) (oi := ⟨some 35, _, _, _, _, _⟩) (v := ?_) rfl (by kernel_rfl) (by kernel_rfl) (by kernel_rfl) (by kernel_rfl) (fun _ _ _ h => h) (Or.inl ⟨by rfl, ?_⟩) hS ?_
        rotate_left 1
        · intro w' hw'
          obtain ⟨k0, k1, k2, k3⟩ := hw'
          go_simp
          all_goals with_reducible rfl
        try simp only [Act.put, List.setIfInBounds_toArray, List.set_cons_zero, List.set_cons_succ]
        refine heldBut_one (i := 7) (o := ⟨some 36, _, _, _, _, _⟩) (by kernel_rfl) rfl (fun K hK => ?_)
        go_simp
        go_at_call 58
        refine (HSp.out _).mono ?_
        rintro e w' ⟨rfl, rfl⟩
        refine hK.out _ _ (.inr hS) (fun hS => ?_)
        clear hK K
        replace hS := hS.resolve_left (by decide)
        try simp only [Act.put, List.setIfInBounds_toArray, List.set_cons_zero, List.set_cons_succ]
        refine heldBut_take (i := 8) (oi := ⟨some 37, _, _, _, _, _⟩) (v := ?_) rfl (by kernel_rfl) (by kernel_rfl) (by kernel_rfl) (by kernel_rfl) (fun _ _ _ h => h) (Or.inl ⟨by rfl, ?_⟩) hS ?_
        rotate_left 1
        · intro w' hw'
          obtain ⟨k0, k1, k2, k3⟩ := hw'
          go_simp
          all_goals with_reducible rfl
        try simp only [Act.put, List.setIfInBounds_toArray, List.set_cons_zero, List.set_cons_succ]
        refine heldBut_one (i := 9) (o := ⟨none, _, _, _, _, _⟩) (by kernel_rfl) rfl (fun K hK => ?_)
        go_simp
        skip
        refine hK.out _ _ (.inl rfl) (fun hS => ?_)
        clear hK K
        try simp only [Act.put, List.setIfInBounds_toArray, List.set_cons_zero, List.set_cons_succ]
        refine heldBut_done (by kernel_rfl) ?_ _
        show KeepsOthers W _ ∧ ItK b5 b4 b6 44 W _ ∧ FI f w b1 b2 b3 (pre ++ [x]) _
        rw [HOr.out]
        have hn := HN'.out
        have hdr : ∀ U : World, Below U.heap.size U U.drew := fun U => (Below.refl _ _).drew
        exact ⟨((keeps_below HK3.out).trans (KeepsOthers.setCell _ _ _)).trans (KeepsOthers.drew _), ((ItK.below HK3.out).trans (ItK.store (by omega) (by omega) (by omega))).trans (ItK.below (hdr _)),
          ⟨⟨_, HE.out, HLt.out, (c0.other (by omega)).on (hdr _), (c1.other (by omega)).on (hdr _), (c2.other (by omega)).on (hdr _), (v3.same).on (hdr _)⟩, (HB3.out.setCell (p := ⟨b3, 0, none⟩) (by show _ ≤ b3; omega) _).trans ((hdr _).mono (by simpa using HB3.out.size))⟩⟩
  case done =>
    rintro D ys W hD hys ⟨⟨acc, p1, p2, p3, p4, p5, p6⟩, hBW⟩ hK
    have HE : Hid (fieldF f (pieces 44 s.data.toList) 0 = (0, acc)) := hide (by rw [← hys]; exact p1)
    have HK := hide hK
    have HBW := hide hBW
    have HDz := hide hD
    have hne : b1 ≠ b2 := by omega
    have l1 := p4.lt; have l2 := p5.lt
    have q1 := p4; have q2 := p5
    obtain ⟨e1, f1⟩ := p4; obtain ⟨e2, f2⟩ := p5; obtain ⟨e3, f3⟩ := p6
    have HN' := hide (And.intro n1 n2)
    clear n1 n2 n3 n4 n5 n6 hBW p1 p3 hK hys hD hts
    gi_wp2_with fail
    have hk2 := (((KeepsOthers.setCell W ⟨b1, 0, none⟩ (.int .u64 (acc : Nat))).trans (KeepsOthers.setCell _ ⟨b2, 0, none⟩ (.int .i64 0)))).same D _ HK.out rfl
    refine ⟨by simp, .inl ⟨_, _, rfl, run_takeDeferred hk2, ?_⟩⟩
    have a1 := ((q1.same (u := .int .u64 (acc : Nat))).other hne (u := .int .i64 0)).own (grownBy_putObj' _ D (.deferred none)) (fun r e => by cases e; exact ⟨_, hk2, rfl⟩)
    have a2 := ((q2.other (Ne.symm hne) (u := .int .u64 (acc : Nat))).same (u := .int .i64 0)).own (grownBy_putObj' _ D (.deferred none)) (fun r e => by cases e; exact ⟨_, hk2, rfl⟩)
    refine ⟨.tuple #[.int .u64 (acc : Nat), .int .i64 0], by simp [results, Tryd.f39, go_sem, a1.1, a2.1], by rw [HE.out], ?_⟩
    have hn := HN'.out
    have hz := HZ.out
    have hd := HDz.out
    have hb2 := (HBW.out.setCell (p := ⟨b1, 0, none⟩) (by show _ ≤ b1; omega) (.int .u64 (acc : Nat))).setCell (p := ⟨b2, 0, none⟩) (by show _ ≤ b2; omega) (.int .i64 0)
    exact hb2.grown (grownBy_putObj' _ D (.deferred none)) hb2.size (fun k e => by cases e; omega)
  case stop =>
    rintro D c pre W hD hpre ⟨⟨rfl, p1, p2, p3⟩, hBW⟩ hK
    obtain ⟨rest, hrest⟩ := hpre
    have HE : Hid (fieldF f (pieces 44 s.data.toList) 0 = fieldF f (bytesOf pre) 0) := hide (by rw [← hrest]; exact fieldF_stop f rest _ 0 p1)
    have HK := hide hK
    have HBW := hide hBW
    have HDz := hide hD
    clear n1 n2 n3 n4 n5 n6 hBW p1 hK hrest hD hts
    gi_wp2_with fail
    refine ⟨by simp, .inl ⟨_, _, rfl, run_takeDeferred HK.out, ?_⟩⟩
    have a1 := p2.own (grownBy_putObj' _ D (.deferred none)) (fun r e => by cases e; exact ⟨_, HK.out, rfl⟩)
    have a2 := p3.own (grownBy_putObj' _ D (.deferred none)) (fun r e => by cases e; exact ⟨_, HK.out, rfl⟩)
    refine ⟨.tuple #[.int .u64 ((fieldF f (bytesOf pre) 0).2 : Nat), .int .i64 (fieldF f (bytesOf pre) 0).1], by simp [results, Tryd.f39, go_sem, a1.1, a2.1], by rw [HE.out], ?_⟩
    have hz := HZ.out
    have hd := HDz.out
    exact HBW.out.grown (grownBy_putObj' _ D (.deferred none)) HBW.out.size (fun k e => by cases e; omega)
theorem pf_any (f : Nat) (s : ByteArray) (w : World) (hf : f < 5) (hs : s.size ≤ 1000000) (hB : Bnd w) : Calls Tryd.prog 39 #[.int .i64 (f : Nat), .string s] w fun e w' => e = .returned (.tuple #[.int .u64 ((fieldM f s.data.toList).2 : Nat), .int .i64 (fieldM f s.data.toList).1]) ∧ Below w.heap.size w w' := by
  unfold fieldM
  by_cases hst : s.data.toList = [42]
  · rw [if_pos hst]
    exact pf_star f s w hf hst hB
  · rw [if_neg hst]
    exact callsIn_wide.1 (pf_list f s w hf hs hst hB)
end Go.Proofs.YtggaflihblhapaaDoor
