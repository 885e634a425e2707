/-
  The five texts of a schedule.
-/
import Derived.Test.YtggaflihblhapaaDoorHFieldL
namespace Go.Proofs.YtggaflihblhapaaDoor
open Go.RowKit Go.Shelf HM
attribute [local go_sem] Oper.semAt_some

/-- The parts that are not empty. -/
def partsL (l : List (List UInt8)) : List (List UInt8) := l.filter fun p => !p.isEmpty
/-- The five texts, if there are five. -/
def splitB (l : List UInt8) : Bool := !(Lib.hasPrefix l [32]) && (!(Lib.hasSuffix l [32]) && decide ((partsL (pieces 32 l)).length = 5))
theorem parts_app (a b : List (List UInt8)) : partsL (a ++ b) = partsL a ++ partsL b := by simp [partsL]
/-- Five texts in a block. -/
def TX (W : World) (b : Nat) (t : Nat → ByteArray) : Prop := ∀ j, j < 5 → W.cell? ⟨b, j, none⟩ = some (.string (t j)) ∧ W.frozen? ⟨b, j, none⟩ = false
theorem TX.own {W W' : World} {b : Nat} {t : Nat → ByteArray} {row : Option Nat} (h : TX W b t) (hg : W.grownBy W' row) (hr : ∀ r, row = some r → ∃ o : Obj, W.heap[r]? = some o ∧ o.isCells = false) : TX W' b t := fun j hj =>
  ⟨cell_kept (h j hj).1 hg hr, (frozen_kept (h j hj).1 hg hr).trans (h j hj).2⟩
theorem TX.lt {W : World} {b : Nat} {t : Nat → ByteArray} (h : TX W b t) : b < W.heap.size := lt_of_cell (h 0 (by omega)).1
theorem TX.other {W : World} {b b' o : Nat} {t : Nat → ByteArray} {u : Value} (h : TX W b t) (hne : b ≠ b') : TX (W.setCell ⟨b', o, none⟩ u) b t := fun j hj =>
  ⟨(World.cell?_setCell_other _ _ _ _ (by intro x; injection x with x; exact hne x.symm)).trans (h j hj).1, by rw [World.frozen?_setCell]; exact (h j hj).2⟩
theorem TX.on {W W' : World} {b : Nat} {t : Nat → ByteArray} (h : TX W b t) (hb : Below W.heap.size W W') : TX W' b t := fun j hj =>
  ⟨(hb.cell (p := ⟨b, j, none⟩) h.lt).trans (h j hj).1, (hb.frozen (p := ⟨b, j, none⟩) h.lt).trans (h j hj).2⟩
theorem TX.alloc {W : World} {b : Nat} {t : Nat → ByteArray} (h : TX W b t) (o : Obj) : TX (W.alloc o) b t := h.on ((Below.refl _ _).alloc (Nat.le_refl _) _)
theorem TX.new (W : World) {b : Nat} (hb : b = W.heap.size) : TX (W.alloc (.cells #[.string ⟨#[]⟩, .string ⟨#[]⟩, .string ⟨#[]⟩, .string ⟨#[]⟩, .string ⟨#[]⟩] 67)) b (fun _ => ⟨#[]⟩) := by
  subst hb
  intro j hj
  obtain rfl | rfl | rfl | rfl | rfl : j = 0 ∨ j = 1 ∨ j = 2 ∨ j = 3 ∨ j = 4 := by omega
  all_goals exact ⟨by simp, by simp⟩
theorem TX.set {W : World} {b n : Nat} {t : Nat → ByteArray} {x : ByteArray} (h : TX W b t) (hn : n < 5) : TX (W.setCell ⟨b, n, none⟩ (.string x)) b (fun j => if j = n then x else t j) := fun j hj => by
  refine ⟨?_, by rw [World.frozen?_setCell]; exact (h j hj).2⟩
  by_cases e : j = n
  · subst e
    show _ = some (Value.string (if j = j then x else t j))
    rw [if_pos rfl]
    exact World.cell?_setCell_same' _ _ _ (by rw [(h j hj).1]; rfl)
  · show _ = some (Value.string (if j = n then x else t j))
    rw [if_neg e]
    exact (World.cell?_setCell_other _ _ _ _ (by intro x; injection x with _ x; exact e x.symm)).trans (h j hj).1
theorem At.off {W : World} {b b' o : Nat} {v u : Value} (h : At W b v) (hne : b ≠ b') : At (W.setCell ⟨b', o, none⟩ u) b v :=
  ⟨(World.cell?_setCell_other _ _ _ _ (by intro x; injection x with x; exact hne x.symm)).trans h.1, by rw [World.frozen?_setCell]; exact h.2⟩
theorem ItK.off {bp bs bv b o : Nat} {c : UInt8} {W : World} {u : Value} (h1 : b ≠ bp) (h2 : b ≠ bs) (h3 : b ≠ bv) : ItK bp bs bv c W (W.setCell ⟨b, o, none⟩ u) :=
  ⟨by simp, fun _ ht => by
    obtain ⟨a1, a2, a3, a4⟩ := ht
    refine ⟨?_, by rw [World.frozen?_setCell]; exact a2, ?_, ?_⟩
    · exact (World.cell?_setCell_other _ _ _ _ (by intro x; injection x with x; exact h2 x)).trans a1
    · exact (World.cell?_setCell_other _ _ _ _ (by intro x; injection x with x; exact h1 x)).trans a3
    · exact (World.cell?_setCell_other _ _ _ _ (by intro x; injection x with x; exact h3 x)).trans a4⟩
abbrev v5 (t : Nat → ByteArray) : Value := .agg #[.string (t 0), .string (t 1), .string (t 2), .string (t 3), .string (t 4)]
/-- What split tells. -/
def SplOut (l : List UInt8) (w : World) (e : Ending) (w' : World) : Prop := (∃ t : Nat → ByteArray, e = .returned (.tuple #[v5 t, .bool (splitB l)]) ∧ (splitB l = true → ∀ j, j < 5 → (t j).data.toList = (partsL (pieces 32 l)).getD j [])) ∧ Below w.heap.size w w'
/-- Between two rounds: so many texts have come. -/
def SI (w : World) (b1 b2 b3 : Nat) (pre : List ByteArray) (W : World) : Prop :=
  (∃ t : Nat → ByteArray, (partsL (bytesOf pre)).length ≤ 5 ∧ (∀ j, j < 5 → (t j).data.toList = (partsL (bytesOf pre)).getD j []) ∧ TX W w.heap.size (fun _ => ⟨#[]⟩) ∧ At W b1 (.bool false) ∧ TX W b2 t ∧ At W b3 (.int .i64 ((partsL (bytesOf pre)).length : Nat))) ∧ Below w.heap.size w W
def SX (w : World) (b1 : Nat) (c : Code) (pre : List ByteArray) (W : World) : Prop :=
  (c = .ret ∧ 5 < (partsL (bytesOf pre)).length ∧ At W b1 (.bool false) ∧ ∃ t, TX W w.heap.size t) ∧ Below w.heap.size w W
theorem SI.firm {w W0 : World} {b1 b2 b3 b4 : Nat} (h0 : w.heap.size ≤ W0.heap.size) (h : w.heap.size ≤ b4) (n0 : w.heap.size ≠ b4) (n1 : b1 ≠ b4) (n2 : b2 ≠ b4) (n3 : b3 ≠ b4) : Firm b4 W0.heap.size (SI w b1 b2 b3) := by
  refine ⟨fun pre W W' row hs hg hr => ?_, fun pre W v hs => ?_⟩
  · obtain ⟨⟨t, a1, a2, a3, a4, a5, a6⟩, hb⟩ := hs
    have hr' := fun r e => (hr r e).2
    exact ⟨⟨t, a1, a2, a3.own hg hr', a4.own hg hr', a5.own hg hr', a6.own hg hr'⟩, hb.grown hg hb.size (fun k e => Nat.le_trans h0 (hr k e).1)⟩
  · obtain ⟨⟨t, a1, a2, a3, a4, a5, a6⟩, hb⟩ := hs
    exact ⟨⟨t, a1, a2, a3.other n0, a4.other n1, a5.other n2, a6.other n3⟩, hb.setCell (p := ⟨b4, 0, none⟩) h _⟩
theorem SX.firm {w W0 : World} {b1 b4 : Nat} {c : Code} (h0 : w.heap.size ≤ W0.heap.size) (h : w.heap.size ≤ b4) (n0 : w.heap.size ≠ b4) (n1 : b1 ≠ b4) : Firm b4 W0.heap.size (SX w b1 c) := by
  refine ⟨fun pre W W' row hs hg hr => ?_, fun pre W v hs => ?_⟩
  · obtain ⟨⟨a1, a2, a3, t, a4⟩, hb⟩ := hs
    have hr' := fun r e => (hr r e).2
    exact ⟨⟨a1, a2, a3.own hg hr', t, a4.own hg hr'⟩, hb.grown hg hb.size (fun k e => Nat.le_trans h0 (hr k e).1)⟩
  · obtain ⟨⟨a1, a2, a3, t, a4⟩, hb⟩ := hs
    exact ⟨⟨a1, a2, a3.other n1, t, a4.other n0⟩, hb.setCell (p := ⟨b4, 0, none⟩) h _⟩
/-- The way in which nothing is looked for. -/
theorem spl_edge (s : ByteArray) (w : World) (hs : s.size ≤ 1000000) (he : Lib.hasPrefix s.data.toList [32] = true ∨ Lib.hasPrefix s.data.toList [32] = false ∧ Lib.hasSuffix s.data.toList [32] = true) : Calls Tryd.prog 38 #[.string s] w (SplOut s.data.toList w) := by
  have HP := hide (fun w => (Tryd.strings_HasPrefix s ⟨#[32]⟩ w).mono fun _ _ h => (⟨h.1, h.2.symm⟩ : _ ∧ _))
  have HS := hide (fun w => (Tryd.strings_HasSuffix s ⟨#[32]⟩ w (by omega)).mono fun _ _ h => (⟨h.1, h.2.symm⟩ : _ ∧ _))
  have HE : Hid (splitB s.data.toList = false) := hide (by unfold splitB; rcases he with h | ⟨_, h⟩ <;> rw [h] <;> simp)
  rcases he with h | ⟨h, h2⟩
  · rw [show (⟨#[32]⟩ : ByteArray).data.toList = [32] from rfl, h] at HP
    go_enter Tryd.func38, Tryd.ntmps38
    go_wp2_with (go_at_call 63; refine (HP.out _).mono ?_; rintro e w' ⟨rfl, rfl⟩)
    go_returns
    exact ⟨⟨fun _ => ⟨#[]⟩, by rw [HE.out], fun h => by rw [HE.out] at h; cases h⟩, by go_grown⟩
  · rw [show (⟨#[32]⟩ : ByteArray).data.toList = [32] from rfl, h] at HP
    rw [show (⟨#[32]⟩ : ByteArray).data.toList = [32] from rfl, h2] at HS
    go_enter Tryd.func38, Tryd.ntmps38
    go_wp2_with (first | (go_at_call 63; refine (HP.out _).mono ?_; rintro e w' ⟨rfl, rfl⟩) | (go_at_call 64; refine (HS.out _).mono ?_; rintro e w' ⟨rfl, rfl⟩))
    go_returns
    exact ⟨⟨fun _ => ⟨#[]⟩, by rw [HE.out], fun h => by rw [HE.out] at h; cases h⟩, by go_grown⟩
set_option maxRecDepth 100000 in
set_option maxHeartbeats 4000000 in
theorem spl_list (s : ByteArray) (w : World) (hs : s.size ≤ 1000000) (hp : Lib.hasPrefix s.data.toList [32] = false) (hq : Lib.hasSuffix s.data.toList [32] = false) : CallsIn Fence.wide 4 Tryd.prog 38 #[.string s] w (SplOut s.data.toList w) := by
  have HP := hide (fun w => (Tryd.strings_HasPrefix s ⟨#[32]⟩ w).mono fun _ _ h => (⟨h.1, h.2.symm⟩ : _ ∧ _))
  have HS := hide (fun w => (Tryd.strings_HasSuffix s ⟨#[32]⟩ w (by omega)).mono fun _ _ h => (⟨h.1, h.2.symm⟩ : _ ∧ _))
  rw [show (⟨#[32]⟩ : ByteArray).data.toList = [32] from rfl, hp] at HP
  rw [show (⟨#[32]⟩ : ByteArray).data.toList = [32] from rfl, hq] at HS
  have HSB : Hid (splitB s.data.toList = decide ((partsL (pieces 32 s.data.toList)).length = 5)) := hide (by unfold splitB; rw [hp, hq]; rfl)
  clear hp hq
  obtain ⟨W0, hW0⟩ : ∃ W0, W0 = (((((((w.alloc (.cells #[.string ⟨#[]⟩, .string ⟨#[]⟩, .string ⟨#[]⟩, .string ⟨#[]⟩, .string ⟨#[]⟩] 67)).alloc (.cells #[.bool false] 4)).alloc (.cells #[.string ⟨#[]⟩, .string ⟨#[]⟩, .string ⟨#[]⟩, .string ⟨#[]⟩, .string ⟨#[]⟩] 67)).alloc (.cells #[.int .i64 0] 3)).alloc (.cells #[.string s] 9)).alloc (.cells #[.string ⟨#[32]⟩] 9)).alloc (.cells #[.int .i64 0] 3)) := ⟨_, rfl⟩
  have g0 : TX W0 (w.heap.size) (fun _ => ⟨#[]⟩) := by rw [hW0]; exact ((((((TX.new _ rfl).alloc _).alloc _).alloc _).alloc _).alloc _).alloc _
  have g1 : At W0 (w.heap.size + 1) (.bool false) := by rw [hW0]; exact (((((At.new _ _ _ (by simp)).alloc _).alloc _).alloc _).alloc _).alloc _
  have g2 : TX W0 (w.heap.size + 1 + 1) (fun _ => ⟨#[]⟩) := by rw [hW0]; exact ((((TX.new _ (by simp)).alloc _).alloc _).alloc _).alloc _
  have g3 : At W0 (w.heap.size + 1 + 1 + 1) (.int .i64 0) := by rw [hW0]; exact (((At.new _ _ _ (by simp)).alloc _).alloc _).alloc _
  have g4 : At W0 (w.heap.size + 1 + 1 + 1 + 1) (.string s) := by rw [hW0]; exact ((At.new _ _ _ (by simp)).alloc _).alloc _
  have g5 : At W0 (w.heap.size + 1 + 1 + 1 + 1 + 1) (.string ⟨#[32]⟩) := by rw [hW0]; exact (At.new _ _ _ (by simp)).alloc _
  have g6 : At W0 (w.heap.size + 1 + 1 + 1 + 1 + 2) (.int .i64 0) := by rw [hW0]; exact At.new _ _ _ (by simp)
  have hz0 : W0.heap.size = w.heap.size + 7 := by rw [hW0]; simp
  have hBl : Below w.heap.size w W0 := by
    rw [hW0]
    exact (((((((Below.refl w.heap.size w).alloc (Nat.le_refl _) _).alloc (by simp) _).alloc (by simp; omega) _).alloc (by simp; omega) _).alloc (by simp; omega) _).alloc (by simp; omega) _).alloc (by simp; omega) _
  have HI0 : Hid (It (w.heap.size + 1 + 1 + 1 + 1 + 1) (w.heap.size + 1 + 1 + 1 + 1) (w.heap.size + 1 + 1 + 1 + 1 + 2) 32 W0 s) := hide ⟨g4.1, g4.2, g5.1, g6.1⟩
  have HWE := hide hW0
  have G := hide (And.intro g0 (And.intro g1 (And.intro g2 g3)))
  clear hW0 g0 g1 g2 g3 g4 g5 g6
  have HZ := hide hz0
  have HBl := hide hBl
  clear hz0 hBl
  refine callsIn_of_wp_marks Tryd.func38 rfl trivial ?_ rfl
  simp only [Tryd.ntmps38, List.size_toArray, List.length_cons, List.length_nil, Nat.reduceAdd, Nat.reduceSub, Array.replicate_succ, Array.replicate_zero, List.push_toArray, List.append_toArray, List.nil_append, List.cons_append]
  gi_wp2_with (first | (refine ⟨trivial, ?_⟩; gi_at_call 63; refine (callsIn_wide.2 (HP.out _)).mono ?_; rintro e w' ⟨rfl, rfl⟩) | (refine ⟨trivial, ?_⟩; gi_at_call 64; refine (callsIn_wide.2 (HS.out _)).mono ?_; rintro e w' ⟨rfl, rfl⟩) | (refine ⟨trivial, ?_⟩; gi_at_call 65; refine (callsIn_wide.2 (splitSeq_any _ _ _)).mono ?_; rintro e w' ⟨rfl, rfl⟩))
  rw [← HWE.out]
  clear HWE
  obtain ⟨b1, hb1⟩ : ∃ b, b = w.heap.size + 1 := ⟨_, rfl⟩
  obtain ⟨b2, hb2⟩ : ∃ b, b = w.heap.size + 1 + 1 := ⟨_, rfl⟩
  obtain ⟨b3, hb3⟩ : ∃ b, b = w.heap.size + 1 + 1 + 1 := ⟨_, rfl⟩
  obtain ⟨b4, hb4⟩ : ∃ b, b = w.heap.size + 1 + 1 + 1 + 1 := ⟨_, rfl⟩
  obtain ⟨b5, hb5⟩ : ∃ b, b = w.heap.size + 1 + 1 + 1 + 1 + 1 := ⟨_, rfl⟩
  obtain ⟨b6, hb6⟩ : ∃ b, b = w.heap.size + 1 + 1 + 1 + 1 + 2 := ⟨_, rfl⟩
  rw [← hb6, ← hb5, ← hb4] at HI0
  rw [← hb3, ← hb2, ← hb1] at G
  rw [← hb6, ← hb5, ← hb4, ← hb3, ← hb2, ← hb1]
  have HN : Hid (b1 = w.heap.size + 1 ∧ b2 = w.heap.size + 2 ∧ b3 = w.heap.size + 3 ∧ b4 = w.heap.size + 4 ∧ b5 = w.heap.size + 5 ∧ b6 = w.heap.size + 6) := hide ⟨by omega, by omega, by omega, by omega, by omega, by omega⟩
  clear hb1 hb2 hb3 hb4 hb5 hb6
  obtain ⟨n1, n2, n3, n4, n5, n6⟩ := HN.out
  refine range_split 4 (by omega) b5 b4 b6 (by omega) (by omega) 32 s hs rfl rfl HI0.out (SI w b1 b2 b3) (SX w b1)
    (SI.firm (by rw [HZ.out]; omega) (by omega) (by omega) (by omega) (by omega) (by omega)) (fun _ => SX.firm (by rw [HZ.out]; omega) (by omega) (by omega) (by omega))
    ⟨⟨fun _ => ⟨#[]⟩, by simp [partsL, bytesOf], fun j _ => by simp [partsL, bytesOf], G.out.1, G.out.2.1, G.out.2.2.1, G.out.2.2.2⟩, HBl.out⟩
    (fun x => { tmps := #[.string s, undef, .pointer (some ⟨w.heap.size, 0, none⟩), .pointer (some ⟨b1, 0, none⟩), .pointer (some ⟨b2, 0, none⟩), .pointer (some ⟨b3, 0, none⟩), .string x, .string s, .bool false, .bool false, .string s, .bool false, .bool false, undef, .string s, clo b5 b4 b6, .string x, undef, undef, undef, undef, undef, undef, undef, undef, undef, undef, undef, undef, undef], defers := [] }) ?assign ?body ?done ?stop
  case assign =>
    clear n1 n2 n3 n4 n5 n6
    intro l x W K hK
    gi_wp2
    exact hK
  case body =>
    rintro l pre x W t hxs ⟨⟨tt, p1, p2, p3, p4, p5, p6⟩, hBW⟩ _
    have HP' : Hid (bytesOf (pre ++ [x]) = bytesOf pre ++ [x.data.toList]) := hide (by simp [bytesOf])
    have HBW := hide hBW
    have q0 := p3; have q1 := p4; have q2 := p5; have q3 := p6
    have l0 := p3.lt; have l1 := p4.lt; have l2 := p5.lt; have l3 := p6.lt
    have HN' := hide (And.intro n1 (And.intro n2 (And.intro n3 (And.intro n4 (And.intro n5 n6)))))
    clear n1 n2 n3 n4 n5 n6 hBW p3 p5
    obtain ⟨e1, f1⟩ := p4; obtain ⟨e3, f3⟩ := p6
    by_cases hx : x.data.toList = []
    · have hxe : x.toList = [] := by rw [Lib.toList_data]; exact hx
      have HE : Hid (partsL (bytesOf (pre ++ [x])) = partsL (bytesOf pre)) := hide (by rw [HP'.out, parts_app, hx]; simp [partsL])
      have HP1 := hide p1
      have HP2 := hide p2
      clear p1 p2 hx
      gi_wp2_with fail
      exact ⟨KeepsOthers.refl _, ItK.below (Below.refl _ _), ⟨⟨tt, by rw [HE.out]; exact HP1.out, by rw [HE.out]; exact HP2.out, q0, q1, q2, by rw [HE.out]; exact q3⟩, HBW.out⟩⟩
    · have hxe : x.toList.isEmpty = false := by
        rw [Lib.toList_data]
        cases hl : x.data.toList with
        | nil => exact absurd hl hx
        | cons => rfl
      have HE : Hid (partsL (bytesOf (pre ++ [x])) = partsL (bytesOf pre) ++ [x.data.toList]) := hide (by
        rw [HP'.out, parts_app]
        cases hl : x.data.toList with
        | nil => exact absurd hl hx
        | cons => simp [partsL])
      by_cases h5 : (partsL (bytesOf pre)).length = 5
      · have HL : Hid (5 < (partsL (bytesOf (pre ++ [x]))).length) := hide (by rw [HE.out, List.length_append, h5]; simp)
        have t0 := q2 0 (by omega); have t1 := q2 1 (by omega); have t2 := q2 2 (by omega); have t3 := q2 3 (by omega); have t4 := q2 4 (by omega)
        have u0 := q0 0 (by omega); have u1 := q0 1 (by omega); have u2 := q0 2 (by omega); have u3 := q0 3 (by omega); have u4 := q0 4 (by omega)
        obtain ⟨t00, t01⟩ := t0; obtain ⟨t10, t11⟩ := t1; obtain ⟨t20, t21⟩ := t2; obtain ⟨t30, t31⟩ := t3; obtain ⟨t40, t41⟩ := t4
        obtain ⟨u00, u01⟩ := u0; obtain ⟨u10, u11⟩ := u1; obtain ⟨u20, u21⟩ := u2; obtain ⟨u30, u31⟩ := u3; obtain ⟨u40, u41⟩ := u4
        rw [h5] at e3
        have e3' : W.cell? ⟨b3, 0, none⟩ = some (.int .i64 5) := by rw [e3]; rfl
        have hm01 : w.heap.size ≠ b1 := by have := HN'.out; omega
        have hm10 : b1 ≠ w.heap.size := fun e => hm01 e.symm
        clear p1 p2 h5 hx e3
        gi_wp2_with fail
        exact ⟨(((((KeepsOthers.setCell _ _ _).trans (KeepsOthers.setCell _ _ _)).trans (KeepsOthers.setCell _ _ _)).trans (KeepsOthers.setCell _ _ _)).trans (KeepsOthers.setCell _ _ _)).trans (KeepsOthers.setCell _ _ _),
          ⟨rfl, HL.out, (((((q1.off hm10).off hm10).off hm10).off hm10).off hm10).same, _, (((((q0.set (n := 0) (by omega)).set (n := 1) (by omega)).set (n := 2) (by omega)).set (n := 3) (by omega)).set (n := 4) (by omega)).other hm01⟩,
          (((((HBW.out.setCell (p := ⟨w.heap.size, 0, none⟩) (Nat.le_refl _) _).setCell (p := ⟨w.heap.size, 1, none⟩) (Nat.le_refl _) _).setCell (p := ⟨w.heap.size, 2, none⟩) (Nat.le_refl _) _).setCell (p := ⟨w.heap.size, 3, none⟩) (Nat.le_refl _) _).setCell (p := ⟨w.heap.size, 4, none⟩) (Nat.le_refl _) _).setCell (p := ⟨b1, 0, none⟩) (by have := HN'.out; show _ ≤ b1; omega) _⟩
      · have hd5 : (((partsL (bytesOf pre)).length : Int) == 5) = false := by simp; omega
        have hlt : (partsL (bytesOf pre)).length < 5 := by omega
        have HLn : Hid ((partsL (bytesOf (pre ++ [x]))).length = (partsL (bytesOf pre)).length + 1) := hide (by rw [HE.out, List.length_append]; rfl)
        have HT : Hid (∀ j, j < 5 → (if j = (partsL (bytesOf pre)).length then x else tt j).data.toList = (partsL (bytesOf (pre ++ [x]))).getD j []) := hide (fun j hj => by
          rw [HE.out]
          by_cases ej : j = (partsL (bytesOf pre)).length
          · rw [if_pos ej, ej, List.getD_eq_getElem?_getD, List.getElem?_append_right (Nat.le_refl _)]; simp
          · rw [if_neg ej, p2 j hj, List.getD_eq_getElem?_getD, List.getD_eq_getElem?_getD]
            by_cases el : j < (partsL (bytesOf pre)).length
            · rw [List.getElem?_append_left el]
            · rw [List.getElem?_eq_none (by omega), List.getElem?_eq_none (by simp; omega)])
        generalize (partsL (bytesOf pre)).length = n at *
        have tn := q2 n hlt
        obtain ⟨tn0, tn1⟩ := tn
        have hm23 : b2 ≠ b3 := by have := HN'.out; omega
        have hm32 : b3 ≠ b2 := fun e => hm23 e.symm
        have hni : (n : Int) < 5 := by omega
        clear p1 p2 h5 hx HE
        gi_wp2_with fail
        have hn := HN'.out
        exact ⟨(KeepsOthers.setCell _ _ _).trans (KeepsOthers.setCell _ _ _), (ItK.off (by omega) (by omega) (by omega)).trans (ItK.off (by omega) (by omega) (by omega)),
          ⟨⟨fun j => if j = n then x else tt j, by rw [HLn.out]; omega, HT.out, (q0.other (by omega)).other (by omega), (q1.off (by omega)).off (by omega), (q2.set hlt).other hm23, by rw [HLn.out, Int.natCast_add]; exact (q3.off hm32).same⟩,
            (HBW.out.setCell (p := ⟨b2, n, none⟩) (by show _ ≤ b2; omega) _).setCell (p := ⟨b3, 0, none⟩) (by show _ ≤ b3; omega) _⟩⟩
  case done =>
    rintro D ys W hD hys ⟨⟨tt, p1, p2, p3, p4, p5, p6⟩, hBW⟩ hK
    rw [hys] at p1 p2 p6
    have HP1 := hide p1
    have HP2 := hide p2
    have HK := hide hK
    have HBW := hide hBW
    have HDz := hide hD
    have hm01 : w.heap.size ≠ b1 := by omega
    have hm10 : b1 ≠ w.heap.size := by omega
    have HN' := hide (And.intro n1 n2)
    have l0 := p3.lt; have l1 := p4.lt; have l2 := p5.lt; have l3 := p6.lt
    have q0 := p3; have q1 := p4; have q2 := p5; have q3 := p6
    have hm20 : b2 ≠ w.heap.size := by omega
    have hm30 : b3 ≠ w.heap.size := by omega
    have hm21 : b2 ≠ b1 := by omega
    have hm31 : b3 ≠ b1 := by omega
    have t0 := p5 0 (by omega); have t1 := p5 1 (by omega); have t2 := p5 2 (by omega); have t3 := p5 3 (by omega); have t4 := p5 4 (by omega)
    have u0 := p3 0 (by omega); have u1 := p3 1 (by omega); have u2 := p3 2 (by omega); have u3 := p3 3 (by omega); have u4 := p3 4 (by omega)
    obtain ⟨t00, t01⟩ := t0; obtain ⟨t10, t11⟩ := t1; obtain ⟨t20, t21⟩ := t2; obtain ⟨t30, t31⟩ := t3; obtain ⟨t40, t41⟩ := t4
    obtain ⟨u00, u01⟩ := u0; obtain ⟨u10, u11⟩ := u1; obtain ⟨u20, u21⟩ := u2; obtain ⟨u30, u31⟩ := u3; obtain ⟨u40, u41⟩ := u4
    obtain ⟨e1, f1⟩ := p4; obtain ⟨e3, f3⟩ := p6
    generalize (partsL (pieces 32 s.data.toList)).length = m at *
    clear n1 n2 n3 n4 n5 n6 hBW p1 p2 p3 p5 hK hys hD
    gi_wp2_with fail
    refine region_wide (S := fun w' => TX w' b2 tt ∧ At w' b3 (.int .i64 (m : Nat))) (by kernel_rfl) (by kernel_rfl) (⟨q2.on (Below.refl _ _).drew, q3.on (Below.refl _ _).drew⟩) (fun hS => ?_)
    refine wpAnyH_take (i := 0) (oi := ⟨some 27, _, _, _, _, _⟩) (v := ?_) rfl (by kernel_rfl) (by kernel_rfl) (by kernel_rfl) (fun _ _ _ h => h) (Or.inl ⟨by rfl, ?_⟩) hS ?_
    rotate_left 1
    · intro w' hw'
      have k0 := (hw'.1 0 (by omega)).1; have k1 := (hw'.1 1 (by omega)).1; have k2 := (hw'.1 2 (by omega)).1; have k3 := (hw'.1 3 (by omega)).1; have k4 := (hw'.1 4 (by omega)).1; have k5 := hw'.2.1
      go_simp
      all_goals with_reducible rfl
    try simp only [Act.put, List.setIfInBounds_toArray, List.set_cons_zero, List.set_cons_succ]
    refine wpAnyH_take (i := 1) (oi := ⟨some 28, _, _, _, _, _⟩) (v := ?_) rfl (by kernel_rfl) (by kernel_rfl) (by kernel_rfl) (fun _ _ _ h => h) (Or.inl ⟨by rfl, ?_⟩) hS ?_
    rotate_left 1
    · intro w' hw'
      have k0 := (hw'.1 0 (by omega)).1; have k1 := (hw'.1 1 (by omega)).1; have k2 := (hw'.1 2 (by omega)).1; have k3 := (hw'.1 3 (by omega)).1; have k4 := (hw'.1 4 (by omega)).1; have k5 := hw'.2.1
      go_simp
      all_goals with_reducible rfl
    try simp only [Act.put, List.setIfInBounds_toArray, List.set_cons_zero, List.set_cons_succ]
    refine wpAnyH_take (i := 2) (oi := ⟨some 29, _, _, _, _, _⟩) (v := ?_) rfl (by kernel_rfl) (by kernel_rfl) (by kernel_rfl) (fun _ _ _ h => h) (Or.inl ⟨by rfl, ?_⟩) hS ?_
    rotate_left 1
    · intro w' hw'
      have k0 := (hw'.1 0 (by omega)).1; have k1 := (hw'.1 1 (by omega)).1; have k2 := (hw'.1 2 (by omega)).1; have k3 := (hw'.1 3 (by omega)).1; have k4 := (hw'.1 4 (by omega)).1; have k5 := hw'.2.1
      go_simp
      all_goals with_reducible rfl
    try simp only [Act.put, List.setIfInBounds_toArray, List.set_cons_zero, List.set_cons_succ]
    refine wpAnyH_ready (rs := [3]) (by kernel_rfl) (by simp) ?_
    refine AllReadyH.cons (o := ⟨none, _, _, _, _, _⟩) rfl (fun K hK => ?_) AllReadyH.nil
    go_simp
    skip
    refine hK.out _ _ (⟨(((((q2.other hm20).other hm20).other hm20).other hm20).other hm20).on (Below.refl _ _).drew, (((((q3.off hm30).off hm30).off hm30).off hm30).off hm30).on (Below.refl _ _).drew⟩) (fun hS => ?_)
    clear hK K
    try simp only [Act.put, List.setIfInBounds_toArray, List.set_cons_zero, List.set_cons_succ]
    refine wpAnyH_ready (rs := [4]) (by kernel_rfl) (by simp) ?_
    refine AllReadyH.cons (o := ⟨none, _, _, _, _, _⟩) rfl (fun K hK => ?_) AllReadyH.nil
    go_simp
    skip
    refine hK.out _ _ (⟨((((((q2.other hm20).other hm20).other hm20).other hm20).other hm20).other hm21).on (Below.refl _ _).drew, ((((((q3.off hm30).off hm30).off hm30).off hm30).off hm30).off hm31).on (Below.refl _ _).drew⟩) (fun hS => ?_)
    clear hK K
    try simp only [Act.put, List.setIfInBounds_toArray, List.set_cons_zero, List.set_cons_succ]
    refine wpAnyH_done (by kernel_rfl) ?_ _
    simp only [only]
    gi_wp2_with fail
    have HK6 := ((((((KeepsOthers.setCell W ⟨w.heap.size, 0, none⟩ (.string (tt 0))).trans (KeepsOthers.setCell _ ⟨w.heap.size, 1, none⟩ (.string (tt 1)))).trans (KeepsOthers.setCell _ ⟨w.heap.size, 2, none⟩ (.string (tt 2)))).trans (KeepsOthers.setCell _ ⟨w.heap.size, 3, none⟩ (.string (tt 3)))).trans (KeepsOthers.setCell _ ⟨w.heap.size, 4, none⟩ (.string (tt 4)))).trans (KeepsOthers.setCell _ ⟨b1, 0, none⟩ (.bool ((m : Int) == 5)))).trans (KeepsOthers.drew _)
    have HB6 := ((((((HBW.out.setCell (p := ⟨w.heap.size, 0, none⟩) (Nat.le_refl _) (.string (tt 0))).setCell (p := ⟨w.heap.size, 1, none⟩) (Nat.le_refl _) (.string (tt 1))).setCell (p := ⟨w.heap.size, 2, none⟩) (Nat.le_refl _) (.string (tt 2))).setCell (p := ⟨w.heap.size, 3, none⟩) (Nat.le_refl _) (.string (tt 3))).setCell (p := ⟨w.heap.size, 4, none⟩) (Nat.le_refl _) (.string (tt 4))).setCell (p := ⟨b1, 0, none⟩) (by have := HN'.out; show _ ≤ b1; omega) (.bool ((m : Int) == 5))).drew
    have A6 : At _ b1 (.bool ((m : Int) == 5)) := ((((((q1.off (u := .string (tt 0)) (o := 0) hm10).off (u := .string (tt 1)) (o := 1) hm10).off (u := .string (tt 2)) (o := 2) hm10).off (u := .string (tt 3)) (o := 3) hm10).off (u := .string (tt 4)) (o := 4) hm10).same (u := .bool ((m : Int) == 5))).on (Below.refl _ _).drew
    have X6 : TX _ w.heap.size (fun j => if j = 4 then tt 4 else if j = 3 then tt 3 else if j = 2 then tt 2 else if j = 1 then tt 1 else if j = 0 then tt 0 else ⟨#[]⟩) := ((((((q0.set (x := tt 0) (n := 0) (by omega)).set (x := tt 1) (n := 1) (by omega)).set (x := tt 2) (n := 2) (by omega)).set (x := tt 3) (n := 3) (by omega)).set (x := tt 4) (n := 4) (by omega)).other (b' := b1) (o := 0) (u := .bool ((m : Int) == 5)) hm01).on (Below.refl _ _).drew
    obtain ⟨W6, hW6⟩ : ∃ W6, W6 = ((((((W.setCell ⟨w.heap.size, 0, none⟩ (.string (tt 0))).setCell ⟨w.heap.size, 1, none⟩ (.string (tt 1))).setCell ⟨w.heap.size, 2, none⟩ (.string (tt 2))).setCell ⟨w.heap.size, 3, none⟩ (.string (tt 3))).setCell ⟨w.heap.size, 4, none⟩ (.string (tt 4))).setCell ⟨b1, 0, none⟩ (.bool ((m : Int) == 5))).drew := ⟨_, rfl⟩
    rw [← hW6] at HK6 HB6 A6 X6
    rw [← hW6]
    have hk6 := HK6.same D _ HK.out rfl
    refine ⟨by simp, .inl ⟨_, _, rfl, run_takeDeferred hk6, ?_⟩⟩
    have a1 := (A6.own (grownBy_putObj' _ D (.deferred none)) (fun r e => by cases e; exact ⟨_, hk6, rfl⟩)).1
    have a2 := X6.own (grownBy_putObj' _ D (.deferred none)) (fun r e => by cases e; exact ⟨_, hk6, rfl⟩)
    have a20 : (W6.putObj D (.deferred none)).cell? ⟨w.heap.size, 0, none⟩ = some (.string (tt 0)) := (a2 0 (by omega)).1
    have a21 : (W6.putObj D (.deferred none)).cell? ⟨w.heap.size, 1, none⟩ = some (.string (tt 1)) := (a2 1 (by omega)).1
    have a22 : (W6.putObj D (.deferred none)).cell? ⟨w.heap.size, 2, none⟩ = some (.string (tt 2)) := (a2 2 (by omega)).1
    have a23 : (W6.putObj D (.deferred none)).cell? ⟨w.heap.size, 3, none⟩ = some (.string (tt 3)) := (a2 3 (by omega)).1
    have a24 : (W6.putObj D (.deferred none)).cell? ⟨w.heap.size, 4, none⟩ = some (.string (tt 4)) := (a2 4 (by omega)).1
    have hbq : ((m : Int) == 5) = decide (m = 5) := by rw [Bool.eq_iff_iff]; simp; omega
    refine ⟨.tuple #[v5 tt, .bool ((m : Int) == 5)], by simp [results, Tryd.f38, go_sem, a1, a20, a21, a22, a23, a24], ⟨tt, by rw [HSB.out, hbq], fun _ => HP2.out⟩, ?_⟩
    have hz := HZ.out
    have hd := HDz.out
    exact HB6.grown (grownBy_putObj' _ D (.deferred none)) HB6.size (fun k e => by cases e; omega)
  case stop =>
    rintro D c pre W hD hpre ⟨⟨rfl, p1, p2, tt, p3⟩, hBW⟩ hK
    obtain ⟨rest, hrest⟩ := hpre
    have HE : Hid (splitB s.data.toList = false) := hide (by
      rw [HSB.out, ← hrest, parts_app, List.length_append]
      simp
      omega)
    have HK := hide hK
    have HBW := hide hBW
    have HDz := hide hD
    clear n1 n2 n3 n4 n5 n6 hBW p1 hK hrest hD
    gi_wp2_with fail
    refine ⟨by simp, .inl ⟨_, _, rfl, run_takeDeferred HK.out, ?_⟩⟩
    have a1 := p2.own (grownBy_putObj' _ D (.deferred none)) (fun r e => by cases e; exact ⟨_, HK.out, rfl⟩)
    have a2 := p3.own (grownBy_putObj' _ D (.deferred none)) (fun r e => by cases e; exact ⟨_, HK.out, rfl⟩)
    have a20 := (a2 0 (by omega)).1; have a21 := (a2 1 (by omega)).1; have a22 := (a2 2 (by omega)).1; have a23 := (a2 3 (by omega)).1; have a24 := (a2 4 (by omega)).1
    refine ⟨.tuple #[v5 tt, .bool false], by simp [results, Tryd.f38, go_sem, a1.1, a20, a21, a22, a23, a24], ⟨tt, by rw [HE.out], fun h => by rw [HE.out] at h; cases h⟩, ?_⟩
    have hz := HZ.out
    have hd := HDz.out
    exact HBW.out.grown (grownBy_putObj' _ D (.deferred none)) HBW.out.size (fun k e => by cases e; omega)
theorem spl_any (s : ByteArray) (w : World) (hs : s.size ≤ 1000000) : Calls Tryd.prog 38 #[.string s] w (SplOut s.data.toList w) := by
  cases hp : Lib.hasPrefix s.data.toList [32]
  · cases hq : Lib.hasSuffix s.data.toList [32]
    · exact callsIn_wide.1 (spl_list s w hs hp hq)
    · exact spl_edge s w hs (.inr ⟨hp, hq⟩)
  · exact spl_edge s w hs (.inl hp)
end Go.Proofs.YtggaflihblhapaaDoor
