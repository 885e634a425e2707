/-
  read: the only value that a text could be of. Parse: that value, if its text is this one.
-/
import Derived.Test.YteaaloejjafhlaaDoorUnq
import Derived.Test.YteaaloejjafhlaaDoorShow
import Derived.Lib.AtoiAll
import Derived.Lib.ConvBytes
import Derived.Lib.IndexBytes
namespace Go.Proofs.YteaaloejjafhlaaDoor
open Go.RowKit Go.Sort

/-- The two errors that strconv.Atoi tells lie in their variables. -/
def Errs (w : World) : Prop := (∃ (t : TypeId) (p : Value), w.var? Tryd.prog "strconv.ErrSyntax" = some #[.iface t p]) ∧ ∃ (t : TypeId) (p : Value), w.var? Tryd.prog "strconv.ErrRange" = some #[.iface t p]
theorem g_syn : Tryd.prog.globalNamed "strconv.ErrSyntax" = some 2 := by kernel_rfl
theorem g_ran : Tryd.prog.globalNamed "strconv.ErrRange" = some 3 := by kernel_rfl
theorem Errs.stays {w w' : World} {B : Nat} (h : Errs w) (hb : Below B w w') (hB : w.heap.size ≤ B) : Errs w' := by
  obtain ⟨⟨t, p, h1⟩, u, q, h2⟩ := h
  exact ⟨⟨t, p, Joins.var_stays g_syn h1 hb hB⟩, u, q, Joins.var_stays g_ran h2 hb hB⟩

theorem below_bytes (w : World) (e : TypeId) (t : ByteArray) : Below w.heap.size w (Lib.bytesWorld w e t) :=
  ⟨by simp [Lib.bytesWorld, World.freeze, World.alloc, World.drew, -World.alloc_eq, -World.drew_eq], by simp [Lib.bytesWorld, World.freeze, World.alloc, World.drew, -World.alloc_eq, -World.drew_eq],
    by simp [Lib.bytesWorld, World.freeze, World.alloc, World.drew, -World.alloc_eq, -World.drew_eq], by simp [Lib.bytesWorld, World.freeze, World.alloc, World.drew, -World.alloc_eq, -World.drew_eq], fun k hk => Lib.bytesWorld_at_old w e t k hk⟩

theorem atoi_ok (s : ByteArray) (v : Int) (w : World) (hs : s.size ≤ 140737488355328) (h : Lib.atoiAll s.data.toList = .ok v) :
    Calls Tryd.prog 42 #[.string s] w fun e w' => e = .returned (.tuple #[.int .i64 v, .nilIface]) ∧ Below w.heap.size w w' := by
  refine (Tryd.strconv_Atoi_ok s (by omega) v h w).mono ?_
  rintro e w' ⟨rfl, hw⟩
  refine ⟨rfl, ?_⟩
  rcases hw with rfl | ⟨t, rfl⟩
  · exact Below.refl _ _
  · exact below_bytes w _ t

/-- A number and an error that is not nil. -/
def NoNum (w : World) (e : Ending) (w' : World) : Prop := ∃ (m : Int) (t : TypeId) (a : Addr), e = .returned (.tuple #[.int .i64 m, .iface t (.pointer (some a))]) ∧ Below w.heap.size w w'
theorem atoi_no (s : ByteArray) (w : World) (hs : s.size ≤ 140737488355328) (hE : Errs w) (h : ∀ v, Lib.atoiAll s.data.toList ≠ .ok v) :
    Calls Tryd.prog 42 #[.string s] w (NoNum w) := by
  obtain ⟨⟨t, p, h1⟩, u, q, h2⟩ := hE
  cases hx : Lib.atoiAll s.data.toList
  · exact absurd hx (h _)
  · refine (Tryd.strconv_Atoi_syntax_var s (by omega) hx t p w h1).mono ?_
    rintro e w' ⟨N, rfl, _, _, hb⟩
    exact ⟨_, _, _, rfl, hb⟩
  · refine (Tryd.strconv_Atoi_range_var s (by omega) hx u q w h2).mono ?_
    rintro e w' ⟨N, rfl, _, _, hb⟩
    exact ⟨_, _, _, rfl, hb⟩

/-- A box of three cells that was there ahead of a draw and a call is there behind them, and may be written. -/
theorem boxKeep {w0 w1 w2 : World} {b : Nat} {x y z : Value} (hb : Below w1.drew.heap.size w1.drew w2) (hz : b < w1.heap.size) (g0 : w1.frozen? ⟨b, 0, none⟩ = false) (g1 : w1.frozen? ⟨b, 1, none⟩ = false) (g2 : w1.frozen? ⟨b, 2, none⟩ = false)
    (y0 : w1.cell? ⟨b, 0, none⟩ = some x) (y1 : w1.cell? ⟨b, 1, none⟩ = some y) (y2 : w1.cell? ⟨b, 2, none⟩ = some z) (q : Below w0.heap.size w0 w1) :
    w2.frozen? ⟨b, 0, none⟩ = false ∧ w2.frozen? ⟨b, 1, none⟩ = false ∧ w2.frozen? ⟨b, 2, none⟩ = false ∧ w2.cell? ⟨b, 0, none⟩ = some x ∧ w2.cell? ⟨b, 1, none⟩ = some y ∧ w2.cell? ⟨b, 2, none⟩ = some z ∧ Below w0.heap.size w0 w2 := by
  have hz' : b < w1.drew.heap.size := hz
  refine ⟨(hb.frozen (p := ⟨b, 0, none⟩) hz').trans g0, (hb.frozen (p := ⟨b, 1, none⟩) hz').trans g1, (hb.frozen (p := ⟨b, 2, none⟩) hz').trans g2,
    (hb.cell (p := ⟨b, 0, none⟩) hz').trans y0, (hb.cell (p := ⟨b, 1, none⟩) hz').trans y1, (hb.cell (p := ⟨b, 2, none⟩) hz').trans y2, ?_⟩
  exact q.drew.trans (hb.mono q.size)

/-- What stands between the first byte and the last. -/
abbrev inner (s : ByteArray) : ByteArray := s.extract 1 (s.size - 1)

set_option maxHeartbeats 1000000 in
theorem read_null (w : World) : Calls Tryd.prog 55 #[.string ⟨#[110, 117, 108, 108]⟩] w fun e w' => e = .returned (.tuple #[vNull, .bool true]) ∧ Below w.heap.size w w' := by
  go_enter Tryd.func55, Tryd.ntmps55
  go_wp2_with fail
  refine (null_any _).mono ?_
  rintro e w2 ⟨rfl, hb⟩
  obtain ⟨hc, hf⟩ := bcell hb
  have hb0 : Below w.heap.size w w2 := (Joins.below_alloc1 w _).trans (hb.mono (by simp))
  clear hb
  go_wp2_with fail
  refine bodyPost_ret (v := .tuple #[vNull, .bool true]) (by simp [results, Tryd.results55, go_sem, hc]) rfl ⟨rfl, ?_⟩
  go_grown

set_option maxHeartbeats 1000000 in
theorem read_text (s : ByteArray) (w : World) (hs : s.size ≤ 140737488355328) (h2 : 2 ≤ s.size) (hq : ((s[0].toNat : Int) == 34) = true) (hn : (s.toList == [110, 117, 108, 108]) = false) :
    Calls Tryd.prog 55 #[.string s] w fun e w' => e = .returned (.tuple #[vVal 2 0 ⟨(unesc (inner s).data.toList).toArray⟩, .bool true]) ∧ Below w.heap.size w w' := by
  have hz : (inner s).size ≤ 140737488355328 := by
    have : (inner s).size ≤ s.size := by unfold inner; simp; omega
    omega
  have HU := Lib.hid (fun w => unquote_any (inner s) w hz)
  clear hz
  go_enter Tryd.func55, Tryd.ntmps55
  go_wp2_with fail
  refine (HU.out _).mono ?_
  rintro e w1 ⟨rfl, hb1⟩
  obtain ⟨hc1, hf1⟩ := bcell hb1
  have q1 : Below w.heap.size w w1 := (Joins.below_alloc1 w _).trans (hb1.mono (by simp))
  have z1 : w.heap.size < w1.heap.size := by have := hb1.size; simp at this; omega
  clear hb1
  go_wp2_with fail
  refine (text_any _ _).mono ?_
  rintro e w2 ⟨rfl, hb⟩
  obtain ⟨hc, hf⟩ := bcell hb
  have hb0 : Below w.heap.size w w2 := q1.trans (hb.mono q1.size)
  clear hb
  go_wp2_with fail
  refine bodyPost_ret (v := .tuple #[vVal 2 0 _, .bool true]) (by simp [results, Tryd.results55, go_sem, hc, hc1, z1]) rfl ⟨rfl, ?_⟩
  go_grown

set_option maxHeartbeats 2000000 in
theorem read_num (s : ByteArray) (v : Int) (w : World) (hs : s.size ≤ 140737488355328) (hn : (s.toList == [110, 117, 108, 108]) = false) (hq : (¬ (2 : Int) ≤ (s.size : Int)) ∨ ∃ h : 2 ≤ s.size, ((s[0].toNat : Int) == 34) = false)
    (hv : Lib.atoiAll s.data.toList = .ok v) :
    Calls Tryd.prog 55 #[.string s] w fun e w' => e = .returned (.tuple #[vInt v, .bool true]) ∧ Below w.heap.size w w' := by
  have HA := Lib.hid (fun w => atoi_ok s v w hs hv)
  clear hv
  rcases hq with hq | ⟨h2, hq⟩
  all_goals
    go_enter Tryd.func55, Tryd.ntmps55
    go_wp2_with fail
    refine (HA.out _).mono ?_
    rintro e w1 ⟨rfl, hb1⟩
    obtain ⟨hc1, hf1⟩ := bcell hb1
    have q1 : Below w.heap.size w w1 := (Joins.below_alloc1 w _).trans (hb1.mono (by simp))
    have z1 : w.heap.size < w1.heap.size := by have := hb1.size; simp at this; omega
    clear hb1
    go_wp2_with fail
    have g0 : w1.frozen? ⟨w.heap.size, 0, none⟩ = false := (hf1 _ _ (by simp)).trans (by simp)
    have g1 : w1.frozen? ⟨w.heap.size, 1, none⟩ = false := (hf1 _ _ (by simp)).trans (by simp)
    have g2 : w1.frozen? ⟨w.heap.size, 2, none⟩ = false := (hf1 _ _ (by simp)).trans (by simp)
    have y0 : w1.cell? ⟨w.heap.size, 0, none⟩ = some (.int .i64 0) := (hc1 _ _ (by simp)).trans (by simp)
    have y1 : w1.cell? ⟨w.heap.size, 1, none⟩ = some (.int .i64 0) := (hc1 _ _ (by simp)).trans (by simp)
    have y2 : w1.cell? ⟨w.heap.size, 2, none⟩ = some (.string ⟨#[]⟩) := (hc1 _ _ (by simp)).trans (by simp)
    clear hc1 hf1
    go_region_with (first | (go_at_call 70; refine (of_any _ _).mono ?_; rintro e w2 ⟨rfl, hb⟩; obtain ⟨G0, G1, G2, Y0, Y1, Y2, Q⟩ := boxKeep hb z1 g0 g1 g2 y0 y1 y2 q1))
    all_goals
      go_wp2_with fail
      refine bodyPost_ret (v := .tuple #[vInt v, .bool true]) (by simp [results, Tryd.results55, go_sem, *]) rfl ⟨rfl, ?_⟩
      go_grown
/-- A number, and that it is none. -/
def NoValue (w : World) (e : Ending) (w' : World) : Prop := ∃ m : Int, e = .returned (.tuple #[vInt m, .bool false]) ∧ Below w.heap.size w w'

set_option maxHeartbeats 2000000 in
theorem read_no (s : ByteArray) (w : World) (hE : Errs w) (hs : s.size ≤ 140737488355328) (hn : (s.toList == [110, 117, 108, 108]) = false) (hq : (¬ (2 : Int) ≤ (s.size : Int)) ∨ ∃ h : 2 ≤ s.size, ((s[0].toNat : Int) == 34) = false)
    (hv : ∀ v, Lib.atoiAll s.data.toList ≠ .ok v) :
    Calls Tryd.prog 55 #[.string s] w (NoValue w) := by
  have HA := Lib.hid (fun w hE => atoi_no s w hs hE hv)
  have HE := Lib.hid hE
  clear hv hE
  rcases hq with hq | ⟨h2, hq⟩
  all_goals
    go_enter Tryd.func55, Tryd.ntmps55
    go_wp2_with fail
    refine (HA.out _ (HE.out.stays (Joins.below_alloc1 w _) (Nat.le_refl _))).mono ?_
    rintro e w1 ⟨v, te, ae, rfl, hb1⟩
    obtain ⟨hc1, hf1⟩ := bcell hb1
    have q1 : Below w.heap.size w w1 := (Joins.below_alloc1 w _).trans (hb1.mono (by simp))
    have z1 : w.heap.size < w1.heap.size := by have := hb1.size; simp at this; omega
    clear hb1
    go_wp2_with fail
    have g0 : w1.frozen? ⟨w.heap.size, 0, none⟩ = false := (hf1 _ _ (by simp)).trans (by simp)
    have g1 : w1.frozen? ⟨w.heap.size, 1, none⟩ = false := (hf1 _ _ (by simp)).trans (by simp)
    have g2 : w1.frozen? ⟨w.heap.size, 2, none⟩ = false := (hf1 _ _ (by simp)).trans (by simp)
    have y0 : w1.cell? ⟨w.heap.size, 0, none⟩ = some (.int .i64 0) := (hc1 _ _ (by simp)).trans (by simp)
    have y1 : w1.cell? ⟨w.heap.size, 1, none⟩ = some (.int .i64 0) := (hc1 _ _ (by simp)).trans (by simp)
    have y2 : w1.cell? ⟨w.heap.size, 2, none⟩ = some (.string ⟨#[]⟩) := (hc1 _ _ (by simp)).trans (by simp)
    clear hc1 hf1
    go_region_with (first | (go_at_call 70; refine (of_any _ _).mono ?_; rintro e w2 ⟨rfl, hb⟩; obtain ⟨G0, G1, G2, Y0, Y1, Y2, Q⟩ := boxKeep hb z1 g0 g1 g2 y0 y1 y2 q1))
    all_goals
      go_wp2_with fail
      refine bodyPost_ret (v := .tuple #[vInt v, .bool false]) (by simp [results, Tryd.results55, go_sem, *]) rfl ⟨v, rfl, ?_⟩
      go_grown

set_option maxHeartbeats 1000000 in
theorem parse_none (s : ByteArray) (w : World) (hR : ∀ w', Below w.heap.size w w' → Calls Tryd.prog 55 #[.string s] w' (NoValue w')) :
    Calls Tryd.prog 44 #[.string s] w fun e w' => e = .returned (.tuple #[vNull, .int .i64 20]) ∧ Below w.heap.size w w' := by
  have HR := Lib.hid hR; clear hR
  go_enter Tryd.func44, Tryd.ntmps44
  go_wp2_with fail
  refine (HR.out _ (Joins.below_alloc1 w _)).mono ?_
  rintro e w1 ⟨m, rfl, hb1⟩
  obtain ⟨hc1, hf1⟩ := bcell hb1
  have q1 : Below w.heap.size w w1 := (Joins.below_alloc1 w _).trans (hb1.mono (by simp))
  have z1 : w.heap.size < w1.heap.size := by have := hb1.size; simp at this; omega
  clear hb1
  go_wp2_with fail
  refine bodyPost_ret (v := .tuple #[vNull, .int .i64 20]) (by simp [results, Tryd.results44, go_sem, hc1, z1]) rfl ⟨rfl, ?_⟩
  go_grown

set_option maxHeartbeats 1000000 in
theorem parse_some (s b t : ByteArray) (k n : Int) (β : Bool) (w : World) (hR : ∀ w, Calls Tryd.prog 55 #[.string s] w fun e w' => e = .returned (.tuple #[vVal k n t, .bool true]) ∧ Below w.heap.size w w')
    (hS : ∀ w', Below w.heap.size w w' → Calls Tryd.prog 22 #[vVal k n t] w' fun e w'' => e = .returned (.string b) ∧ Below w'.heap.size w' w'') (hβ : (b.toList == s.toList) = β) :
    Calls Tryd.prog 44 #[.string s] w fun e w' => e = .returned (if β then .tuple #[vVal k n t, .int .i64 0] else .tuple #[vNull, .int .i64 20]) ∧ Below w.heap.size w w' := by
  have HR := Lib.hid hR; have HS := Lib.hid hS; clear hR hS
  cases β
  all_goals
    go_enter Tryd.func44, Tryd.ntmps44
    go_wp2_with fail
    refine (HR.out _).mono ?_
    rintro e w1 ⟨rfl, hb1⟩
    obtain ⟨hc1, hf1⟩ := bcell hb1
    have q1 : Below w.heap.size w w1 := (Joins.below_alloc1 w _).trans (hb1.mono (by simp))
    have z1 : w.heap.size < w1.heap.size := by have := hb1.size; simp at this; omega
    go_wp2_with fail
    refine (HS.out _ (q1.alloc q1.size _)).mono ?_
    rintro e w2 ⟨rfl, hb2⟩
    obtain ⟨hc2, hf2⟩ := bcell hb2
    have q2 : Below w.heap.size w w2 := (q1.alloc q1.size _).trans (hb2.mono (q1.alloc q1.size _).size)
    have z2 : w1.heap.size < w2.heap.size := by have := hb2.size; simp at this; omega
    have z3 : w.heap.size < w2.heap.size := by omega
    have r := (hb1.alloc hb1.size _).trans (hb2.mono (hb1.alloc hb1.size _).size)
    have y0 := (r.cell (p := ⟨w.heap.size, 0, none⟩) (by simp)).trans (World.cell?_alloc_mark w _ _ (0, 0) 0)
    have y1 := (r.cell (p := ⟨w.heap.size, 1, none⟩) (by simp)).trans (World.cell?_alloc_mark w _ _ (0, 0) 1)
    have y2 := (r.cell (p := ⟨w.heap.size, 2, none⟩) (by simp)).trans (World.cell?_alloc_mark w _ _ (0, 0) 2)
    simp at y0 y1 y2
    clear hb1 hb2 r
    go_wp2_with fail
  · refine bodyPost_ret (v := .tuple #[vNull, .int .i64 20]) (by simp [results, Tryd.results44, go_sem, y0, y1, y2]) rfl ⟨rfl, ?_⟩
    go_grown
  · refine bodyPost_ret (v := .tuple #[vVal k n t, .int .i64 0]) (by simp [results, Tryd.results44, go_sem, y0, y1, y2]) rfl ⟨rfl, ?_⟩
    go_grown
end Go.Proofs.YteaaloejjafhlaaDoor
