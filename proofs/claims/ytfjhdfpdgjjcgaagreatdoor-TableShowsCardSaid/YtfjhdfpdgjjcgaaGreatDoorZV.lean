/-
  Values read from their texts, and the document's texts of values.
-/
import Derived.Test.YtfjhdfpdgjjcgaaGreatDoorVQuote
import Derived.Test.YtfjhdfpdgjjcgaaGreatDoorVShow
import Derived.Lib.AtoiAll
import Derived.Lib.ConvBytes
import Derived.Lib.IndexBytes
import Derived.Test.YtfjhdfpdgjjcgaaGreatDoorSRef
import Derived.Lib.ItoaNum
import Derived.Lib.ItoaLen
import Derived.Laws.IdiomStrings

/-
  unquote: each backslash with a byte behind it is left out; what quote makes is undone.
-/
namespace Go.Proofs.YtfjhdfpdgjjcgaaGreatDoor
open Go.RowKit

def unesc : List UInt8 → List UInt8
  | [] => []
  | [c] => [c]
  | c :: d :: r => if c = 92 then d :: unesc r else c :: unesc (d :: r)

theorem esc_cons (c : UInt8) (l : List UInt8) : esc (c :: l) = escByte c ++ esc l := by unfold esc; rw [List.flatMap_cons]
theorem unesc_esc : ∀ l : List UInt8, unesc (esc l) = l
  | [] => rfl
  | c :: l => by
    have ih := unesc_esc l
    rw [esc_cons]
    by_cases h : c = 34 ∨ c = 92
    · have e : escByte c = [92, c] := by unfold escByte; rw [if_pos h]
      rw [e]
      show unesc (92 :: c :: esc l) = c :: l
      rw [unesc, if_pos rfl, ih]
    · have e : escByte c = [c] := by unfold escByte; rw [if_neg h]
      rw [e]
      show unesc (c :: esc l) = c :: l
      generalize esc l = x at ih ⊢
      match x, ih with
      | [], ih => rw [← ih]; rfl
      | d :: r, ih => rw [unesc, if_neg (fun e => h (Or.inr e)), ih]

/-- What has been read up to place k, and what is still to come. -/
theorem unesc_len : ∀ l : List UInt8, (unesc l).length ≤ l.length
  | [] => Nat.le_refl _
  | [_] => Nat.le_refl _
  | c :: d :: r => by
    unfold unesc
    split
    · have := unesc_len r; simp only [List.length_cons]; omega
    · have := unesc_len (d :: r); simp only [List.length_cons] at this ⊢; omega

theorem drop_at {s : ByteArray} {k : Nat} (h : k < s.size) : s.data.toList.drop k = s[k] :: s.data.toList.drop (k + 1) := by
  rw [List.drop_eq_getElem_cons (by simpa using h)]; rfl
theorem unesc_skip {s : ByteArray} {k : Nat} (h : k < s.size) (h2 : k + 1 < s.size) (hc : s[k] = 92) : unesc (s.data.toList.drop k) = s[k + 1] :: unesc (s.data.toList.drop (k + 2)) := by
  rw [drop_at h, drop_at h2, unesc, if_pos hc]
theorem unesc_take {s : ByteArray} {k : Nat} (h : k < s.size) (hc : s[k] ≠ 92 ∨ ¬ k + 1 < s.size) : unesc (s.data.toList.drop k) = s[k] :: unesc (s.data.toList.drop (k + 1)) := by
  rw [drop_at h]
  by_cases h2 : k + 1 < s.size
  · rw [drop_at h2, unesc, if_neg (by rcases hc with hc | hc; exact hc; exact absurd h2 hc)]
  · rw [List.drop_eq_nil_of_le (by simp; omega)]; rfl

set_option maxHeartbeats 1000000 in
set_option maxRecDepth 100000 in
theorem unquote_any (s : ByteArray) (w : World) (hs : s.size ≤ 140737488355328) :
    Calls Tryz.prog 128 #[.string s] w fun e w' => e = .returned (.string ⟨(unesc s.data.toList).toArray⟩) ∧ Below w.heap.size w w' := by
  have hf := holds_fresh w
  have hb0 : Below w.heap.size w (w.alloc (.cells #[.pointer none, .slice none 0 0] 73)) := Joins.below_alloc1 w _
  go_enter Tryz.func128, Tryz.ntmps128
  go_wp2_with fail
  go_loopw [4] (fun i wr => ∃ (k : Nat) (l : List UInt8), k ≤ s.size ∧ i = .int .i64 k ∧ Hid (l ++ unesc (s.data.toList.drop k) = unesc s.data.toList) ∧ l.length ≤ k ∧ Holds w.heap.size w.heap.size l wr ∧ Below w.heap.size w wr ∧ w.heap.size + 1 ≤ wr.heap.size) (fun i _ => s.size - (intOf i).toNat)
  case atStart => exact ⟨0, [], Nat.zero_le _, rfl, hide rfl, Nat.le_refl _, hf, hb0, by simp⟩
  case round =>
    obtain ⟨k, l, hk, rfl, HL, hl, hh, hb, hz⟩ := hrel
    clear hf hb0
    by_cases hlt : k < s.size
    · by_cases hq : s[k] = 92 ∧ k + 1 < s.size
      · obtain ⟨hq, hq2⟩ := hq
        have hq1 : ((s[k].toNat : Int) == 92) = true := by rw [hq]; rfl
        have HU := hide (unesc_skip hlt hq2 hq)
        clear hq
        go_wp2_with fail
        refine (writeByteV_any _ _ _ s[k + 1] _ hh (by omega) (by omega)).mono ?_
        rintro e w3 ⟨rfl, h3, hb3⟩
        have hz3 : wr.heap.size ≤ w3.heap.size := hb3.size
        have hb4 : Below w.heap.size w w3 := hb.trans hb3
        clear hb3 hb hh
        go_wp2_with fail
        go_roundw
        case rel => exact ⟨k + 2, l ++ [s[k + 1]], by omega, by go_num, hide (by rw [← HL.out, HU.out, List.append_assoc]; rfl), by simp; omega, h3, hb4, by omega⟩
        case measure => simp [intOf]; omega
      · have HU := hide (unesc_take hlt (show s[k] ≠ 92 ∨ ¬ k + 1 < s.size by
          by_cases h92 : s[k] = 92
          · exact Or.inr fun h => hq ⟨h92, h⟩
          · exact Or.inl h92))
        have hQ : ((s[k].toNat : Int) == 92) = false ∨ (((s[k].toNat : Int) == 92) = true ∧ ¬ k + 1 < s.size) := by
          rw [show (92 : Int) = ((92 : Nat) : Int) from rfl, byte_eq _ 92 (by decide)]
          by_cases h92 : s[k] = 92
          · exact Or.inr ⟨by simpa using h92, fun h => hq ⟨h92, h⟩⟩
          · exact Or.inl (by simpa using h92)
        clear hq
        rcases hQ with hq1 | ⟨hq1, hq2⟩
        all_goals
          go_wp2_with fail
          refine (writeByteV_any _ _ _ s[k] _ hh (by omega) (by omega)).mono ?_
          rintro e w3 ⟨rfl, h3, hb3⟩
          have hz3 : wr.heap.size ≤ w3.heap.size := hb3.size
          have hb4 : Below w.heap.size w w3 := hb.trans hb3
          clear hb3 hb hh
          go_wp2_with fail
          go_roundw
          case rel => exact ⟨k + 1, l ++ [s[k]], by omega, by go_num, hide (by rw [← HL.out, HU.out, List.append_assoc]; rfl), by simp; omega, h3, hb4, by omega⟩
          case measure => simp [intOf]; omega
    · have HE : Hid (l = unesc s.data.toList) := hide (by
        have := HL.out
        rw [List.drop_eq_nil_of_le (by simp; omega)] at this
        simpa [unesc] using this)
      go_wp2_with fail
      refine (string_any _ _ _ _ hh (by omega)).mono ?_
      rintro e w3 ⟨rfl, hb3⟩
      have hb4 : Below w.heap.size w w3 := hb.trans hb3
      clear hb3 hb hh
      go_wp2_with fail
      go_ret
      exact ⟨ret_string HE.out, hb4⟩
end Go.Proofs.YtfjhdfpdgjjcgaaGreatDoor

/-
  read: the only value that a text could be of. Parse: that value, if its text is this one.
-/
namespace Go.Proofs.YtfjhdfpdgjjcgaaGreatDoor
open Go.RowKit Go.Sort

theorem text_any (s : ByteArray) (w : World) : Calls Tryz.prog 127 #[.string s] w fun e w' => e = .returned (vVal 2 0 s) ∧ Below w.heap.size w w' := by
  go_enter Tryz.func127, Tryz.ntmps127
  go_wp2
  go_returns
  exact ⟨rfl, by go_grown⟩
/-- The two errors that strconv.Atoi tells lie in their variables. -/
def Errs (w : World) : Prop := (∃ (t : TypeId) (p : Value), w.var? Tryz.prog "strconv.ErrSyntax" = some #[.iface t p]) ∧ ∃ (t : TypeId) (p : Value), w.var? Tryz.prog "strconv.ErrRange" = some #[.iface t p]
theorem g_syn : Tryz.prog.globalNamed "strconv.ErrSyntax" = some 4 := by kernel_rfl
theorem g_ran : Tryz.prog.globalNamed "strconv.ErrRange" = some 5 := by kernel_rfl
theorem Errs.stays {w w' : World} {B : Nat} (h : Errs w) (hb : Below B w w') (hB : w.heap.size ≤ B) : Errs w' := by
  obtain ⟨⟨t, p, h1⟩, u, q, h2⟩ := h
  exact ⟨⟨t, p, Joins.var_stays g_syn h1 hb hB⟩, u, q, Joins.var_stays g_ran h2 hb hB⟩

theorem below_bytes (w : World) (e : TypeId) (t : ByteArray) : Below w.heap.size w (Lib.bytesWorld w e t) :=
  ⟨by simp [Lib.bytesWorld, World.freeze, World.alloc, World.drew, -World.alloc_eq, -World.drew_eq], by simp [Lib.bytesWorld, World.freeze, World.alloc, World.drew, -World.alloc_eq, -World.drew_eq],
    by simp [Lib.bytesWorld, World.freeze, World.alloc, World.drew, -World.alloc_eq, -World.drew_eq], by simp [Lib.bytesWorld, World.freeze, World.alloc, World.drew, -World.alloc_eq, -World.drew_eq], fun k hk => Lib.bytesWorld_at_old w e t k hk⟩

theorem atoi_ok (s : ByteArray) (v : Int) (w : World) (hs : s.size ≤ 140737488355328) (h : Lib.atoiAll s.data.toList = .ok v) :
    Calls Tryz.prog 129 #[.string s] w fun e w' => e = .returned (.tuple #[.int .i64 v, .nilIface]) ∧ Below w.heap.size w w' := by
  refine (Tryz.strconv_Atoi_ok s (by omega) v h w).mono ?_
  rintro e w' ⟨rfl, hw⟩
  refine ⟨rfl, ?_⟩
  rcases hw with rfl | ⟨t, rfl⟩
  · exact Below.refl _ _
  · exact below_bytes w _ t

/-- A number and an error that is not nil. -/
def NoNum (w : World) (e : Ending) (w' : World) : Prop := ∃ (m : Int) (t : TypeId) (a : Addr), e = .returned (.tuple #[.int .i64 m, .iface t (.pointer (some a))]) ∧ Below w.heap.size w w'
theorem atoi_no (s : ByteArray) (w : World) (hs : s.size ≤ 140737488355328) (hE : Errs w) (h : ∀ v, Lib.atoiAll s.data.toList ≠ .ok v) :
    Calls Tryz.prog 129 #[.string s] w (NoNum w) := by
  obtain ⟨⟨t, p, h1⟩, u, q, h2⟩ := hE
  cases hx : Lib.atoiAll s.data.toList
  · exact absurd hx (h _)
  · refine (Tryz.strconv_Atoi_syntax_var s (by omega) hx t p w h1).mono ?_
    rintro e w' ⟨N, rfl, _, _, hb⟩
    exact ⟨_, _, _, rfl, hb⟩
  · refine (Tryz.strconv_Atoi_range_var s (by omega) hx u q w h2).mono ?_
    rintro e w' ⟨N, rfl, _, _, hb⟩
    exact ⟨_, _, _, rfl, hb⟩

/-- A box of three cells that was there ahead of a draw and a call is there behind them, and may be written. -/
theorem boxKeep {w0 w1 w2 : World} {b : Nat} {x y z : Value} (hb : Below w1.drew.heap.size w1.drew w2) (hz : b < w1.heap.size) (g0 : w1.frozen? ⟨b, 0, none⟩ = false) (g1 : w1.frozen? ⟨b, 1, none⟩ = false) (g2 : w1.frozen? ⟨b, 2, none⟩ = false)
    (y0 : w1.cell? ⟨b, 0, none⟩ = some x) (y1 : w1.cell? ⟨b, 1, none⟩ = some y) (y2 : w1.cell? ⟨b, 2, none⟩ = some z) (q : Below w0.heap.size w0 w1) :
    w2.frozen? ⟨b, 0, none⟩ = false ∧ w2.frozen? ⟨b, 1, none⟩ = false ∧ w2.frozen? ⟨b, 2, none⟩ = false ∧ w2.cell? ⟨b, 0, none⟩ = some x ∧ w2.cell? ⟨b, 1, none⟩ = some y ∧ w2.cell? ⟨b, 2, none⟩ = some z ∧ Below w0.heap.size w0 w2 := by
  have hz' : b < w1.drew.heap.size := hz
  refine ⟨(hb.frozen (p := ⟨b, 0, none⟩) hz').trans g0, (hb.frozen (p := ⟨b, 1, none⟩) hz').trans g1, (hb.frozen (p := ⟨b, 2, none⟩) hz').trans g2,
    (hb.cell (p := ⟨b, 0, none⟩) hz').trans y0, (hb.cell (p := ⟨b, 1, none⟩) hz').trans y1, (hb.cell (p := ⟨b, 2, none⟩) hz').trans y2, ?_⟩
  exact q.drew.trans (hb.mono q.size)

/-- What stands between the first byte and the last. -/
abbrev inner (s : ByteArray) : ByteArray := s.extract 1 (s.size - 1)

set_option maxHeartbeats 1000000 in
theorem read_null (w : World) : Calls Tryz.prog 110 #[.string ⟨#[110, 117, 108, 108]⟩] w fun e w' => e = .returned (.tuple #[vNull, .bool true]) ∧ Below w.heap.size w w' := by
  go_enter Tryz.func110, Tryz.ntmps110
  go_wp2_with fail
  refine (null_any _).mono ?_
  rintro e w2 ⟨rfl, hb⟩
  obtain ⟨hc, hf⟩ := bcell hb
  have hb0 : Below w.heap.size w w2 := (Joins.below_alloc1 w _).trans (hb.mono (by simp))
  clear hb
  go_wp2_with fail
  refine bodyPost_ret (v := .tuple #[vNull, .bool true]) (by simp [results, Tryz.results110, go_sem, hc]) rfl ⟨rfl, ?_⟩
  go_grown

set_option maxHeartbeats 1000000 in
theorem read_text (s : ByteArray) (w : World) (hs : s.size ≤ 140737488355328) (h2 : 2 ≤ s.size) (hq : ((s[0].toNat : Int) == 34) = true) (hn : (s.toList == [110, 117, 108, 108]) = false) :
    Calls Tryz.prog 110 #[.string s] w fun e w' => e = .returned (.tuple #[vVal 2 0 ⟨(unesc (inner s).data.toList).toArray⟩, .bool true]) ∧ Below w.heap.size w w' := by
  have hz : (inner s).size ≤ 140737488355328 := by
    have : (inner s).size ≤ s.size := by unfold inner; simp; omega
    omega
  have HU := hide (fun w => unquote_any (inner s) w hz)
  clear hz
  go_enter Tryz.func110, Tryz.ntmps110
  go_wp2_with fail
  refine (HU.out _).mono ?_
  rintro e w1 ⟨rfl, hb1⟩
  obtain ⟨hc1, hf1⟩ := bcell hb1
  have q1 : Below w.heap.size w w1 := (Joins.below_alloc1 w _).trans (hb1.mono (by simp))
  have z1 : w.heap.size < w1.heap.size := by have := hb1.size; simp at this; omega
  clear hb1
  go_wp2_with fail
  refine (text_any _ _).mono ?_
  rintro e w2 ⟨rfl, hb⟩
  obtain ⟨hc, hf⟩ := bcell hb
  have hb0 : Below w.heap.size w w2 := q1.trans (hb.mono q1.size)
  clear hb
  go_wp2_with fail
  refine bodyPost_ret (v := .tuple #[vVal 2 0 _, .bool true]) (by simp [results, Tryz.results110, go_sem, hc, hc1, z1]) rfl ⟨rfl, ?_⟩
  go_grown

set_option maxHeartbeats 2000000 in
theorem read_num (s : ByteArray) (v : Int) (w : World) (hs : s.size ≤ 140737488355328) (hn : (s.toList == [110, 117, 108, 108]) = false) (hq : (¬ (2 : Int) ≤ (s.size : Int)) ∨ ∃ h : 2 ≤ s.size, ((s[0].toNat : Int) == 34) = false)
    (hv : Lib.atoiAll s.data.toList = .ok v) :
    Calls Tryz.prog 110 #[.string s] w fun e w' => e = .returned (.tuple #[vInt v, .bool true]) ∧ Below w.heap.size w w' := by
  have HA := hide (fun w => atoi_ok s v w hs hv)
  clear hv
  rcases hq with hq | ⟨h2, hq⟩
  all_goals
    go_enter Tryz.func110, Tryz.ntmps110
    go_wp2_with fail
    refine (HA.out _).mono ?_
    rintro e w1 ⟨rfl, hb1⟩
    obtain ⟨hc1, hf1⟩ := bcell hb1
    have q1 : Below w.heap.size w w1 := (Joins.below_alloc1 w _).trans (hb1.mono (by simp))
    have z1 : w.heap.size < w1.heap.size := by have := hb1.size; simp at this; omega
    clear hb1
    go_wp2_with fail
    have g0 : w1.frozen? ⟨w.heap.size, 0, none⟩ = false := (hf1 _ _ (by simp)).trans (by simp)
    have g1 : w1.frozen? ⟨w.heap.size, 1, none⟩ = false := (hf1 _ _ (by simp)).trans (by simp)
    have g2 : w1.frozen? ⟨w.heap.size, 2, none⟩ = false := (hf1 _ _ (by simp)).trans (by simp)
    have y0 : w1.cell? ⟨w.heap.size, 0, none⟩ = some (.int .i64 0) := (hc1 _ _ (by simp)).trans (by simp)
    have y1 : w1.cell? ⟨w.heap.size, 1, none⟩ = some (.int .i64 0) := (hc1 _ _ (by simp)).trans (by simp)
    have y2 : w1.cell? ⟨w.heap.size, 2, none⟩ = some (.string ⟨#[]⟩) := (hc1 _ _ (by simp)).trans (by simp)
    clear hc1 hf1
    go_region_with (first | (go_at_call 25; refine (of_any _ _).mono ?_; rintro e w2 ⟨rfl, hb⟩; obtain ⟨G0, G1, G2, Y0, Y1, Y2, Q⟩ := boxKeep hb z1 g0 g1 g2 y0 y1 y2 q1))
    all_goals
      go_wp2_with fail
      refine bodyPost_ret (v := .tuple #[vInt v, .bool true]) (by simp [results, Tryz.results110, go_sem, *]) rfl ⟨rfl, ?_⟩
      go_grown
/-- A number, and that it is none. -/
def NoValue (w : World) (e : Ending) (w' : World) : Prop := ∃ m : Int, e = .returned (.tuple #[vInt m, .bool false]) ∧ Below w.heap.size w w'

set_option maxHeartbeats 2000000 in
theorem read_no (s : ByteArray) (w : World) (hE : Errs w) (hs : s.size ≤ 140737488355328) (hn : (s.toList == [110, 117, 108, 108]) = false) (hq : (¬ (2 : Int) ≤ (s.size : Int)) ∨ ∃ h : 2 ≤ s.size, ((s[0].toNat : Int) == 34) = false)
    (hv : ∀ v, Lib.atoiAll s.data.toList ≠ .ok v) :
    Calls Tryz.prog 110 #[.string s] w (NoValue w) := by
  have HA := hide (fun w hE => atoi_no s w hs hE hv)
  have HE := hide hE
  clear hv hE
  rcases hq with hq | ⟨h2, hq⟩
  all_goals
    go_enter Tryz.func110, Tryz.ntmps110
    go_wp2_with fail
    refine (HA.out _ (HE.out.stays (Joins.below_alloc1 w _) (Nat.le_refl _))).mono ?_
    rintro e w1 ⟨v, te, ae, rfl, hb1⟩
    obtain ⟨hc1, hf1⟩ := bcell hb1
    have q1 : Below w.heap.size w w1 := (Joins.below_alloc1 w _).trans (hb1.mono (by simp))
    have z1 : w.heap.size < w1.heap.size := by have := hb1.size; simp at this; omega
    clear hb1
    go_wp2_with fail
    have g0 : w1.frozen? ⟨w.heap.size, 0, none⟩ = false := (hf1 _ _ (by simp)).trans (by simp)
    have g1 : w1.frozen? ⟨w.heap.size, 1, none⟩ = false := (hf1 _ _ (by simp)).trans (by simp)
    have g2 : w1.frozen? ⟨w.heap.size, 2, none⟩ = false := (hf1 _ _ (by simp)).trans (by simp)
    have y0 : w1.cell? ⟨w.heap.size, 0, none⟩ = some (.int .i64 0) := (hc1 _ _ (by simp)).trans (by simp)
    have y1 : w1.cell? ⟨w.heap.size, 1, none⟩ = some (.int .i64 0) := (hc1 _ _ (by simp)).trans (by simp)
    have y2 : w1.cell? ⟨w.heap.size, 2, none⟩ = some (.string ⟨#[]⟩) := (hc1 _ _ (by simp)).trans (by simp)
    clear hc1 hf1
    go_region_with (first | (go_at_call 25; refine (of_any _ _).mono ?_; rintro e w2 ⟨rfl, hb⟩; obtain ⟨G0, G1, G2, Y0, Y1, Y2, Q⟩ := boxKeep hb z1 g0 g1 g2 y0 y1 y2 q1))
    all_goals
      go_wp2_with fail
      refine bodyPost_ret (v := .tuple #[vInt v, .bool false]) (by simp [results, Tryz.results110, go_sem, *]) rfl ⟨v, rfl, ?_⟩
      go_grown

set_option maxHeartbeats 1000000 in
theorem parse_none (s : ByteArray) (w : World) (hR : ∀ w', Below w.heap.size w w' → Calls Tryz.prog 110 #[.string s] w' (NoValue w')) :
    Calls Tryz.prog 87 #[.string s] w fun e w' => e = .returned (.tuple #[vNull, .int .i64 20]) ∧ Below w.heap.size w w' := by
  have HR := hide hR; clear hR
  go_enter Tryz.func87, Tryz.ntmps87
  go_wp2_with fail
  refine (HR.out _ (Joins.below_alloc1 w _)).mono ?_
  rintro e w1 ⟨m, rfl, hb1⟩
  obtain ⟨hc1, hf1⟩ := bcell hb1
  have q1 : Below w.heap.size w w1 := (Joins.below_alloc1 w _).trans (hb1.mono (by simp))
  have z1 : w.heap.size < w1.heap.size := by have := hb1.size; simp at this; omega
  clear hb1
  go_wp2_with fail
  refine bodyPost_ret (v := .tuple #[vNull, .int .i64 20]) (by simp [results, Tryz.results87, go_sem, hc1, z1]) rfl ⟨rfl, ?_⟩
  go_grown

set_option maxHeartbeats 1000000 in
theorem parse_some (s b t : ByteArray) (k n : Int) (β : Bool) (w : World) (hR : ∀ w, Calls Tryz.prog 110 #[.string s] w fun e w' => e = .returned (.tuple #[vVal k n t, .bool true]) ∧ Below w.heap.size w w')
    (hS : ∀ w', Below w.heap.size w w' → Calls Tryz.prog 61 #[vVal k n t] w' fun e w'' => e = .returned (.string b) ∧ Below w'.heap.size w' w'') (hβ : (b.toList == s.toList) = β) :
    Calls Tryz.prog 87 #[.string s] w fun e w' => e = .returned (if β then .tuple #[vVal k n t, .int .i64 0] else .tuple #[vNull, .int .i64 20]) ∧ Below w.heap.size w w' := by
  have HR := hide hR; have HS := hide hS; clear hR hS
  cases β
  all_goals
    go_enter Tryz.func87, Tryz.ntmps87
    go_wp2_with fail
    refine (HR.out _).mono ?_
    rintro e w1 ⟨rfl, hb1⟩
    obtain ⟨hc1, hf1⟩ := bcell hb1
    have q1 : Below w.heap.size w w1 := (Joins.below_alloc1 w _).trans (hb1.mono (by simp))
    have z1 : w.heap.size < w1.heap.size := by have := hb1.size; simp at this; omega
    go_wp2_with fail
    refine (HS.out _ (q1.alloc q1.size _)).mono ?_
    rintro e w2 ⟨rfl, hb2⟩
    obtain ⟨hc2, hf2⟩ := bcell hb2
    have q2 : Below w.heap.size w w2 := (q1.alloc q1.size _).trans (hb2.mono (q1.alloc q1.size _).size)
    have z2 : w1.heap.size < w2.heap.size := by have := hb2.size; simp at this; omega
    have z3 : w.heap.size < w2.heap.size := by omega
    have r := (hb1.alloc hb1.size _).trans (hb2.mono (hb1.alloc hb1.size _).size)
    have y0 := (r.cell (p := ⟨w.heap.size, 0, none⟩) (by simp)).trans (World.cell?_alloc_mark w _ _ (0, 0) 0)
    have y1 := (r.cell (p := ⟨w.heap.size, 1, none⟩) (by simp)).trans (World.cell?_alloc_mark w _ _ (0, 0) 1)
    have y2 := (r.cell (p := ⟨w.heap.size, 2, none⟩) (by simp)).trans (World.cell?_alloc_mark w _ _ (0, 0) 2)
    simp at y0 y1 y2
    clear hb1 hb2 r
    go_wp2_with fail
  · refine bodyPost_ret (v := .tuple #[vNull, .int .i64 20]) (by simp [results, Tryz.results87, go_sem, y0, y1, y2]) rfl ⟨rfl, ?_⟩
    go_grown
  · refine bodyPost_ret (v := .tuple #[vVal k n t, .int .i64 0]) (by simp [results, Tryz.results87, go_sem, y0, y1, y2]) rfl ⟨rfl, ?_⟩
    go_grown
end Go.Proofs.YtfjhdfpdgjjcgaaGreatDoor

/-
  The document's text of a number (Number) and of a value (Show): the program's texts.
-/
namespace Go.Proofs.YtfjhdfpdgjjcgaaGreatDoor
open Go.RowKit

/-- string([]byte{x}). -/
theorem conv_one (x : Int) (d : UInt8) (hd : (d.toNat : Int) = x) (w : World) :
    (convert 71 9 (.slice (some ⟨w.heap.size, 0, none⟩) 1 1)).run Tryz.prog (w.alloc (.cells #[.int .u8 x] 5)) = .ok (.string ⟨#[d]⟩) (w.alloc (.cells #[.int .u8 x] 5)) := by
  refine run_convert_bytes_back (w.alloc (.cells #[.int .u8 x] 5)) 71 9 5 ⟨w.heap.size, 0, none⟩ 1 [d] Tryz.underlying71 Tryz.underlying5 Tryz.underlying9 ?_
  intro j hj
  obtain rfl : j = 0 := by simpa using hj
  subst hd
  simp [Addr.add]

theorem cat_eq (a b : List UInt8) : (⟨a.toArray⟩ ++ ⟨b.toArray⟩ : ByteArray) = ⟨(a ++ b).toArray⟩ := by
  have h : (⟨a.toArray⟩ ++ ⟨b.toArray⟩ : ByteArray).data = (a ++ b).toArray := by simp [ByteArray.data_append]
  rw [show (⟨a.toArray⟩ ++ ⟨b.toArray⟩ : ByteArray) = ⟨(⟨a.toArray⟩ ++ ⟨b.toArray⟩ : ByteArray).data⟩ from rfl, h]
/-- The byte of a digit. -/
def dig (u : Nat) : UInt8 := UInt8.ofNat (48 + u % 10)
theorem dig_val (u : Nat) : ((dig u).toNat : Int) = 48 + ((u % 10 : Nat) : Int) := by
  unfold dig; rw [UInt8.toNat_ofNat_of_lt' (by have := Nat.mod_lt u (show 0 < 10 by decide); show _ < 256; omega)]; omega
theorem dec_small {u : Nat} (h : u < 10) : Lib.decDigits u = [dig u] := by rw [Lib.decDigits, dif_pos h]; unfold dig; rw [Nat.mod_eq_of_lt h]
theorem dec_big {u : Nat} (h : ¬ u < 10) : Lib.decDigits u = Lib.decDigits (u / 10) ++ [dig u] := by rw [Lib.decDigits, dif_neg h]; rfl

theorem dec_len (u : Nat) (h : u < 18446744073709551616) : (Lib.decDigits u).length ≤ 20 := by rw [Lib.decDigits_length]; exact Lib.nDigits_le20 u h

set_option maxHeartbeats 1000000 in
set_option maxRecDepth 100000 in
theorem number_small (u : Nat) (w : World) (h1 : u < 10) :
    Calls Tryz.prog 65 #[.int .i64 u] w fun e w' => e = .returned (.string ⟨(Lib.decDigits u).toArray⟩) ∧ Below w.heap.size w w' := by
  have g : ¬ (u : Int) < 0 := by omega
  have g1 : ¬ (10 : Int) ≤ (u : Int) := by omega
  have hcv := fun w => conv_one (48 + (u : Int) % 10) (dig u) (by rw [dig_val]; omega) w
  have HD := hide (dec_small h1)
  clear h1
  go_enter Tryz.func65, Tryz.ntmps65
  go_wp2_with fail
  go_ret
  exact ⟨ret_string (by rw [HD.out]), by go_grown⟩

set_option maxHeartbeats 1000000 in
set_option maxRecDepth 100000 in
theorem number_big (u : Nat) (w : World) (h1 : ¬ u < 10) (hu : (u : Int) ≤ 9223372036854775807)
    (ih : ∀ w, Calls Tryz.prog 65 #[.int .i64 ((u / 10 : Nat) : Int)] w fun e w' => e = .returned (.string ⟨(Lib.decDigits (u / 10)).toArray⟩) ∧ Below w.heap.size w w') :
    Calls Tryz.prog 65 #[.int .i64 u] w fun e w' => e = .returned (.string ⟨(Lib.decDigits u).toArray⟩) ∧ Below w.heap.size w w' := by
  have g : ¬ (u : Int) < 0 := by omega
  have g1 : (10 : Int) ≤ (u : Int) := by omega
  have hcv := fun w => conv_one (48 + (u : Int) % 10) (dig u) (by rw [dig_val]; omega) w
  have HD := hide (dec_big h1)
  have hl := dec_len (u / 10) (by omega)
  have IH := hide ih
  have hl2 : ¬ 9223372036854775807 < (Lib.decDigits (u / 10)).length + 1 := by omega
  clear h1 ih hl
  go_enter Tryz.func65, Tryz.ntmps65
  go_wp2_with fail
  refine (IH.out _).mono ?_
  rintro e w1 ⟨rfl, hb1⟩
  have q1 : Below w.heap.size w w1 := (Joins.below_alloc1 w _).trans (hb1.mono (by simp))
  clear hb1
  go_wp2_with fail
  go_ret
  exact ⟨by rw [HD.out]; exact congrArg (fun b => Ending.returned (.string b)) (cat_eq _ _), q1⟩

theorem tmod_neg10 {n : Int} (h : n < 0) : n.tmod 10 = -((n.natAbs % 10 : Nat) : Int) := by
  have h1 : n = -((n.natAbs : Nat) : Int) := by omega
  conv => lhs; rw [h1]
  rw [Int.neg_tmod, Int.tmod_eq_emod_of_nonneg (by omega)]
  omega
theorem tdiv_neg10 {n : Int} (h : n < 0) : -(n.tdiv 10) = ((n.natAbs / 10 : Nat) : Int) := by
  have h1 : n = -((n.natAbs : Nat) : Int) := by omega
  conv => lhs; rw [h1]
  rw [Int.neg_tdiv, Int.tdiv_eq_ediv_of_nonneg (by omega)]
  omega

set_option maxHeartbeats 1000000 in
set_option maxRecDepth 100000 in
theorem number_neg_small (n : Int) (w : World) (h0 : n < 0) (h1 : -10 < n) :
    Calls Tryz.prog 65 #[.int .i64 n] w fun e w' => e = .returned (.string ⟨(45 :: Lib.decDigits n.natAbs).toArray⟩) ∧ Below w.heap.size w w' := by
  have hm := tmod_neg10 h0
  have b1 : -9 ≤ n.tmod 10 := by omega
  have b2 : n.tmod 10 ≤ 0 := by omega
  have hcv := fun w => conv_one (48 - n.tmod 10) (dig n.natAbs) (by rw [dig_val]; omega) w
  have HD := hide (dec_small (u := n.natAbs) (by omega))
  have g : ¬ n ≤ -10 := by omega
  clear hm
  go_enter Tryz.func65, Tryz.ntmps65
  go_wp2_with fail
  go_ret
  exact ⟨by rw [HD.out]; exact congrArg (fun b => Ending.returned (.string b)) (cat_eq [45] _), by go_grown⟩

set_option maxHeartbeats 1000000 in
set_option maxRecDepth 100000 in
theorem number_neg_big (n : Int) (w : World) (hn : I64 n) (h0 : n ≤ -10)
    (ih : ∀ w, Calls Tryz.prog 65 #[.int .i64 (-(n.tdiv 10))] w fun e w' => e = .returned (.string ⟨(Lib.decDigits (n.natAbs / 10)).toArray⟩) ∧ Below w.heap.size w w') :
    Calls Tryz.prog 65 #[.int .i64 n] w fun e w' => e = .returned (.string ⟨(45 :: Lib.decDigits n.natAbs).toArray⟩) ∧ Below w.heap.size w w' := by
  have h0' : n < 0 := by omega
  have hm := tmod_neg10 h0'
  have hd := tdiv_neg10 h0'
  unfold I64 at hn
  have b1 : -9 ≤ n.tmod 10 := by omega
  have b2 : n.tmod 10 ≤ 0 := by omega
  have b3 : n.tdiv 10 ≤ 0 := by omega
  have b4 : -1000000000000000000 ≤ n.tdiv 10 := by omega
  have hcv := fun w => conv_one (48 - n.tmod 10) (dig n.natAbs) (by rw [dig_val]; omega) w
  have HD := hide (dec_big (u := n.natAbs) (by omega))
  have hl := dec_len (n.natAbs / 10) (by omega)
  have hl2 : ¬ 9223372036854775807 < (Lib.decDigits (n.natAbs / 10)).length + 1 := by omega
  have hl3 : ¬ 9223372036854775807 < 1 + ((Lib.decDigits (n.natAbs / 10)).length + 1) := by omega
  have IH := hide ih
  clear hm hd ih hl hn
  go_enter Tryz.func65, Tryz.ntmps65
  go_wp2_with fail
  refine (IH.out _).mono ?_
  rintro e w1 ⟨rfl, hb1⟩
  have q1 : Below w.heap.size w w1 := (Joins.below_alloc1 w _).trans (hb1.mono (by simp))
  clear hb1
  go_wp2_with fail
  go_ret
  exact ⟨by rw [HD.out]; exact congrArg (fun b => Ending.returned (.string b)) (by rw [show ({ data := #[dig n.natAbs] } : ByteArray) = ⟨[dig n.natAbs].toArray⟩ from rfl, cat_eq]; exact cat_eq [45] _), q1⟩

theorem number_nat : ∀ (k u : Nat) (w : World), u ≤ k → (u : Int) ≤ 9223372036854775807 →
    Calls Tryz.prog 65 #[.int .i64 u] w fun e w' => e = .returned (.string ⟨(Lib.decDigits u).toArray⟩) ∧ Below w.heap.size w w'
  | 0, u, w, hk, _ => number_small u w (by omega)
  | k + 1, u, w, hk, hu => by
    by_cases h : u < 10
    · exact number_small u w h
    · exact number_big u w h hu fun w => number_nat k (u / 10) w (by omega) (by omega)
theorem number_any (n : Int) (w : World) (hn : I64 n) :
    Calls Tryz.prog 65 #[.int .i64 n] w fun e w' => e = .returned (.string ⟨(Lib.itoa n).toArray⟩) ∧ Below w.heap.size w w' := by
  by_cases h0 : n < 0
  · rw [show Lib.itoa n = 45 :: Lib.decDigits n.natAbs by unfold Lib.itoa; rw [if_pos h0]]
    by_cases h1 : -10 < n
    · exact number_neg_small n w h0 h1
    · refine number_neg_big n w hn (by omega) fun w => ?_
      rw [tdiv_neg10 h0]
      exact number_nat _ _ w (Nat.le_refl _) (by unfold I64 at hn; omega)
  · rw [show Lib.itoa n = Lib.decDigits n.toNat by unfold Lib.itoa; rw [if_neg h0]]
    have h := number_nat n.toNat n.toNat w (Nat.le_refl _) (by unfold I64 at hn; omega)
    rw [Int.toNat_of_nonneg (by omega)] at h
    exact h

theorem cat_data (a b : ByteArray) : (a ++ b).data.toList = a.data.toList ++ b.data.toList := by simp [ByteArray.data_append]
theorem cat_size (a b : ByteArray) : (a ++ b).size = a.size + b.size := by simp [ByteArray.size_append]
theorem cut_one {s : ByteArray} {k : Nat} (h : k < s.size) : (s.extract k (k + 1)).data.toList = [s[k]] := by
  rw [Lib.extract_data, show k + 1 - k = 1 by omega, List.drop_eq_getElem_cons (by simpa using h)]
  rfl
theorem cut1_size {s : ByteArray} {k : Nat} (h : k < s.size) : (s.extract k (k + 1)).size = 1 := by
  have h2 : (s.extract k (k + 1)).data.toList.length = (s.extract k (k + 1)).size := Array.length_toList
  rw [cut_one h] at h2
  exact h2.symm

set_option maxHeartbeats 2000000 in
set_option maxRecDepth 100000 in
theorem refShow_text (k n : Int) (s : ByteArray) (w : World) (hs : s.size ≤ 64) (h0 : (k == 0) = false) (h1 : (k == 1) = false) :
    Calls Tryz.prog 45 #[vVal k n s] w fun e w' => e = .returned (.string ⟨(quoteL s.data.toList).toArray⟩) ∧ Below w.heap.size w w' := by
  go_enter Tryz.func45, Tryz.ntmps45
  go_wp2_with fail
  go_loop [3, 4] (fun v i => ∃ (j : Nat) (b : ByteArray), j ≤ s.size ∧ v = .string b ∧ i = .int .i64 j ∧ Hid (b.data.toList = 34 :: esc (s.data.toList.take j)) ∧ b.size ≤ 2 * j + 1) (fun _ i => s.size - (intOf i).toNat)
  case atStart => exact ⟨0, ⟨#[34]⟩, Nat.zero_le _, rfl, rfl, hide rfl, by decide⟩
  case round =>
    obtain ⟨j, b, hj, rfl, rfl, HB, hb⟩ := hrel
    by_cases hlt : j < s.size
    · have hts := hide (take_snoc s j hlt)
      have hc1 := cut1_size hlt
      have HC := hide (cut_one hlt)
      by_cases hq : s[j] = 34 ∨ s[j] = 92
      · have HE := hide (esc_snoc_yes (s.data.toList.take j) s[j] hq)
        have hQ : ((s[j].toNat : Int) == 34) = true ∨ ((s[j].toNat : Int) == 34) = false ∧ ((s[j].toNat : Int) == 92) = true := by
          rw [show (34 : Int) = ((34 : Nat) : Int) from rfl, show (92 : Int) = ((92 : Nat) : Int) from rfl, byte_eq _ 34 (by decide), byte_eq _ 92 (by decide)]
          by_cases h34 : s[j] = 34
          · left; simpa using h34
          · right; exact ⟨by simpa using h34, by simpa [h34] using hq⟩
        clear hq
        rcases hQ with hq1 | ⟨hq1, hq2⟩
        all_goals
          go_wp2_with fail
          go_round
          case rel => exact ⟨j + 1, _, by omega, rfl, by go_num, hide (by rw [cat_data, cat_data, HB.out, HC.out, hts.out, HE.out]; simp), by rw [cat_size, cat_size, hc1]; show b.size + 1 + 1 ≤ _; omega⟩
          case measure => simp [intOf]; omega
      · have HE := hide (esc_snoc_no (s.data.toList.take j) s[j] hq)
        have hQ : ((s[j].toNat : Int) == 34) = false ∧ ((s[j].toNat : Int) == 92) = false := by
          rw [show (34 : Int) = ((34 : Nat) : Int) from rfl, show (92 : Int) = ((92 : Nat) : Int) from rfl, byte_eq _ 34 (by decide), byte_eq _ 92 (by decide)]
          simpa [not_or] using hq
        clear hq
        obtain ⟨hq1, hq2⟩ := hQ
        go_wp2_with fail
        go_round
        case rel => exact ⟨j + 1, _, by omega, rfl, by go_num, hide (by rw [cat_data, HB.out, HC.out, hts.out, HE.out]; simp), by rw [cat_size, hc1]; omega⟩
        case measure => simp [intOf]; omega
    · obtain rfl : j = s.size := by omega
      have htk : s.data.toList.take s.size = s.data.toList := List.take_of_length_le (by simp)
      rw [htk] at HB
      clear htk
      go_wp2_with fail
      go_ret
      refine ⟨congrArg (fun b => Ending.returned (.string b)) (of_data ?_), by go_grown⟩
      rw [cat_data, HB.out]; rfl
theorem refShowV_any (k n : Int) (s : ByteArray) (w : World) (hn : I64 n) (hr : rightV k n s = true) :
    Calls Tryz.prog 45 #[vVal k n s] w fun e w' => e = .returned (.string ⟨(showV k n s).toArray⟩) ∧ Below w.heap.size w w' := by
  rcases rightV_cases hr with ⟨rfl, rfl, rfl⟩ | ⟨rfl, rfl⟩ | ⟨rfl, rfl, h⟩
  · have e : showV 0 0 ⟨#[]⟩ = [110, 117, 108, 108] := by unfold showV; rw [hr]; rfl
    rw [e]
    clear hr e hn
    go_enter Tryz.func45, Tryz.ntmps45
    go_wp2_with fail
    go_ret
    exact ⟨rfl, by go_grown⟩
  · have e : showV 1 n ⟨#[]⟩ = Lib.itoa n := by unfold showV; rw [hr]; rfl
    rw [e]
    have HN := hide hn; clear hr e hn
    go_enter Tryz.func45, Tryz.ntmps45
    go_wp2_with fail
    refine (number_any n _ HN.out).mono ?_
    rintro e w1 ⟨rfl, hb1⟩
    have q1 : Below w.heap.size w w1 := (Joins.below_alloc1 w _).trans (hb1.mono (by simp))
    clear hb1
    go_wp2_with fail
    go_ret
    exact ⟨rfl, q1⟩
  · have e : showV 2 0 s = quoteL s.data.toList := by unfold showV; rw [hr]; rfl
    rw [e]
    exact refShow_text 2 0 s w h (by decide) (by decide)
end Go.Proofs.YtfjhdfpdgjjcgaaGreatDoor

/-
  What Parse tells of any text; and of the text of a valid value: that value.
-/
namespace Go.Proofs.YtfjhdfpdgjjcgaaGreatDoor
open Go.RowKit Go.Sort

theorem parse_dec : ∀ (k u : Nat) (r : List UInt8), u ≤ k → u < 18446744073709551616 → Lib.parseUint10 0 (Lib.decDigits u ++ r) = Lib.parseUint10 u r
  | k, u, r, hk, hu => by
    have hd : (dig u).toNat = 48 + u % 10 := by have := dig_val u; omega
    by_cases h : u < 10
    · rw [dec_small h]
      show Lib.parseUint10 0 (dig u :: r) = _
      unfold Lib.parseUint10
      rw [hd, if_pos (by omega), if_neg (by omega), if_neg (by omega)]
      rw [show 0 * 10 + (48 + u % 10 - 48) = u by omega]
      cases r <;> rfl
    · match k, hk with
      | 0, hk => omega
      | k + 1, hk =>
        rw [dec_big h, List.append_assoc, parse_dec k (u / 10) _ (by omega) (by omega)]
        show Lib.parseUint10 (u / 10) (dig u :: r) = _
        conv => lhs; unfold Lib.parseUint10
        rw [hd, if_pos (by omega), if_neg (by omega), if_neg (by omega)]
        rw [show u / 10 * 10 + (48 + u % 10 - 48) = u by omega]
theorem dec_ne (u : Nat) : Lib.decDigits u ≠ [] := by
  intro h
  have := Lib.decDigits_length u
  have h2 := Lib.nDigits_pos u
  rw [h] at this; simp at this; omega
theorem mag_dec (u : Nat) (hu : u < 18446744073709551616) : Lib.parseMag (Lib.decDigits u) = .ok u := by
  unfold Lib.parseMag
  rw [if_neg (dec_ne u)]
  have h := parse_dec u u [] (Nat.le_refl _) hu
  rw [List.append_nil] at h
  rw [h]; rfl
theorem dec_head : ∀ (k u : Nat), u ≤ k → ∃ c r, Lib.decDigits u = c :: r ∧ 48 ≤ c.toNat ∧ c.toNat ≤ 57
  | k, u, hk => by
    have hd : (dig u).toNat = 48 + u % 10 := by have := dig_val u; omega
    by_cases h : u < 10
    · exact ⟨dig u, [], dec_small h, by omega, by omega⟩
    · match k, hk with
      | 0, hk => omega
      | k + 1, hk =>
        obtain ⟨c, r, e, h1, h2⟩ := dec_head k (u / 10) (by omega)
        exact ⟨c, r ++ [dig u], by rw [dec_big h, e]; rfl, h1, h2⟩
theorem atoi_itoa (n : Int) (hn : I64 n) : Lib.atoiAll (Lib.itoa n) = .ok n := by
  unfold I64 at hn
  unfold Lib.itoa
  by_cases h0 : n < 0
  · rw [if_pos h0]
    unfold Lib.atoiAll
    have hm := mag_dec n.natAbs (by omega)
    simp only [show ((45 : UInt8).toNat = 43 ∨ (45 : UInt8).toNat = 45) = True by simp, if_true, hm]
    rw [if_neg (by simp), if_neg (by omega)]
    simp only [show ((45 : UInt8).toNat = 45) = True by simp, if_true]
    congr 1; omega
  · rw [if_neg h0]
    have hm := mag_dec n.toNat (by omega)
    obtain ⟨c, r, e, h1, h2⟩ := dec_head n.toNat n.toNat (Nat.le_refl _)
    rw [e] at hm ⊢
    unfold Lib.atoiAll
    have c43 : ¬ (c.toNat = 43 ∨ c.toNat = 45) := by omega
    have c45 : ¬ (c.toNat = 45) := by omega
    simp only [if_neg c43, hm, if_neg c45]
    rw [if_neg (by omega), if_neg (by omega)]
    congr 1; omega
theorem itoa_head (n : Int) : ∃ c r, Lib.itoa n = c :: r ∧ (c.toNat = 45 ∨ (48 ≤ c.toNat ∧ c.toNat ≤ 57)) := by
  unfold Lib.itoa
  by_cases h0 : n < 0
  · rw [if_pos h0]; exact ⟨45, _, rfl, Or.inl rfl⟩
  · rw [if_neg h0]
    obtain ⟨c, r, e, h1, h2⟩ := dec_head n.toNat n.toNat (Nat.le_refl _)
    exact ⟨c, r, e, Or.inr ⟨h1, h2⟩⟩
theorem itoa_len (n : Int) (hn : I64 n) : (Lib.itoa n).length ≤ 21 := by
  unfold I64 at hn
  unfold Lib.itoa
  by_cases h0 : n < 0
  · rw [if_pos h0]; have := dec_len n.natAbs (by omega); simp only [List.length_cons]; omega
  · rw [if_neg h0]; have := dec_len n.toNat (by omega); omega
end Go.Proofs.YtfjhdfpdgjjcgaaGreatDoor

/-
  Parse of the text of a valid value is that value; of any text it is a valid value with this text, or refused.
-/
namespace Go.Proofs.YtfjhdfpdgjjcgaaGreatDoor
open Go.RowKit Go.Sort


theorem read_same {s : ByteArray} {k n : Int} {t : ByteArray} (hr : rightV k n t = true) (hn : I64 n) (hs : s.data.toList = showV k n t) (w : World) :
    Calls Tryz.prog 110 #[.string s] w fun e w' => e = .returned (.tuple #[vVal k n t, .bool true]) ∧ Below w.heap.size w w' := by
  obtain rfl := of_data hs
  clear hs
  rcases rightV_cases hr with ⟨rfl, rfl, rfl⟩ | ⟨rfl, rfl⟩ | ⟨rfl, rfl, h⟩
  · have e : showV 0 0 ⟨#[]⟩ = [110, 117, 108, 108] := by unfold showV; rw [hr]; rfl
    rw [e]
    exact read_null w
  · have e : showV 1 n ⟨#[]⟩ = Lib.itoa n := by unfold showV; rw [hr]; rfl
    rw [e]
    obtain ⟨c, r, ec, hc⟩ := itoa_head n
    refine read_num _ n w (by rw [size_of]; have := itoa_len n hn; omega) ?_ ?_ (by rw [list_of]; exact atoi_itoa n hn)
    · rw [toList_of, ec]
      have : ¬ c = 110 := fun h => by subst h; revert hc; decide
      simp [this]
    · by_cases h2 : 2 ≤ (⟨(Lib.itoa n).toArray⟩ : ByteArray).size
      · refine Or.inr ⟨h2, ?_⟩
        have e0 : (⟨(Lib.itoa n).toArray⟩ : ByteArray)[0] = c := by
          have h3 : 0 < (Lib.itoa n).toArray.size := by rw [ec]; simp
          show (Lib.itoa n).toArray[0]'h3 = c
          simp [ec]
        rw [e0, beq_eq_false_iff_ne]; omega
      · exact Or.inl (by omega)
  · have e : showV 2 0 t = quoteL t.data.toList := by unfold showV; rw [hr]; rfl
    rw [e]
    have hl : (quoteL t.data.toList).length = (esc t.data.toList).length + 2 := by unfold quoteL; simp
    have he := esc_len t.data.toList
    have ht : t.data.toList.length = t.size := Array.length_toList
    have hin : (inner ⟨(quoteL t.data.toList).toArray⟩).data.toList = esc t.data.toList := by
      unfold inner
      rw [Lib.extract_data, list_of, size_of, hl]
      show List.take _ (esc t.data.toList ++ [34]) = _
      rw [show (esc t.data.toList).length + 2 - 1 - 1 = (esc t.data.toList).length by omega, List.take_left]
    have h := read_text ⟨(quoteL t.data.toList).toArray⟩ w (by rw [size_of]; omega) (by rw [size_of]; omega) (by
      have : (⟨(quoteL t.data.toList).toArray⟩ : ByteArray)[0]'(by rw [size_of]; omega) = (34 : UInt8) := rfl
      rw [this]; rfl) (by rw [toList_of]; unfold quoteL; simp)
    rw [hin, unesc_esc] at h
    rw [show (⟨t.data.toList.toArray⟩ : ByteArray) = t from (of_data rfl).symm] at h
    exact h

theorem parse_right (k n : Int) (t : ByteArray) (w : World) (hr : rightV k n t = true) (hn : I64 n) (hT : Tab w) :
    Calls Tryz.prog 87 #[.string ⟨(showV k n t).toArray⟩] w fun e w' => e = .returned (.tuple #[vVal k n t, .int .i64 0]) ∧ Below w.heap.size w w' :=
  parse_some ⟨(showV k n t).toArray⟩ ⟨(showV k n t).toArray⟩ t k n true w (fun w => read_same hr hn (list_of _) w)
    (fun w' hb => showV_any k n t w' (by have := rightV_size hr; unfold maxLen; omega) hn (hT.stays hb (Nat.le_refl _))) (by simp)

/-- A valid value whose text is this one, or ErrForm. -/
def ParseRes (s : ByteArray) (w : World) (e : Ending) (w' : World) : Prop :=
  ((∃ (k n : Int) (t : ByteArray), rightV k n t = true ∧ I64 k ∧ I64 n ∧ showV k n t = s.data.toList ∧ e = .returned (.tuple #[vVal k n t, .int .i64 0])) ∨ e = .returned (.tuple #[vNull, .int .i64 20])) ∧ Below w.heap.size w w'

theorem parse_by (s t : ByteArray) (k n : Int) (w : World) (ht : t.size ≤ maxLen) (hk : I64 k) (hn : I64 n) (hne : s.data.toList ≠ []) (hT : Tab w)
    (hR : ∀ w, Calls Tryz.prog 110 #[.string s] w fun e w' => e = .returned (.tuple #[vVal k n t, .bool true]) ∧ Below w.heap.size w w') :
    Calls Tryz.prog 87 #[.string s] w (ParseRes s w) := by
  refine (parse_some s ⟨(showV k n t).toArray⟩ t k n _ w hR (fun w' hb => showV_any k n t w' ht hn (hT.stays hb (Nat.le_refl _))) rfl).mono ?_
  rintro e w' ⟨rfl, hb⟩
  refine ⟨?_, hb⟩
  by_cases h : showV k n t = s.data.toList
  · refine Or.inl ⟨k, n, t, ?_, hk, hn, h, ?_⟩
    · cases hr : rightV k n t
      · exfalso; apply hne; rw [← h]; unfold showV; rw [hr]; rfl
      · rfl
    · rw [if_pos (by rw [toList_of, Lib.toList_data, h]; simp)]
  · exact Or.inr (by rw [if_neg (by rw [toList_of, Lib.toList_data]; simpa using h)])

theorem parseV_any (s : ByteArray) (w : World) (hs : s.size ≤ 140737488355328) (hT : Tab w) (hE : Errs w) :
    Calls Tryz.prog 87 #[.string s] w (ParseRes s w) := by
  have hl : s.data.toList.length = s.size := Array.length_toList
  by_cases h0 : s.data.toList = [110, 117, 108, 108]
  · refine parse_by s ⟨#[]⟩ 0 0 w (by decide) (by unfold I64; omega) (by unfold I64; omega) (by rw [h0]; simp) hT fun w => ?_
    obtain rfl := of_data h0
    exact read_null w
  have hn : (s.toList == [110, 117, 108, 108]) = false := by rw [Lib.toList_data]; simpa using h0
  by_cases h1 : ∃ h : 2 ≤ s.size, ((s[0].toNat : Int) == 34) = true
  · obtain ⟨h2, hq⟩ := h1
    refine parse_by s _ 2 0 w ?_ (by unfold I64; omega) (by unfold I64; omega) (fun h => by rw [h] at hl; simp at hl; omega) hT fun w => read_text s w hs h2 hq hn
    rw [size_of]
    have h3 := unesc_len (inner s).data.toList
    have h4 : (inner s).data.toList.length = (inner s).size := Array.length_toList
    have h5 : (inner s).size ≤ s.size := by unfold inner; simp; omega
    unfold maxLen; omega
  have hq : (¬ (2 : Int) ≤ (s.size : Int)) ∨ ∃ h : 2 ≤ s.size, ((s[0].toNat : Int) == 34) = false := by
    by_cases h2 : 2 ≤ s.size
    · exact Or.inr ⟨h2, by rw [← Bool.not_eq_true]; exact fun h => h1 ⟨h2, h⟩⟩
    · exact Or.inl (by omega)
  cases hv : Lib.atoiAll s.data.toList with
  | ok v =>
    have hb := Lib.atoiAll_bounds hv
    refine parse_by s ⟨#[]⟩ 1 v w (by decide) (by unfold I64; omega) hb (fun h => ?_) hT fun w => read_num s v w hs hn hq hv
    rw [h] at hv; cases hv
  | _ =>
    refine (parse_none s w fun w' hb => read_no s w' (hE.stays hb (Nat.le_refl _)) hs hn hq (by rw [hv]; intro v h; cases h)).mono ?_
    rintro e w' ⟨rfl, hb⟩
    exact ⟨Or.inr rfl, hb⟩
end Go.Proofs.YtfjhdfpdgjjcgaaGreatDoor
