/-
  Show: the text of a valid value, the empty string of another one.
  unquote: each backslash with a byte behind it is left out; what quote makes is undone.
  read: the only value that a text could be of. Parse: that value, if its text is this one.
-/
import Derived.Test.YtljoajjlkjjgeaaGreatDoorMV1
import Derived.Lib.LaidTab
import Derived.Lib.AtoiAll
import Derived.Lib.ConvBytes
import Derived.Lib.IndexBytes
namespace Go.Proofs.YtljoajjlkjjgeaaGreatDoor
open Go.RowKit Go.Sort

/-- What strconv.Itoa reads: its table of powers of ten. -/
def Tab (w : World) : Prop := Lib.TabIs Tryz.prog w "internal/strconv.uint64pow10" .u64 Lib.pow10Tab
theorem g_tab : Tryz.prog.globalNamed "internal/strconv.uint64pow10" = some 0 := by kernel_rfl
theorem Tab.stays {w w' : World} {B : Nat} (h : Tab w) (hb : Below B w w') (hB : w.heap.size ≤ B) : Tab w' := Joins.tab_stays g_tab h hb hB

theorem below_grow (w : World) (k : Nat) (os : Array Obj) : Below w.heap.size w (grow (w.drewN k) os) :=
 ⟨rfl, rfl, rfl, by simp [grow], fun j hj => by
  show ((w.heap ++ os)[j]? : Option Obj) = w.heap[j]?
  exact Array.getElem?_append_left hj⟩

theorem itoa_any (n : Int) (w : World) (hn : I64 n) (ht : Tab w) :
  Calls Tryz.prog 29 #[.int .i64 n] w fun e w' => e = .returned (.string ⟨(Lib.itoa n).toArray⟩) ∧ Below w.heap.size w w' := by
 refine (Tryz.strconv_Itoa n hn.1 hn.2 w ht).mono ?_
 rintro e w' ⟨rfl, k, os, rfl⟩
 exact ⟨rfl, below_grow w k os⟩

def showV (k n : Int) (s : ByteArray) : List UInt8 :=
 if rightV k n s then (if k = 1 then Lib.itoa n else if k = 2 then quoteL s.data.toList else [110, 117, 108, 108]) else []

theorem rightV_size {k n : Int} {s : ByteArray} (h : rightV k n s = true) : s.size ≤ 64 := by
 have he : ∀ t : ByteArray, t.toList.isEmpty = true → t.size ≤ 64 := by
  intro t ht
  rw [Lib.toList_data, List.isEmpty_iff] at ht
  have : t.data.toList.length = 0 := by rw [ht]; rfl
  have h2 : t.size = t.data.toList.length := by simp
  omega
 unfold rightV at h
 split at h
 ·exact he s (by simp at h; simpa using h.2)
 split at h
 ·exact he s h
 split at h
 ·unfold rightT at h; simp at h; exact h.2.1
 ·cases h

set_option maxHeartbeats 1000000 in
theorem show_any (k n : Int) (s : ByteArray) (w : World) (hs : s.size ≤ maxLen) (hn : I64 n) (ht : Tab w) :
  Calls Tryz.prog 16 #[vVal k n s] w fun e w' => e = .returned (.string ⟨(showV k n s).toArray⟩) ∧ Below w.heap.size w w' := by
 by_cases hr : rightV k n s = true
 ·have hs' := rightV_size hr
  have HV : Hid (showV k n s = if k = 1 then Lib.itoa n else if k = 2 then quoteL s.data.toList else [110, 117, 108, 108]) := Lib.hid (by unfold showV; rw [hr]; rfl)
  have HR := Lib.hid hr; clear hr
  have HT := Lib.hid ht; clear ht
  have HN := Lib.hid hn; clear hn
  go_enter Tryz.func16, Tryz.ntmps16
  go_wp2_with fail
  refine (right_any k n s _ hs).mono ?_
  rintro e w1 ⟨rfl, hb⟩
  rw [HR.out]
  obtain ⟨hc, hf⟩ := bcell hb
  have hz : w.heap.size < w1.heap.size := by have := hb.size; simp at this; omega
  have hb0 : Below w.heap.size w w1 := (Joins.below_alloc1 w _).trans (hb.mono (by simp))
  clear hb
  go_wp2_with (first | (go_at_call 29; refine (itoa_any n _ HN.out (Tab.stays HT.out hb0 (Nat.le_refl _))).mono ?_; rintro e w2 ⟨rfl, hb2⟩) | (go_at_call 30; refine (quote_any s _ (by omega)).mono ?_; rintro e w2 ⟨rfl, hb2⟩))
  ·rename_i hk
   go_ret
   exact ⟨ret_string (by rw [HV.out, if_pos (by simpa using hk)]), hb0.trans (hb2.mono (by omega))⟩
  ·rename_i hk1 hk
   go_ret
   exact ⟨ret_string (by rw [HV.out, if_neg (by simpa using hk1), if_pos (by simpa using hk)]), hb0.trans (hb2.mono (by omega))⟩
  ·rename_i hk1 hk
   go_ret
   exact ⟨ret_string (by rw [HV.out, if_neg (by simpa using hk1), if_neg (by simpa using hk)]), hb0⟩
 ·have hr' : rightV k n s = false := by simpa using hr
  have HV : Hid (showV k n s = []) := Lib.hid (by unfold showV; rw [hr']; rfl)
  have HR := Lib.hid hr'; clear hr hr'
  clear ht hn
  go_enter Tryz.func16, Tryz.ntmps16
  go_wp2_with fail
  refine (right_any k n s _ hs).mono ?_
  rintro e w1 ⟨rfl, hb⟩
  rw [HR.out]
  have hb0 : Below w.heap.size w w1 := (Joins.below_alloc1 w _).trans (hb.mono (by simp))
  clear hb
  go_wp2_with fail
  go_ret
  exact ⟨ret_string HV.out.symm, hb0⟩
end Go.Proofs.YtljoajjlkjjgeaaGreatDoor
namespace Go.Proofs.YtljoajjlkjjgeaaGreatDoor
open Go.RowKit

def unesc : List UInt8 → List UInt8
 | [] => []
 | [c] => [c]
 | c :: d :: r => if c = 92 then d :: unesc r else c :: unesc (d :: r)

theorem esc_cons (c : UInt8) (l : List UInt8) : esc (c :: l) = escByte c ++ esc l := by unfold esc; rw [List.flatMap_cons]
theorem unesc_esc : ∀ l : List UInt8, unesc (esc l) = l
 | [] => rfl
 | c :: l => by
  have ih := unesc_esc l
  rw [esc_cons]
  by_cases h : c = 34 ∨ c = 92
  ·have e : escByte c = [92, c] := by unfold escByte; rw [if_pos h]
   rw [e]
   show unesc (92 :: c :: esc l) = c :: l
   rw [unesc, if_pos rfl, ih]
  ·have e : escByte c = [c] := by unfold escByte; rw [if_neg h]
   rw [e]
   show unesc (c :: esc l) = c :: l
   generalize esc l = x at ih ⊢
   match x, ih with
   | [], ih => rw [← ih]; rfl
   | d :: r, ih => rw [unesc, if_neg (fun e => h (Or.inr e)), ih]

/-- What has been read up to place k, and what is still to come. -/
theorem unesc_len : ∀ l : List UInt8, (unesc l).length ≤ l.length
 | [] => Nat.le_refl _
 | [_] => Nat.le_refl _
 | c :: d :: r => by
  unfold unesc
  split
  ·have := unesc_len r; simp only [List.length_cons]; omega
  ·have := unesc_len (d :: r); simp only [List.length_cons] at this ⊢; omega

theorem drop_at {s : ByteArray} {k : Nat} (h : k < s.size) : s.data.toList.drop k = s[k] :: s.data.toList.drop (k + 1) := by
 rw [List.drop_eq_getElem_cons (by simpa using h)]; rfl
theorem unesc_skip {s : ByteArray} {k : Nat} (h : k < s.size) (h2 : k + 1 < s.size) (hc : s[k] = 92) : unesc (s.data.toList.drop k) = s[k + 1] :: unesc (s.data.toList.drop (k + 2)) := by
 rw [drop_at h, drop_at h2, unesc, if_pos hc]
theorem unesc_take {s : ByteArray} {k : Nat} (h : k < s.size) (hc : s[k] ≠ 92 ∨ ¬ k + 1 < s.size) : unesc (s.data.toList.drop k) = s[k] :: unesc (s.data.toList.drop (k + 1)) := by
 rw [drop_at h]
 by_cases h2 : k + 1 < s.size
 ·rw [drop_at h2, unesc, if_neg (by rcases hc with hc | hc; exact hc; exact absurd h2 hc)]
 ·rw [List.drop_eq_nil_of_le (by simp; omega)]; rfl

set_option maxHeartbeats 1000000 in
set_option maxRecDepth 100000 in
theorem unquote_any (s : ByteArray) (w : World) (hs : s.size ≤ 140737488355328) :
  Calls Tryz.prog 147 #[.string s] w fun e w' => e = .returned (.string ⟨(unesc s.data.toList).toArray⟩) ∧ Below w.heap.size w w' := by
 have hf := holds_fresh w
 have hb0 : Below w.heap.size w (w.alloc (.cells #[.pointer none, .slice none 0 0] 117)) := Joins.below_alloc1 w _
 go_enter Tryz.func147, Tryz.ntmps147
 go_wp2_with fail
 go_loopw [4] (fun i wr => ∃ (k : Nat) (l : List UInt8), k ≤ s.size ∧ i = .int .i64 k ∧ Hid (l ++ unesc (s.data.toList.drop k) = unesc s.data.toList) ∧ l.length ≤ k ∧ Holds w.heap.size w.heap.size l wr ∧ Below w.heap.size w wr ∧ w.heap.size + 1 ≤ wr.heap.size) (fun i _ => s.size - (intOf i).toNat)
 case atStart => exact ⟨0, [], Nat.zero_le _, rfl, Lib.hid rfl, Nat.le_refl _, hf, hb0, by simp⟩
 case round =>
  obtain ⟨k, l, hk, rfl, HL, hl, hh, hb, hz⟩ := hrel
  clear hf hb0
  by_cases hlt : k < s.size
  ·by_cases hq : s[k] = 92 ∧ k + 1 < s.size
   ·obtain ⟨hq, hq2⟩ := hq
    have hq1 : ((s[k].toNat : Int) == 92) = true := by rw [hq]; rfl
    have HU := Lib.hid (unesc_skip hlt hq2 hq)
    clear hq
    go_wp2_with fail
    refine (writeByte_any _ _ _ s[k + 1] _ hh (by omega) (by omega)).mono ?_
    rintro e w3 ⟨rfl, h3, hb3⟩
    have hz3 : wr.heap.size ≤ w3.heap.size := hb3.size
    have hb4 : Below w.heap.size w w3 := hb.trans hb3
    clear hb3 hb hh
    go_wp2_with fail
    go_roundw
    case rel => exact ⟨k + 2, l ++ [s[k + 1]], by omega, by go_num, Lib.hid (by rw [← HL.out, HU.out, List.append_assoc]; rfl), by simp; omega, h3, hb4, by omega⟩
    case measure => simp [intOf]; omega
   ·have HU := Lib.hid (unesc_take hlt (show s[k] ≠ 92 ∨ ¬ k + 1 < s.size by
     by_cases h92 : s[k] = 92
     ·exact Or.inr fun h => hq ⟨h92, h⟩
     ·exact Or.inl h92))
    have hQ : ((s[k].toNat : Int) == 92) = false ∨ (((s[k].toNat : Int) == 92) = true ∧ ¬ k + 1 < s.size) := by
     rw [show (92 : Int) = ((92 : Nat) : Int) from rfl, byte_eq _ 92 (by decide)]
     by_cases h92 : s[k] = 92
     ·exact Or.inr ⟨by simpa using h92, fun h => hq ⟨h92, h⟩⟩
     ·exact Or.inl (by simpa using h92)
    clear hq
    rcases hQ with hq1 | ⟨hq1, hq2⟩
    all_goals
     go_wp2_with fail
     refine (writeByte_any _ _ _ s[k] _ hh (by omega) (by omega)).mono ?_
     rintro e w3 ⟨rfl, h3, hb3⟩
     have hz3 : wr.heap.size ≤ w3.heap.size := hb3.size
     have hb4 : Below w.heap.size w w3 := hb.trans hb3
     clear hb3 hb hh
     go_wp2_with fail
     go_roundw
     case rel => exact ⟨k + 1, l ++ [s[k]], by omega, by go_num, Lib.hid (by rw [← HL.out, HU.out, List.append_assoc]; rfl), by simp; omega, h3, hb4, by omega⟩
     case measure => simp [intOf]; omega
  ·have HE : Hid (l = unesc s.data.toList) := Lib.hid (by
    have := HL.out
    rw [List.drop_eq_nil_of_le (by simp; omega)] at this
    simpa [unesc] using this)
   go_wp2_with fail
   refine (string_any _ _ _ _ hh (by omega)).mono ?_
   rintro e w3 ⟨rfl, hb3⟩
   have hb4 : Below w.heap.size w w3 := hb.trans hb3
   clear hb3 hb hh
   go_wp2_with fail
   go_ret
   exact ⟨ret_string HE.out, hb4⟩
end Go.Proofs.YtljoajjlkjjgeaaGreatDoor
namespace Go.Proofs.YtljoajjlkjjgeaaGreatDoor
open Go.RowKit Go.Sort

/-- The two errors that strconv.Atoi tells lie in their variables. -/
def Errs (w : World) : Prop := (∃ (t : TypeId) (p : Value), w.var? Tryz.prog "strconv.ErrSyntax" = some #[.iface t p]) ∧ ∃ (t : TypeId) (p : Value), w.var? Tryz.prog "strconv.ErrRange" = some #[.iface t p]
theorem g_syn : Tryz.prog.globalNamed "strconv.ErrSyntax" = some 4 := by kernel_rfl
theorem g_ran : Tryz.prog.globalNamed "strconv.ErrRange" = some 5 := by kernel_rfl
theorem Errs.stays {w w' : World} {B : Nat} (h : Errs w) (hb : Below B w w') (hB : w.heap.size ≤ B) : Errs w' := by
 obtain ⟨⟨t, p, h1⟩, u, q, h2⟩ := h
 exact ⟨⟨t, p, Joins.var_stays g_syn h1 hb hB⟩, u, q, Joins.var_stays g_ran h2 hb hB⟩

theorem below_bytes (w : World) (e : TypeId) (t : ByteArray) : Below w.heap.size w (Lib.bytesWorld w e t) :=
 ⟨by simp [Lib.bytesWorld, World.freeze, World.alloc, World.drew, -World.alloc_eq, -World.drew_eq], by simp [Lib.bytesWorld, World.freeze, World.alloc, World.drew, -World.alloc_eq, -World.drew_eq],
  by simp [Lib.bytesWorld, World.freeze, World.alloc, World.drew, -World.alloc_eq, -World.drew_eq], by simp [Lib.bytesWorld, World.freeze, World.alloc, World.drew, -World.alloc_eq, -World.drew_eq], fun k hk => Lib.bytesWorld_at_old w e t k hk⟩

theorem atoi_ok (s : ByteArray) (v : Int) (w : World) (hs : s.size ≤ 140737488355328) (h : Lib.atoiAll s.data.toList = .ok v) :
  Calls Tryz.prog 123 #[.string s] w fun e w' => e = .returned (.tuple #[.int .i64 v, .nilIface]) ∧ Below w.heap.size w w' := by
 refine (Tryz.strconv_Atoi_ok s (by omega) v h w).mono ?_
 rintro e w' ⟨rfl, hw⟩
 refine ⟨rfl, ?_⟩
 rcases hw with rfl | ⟨t, rfl⟩
 ·exact Below.refl _ _
 ·exact below_bytes w _ t

/-- A number and an error that is not nil. -/
def NoNum (w : World) (e : Ending) (w' : World) : Prop := ∃ (m : Int) (t : TypeId) (a : Addr), e = .returned (.tuple #[.int .i64 m, .iface t (.pointer (some a))]) ∧ Below w.heap.size w w'
theorem atoi_no (s : ByteArray) (w : World) (hs : s.size ≤ 140737488355328) (hE : Errs w) (h : ∀ v, Lib.atoiAll s.data.toList ≠ .ok v) :
  Calls Tryz.prog 123 #[.string s] w (NoNum w) := by
 obtain ⟨⟨t, p, h1⟩, u, q, h2⟩ := hE
 cases hx : Lib.atoiAll s.data.toList
 ·exact absurd hx (h _)
 ·refine (Tryz.strconv_Atoi_syntax_var s (by omega) hx t p w h1).mono ?_
  rintro e w' ⟨N, rfl, _, _, hb⟩
  exact ⟨_, _, _, rfl, hb⟩
 ·refine (Tryz.strconv_Atoi_range_var s (by omega) hx u q w h2).mono ?_
  rintro e w' ⟨N, rfl, _, _, hb⟩
  exact ⟨_, _, _, rfl, hb⟩

/-- A box of three cells that was there ahead of a draw and a call is there behind them, and may be written. -/
theorem boxKeep {w0 w1 w2 : World} {b : Nat} {x y z : Value} (hb : Below w1.drew.heap.size w1.drew w2) (hz : b < w1.heap.size) (g0 : w1.frozen? ⟨b, 0, none⟩ = false) (g1 : w1.frozen? ⟨b, 1, none⟩ = false) (g2 : w1.frozen? ⟨b, 2, none⟩ = false)
  (y0 : w1.cell? ⟨b, 0, none⟩ = some x) (y1 : w1.cell? ⟨b, 1, none⟩ = some y) (y2 : w1.cell? ⟨b, 2, none⟩ = some z) (q : Below w0.heap.size w0 w1) :
  w2.frozen? ⟨b, 0, none⟩ = false ∧ w2.frozen? ⟨b, 1, none⟩ = false ∧ w2.frozen? ⟨b, 2, none⟩ = false ∧ w2.cell? ⟨b, 0, none⟩ = some x ∧ w2.cell? ⟨b, 1, none⟩ = some y ∧ w2.cell? ⟨b, 2, none⟩ = some z ∧ Below w0.heap.size w0 w2 := by
 have hz' : b < w1.drew.heap.size := hz
 refine ⟨(hb.frozen (p := ⟨b, 0, none⟩) hz').trans g0, (hb.frozen (p := ⟨b, 1, none⟩) hz').trans g1, (hb.frozen (p := ⟨b, 2, none⟩) hz').trans g2,
  (hb.cell (p := ⟨b, 0, none⟩) hz').trans y0, (hb.cell (p := ⟨b, 1, none⟩) hz').trans y1, (hb.cell (p := ⟨b, 2, none⟩) hz').trans y2, ?_⟩
 exact q.drew.trans (hb.mono q.size)

/-- What stands between the first byte and the last. -/
abbrev inner (s : ByteArray) : ByteArray := s.extract 1 (s.size - 1)

set_option maxHeartbeats 1000000 in
theorem read_null (w : World) : Calls Tryz.prog 137 #[.string ⟨#[110, 117, 108, 108]⟩] w fun e w' => e = .returned (.tuple #[vNull, .bool true]) ∧ Below w.heap.size w w' := by
 go_enter Tryz.func137, Tryz.ntmps137
 go_wp2_with fail
 refine (null_anyK _).mono ?_
 rintro e w2 ⟨rfl, hb⟩
 obtain ⟨hc, hf⟩ := bcell hb
 have hb0 : Below w.heap.size w w2 := (Joins.below_alloc1 w _).trans (hb.mono (by simp))
 clear hb
 go_wp2_with fail
 refine bodyPost_ret (v := .tuple #[vNull, .bool true]) (by simp [results, Tryz.results137, go_sem, hc]) rfl ⟨rfl, ?_⟩
 go_grown

set_option maxHeartbeats 1000000 in
theorem read_text (s : ByteArray) (w : World) (hs : s.size ≤ 140737488355328) (h2 : 2 ≤ s.size) (hq : ((s[0].toNat : Int) == 34) = true) (hn : (s.toList == [110, 117, 108, 108]) = false) :
  Calls Tryz.prog 137 #[.string s] w fun e w' => e = .returned (.tuple #[vVal 2 0 ⟨(unesc (inner s).data.toList).toArray⟩, .bool true]) ∧ Below w.heap.size w w' := by
 have hz : (inner s).size ≤ 140737488355328 := by
  have : (inner s).size ≤ s.size := by unfold inner; simp; omega
  omega
 have HU := Lib.hid (fun w => unquote_any (inner s) w hz)
 clear hz
 go_enter Tryz.func137, Tryz.ntmps137
 go_wp2_with fail
 refine (HU.out _).mono ?_
 rintro e w1 ⟨rfl, hb1⟩
 obtain ⟨hc1, hf1⟩ := bcell hb1
 have q1 : Below w.heap.size w w1 := (Joins.below_alloc1 w _).trans (hb1.mono (by simp))
 have z1 : w.heap.size < w1.heap.size := by have := hb1.size; simp at this; omega
 clear hb1
 go_wp2_with fail
 refine (text_any _ _).mono ?_
 rintro e w2 ⟨rfl, hb⟩
 obtain ⟨hc, hf⟩ := bcell hb
 have hb0 : Below w.heap.size w w2 := q1.trans (hb.mono q1.size)
 clear hb
 go_wp2_with fail
 refine bodyPost_ret (v := .tuple #[vVal 2 0 _, .bool true]) (by simp [results, Tryz.results137, go_sem, hc, hc1, z1]) rfl ⟨rfl, ?_⟩
 go_grown

set_option maxHeartbeats 2000000 in
theorem read_num (s : ByteArray) (v : Int) (w : World) (hs : s.size ≤ 140737488355328) (hn : (s.toList == [110, 117, 108, 108]) = false) (hq : (¬ (2 : Int) ≤ (s.size : Int)) ∨ ∃ h : 2 ≤ s.size, ((s[0].toNat : Int) == 34) = false)
  (hv : Lib.atoiAll s.data.toList = .ok v) :
  Calls Tryz.prog 137 #[.string s] w fun e w' => e = .returned (.tuple #[vInt v, .bool true]) ∧ Below w.heap.size w w' := by
 have HA := Lib.hid (fun w => atoi_ok s v w hs hv)
 clear hv
 rcases hq with hq | ⟨h2, hq⟩
 all_goals
  go_enter Tryz.func137, Tryz.ntmps137
  go_wp2_with fail
  refine (HA.out _).mono ?_
  rintro e w1 ⟨rfl, hb1⟩
  obtain ⟨hc1, hf1⟩ := bcell hb1
  have q1 : Below w.heap.size w w1 := (Joins.below_alloc1 w _).trans (hb1.mono (by simp))
  have z1 : w.heap.size < w1.heap.size := by have := hb1.size; simp at this; omega
  clear hb1
  go_wp2_with fail
  have g0 : w1.frozen? ⟨w.heap.size, 0, none⟩ = false := (hf1 _ _ (by simp)).trans (by simp)
  have g1 : w1.frozen? ⟨w.heap.size, 1, none⟩ = false := (hf1 _ _ (by simp)).trans (by simp)
  have g2 : w1.frozen? ⟨w.heap.size, 2, none⟩ = false := (hf1 _ _ (by simp)).trans (by simp)
  have y0 : w1.cell? ⟨w.heap.size, 0, none⟩ = some (.int .i64 0) := (hc1 _ _ (by simp)).trans (by simp)
  have y1 : w1.cell? ⟨w.heap.size, 1, none⟩ = some (.int .i64 0) := (hc1 _ _ (by simp)).trans (by simp)
  have y2 : w1.cell? ⟨w.heap.size, 2, none⟩ = some (.string ⟨#[]⟩) := (hc1 _ _ (by simp)).trans (by simp)
  clear hc1 hf1
  go_region_with (first | (go_at_call 20; refine (of_any _ _).mono ?_; rintro e w2 ⟨rfl, hb⟩; obtain ⟨G0, G1, G2, Y0, Y1, Y2, Q⟩ := boxKeep hb z1 g0 g1 g2 y0 y1 y2 q1))
  all_goals
   go_wp2_with fail
   refine bodyPost_ret (v := .tuple #[vInt v, .bool true]) (by simp [results, Tryz.results137, go_sem, *]) rfl ⟨rfl, ?_⟩
   go_grown
/-- A number, and that it is none. -/
def NoValue (w : World) (e : Ending) (w' : World) : Prop := ∃ m : Int, e = .returned (.tuple #[vInt m, .bool false]) ∧ Below w.heap.size w w'

set_option maxHeartbeats 2000000 in
theorem read_no (s : ByteArray) (w : World) (hE : Errs w) (hs : s.size ≤ 140737488355328) (hn : (s.toList == [110, 117, 108, 108]) = false) (hq : (¬ (2 : Int) ≤ (s.size : Int)) ∨ ∃ h : 2 ≤ s.size, ((s[0].toNat : Int) == 34) = false)
  (hv : ∀ v, Lib.atoiAll s.data.toList ≠ .ok v) :
  Calls Tryz.prog 137 #[.string s] w (NoValue w) := by
 have HA := Lib.hid (fun w hE => atoi_no s w hs hE hv)
 have HE := Lib.hid hE
 clear hv hE
 rcases hq with hq | ⟨h2, hq⟩
 all_goals
  go_enter Tryz.func137, Tryz.ntmps137
  go_wp2_with fail
  refine (HA.out _ (HE.out.stays (Joins.below_alloc1 w _) (Nat.le_refl _))).mono ?_
  rintro e w1 ⟨v, te, ae, rfl, hb1⟩
  obtain ⟨hc1, hf1⟩ := bcell hb1
  have q1 : Below w.heap.size w w1 := (Joins.below_alloc1 w _).trans (hb1.mono (by simp))
  have z1 : w.heap.size < w1.heap.size := by have := hb1.size; simp at this; omega
  clear hb1
  go_wp2_with fail
  have g0 : w1.frozen? ⟨w.heap.size, 0, none⟩ = false := (hf1 _ _ (by simp)).trans (by simp)
  have g1 : w1.frozen? ⟨w.heap.size, 1, none⟩ = false := (hf1 _ _ (by simp)).trans (by simp)
  have g2 : w1.frozen? ⟨w.heap.size, 2, none⟩ = false := (hf1 _ _ (by simp)).trans (by simp)
  have y0 : w1.cell? ⟨w.heap.size, 0, none⟩ = some (.int .i64 0) := (hc1 _ _ (by simp)).trans (by simp)
  have y1 : w1.cell? ⟨w.heap.size, 1, none⟩ = some (.int .i64 0) := (hc1 _ _ (by simp)).trans (by simp)
  have y2 : w1.cell? ⟨w.heap.size, 2, none⟩ = some (.string ⟨#[]⟩) := (hc1 _ _ (by simp)).trans (by simp)
  clear hc1 hf1
  go_region_with (first | (go_at_call 20; refine (of_any _ _).mono ?_; rintro e w2 ⟨rfl, hb⟩; obtain ⟨G0, G1, G2, Y0, Y1, Y2, Q⟩ := boxKeep hb z1 g0 g1 g2 y0 y1 y2 q1))
  all_goals
   go_wp2_with fail
   refine bodyPost_ret (v := .tuple #[vInt v, .bool false]) (by simp [results, Tryz.results137, go_sem, *]) rfl ⟨v, rfl, ?_⟩
   go_grown

set_option maxHeartbeats 1000000 in
theorem parse_none (s : ByteArray) (w : World) (hR : ∀ w', Below w.heap.size w w' → Calls Tryz.prog 137 #[.string s] w' (NoValue w')) :
  Calls Tryz.prog 125 #[.string s] w fun e w' => e = .returned (.tuple #[vNull, .int .i64 20]) ∧ Below w.heap.size w w' := by
 have HR := Lib.hid hR; clear hR
 go_enter Tryz.func125, Tryz.ntmps125
 go_wp2_with fail
 refine (HR.out _ (Joins.below_alloc1 w _)).mono ?_
 rintro e w1 ⟨m, rfl, hb1⟩
 obtain ⟨hc1, hf1⟩ := bcell hb1
 have q1 : Below w.heap.size w w1 := (Joins.below_alloc1 w _).trans (hb1.mono (by simp))
 have z1 : w.heap.size < w1.heap.size := by have := hb1.size; simp at this; omega
 clear hb1
 go_wp2_with fail
 refine bodyPost_ret (v := .tuple #[vNull, .int .i64 20]) (by simp [results, Tryz.results125, go_sem, hc1, z1]) rfl ⟨rfl, ?_⟩
 go_grown

set_option maxHeartbeats 1000000 in
theorem parse_some (s b t : ByteArray) (k n : Int) (β : Bool) (w : World) (hR : ∀ w, Calls Tryz.prog 137 #[.string s] w fun e w' => e = .returned (.tuple #[vVal k n t, .bool true]) ∧ Below w.heap.size w w')
  (hS : ∀ w', Below w.heap.size w w' → Calls Tryz.prog 16 #[vVal k n t] w' fun e w'' => e = .returned (.string b) ∧ Below w'.heap.size w' w'') (hβ : (b.toList == s.toList) = β) :
  Calls Tryz.prog 125 #[.string s] w fun e w' => e = .returned (if β then .tuple #[vVal k n t, .int .i64 0] else .tuple #[vNull, .int .i64 20]) ∧ Below w.heap.size w w' := by
 have HR := Lib.hid hR; have HS := Lib.hid hS; clear hR hS
 cases β
 all_goals
  go_enter Tryz.func125, Tryz.ntmps125
  go_wp2_with fail
  refine (HR.out _).mono ?_
  rintro e w1 ⟨rfl, hb1⟩
  obtain ⟨hc1, hf1⟩ := bcell hb1
  have q1 : Below w.heap.size w w1 := (Joins.below_alloc1 w _).trans (hb1.mono (by simp))
  have z1 : w.heap.size < w1.heap.size := by have := hb1.size; simp at this; omega
  go_wp2_with fail
  refine (HS.out _ (q1.alloc q1.size _)).mono ?_
  rintro e w2 ⟨rfl, hb2⟩
  obtain ⟨hc2, hf2⟩ := bcell hb2
  have q2 : Below w.heap.size w w2 := (q1.alloc q1.size _).trans (hb2.mono (q1.alloc q1.size _).size)
  have z2 : w1.heap.size < w2.heap.size := by have := hb2.size; simp at this; omega
  have z3 : w.heap.size < w2.heap.size := by omega
  have r := (hb1.alloc hb1.size _).trans (hb2.mono (hb1.alloc hb1.size _).size)
  have y0 := (r.cell (p := ⟨w.heap.size, 0, none⟩) (by simp)).trans (World.cell?_alloc_mark w _ _ (0, 0) 0)
  have y1 := (r.cell (p := ⟨w.heap.size, 1, none⟩) (by simp)).trans (World.cell?_alloc_mark w _ _ (0, 0) 1)
  have y2 := (r.cell (p := ⟨w.heap.size, 2, none⟩) (by simp)).trans (World.cell?_alloc_mark w _ _ (0, 0) 2)
  simp at y0 y1 y2
  clear hb1 hb2 r
  go_wp2_with fail
 ·refine bodyPost_ret (v := .tuple #[vNull, .int .i64 20]) (by simp [results, Tryz.results125, go_sem, y0, y1, y2]) rfl ⟨rfl, ?_⟩
  go_grown
 ·refine bodyPost_ret (v := .tuple #[vVal k n t, .int .i64 0]) (by simp [results, Tryz.results125, go_sem, y0, y1, y2]) rfl ⟨rfl, ?_⟩
  go_grown
end Go.Proofs.YtljoajjlkjjgeaaGreatDoor
