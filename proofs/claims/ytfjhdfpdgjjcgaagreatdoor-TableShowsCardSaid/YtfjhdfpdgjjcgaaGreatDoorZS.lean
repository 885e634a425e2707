/-
  Schemas read from their texts, and the document's texts of schemas.
-/
import Derived.Test.YtfjhdfpdgjjcgaaGreatDoorSCheck
import Derived.Test.YtfjhdfpdgjjcgaaGreatDoorShelf
import Derived.Test.YtfjhdfpdgjjcgaaGreatDoorSShowL
import Derived.Test.YtfjhdfpdgjjcgaaGreatDoorSShow

/-
  Parse of a schema's text: what one column's text is read as, the parts between brackets, and what comes of them.
-/
namespace Go.Proofs.YtfjhdfpdgjjcgaaGreatDoor
open Go.RowKit

/-- The library's variable MaxLen holds some number. -/
def Mx (w : World) : Prop := ∃ m : Int, w.cell? ⟨0, 0, none⟩ = some (.int .i64 m)
theorem Mx.stays {w w' : World} (h : Mx w) (hb : Below w.heap.size w w') : Mx w' := by
  obtain ⟨m, hm⟩ := h
  refine ⟨m, (hb.cell (p := ⟨0, 0, none⟩) ?_).trans hm⟩
  rcases Nat.lt_or_ge 0 w.heap.size with h' | h'
  · exact h'
  · exfalso
    have : w.heap[0]? = none := Array.getElem?_eq_none h'
    simp [World.cell?, this] at hm

/-- The slice at A reads as these texts, and lies below block B. -/
def StrsAt (B : Nat) (w : World) (A : Option Addr) (l : List ByteArray) : Prop :=
  ∀ j, j < l.length → ∃ b off, A = some ⟨b, off, none⟩ ∧ b < B ∧ w.cell? ⟨b, off + j, none⟩ = some (.string (l.getD j ⟨#[]⟩))
theorem StrsAt.below {B : Nat} {w w' : World} {A : Option Addr} {l : List ByteArray} (h : StrsAt B w A l) (hb : Below B w w') : StrsAt B w' A l := fun j hj => by
  obtain ⟨b, off, e, hlt, h0⟩ := h j hj
  exact ⟨b, off, e, hlt, (hb.cell (p := ⟨b, off + j, none⟩) hlt).trans h0⟩
theorem StrsAt.mono {B B' : Nat} {w : World} {A : Option Addr} {l : List ByteArray} (h : StrsAt B w A l) (hB : B ≤ B') : StrsAt B' w A l := fun j hj => by
  obtain ⟨b, off, e, hlt, r⟩ := h j hj
  exact ⟨b, off, e, Nat.lt_of_lt_of_le hlt hB, r⟩

def typeN (s : ByteArray) : Int := if s.data.toList = [105, 110, 116] then 1 else if s.data.toList = [116, 101, 120, 116] then 2 else 0
def readC (p : ByteArray) : ByteArray × Int := (⟨(Lib.cut p.data.toList [32]).1.toArray⟩, typeN ⟨(Lib.cut p.data.toList [32]).2.1.toArray⟩)

set_option maxHeartbeats 800000 in
theorem typeOf_any (s : ByteArray) (w : World) : Calls Tryz.prog 106 #[.string s] w fun e w' => e = .returned (.int .i64 (typeN s)) ∧ w = w' := by
  by_cases h1 : s.data.toList = [105, 110, 116]
  · have HR := hide (show typeN s = 1 by unfold typeN; rw [if_pos h1])
    have he : (s.toList == [105, 110, 116]) = true := by rw [Lib.toList_data, h1]; rfl
    clear h1
    go_enter Tryz.func106, Tryz.ntmps106
    go_wp2
    go_ret
    exact ⟨ret_int HR.out.symm, rfl⟩
  have he : (s.toList == [105, 110, 116]) = false := by rw [Lib.toList_data]; simpa using h1
  by_cases h2 : s.data.toList = [116, 101, 120, 116]
  · have HR := hide (show typeN s = 2 by unfold typeN; rw [if_neg h1, if_pos h2])
    have he2 : (s.toList == [116, 101, 120, 116]) = true := by rw [Lib.toList_data, h2]; rfl
    clear h1 h2
    go_enter Tryz.func106, Tryz.ntmps106
    go_wp2
    go_ret
    exact ⟨ret_int HR.out.symm, rfl⟩
  · have HR := hide (show typeN s = 0 by unfold typeN; rw [if_neg h1, if_neg h2])
    have he2 : (s.toList == [116, 101, 120, 116]) = false := by rw [Lib.toList_data]; simpa using h2
    clear h1 h2
    go_enter Tryz.func106, Tryz.ntmps106
    go_wp2
    go_ret
    exact ⟨ret_int HR.out.symm, rfl⟩

set_option maxHeartbeats 800000 in
theorem readColumn_any (p : ByteArray) (w : World) (hs : p.size < 4294967281) (hm : Mx w) :
    Calls Tryz.prog 85 #[.string p] w fun e w' => e = .returned (vCol (readC p).1 (readC p).2) ∧ Below w.heap.size w w' := by
  have HM := hide hm; clear hm
  have HR := hide (show readC p = (⟨(Lib.cut p.data.toList [32]).1.toArray⟩, typeN ⟨(Lib.cut p.data.toList [32]).2.1.toArray⟩) from rfl)
  have HC := hide (fun m w hm => Tryz.strings_Cut p ⟨#[32]⟩ m w hs hm)
  go_enter Tryz.func85, Tryz.ntmps85
  go_wp2_with fail
  obtain ⟨m, hm⟩ := HM.out.stays ((Below.refl _ _).alloc (Nat.le_refl _) (.cells #[.string ⟨#[]⟩, .int .i64 0] 52))
  refine (HC.out m _ hm).mono ?_
  clear hm
  rintro e w' ⟨rfl, n, rfl⟩
  generalize Lib.cut p.data.toList [32] = q at HR ⊢
  obtain ⟨a, b, c⟩ := q
  go_wp2_with (go_at_call 106; refine (typeOf_any _ _).mono ?_; rintro e w' ⟨rfl, rfl⟩)
  go_returns
  exact ⟨by rw [HR.out], ((below_drewN ((Below.refl _ _).alloc (Nat.le_refl _) _) _).setCell (Nat.le_refl _) _).setCell (Nat.le_refl _) _⟩

/-- The parts of what stands between the brackets, and the columns that they are read as. -/
def partsOf (t : ByteArray) : List ByteArray := Lib.splitB ⟨#[44, 32]⟩ 0 (min 17 ((t.extract 1 (t.size - 1)).size + 1) - 1) (t.extract 1 (t.size - 1))
def colsOf (t : ByteArray) : List (ByteArray × Int) := (partsOf t).map readC
def bracketed (t : ByteArray) : Bool := decide (2 ≤ t.size) && (t.data.toList.getD 0 0 == 40 && t.data.toList.getD (t.size - 1) 0 == 41)

theorem parts_len (t : ByteArray) : (partsOf t).length ≤ 17 := by
  have := Lib.splitB_length_le ⟨#[44, 32]⟩ 0 (min 17 ((t.extract 1 (t.size - 1)).size + 1) - 1) (t.extract 1 (t.size - 1))
  unfold partsOf; omega

/-- SplitN, as Parse calls it: the parts, in a block of their own. -/
theorem splitN_any (u : ByteArray) (w : World) (hs : u.size < 4294967281) (hm : Mx w) :
    Calls Tryz.prog 84 #[.string u, .string ⟨#[44, 32]⟩, .int .i64 17] w fun e w' => e = .returned (.slice (some ⟨w.heap.size, 0, none⟩) (Lib.splitB ⟨#[44, 32]⟩ 0 (min 17 (u.size + 1) - 1) u).length (min 17 (u.size + 1))) ∧
      StrsAt w'.heap.size w' (some ⟨w.heap.size, 0, none⟩) (Lib.splitB ⟨#[44, 32]⟩ 0 (min 17 (u.size + 1) - 1) u) ∧ Below w.heap.size w w' := by
  obtain ⟨m, hm⟩ := hm
  refine (Tryz.strings_SplitN u ⟨#[44, 32]⟩ 17 m w hs hm (by decide) (by decide) (by decide)).mono ?_
  rintro e w' ⟨rfl, rfl⟩
  refine ⟨rfl, fun j hj => ⟨w.heap.size, 0, rfl, by simp, ?_⟩, (Below.refl _ _).alloc (Nat.le_refl _) _⟩
  rw [Nat.zero_add]
  have hc : (Lib.cellsOf (Lib.splitB ⟨#[44, 32]⟩ 0 (min 17 (u.size + 1) - 1) u) (min 17 (u.size + 1)))[j]? = some (.string ((Lib.splitB ⟨#[44, 32]⟩ 0 (min 17 (u.size + 1) - 1) u).getD j ⟨#[]⟩)) := by
    unfold Lib.cellsOf
    rw [List.getElem?_toArray, List.getElem?_append_left (by simpa using hj), List.getElem?_map, List.getElem?_eq_getElem hj, List.getD_eq_getElem?_getD, List.getElem?_eq_getElem hj]
    rfl
  simp [hc]
end Go.Proofs.YtfjhdfpdgjjcgaaGreatDoor

/-
  The walk of Parse.
-/
namespace Go.Proofs.YtfjhdfpdgjjcgaaGreatDoor
open Go.RowKit

set_option maxHeartbeats 1600000 in
set_option maxRecDepth 100000 in
theorem parse_short (t : ByteArray) (w : World) (h : t.size < 2) :
    Calls Tryz.prog 63 #[.string t] w fun e w' => e = .returned (.tuple #[.slice none 0 0, .int .i64 20]) ∧ Below w.heap.size w w' := by
  go_enter Tryz.func63, Tryz.ntmps63
  go_wp2
  go_ret2
  exact ⟨rfl, Below.refl _ _⟩

set_option maxHeartbeats 1600000 in
set_option maxRecDepth 100000 in
theorem parse_first (t : ByteArray) (w : World) (h : 2 ≤ t.size) (h63 : t.size ≤ 9223372036854775807) (h0 : ((t[0].toNat : Int) != 40) = true) :
    Calls Tryz.prog 63 #[.string t] w fun e w' => e = .returned (.tuple #[.slice none 0 0, .int .i64 20]) ∧ Below w.heap.size w w' := by
  go_enter Tryz.func63, Tryz.ntmps63
  go_wp2
  go_ret2
  exact ⟨rfl, Below.refl _ _⟩

set_option maxHeartbeats 1600000 in
set_option maxRecDepth 100000 in
theorem parse_last (t : ByteArray) (w : World) (h : 2 ≤ t.size) (h63 : t.size ≤ 9223372036854775807) (h0 : ((t[0].toNat : Int) != 40) = false) (h1 : ((t[t.size - 1].toNat : Int) != 41) = true) :
    Calls Tryz.prog 63 #[.string t] w fun e w' => e = .returned (.tuple #[.slice none 0 0, .int .i64 20]) ∧ Below w.heap.size w w' := by
  go_enter Tryz.func63, Tryz.ntmps63
  go_wp2
  go_ret2
  exact ⟨rfl, Below.refl _ _⟩

theorem splitB_size (sep : ByteArray) : ∀ (k : Nat) (s p : ByteArray), p ∈ Lib.splitB sep 0 k s → p.size ≤ s.size
  | 0, s, p, h => by simp [Lib.splitB] at h; subst h; exact Nat.le_refl _
  | k + 1, s, p, h => by
    unfold Lib.splitB at h
    split at h
    · simp at h; subst h; exact Nat.le_refl _
    · rcases List.mem_cons.1 h with rfl | h
      · simp; omega
      · have := splitB_size sep k _ p h
        simp at this; omega
theorem cut_size (l sep : List UInt8) : (Lib.cut l sep).1.length ≤ l.length := by
  unfold Lib.cut; split
  · simp; omega
  · exact Nat.le_refl _
theorem typeN_cases (s : ByteArray) : typeN s = 0 ∨ typeN s = 1 ∨ typeN s = 2 := by
  unfold typeN; split
  · exact .inr (.inl rfl)
  · split
    · exact .inr (.inr rfl)
    · exact .inl rfl
theorem readC_wf (p : ByteArray) (h : p.size ≤ maxLen) : colWf (readC p) := by
  have h1 := cut_size p.data.toList [32]
  have h2 : p.data.toList.length = p.size := by simp
  have h3 := typeN_cases ⟨(Lib.cut p.data.toList [32]).2.1.toArray⟩
  refine ⟨?_, ?_, ?_⟩
  · show (⟨(Lib.cut p.data.toList [32]).1.toArray⟩ : ByteArray).size ≤ maxLen
    rw [size_of]; omega
  · show _ ≤ typeN _; omega
  · show typeN _ ≤ _; omega

/-- What Parse tells of the columns that it has read. -/
def ParseV (cs : List (ByteArray × Int)) (w : World) (e : Ending) (w' : World) : Prop :=
  (if checkC cs = 0 then ∃ A cap, e = .returned (.tuple #[.slice A cs.length cap, .int .i64 0]) ∧ ColsAt w'.heap.size w' A cs else e = .returned (.tuple #[.slice none 0 0, .int .i64 20])) ∧ Below w.heap.size w w'

theorem splitN_parts (t : ByteArray) (w : World) (hs : t.size < 4294967281) (hm : Mx w) :
    Calls Tryz.prog 84 #[.string (t.extract 1 (t.size - 1)), .string ⟨#[44, 32]⟩, .int .i64 17] w fun e w' => ∃ c : Nat, e = .returned (.slice (some ⟨w.heap.size, 0, none⟩) (partsOf t).length c) ∧
      StrsAt w'.heap.size w' (some ⟨w.heap.size, 0, none⟩) (partsOf t) ∧ Below w.heap.size w w' :=
  (splitN_any (t.extract 1 (t.size - 1)) w (by simp; omega) hm).mono fun _ _ ⟨a, b, c⟩ => ⟨_, a, b, c⟩
theorem parts_size (t p : ByteArray) (h : p ∈ partsOf t) : p.size ≤ t.size := by
  have := splitB_size _ _ _ _ h
  simp at this; omega

set_option maxHeartbeats 3200000 in
set_option maxRecDepth 100000 in
theorem parse_in (t : ByteArray) (w : World) (h : 2 ≤ t.size) (h63 : t.size < 4294967281) (h0 : ((t[0].toNat : Int) != 40) = false) (h1 : ((t[t.size - 1].toNat : Int) != 41) = false) (hm : Mx w) :
    Calls Tryz.prog 63 #[.string t] w (ParseV (colsOf t) w) := by
  have HD := hide (show colsOf t = (partsOf t).map readC from rfl)
  have HL : (partsOf t).length ≤ 17 := parts_len t
  have HZ := hide (fun p hp => Nat.lt_of_le_of_lt (parts_size t p hp) h63)
  have HM := hide hm
  have HS := hide (splitN_parts t w h63 hm); clear hm
  generalize partsOf t = L at HD HL HZ HS
  generalize colsOf t = cs at HD ⊢
  obtain ⟨i0, hi, hz0, hz1, hz2⟩ := info_parts col_info
  go_enter Tryz.func63, Tryz.ntmps63
  go_wp2_with fail
  refine HS.out.mono ?_
  rintro e w1 ⟨c, rfl, hP, hb1⟩
  have HM1 := hide (HM.out.stays hb1)
  have HP := hide hP
  have hz : w.heap.size ≤ w1.heap.size := hb1.size
  clear hP HM HS
  go_wp2_with fail
  go_loopw [4, 30] (fun v i wr => ∃ k : Nat, k ≤ L.length ∧ i = .int .i64 k ∧ wr.ownsRow w1.heap.size 52 2 v k (colCells (cs.take k)) ∧ Below w1.heap.size w1 wr) (fun _ i _ => L.length - (intOf i).toNat)
  case atStart => exact ⟨0, Nat.zero_le _, rfl, World.ownsRow_nil _ _ _ _, Below.refl _ _⟩
  case round =>
    obtain ⟨k, hk, rfl, hrow, hbw⟩ := hrel
    by_cases hlt : k < L.length
    · obtain ⟨b, off, e, hb, c0⟩ := HP.out.below hbw k hlt
      have hsz := HZ.out (L.getD k ⟨#[]⟩) (by rw [List.getD_eq_getElem?_getD, List.getElem?_eq_getElem hlt]; exact List.getElem_mem hlt)
      have HT := hide (show colCells (cs.take (k + 1)) = colCells (cs.take k) ++ [.string (readC (L.getD k ⟨#[]⟩)).1, .int .i64 (readC (L.getD k ⟨#[]⟩)).2] by
        rw [HD.out, take_col (by rw [List.length_map]; exact hlt), colCells_snoc, List.getD_eq_getElem?_getD, List.getElem?_map, List.getD_eq_getElem?_getD, List.getElem?_eq_getElem hlt]; rfl)
      obtain ⟨rfl, rfl⟩ : w.heap.size = b ∧ 0 = off := by simpa using e
      rw [Nat.zero_add] at c0
      clear e
      generalize L.getD k ⟨#[]⟩ = p at c0 hsz HT
      have HMr := hide (HM1.out.stays hbw)
      have HC := hide (readColumn_any p wr hsz HMr.out)
      generalize readC p = q at HC HT
      go_wp2_with fail
      refine HC.out.mono ?_
      rintro e w2 ⟨rfl, hb2⟩
      have hrow2 := hrow.kept (only_of_below hb2 none) (by cases hv : u4.ownBlock <;> simp)
      have hs2 := hb2.size
      have hs1 := hbw.size
      clear HC
      go_wp2_with (at_builtin; go_must (refine wpList_append_own _ rfl _ _ 23 rfl w1.heap.size 52 i0 (.agg #[.string ⟨#[]⟩, .int .i64 0]) 2 24 Tryz.underlying23 hi hz0 hz1 hz2 rfl (by decide) _ _ _ rfl (hrow2.alloc _) ⟨w2.heap.size, 0, none⟩ 1 1 [.string q.1, .int .i64 q.2] rfl rfl (col_new _ _ q _ (by simp)) (col_one q) (by unfold maxLen; omega) (by omega) (by simp; omega) ?_))
      intro v' w3 hown' hgrow _
      have hs3 := hgrow.size
      simp at hs3
      go_wp2
      go_roundw
      case rel =>
        refine ⟨k + 1, by omega, by go_num, ?_, ?_⟩
        · rw [HT.out]; exact hown'
        · exact (((hbw.trans (hb2.mono hs1)).alloc (by omega) _).grown hgrow (by simp; omega) (fun j hj => (hrow.lt j hj).1))
      case measure => simp [intOf]; omega
    · obtain rfl : k = L.length := by omega
      have HLn := hide (show cs.length = L.length by rw [HD.out, List.length_map])
      rw [← HLn.out, List.take_length] at hrow
      obtain ⟨A', cap', rfl, hA⟩ := cols_of_row hrow
      have hwf : Wf cs := by
        rw [HD.out]
        refine ⟨by rw [List.length_map]; unfold maxLen; omega, fun c hc => ?_⟩
        obtain ⟨p, hp, rfl⟩ := List.mem_map.1 hc
        exact readC_wf p (by have := HZ.out p hp; unfold maxLen; omega)
      have HC := hide (check_any A' cap' cs wr hA hwf)
      have HA := hide hA
      have hlc : cs.length ≤ 17 := by rw [HLn.out]; exact HL
      have hs1 := hbw.size
      clear hrow hA hwf
      have HP' := hide (show ∀ e w', ((if checkC cs = 0 then ∃ A cap, e = Ending.returned (.tuple #[.slice A cs.length cap, .int .i64 0]) ∧ ColsAt w'.heap.size w' A cs else e = .returned (.tuple #[.slice none 0 0, .int .i64 20])) ∧ Below w.heap.size w w') → ParseV cs w e w' from fun _ _ h => h)
      by_cases hz0 : checkC cs = 0
      · have hk0 : (checkC cs != 0) = false := by rw [bne_eq_false_iff_eq]; exact hz0
        have HZ0 := hide hz0; clear hz0
        go_wp2_with (go_at_call 36; refine HC.out.mono ?_; rintro e w2 ⟨rfl, hb2⟩)
        go_ret2
        refine HP'.out _ _ ⟨?_, hb1.trans ((hbw.mono hz).trans (hb2.mono (by omega)))⟩
        rw [if_pos HZ0.out]
        exact ⟨A', cap', rfl, (HA.out.below hb2).mono hb2.size⟩
      · have hk0 : (checkC cs != 0) = true := by rw [bne_iff_ne]; exact hz0
        have HZ0 := hide hz0; clear hz0
        go_wp2_with (go_at_call 36; refine HC.out.mono ?_; rintro e w2 ⟨rfl, hb2⟩)
        go_ret2
        refine HP'.out _ _ ⟨?_, hb1.trans ((hbw.mono hz).trans (hb2.mono (by omega)))⟩
        rw [if_neg HZ0.out]
        rfl

/-- The columns whose text this is, if the text between brackets is read so and they are valid. -/
def parsedC (t : ByteArray) : Option (List (ByteArray × Int)) := if bracketed t = true ∧ checkC (colsOf t) = 0 then some (colsOf t) else none

/-- What Parse tells of any text. -/
def ParseR (t : ByteArray) (w : World) (e : Ending) (w' : World) : Prop :=
  (match parsedC t with
    | some cs => ∃ A cap, e = .returned (.tuple #[.slice A cs.length cap, .int .i64 0]) ∧ ColsAt w'.heap.size w' A cs
    | none => e = .returned (.tuple #[.slice none 0 0, .int .i64 20])) ∧ Below w.heap.size w w'

theorem parse_any (t : ByteArray) (w : World) (ht : t.size < 4294967281) (hm : Mx w) :
    Calls Tryz.prog 63 #[.string t] w (ParseR t w) := by
  by_cases h2 : 2 ≤ t.size
  · have g0 := getD_at t 0 (by omega)
    have g1 := getD_at t (t.size - 1) (by omega)
    have hn : ∀ x : UInt8, ∀ n : Nat, n < 256 → (((x.toNat : Int) != (n : Int)) = true ↔ (x == UInt8.ofNat n) = false) := fun x n h => by
      rw [bne_iff_ne, beq_eq_false_iff_ne, Ne, Ne, not_congr]
      constructor
      · intro e; exact UInt8.toNat_inj.1 (by simp; omega)
      · rintro rfl; simp; omega
    by_cases b0 : ((t[0].toNat : Int) != 40) = true
    · refine (parse_first t w h2 (by omega) b0).mono fun e w' ⟨he, hb⟩ => ⟨?_, hb⟩
      have : parsedC t = none := by
        unfold parsedC bracketed
        rw [g0, show ((t[0] == 40) = false) from (hn t[0] 40 (by decide)).1 b0]; simp
      rw [this]; exact he
    by_cases b1 : ((t[t.size - 1].toNat : Int) != 41) = true
    · refine (parse_last t w h2 (by omega) (by simpa using b0) b1).mono fun e w' ⟨he, hb⟩ => ⟨?_, hb⟩
      have : parsedC t = none := by
        unfold parsedC bracketed
        rw [g1, show ((t[t.size - 1] == 41) = false) from (hn t[t.size - 1] 41 (by decide)).1 b1]; simp
      rw [this]; exact he
    have c0 : (t[0] == 40) = true := by
      cases h : t[0] == 40
      · exact absurd ((hn t[0] 40 (by decide)).2 h) b0
      · rfl
    have c1 : (t[t.size - 1] == 41) = true := by
      cases h : t[t.size - 1] == 41
      · exact absurd ((hn t[t.size - 1] 41 (by decide)).2 h) b1
      · rfl
    have hB : bracketed t = true := by unfold bracketed; rw [g0, g1, c0, c1]; simp [h2]
    refine (parse_in t w h2 ht (by simpa using b0) (by simpa using b1) hm).mono fun e w' ⟨he, hb⟩ => ⟨?_, hb⟩
    unfold parsedC
    by_cases hz : checkC (colsOf t) = 0
    · rw [if_pos ⟨hB, hz⟩]; rw [if_pos hz] at he; exact he
    · rw [if_neg (fun h => hz h.2)]; rw [if_neg hz] at he; exact he
  · refine (parse_short t w (by omega)).mono fun e w' ⟨he, hb⟩ => ⟨?_, hb⟩
    have : parsedC t = none := by
      unfold parsedC bracketed
      rw [show decide (2 ≤ t.size) = false by simp; omega]; simp
    rw [this]; exact he
end Go.Proofs.YtfjhdfpdgjjcgaaGreatDoor

/-
  The document's text of columns: what the law's own answer shows.
-/
namespace Go.Proofs.YtfjhdfpdgjjcgaaGreatDoor
open Go.RowKit

set_option maxHeartbeats 1600000 in
set_option maxRecDepth 100000 in
theorem refShow_any (A : Option Addr) (cap : Nat) (cs : List (ByteArray × Int)) (w : World) (hC : ColsAt w.heap.size w A cs) (hl : cs.length ≤ 65536) (hn : ∀ c ∈ cs, c.1.size ≤ 100) :
    Calls Tryz.prog 44 #[.slice A cs.length cap] w fun e w' => e = .returned (.string ⟨(showC cs).toArray⟩) ∧ Below w.heap.size w w' := by
  have HC := hide hC; clear hC
  have HN := hide (showK_len hn); have HN0 := hide hn; clear hn
  have HD := hide (show showC cs = showK cs cs.length ++ [41] from rfl)
  generalize showC cs = res at HD ⊢
  go_enter Tryz.func44, Tryz.ntmps44
  go_wp2
  go_loopw [3, 4] (fun v i wr => ∃ k : Nat, k ≤ cs.length ∧ i = .int .i64 k ∧ v = .string ⟨(showK cs k).toArray⟩ ∧ Below w.heap.size w wr) (fun _ i _ => cs.length - (intOf i).toNat)
  case atStart => exact ⟨0, Nat.zero_le _, rfl, rfl, Below.refl _ _⟩
  case round =>
    obtain ⟨k, hk, rfl, rfl, hbw⟩ := hrel
    by_cases hlt : k < cs.length
    · obtain ⟨b, off, rfl, hb, h0, h1⟩ := HC.out.below hbw k hlt
      have HS := hide (show showK cs (k + 1) = showK cs k ++ ((if 0 < k then [44, 32] else []) ++ ((cs.getD k (⟨#[]⟩, 0)).1.data.toList ++ tailC (cs.getD k (⟨#[]⟩, 0)).2)) from rfl)
      have hp := HN.out k
      have hcn : (cs.getD k (⟨#[]⟩, 0)).1.size ≤ 100 := HN0.out _ (by rw [List.getD_eq_getElem?_getD, List.getElem?_eq_getElem hlt]; exact List.getElem_mem hlt)
      generalize hcol : cs.getD k (⟨#[]⟩, 0) = c at h0 h1 HS hcn
      clear hcol
      generalize showK cs k = pre at *
      by_cases h0k : 0 < k
      all_goals
        have H0 := hide h0k
        cases htb : c.2 == 1
        all_goals
          have HT := hide htb
          go_wp2
          go_roundw
          case rel =>
            refine ⟨k + 1, by omega, by go_num, ?_, hbw⟩
            refine text_data ?_
            rw [HS.out]
            have hT := HT.out
            have h0 := H0.out
            unfold tailC
            simp_all
          case measure => simp [intOf]; omega
    · obtain rfl : k = cs.length := by omega
      have hp := HN.out cs.length
      generalize showK cs cs.length = pre at *
      go_wp2
      go_ret
      exact ⟨congrArg Ending.returned (text_data (by rw [HD.out]; simp)), hbw⟩
end Go.Proofs.YtfjhdfpdgjjcgaaGreatDoor

/-
  Parts put together with a separator, and taken apart again. No program in it.
-/
namespace Go.Proofs.YtfjhdfpdgjjcgaaGreatDoor
open Go.RowKit

def joinL (sep : List UInt8) : List (List UInt8) → List UInt8
  | [] => []
  | [x] => x
  | x :: y :: r => x ++ (sep ++ joinL sep (y :: r))
theorem joinL_cons {sep x : List UInt8} {r : List (List UInt8)} (h : r ≠ []) : joinL sep (x :: r) = x ++ (sep ++ joinL sep r) := by
  cases r with
  | nil => exact absurd rfl h
  | cons y r => rfl
theorem joinL_snoc (sep x : List UInt8) : ∀ (l : List (List UInt8)), l ≠ [] → joinL sep (l ++ [x]) = joinL sep l ++ (sep ++ x)
  | [], h => absurd rfl h
  | [y], _ => rfl
  | y :: z :: r, _ => by
    have ih := joinL_snoc sep x (z :: r) (by simp)
    show y ++ (sep ++ joinL sep ((z :: r) ++ [x])) = _
    rw [ih]; simp [joinL]

theorem splitK_ne (sep : List UInt8) (save : Nat) : ∀ (k : Nat) (s : List UInt8), Lib.splitK sep save k s ≠ []
  | 0, s => by simp [Lib.splitK]
  | k + 1, s => by unfold Lib.splitK; split <;> simp
/-- Where a part begins: it is there. -/
theorem index_at {s sep : List UInt8} (h : ¬ (Lib.index s sep == -1) = true) : s = s.take (Lib.index s sep).toNat ++ (sep ++ s.drop ((Lib.index s sep).toNat + sep.length)) := by
  rcases Lib.index_spec s sep with ⟨h1, _⟩ | ⟨i, h1, h2, h3, _⟩
  · rw [h1] at h; exact absurd rfl h
  · rw [h1, Int.toNat_natCast]
    unfold Lib.occAt at h3
    rw [List.isPrefixOf_iff_prefix] at h3
    obtain ⟨r, hr⟩ := h3
    have : s.drop (i + sep.length) = r := by rw [← List.drop_drop, ← hr, List.drop_left]
    rw [this, hr, List.take_append_drop]
theorem join_split (sep : List UInt8) : ∀ (k : Nat) (s : List UInt8), joinL sep (Lib.splitK sep 0 k s) = s
  | 0, s => rfl
  | k + 1, s => by
    unfold Lib.splitK
    split
    · rfl
    · rename_i h
      rw [joinL_cons (splitK_ne _ _ _ _), join_split sep k, Nat.add_zero]
      exact (index_at h).symm

def oneC (c : ByteArray × Int) : List UInt8 := c.1.data.toList ++ tailC c.2
theorem showK_join (cs : List (ByteArray × Int)) : ∀ k, k ≤ cs.length → showK cs k = 40 :: joinL [44, 32] ((cs.take k).map oneC)
  | 0, _ => rfl
  | k + 1, hk => by
    have ih := showK_join cs k (by omega)
    unfold showK
    rw [ih, take_col (by omega), List.map_append, List.map_singleton]
    by_cases h0 : 0 < k
    · rw [if_pos h0, joinL_snoc _ _ _ (by simp; exact ⟨by omega, by rintro rfl; simp at hk⟩)]; simp [oneC]
    · obtain rfl : k = 0 := by omega
      rfl
theorem showC_join (cs : List (ByteArray × Int)) : showC cs = 40 :: (joinL [44, 32] (cs.map oneC) ++ [41]) := by
  unfold showC; rw [showK_join cs _ (Nat.le_refl _), List.take_length]; rfl

/-- A part that is read as a valid type is the text of what it is read as. -/
theorem one_readC {p : ByteArray} (h : (readC p).2 = 1 ∨ (readC p).2 = 2) : oneC (readC p) = p.data.toList := by
  unfold readC at h ⊢
  unfold Lib.cut at h ⊢
  by_cases hi : 0 ≤ Lib.index p.data.toList [32]
  · rw [if_pos hi] at h ⊢
    have hs := index_at (s := p.data.toList) (sep := [32]) (by rw [beq_iff_eq]; omega)
    simp only at h ⊢
    generalize List.take (Lib.index p.data.toList [32]).toNat p.data.toList = a at *
    generalize List.drop ((Lib.index p.data.toList [32]).toNat + [32].length) p.data.toList = b at *
    rw [hs]
    unfold oneC
    unfold typeN at h ⊢
    simp only at h ⊢
    by_cases h1 : b = [105, 110, 116]
    · subst h1; simp [tailC]
    · by_cases h2 : b = [116, 101, 120, 116]
      · subst h2; simp [tailC]
      · rw [if_neg h1, if_neg h2] at h; omega
  · rw [if_neg hi] at h
    simp only at h
    exfalso
    have : typeN ⟨([] : List UInt8).toArray⟩ = 0 := rfl
    rw [this] at h; omega
theorem bracketed_data {t : ByteArray} (h : bracketed t = true) : t.data.toList = 40 :: ((t.extract 1 (t.size - 1)).data.toList ++ [41]) := by
  unfold bracketed at h
  simp only [Bool.and_eq_true, decide_eq_true_eq, beq_iff_eq] at h
  obtain ⟨h2, h0, h1⟩ := h
  rw [Lib.extract_data]
  have hl : t.data.toList.length = t.size := by simp
  generalize t.data.toList = l at *
  generalize t.size = n at *
  subst hl
  match l, h2 with
  | a :: r, h2 =>
    simp at h0 h1 h2
    subst h0
    have hr : r ≠ [] := by rintro rfl; simp at h2
    have hd := List.dropLast_concat_getLast hr
    have hg : r.getLast hr = 41 := by
      rw [List.getLast_eq_getElem]
      rw [List.getElem_cons, dif_neg (by omega)] at h1
      exact h1
    rw [hg] at hd
    congr 1
    have : (40 :: r).length - 1 - 1 = r.length - 1 := by simp
    rw [this, List.drop_one, List.tail_cons, ← List.dropLast_eq_take, hd]
theorem parsedC_show {t : ByteArray} {cs : List (ByteArray × Int)} (h : parsedC t = some cs) : showC cs = t.data.toList ∧ checkC cs = 0 := by
  unfold parsedC at h
  split at h
  · rename_i hb
    injection h with h
    subst h
    refine ⟨?_, hb.2⟩
    have hparts : (partsOf t).map (·.data.toList) = Lib.splitK [44, 32] 0 (min 17 ((t.extract 1 (t.size - 1)).size + 1) - 1) (t.extract 1 (t.size - 1)).data.toList := Lib.splitB_data _ _ _ _
    have hj := join_split [44, 32] (min 17 ((t.extract 1 (t.size - 1)).size + 1) - 1) (t.extract 1 (t.size - 1)).data.toList
    rw [← hparts] at hj
    have he : (colsOf t).map oneC = (partsOf t).map (·.data.toList) := by
      unfold colsOf
      rw [List.map_map]
      refine List.map_congr_left fun p hp => ?_
      refine one_readC ?_
      obtain ⟨_, _, hcl⟩ := checkC_ok hb.2
      obtain ⟨j, hj, e⟩ := List.getElem_of_mem hp
      have := (badC_name (hcl j (by unfold colsOf; simpa using hj))).2.1
      unfold colsOf at this
      rw [List.getD_eq_getElem?_getD, List.getElem?_map, List.getElem?_eq_getElem hj, e] at this
      exact this
    rw [showC_join, bracketed_data hb.1, he, hj]
  · cases h
end Go.Proofs.YtfjhdfpdgjjcgaaGreatDoor

/-
  The text of valid columns is read back as them.
-/
namespace Go.Proofs.YtfjhdfpdgjjcgaaGreatDoor
open Go.RowKit

theorem index_after (a : UInt8) (sep rest : List UInt8) : ∀ (x : List UInt8), (∀ b ∈ x, b ≠ a) → Lib.index (x ++ (a :: sep ++ rest)) (a :: sep) = x.length
  | [], _ => by
    show Lib.index (a :: (sep ++ rest)) (a :: sep) = 0
    unfold Lib.index
    rw [if_pos]
    rw [List.isPrefixOf_iff_prefix]; exact ⟨rest, rfl⟩
  | b :: x, h => by
    have ih := index_after a sep rest x (fun c hc => h c (List.mem_cons_of_mem _ hc))
    have hb : b ≠ a := h b (List.mem_cons_self ..)
    show Lib.index (b :: (x ++ (a :: sep ++ rest))) (a :: sep) = _
    unfold Lib.index
    rw [if_neg (by
      rw [List.isPrefixOf_iff_prefix]
      rintro ⟨r, hr⟩
      simp only [List.cons_append, List.cons.injEq] at hr
      exact hb hr.1.symm), ih, if_neg (by rw [beq_iff_eq]; omega)]
    simp
theorem index_absent (a : UInt8) (sep : List UInt8) : ∀ (x : List UInt8), (∀ b ∈ x, b ≠ a) → Lib.index x (a :: sep) = -1
  | [], _ => rfl
  | b :: x, h => by
    have ih := index_absent a sep x (fun c hc => h c (List.mem_cons_of_mem _ hc))
    have hb : b ≠ a := h b (List.mem_cons_self ..)
    unfold Lib.index
    rw [if_neg (by
      rw [List.isPrefixOf_iff_prefix]
      rintro ⟨r, hr⟩
      simp only [List.cons_append, List.cons.injEq] at hr
      exact hb hr.1.symm), ih]
    rfl
theorem split_join (a : UInt8) (sep : List UInt8) : ∀ (l : List (List UInt8)) (k : Nat), l ≠ [] → l.length ≤ k + 1 → (∀ x ∈ l, ∀ b ∈ x, b ≠ a) → Lib.splitK (a :: sep) 0 k (joinL (a :: sep) l) = l
  | [], _, h, _, _ => absurd rfl h
  | [x], 0, _, _, _ => rfl
  | [x], k + 1, _, _, h => by
    show Lib.splitK (a :: sep) 0 (k + 1) x = [x]
    unfold Lib.splitK
    rw [index_absent a sep x (h x (by simp))]; rfl
  | x :: y :: r, 0, _, h, _ => by simp at h
  | x :: y :: r, k + 1, _, hl, h => by
    have hj : joinL (a :: sep) (x :: y :: r) = x ++ (a :: sep ++ joinL (a :: sep) (y :: r)) := rfl
    rw [hj]
    unfold Lib.splitK
    have hi := index_after a sep (joinL (a :: sep) (y :: r)) x (h x (by simp))
    rw [hi, if_neg (by rw [beq_iff_eq]; omega), Int.toNat_natCast, Nat.add_zero, List.take_left]
    congr 1
    have hd : (x ++ (a :: sep ++ joinL (a :: sep) (y :: r))).drop (x.length + (a :: sep).length) = joinL (a :: sep) (y :: r) := by
      rw [← List.append_assoc, ← List.length_append, List.drop_left]
    rw [hd]
    exact split_join a sep (y :: r) k (by simp) (by simpa using hl) (fun z hz => h z (List.mem_cons_of_mem _ hz))

theorem name_bytes {s : ByteArray} (h : nameB s = true) : ∀ b ∈ s.data.toList, b ≠ 44 ∧ b ≠ 32 := fun b hb => by
  unfold nameB at h
  simp only [Bool.and_eq_true, decide_eq_true_eq] at h
  obtain ⟨j, hj, e⟩ := List.getElem_of_mem hb
  have hk := h.2 j (by simpa using hj)
  rw [List.getD_eq_getElem?_getD, List.getElem?_eq_getElem hj] at hk
  simp only [Option.getD_some, e] at hk
  constructor
  · rintro rfl
    revert hk
    unfold okAt lowB digB
    simp
  · rintro rfl
    revert hk
    unfold okAt lowB digB
    simp
theorem tail_bytes (n : Int) : ∀ b ∈ tailC n, b ≠ (44 : UInt8) := by
  intro b hb
  unfold tailC at hb
  split at hb <;> simp at hb <;> rcases hb with rfl | rfl | rfl | rfl | rfl <;> decide
theorem readC_one {c : ByteArray × Int} (hn : nameB c.1 = true) (ht : c.2 = 1 ∨ c.2 = 2) : readC ⟨(oneC c).toArray⟩ = c := by
  obtain ⟨nm, ty⟩ := c
  have hi := index_after 32 [] (wordC ty) nm.data.toList (fun b hb => (name_bytes hn b hb).2)
  have ho : oneC (nm, ty) = nm.data.toList ++ (32 :: [] ++ wordC ty) := by unfold oneC; rw [tail_word]; rfl
  have hc : Lib.cut (⟨(oneC (nm, ty)).toArray⟩ : ByteArray).data.toList [32] = (nm.data.toList, wordC ty, true) := by
    rw [list_of, ho]
    unfold Lib.cut
    rw [hi, if_pos (by omega), Int.toNat_natCast, List.take_left]
    congr 2
    rw [show nm.data.toList ++ (32 :: [] ++ wordC ty) = (nm.data.toList ++ [32]) ++ wordC ty by simp, ← List.length_append, List.drop_left]
  unfold readC
  rw [hc]
  have hw : typeN ⟨(wordC ty).toArray⟩ = ty := by
    unfold typeN wordC
    rcases ht with h | h <;> simp only at h <;> subst h <;> rfl
  simp only [hw]

theorem joinL_len (sep : List UInt8) (hs : 1 ≤ sep.length) : ∀ l : List (List UInt8), l.length ≤ (joinL sep l).length + 1
  | [] => by simp
  | [x] => by simp
  | x :: y :: r => by
    have := joinL_len sep hs (y :: r)
    rw [joinL_cons (by simp)]
    simp only [List.length_append, List.length_cons] at this ⊢
    omega

theorem map_data {l m : List ByteArray} (h : l.map (·.data.toList) = m.map (·.data.toList)) : l = m :=
  List.map_inj_right (f := fun s : ByteArray => s.data.toList) (fun x y e => by rw [of_data e, ← of_data (s := y) rfl]) |>.1 h

theorem parsed_show {cs : List (ByteArray × Int)} (hz : checkC cs = 0) : parsedC ⟨(showC cs).toArray⟩ = some cs := by
  obtain ⟨h1, h2, hcl⟩ := checkC_ok hz
  have hb : ∀ c ∈ cs, nameB c.1 = true ∧ (c.2 = 1 ∨ c.2 = 2) := fun c hc => by
    obtain ⟨j, hj, e⟩ := List.getElem_of_mem hc
    have := badC_name (hcl j hj)
    rw [List.getD_eq_getElem?_getD, List.getElem?_eq_getElem hj] at this
    simp only [Option.getD_some, e] at this
    exact ⟨this.1, this.2.1⟩
  have hS := showC_join cs
  have hlen : (showC cs).length = (joinL [44, 32] (cs.map oneC)).length + 2 := by rw [hS]; simp
  have hsz : (⟨(showC cs).toArray⟩ : ByteArray).size = (joinL [44, 32] (cs.map oneC)).length + 2 := by rw [size_of, hlen]
  have hin : ((⟨(showC cs).toArray⟩ : ByteArray).extract 1 ((⟨(showC cs).toArray⟩ : ByteArray).size - 1)).data.toList = joinL [44, 32] (cs.map oneC) := by
    rw [Lib.extract_data, list_of, hsz, hS]
    show List.take _ (joinL [44, 32] (cs.map oneC) ++ [41]) = _
    rw [show (joinL [44, 32] (cs.map oneC)).length + 2 - 1 - 1 = (joinL [44, 32] (cs.map oneC)).length by omega, List.take_left]
  have hbr : bracketed ⟨(showC cs).toArray⟩ = true := by
    unfold bracketed
    rw [list_of, hsz, hS]
    simp
  have hne : cs.map oneC ≠ [] := by intro h; have := congrArg List.length h; rw [List.length_map, List.length_nil] at this; omega
  have hjl := joinL_len [44, 32] (by simp) (cs.map oneC)
  rw [List.length_map] at hjl
  have hparts : (partsOf ⟨(showC cs).toArray⟩).map (·.data.toList) = cs.map oneC := by
    unfold partsOf
    rw [Lib.splitB_data, hin]
    have hzz : ((⟨(showC cs).toArray⟩ : ByteArray).extract 1 ((⟨(showC cs).toArray⟩ : ByteArray).size - 1)).size = (joinL [44, 32] (cs.map oneC)).length := by
      rw [← hin, Array.length_toList]; rfl
    rw [hzz]
    exact split_join 44 [32] (cs.map oneC) _ hne (by rw [List.length_map]; omega) (fun x hx b hbx => by
      obtain ⟨c, hc, rfl⟩ := List.mem_map.1 hx
      unfold oneC at hbx
      rcases List.mem_append.1 hbx with h | h
      · exact (name_bytes (hb c hc).1 b h).1
      · exact tail_bytes _ b h)
  have hp : partsOf ⟨(showC cs).toArray⟩ = cs.map fun c => ⟨(oneC c).toArray⟩ := map_data (by rw [hparts, List.map_map]; exact List.map_congr_left fun c _ => (list_of _).symm)
  have hcols : colsOf ⟨(showC cs).toArray⟩ = cs := by
    unfold colsOf
    rw [hp, List.map_map]
    have : cs.map (readC ∘ fun c => (⟨(oneC c).toArray⟩ : ByteArray)) = cs.map id := List.map_congr_left fun c hc => readC_one (hb c hc).1 (hb c hc).2
    rw [this, List.map_id]
  unfold parsedC
  rw [if_pos ⟨hbr, by rw [hcols]; exact hz⟩, hcols]
end Go.Proofs.YtfjhdfpdgjjcgaaGreatDoor
