/-
  The walk of Parse.
-/
import Derived.Test.YtheeihdbeefkkaaDoorSParse
namespace Go.Proofs.YtheeihdbeefkkaaDoor
open Go.RowKit

set_option maxHeartbeats 1600000 in
set_option maxRecDepth 100000 in
theorem parse_short (t : ByteArray) (w : World) (h : t.size < 2) :
    Calls Tryd.prog 25 #[.string t] w fun e w' => e = .returned (.tuple #[.slice none 0 0, .int .i64 20]) ∧ Below w.heap.size w w' := by
  go_enter Tryd.func25, Tryd.ntmps25
  go_wp2
  go_ret2
  exact ⟨rfl, Below.refl _ _⟩

set_option maxHeartbeats 1600000 in
set_option maxRecDepth 100000 in
theorem parse_first (t : ByteArray) (w : World) (h : 2 ≤ t.size) (h63 : t.size ≤ 9223372036854775807) (h0 : ((t[0].toNat : Int) != 40) = true) :
    Calls Tryd.prog 25 #[.string t] w fun e w' => e = .returned (.tuple #[.slice none 0 0, .int .i64 20]) ∧ Below w.heap.size w w' := by
  go_enter Tryd.func25, Tryd.ntmps25
  go_wp2
  go_ret2
  exact ⟨rfl, Below.refl _ _⟩

set_option maxHeartbeats 1600000 in
set_option maxRecDepth 100000 in
theorem parse_last (t : ByteArray) (w : World) (h : 2 ≤ t.size) (h63 : t.size ≤ 9223372036854775807) (h0 : ((t[0].toNat : Int) != 40) = false) (h1 : ((t[t.size - 1].toNat : Int) != 41) = true) :
    Calls Tryd.prog 25 #[.string t] w fun e w' => e = .returned (.tuple #[.slice none 0 0, .int .i64 20]) ∧ Below w.heap.size w w' := by
  go_enter Tryd.func25, Tryd.ntmps25
  go_wp2
  go_ret2
  exact ⟨rfl, Below.refl _ _⟩

theorem splitB_size (sep : ByteArray) : ∀ (k : Nat) (s p : ByteArray), p ∈ Lib.splitB sep 0 k s → p.size ≤ s.size
  | 0, s, p, h => by simp [Lib.splitB] at h; subst h; exact Nat.le_refl _
  | k + 1, s, p, h => by
    unfold Lib.splitB at h
    split at h
    · simp at h; subst h; exact Nat.le_refl _
    · rcases List.mem_cons.1 h with rfl | h
      · simp; omega
      · have := splitB_size sep k _ p h
        simp at this; omega
theorem cut_size (l sep : List UInt8) : (Lib.cut l sep).1.length ≤ l.length := by
  unfold Lib.cut; split
  · simp; omega
  · exact Nat.le_refl _
theorem typeN_cases (s : ByteArray) : typeN s = 0 ∨ typeN s = 1 ∨ typeN s = 2 := by
  unfold typeN; split
  · exact .inr (.inl rfl)
  · split
    · exact .inr (.inr rfl)
    · exact .inl rfl
theorem readC_wf (p : ByteArray) (h : p.size ≤ maxLen) : colWf (readC p) := by
  have h1 := cut_size p.data.toList [32]
  have h2 : p.data.toList.length = p.size := by simp
  have h3 := typeN_cases ⟨(Lib.cut p.data.toList [32]).2.1.toArray⟩
  refine ⟨?_, ?_, ?_⟩
  · show (⟨(Lib.cut p.data.toList [32]).1.toArray⟩ : ByteArray).size ≤ maxLen
    rw [size_of]; omega
  · show _ ≤ typeN _; omega
  · show typeN _ ≤ _; omega

/-- What Parse tells of the columns that it has read. -/
def ParseV (cs : List (ByteArray × Int)) (w : World) (e : Ending) (w' : World) : Prop :=
  (if checkC cs = 0 then ∃ A cap, e = .returned (.tuple #[.slice A cs.length cap, .int .i64 0]) ∧ ColsAt w'.heap.size w' A cs else e = .returned (.tuple #[.slice none 0 0, .int .i64 20])) ∧ Below w.heap.size w w'

theorem splitN_parts (t : ByteArray) (w : World) (hs : t.size < 4294967281) (hm : Mx w) :
    Calls Tryd.prog 41 #[.string (t.extract 1 (t.size - 1)), .string ⟨#[44, 32]⟩, .int .i64 17] w fun e w' => ∃ c : Nat, e = .returned (.slice (some ⟨w.heap.size, 0, none⟩) (partsOf t).length c) ∧
      StrsAt w'.heap.size w' (some ⟨w.heap.size, 0, none⟩) (partsOf t) ∧ Below w.heap.size w w' :=
  (splitN_any (t.extract 1 (t.size - 1)) w (by simp; omega) hm).mono fun _ _ ⟨a, b, c⟩ => ⟨_, a, b, c⟩
theorem parts_size (t p : ByteArray) (h : p ∈ partsOf t) : p.size ≤ t.size := by
  have := splitB_size _ _ _ _ h
  simp at this; omega

set_option maxHeartbeats 3200000 in
set_option maxRecDepth 100000 in
theorem parse_in (t : ByteArray) (w : World) (h : 2 ≤ t.size) (h63 : t.size < 4294967281) (h0 : ((t[0].toNat : Int) != 40) = false) (h1 : ((t[t.size - 1].toNat : Int) != 41) = false) (hm : Mx w) :
    Calls Tryd.prog 25 #[.string t] w (ParseV (colsOf t) w) := by
  have HD := hide (show colsOf t = (partsOf t).map readC from rfl)
  have HL : (partsOf t).length ≤ 17 := parts_len t
  have HZ := hide (fun p hp => Nat.lt_of_le_of_lt (parts_size t p hp) h63)
  have HM := hide hm
  have HS := hide (splitN_parts t w h63 hm); clear hm
  generalize partsOf t = L at HD HL HZ HS
  generalize colsOf t = cs at HD ⊢
  obtain ⟨i0, hi, hz0, hz1, hz2⟩ := info_parts col_info
  go_enter Tryd.func25, Tryd.ntmps25
  go_wp2_with fail
  refine HS.out.mono ?_
  rintro e w1 ⟨c, rfl, hP, hb1⟩
  have HM1 := hide (HM.out.stays hb1)
  have HP := hide hP
  have hz : w.heap.size ≤ w1.heap.size := hb1.size
  clear hP HM HS
  go_wp2_with fail
  go_loopw [4, 30] (fun v i wr => ∃ k : Nat, k ≤ L.length ∧ i = .int .i64 k ∧ wr.ownsRow w1.heap.size 33 2 v k (colCells (cs.take k)) ∧ Below w1.heap.size w1 wr) (fun _ i _ => L.length - (intOf i).toNat)
  case atStart => exact ⟨0, Nat.zero_le _, rfl, World.ownsRow_nil _ _ _ _, Below.refl _ _⟩
  case round =>
    obtain ⟨k, hk, rfl, hrow, hbw⟩ := hrel
    by_cases hlt : k < L.length
    · obtain ⟨b, off, e, hb, c0⟩ := HP.out.below hbw k hlt
      have hsz := HZ.out (L.getD k ⟨#[]⟩) (by rw [List.getD_eq_getElem?_getD, List.getElem?_eq_getElem hlt]; exact List.getElem_mem hlt)
      have HT := hide (show colCells (cs.take (k + 1)) = colCells (cs.take k) ++ [.string (readC (L.getD k ⟨#[]⟩)).1, .int .i64 (readC (L.getD k ⟨#[]⟩)).2] by
        rw [HD.out, take_col (by rw [List.length_map]; exact hlt), colCells_snoc, List.getD_eq_getElem?_getD, List.getElem?_map, List.getD_eq_getElem?_getD, List.getElem?_eq_getElem hlt]; rfl)
      obtain ⟨rfl, rfl⟩ : w.heap.size = b ∧ 0 = off := by simpa using e
      rw [Nat.zero_add] at c0
      clear e
      generalize L.getD k ⟨#[]⟩ = p at c0 hsz HT
      have HMr := hide (HM1.out.stays hbw)
      have HC := hide (readColumn_any p wr hsz HMr.out)
      generalize readC p = q at HC HT
      go_wp2_with fail
      refine HC.out.mono ?_
      rintro e w2 ⟨rfl, hb2⟩
      have hrow2 := hrow.kept (only_of_below hb2 none) (by cases hv : u4.ownBlock <;> simp)
      have hs2 := hb2.size
      have hs1 := hbw.size
      clear HC
      go_wp2_with (at_builtin; go_must (refine wpList_append_own _ rfl _ _ 23 rfl w1.heap.size 33 i0 (.agg #[.string ⟨#[]⟩, .int .i64 0]) 2 24 Tryd.underlying23 hi hz0 hz1 hz2 rfl (by decide) _ _ _ rfl (hrow2.alloc _) ⟨w2.heap.size, 0, none⟩ 1 1 [.string q.1, .int .i64 q.2] rfl rfl (col_new _ _ q _ (by simp)) (col_one q) (by unfold maxLen; omega) (by omega) (by simp; omega) ?_))
      intro v' w3 hown' hgrow _
      have hs3 := hgrow.size
      simp at hs3
      go_wp2
      go_roundw
      case rel =>
        refine ⟨k + 1, by omega, by go_num, ?_, ?_⟩
        · rw [HT.out]; exact hown'
        · exact (((hbw.trans (hb2.mono hs1)).alloc (by omega) _).grown hgrow (by simp; omega) (fun j hj => (hrow.lt j hj).1))
      case measure => simp [intOf]; omega
    · obtain rfl : k = L.length := by omega
      have HLn := hide (show cs.length = L.length by rw [HD.out, List.length_map])
      rw [← HLn.out, List.take_length] at hrow
      obtain ⟨A', cap', rfl, hA⟩ := cols_of_row hrow
      have hwf : Wf cs := by
        rw [HD.out]
        refine ⟨by rw [List.length_map]; unfold maxLen; omega, fun c hc => ?_⟩
        obtain ⟨p, hp, rfl⟩ := List.mem_map.1 hc
        exact readC_wf p (by have := HZ.out p hp; unfold maxLen; omega)
      have HC := hide (check_any A' cap' cs wr hA hwf)
      have HA := hide hA
      have hlc : cs.length ≤ 17 := by rw [HLn.out]; exact HL
      have hs1 := hbw.size
      clear hrow hA hwf
      have HP' := hide (show ∀ e w', ((if checkC cs = 0 then ∃ A cap, e = Ending.returned (.tuple #[.slice A cs.length cap, .int .i64 0]) ∧ ColsAt w'.heap.size w' A cs else e = .returned (.tuple #[.slice none 0 0, .int .i64 20])) ∧ Below w.heap.size w w') → ParseV cs w e w' from fun _ _ h => h)
      by_cases hz0 : checkC cs = 0
      · have hk0 : (checkC cs != 0) = false := by rw [bne_eq_false_iff_eq]; exact hz0
        have HZ0 := hide hz0; clear hz0
        go_wp2_with (go_at_call 12; refine HC.out.mono ?_; rintro e w2 ⟨rfl, hb2⟩)
        go_ret2
        refine HP'.out _ _ ⟨?_, hb1.trans ((hbw.mono hz).trans (hb2.mono (by omega)))⟩
        rw [if_pos HZ0.out]
        exact ⟨A', cap', rfl, (HA.out.below hb2).mono hb2.size⟩
      · have hk0 : (checkC cs != 0) = true := by rw [bne_iff_ne]; exact hz0
        have HZ0 := hide hz0; clear hz0
        go_wp2_with (go_at_call 12; refine HC.out.mono ?_; rintro e w2 ⟨rfl, hb2⟩)
        go_ret2
        refine HP'.out _ _ ⟨?_, hb1.trans ((hbw.mono hz).trans (hb2.mono (by omega)))⟩
        rw [if_neg HZ0.out]
        rfl

/-- The columns whose text this is, if the text between brackets is read so and they are valid. -/
def parsedC (t : ByteArray) : Option (List (ByteArray × Int)) := if bracketed t = true ∧ checkC (colsOf t) = 0 then some (colsOf t) else none

/-- What Parse tells of any text. -/
def ParseR (t : ByteArray) (w : World) (e : Ending) (w' : World) : Prop :=
  (match parsedC t with
    | some cs => ∃ A cap, e = .returned (.tuple #[.slice A cs.length cap, .int .i64 0]) ∧ ColsAt w'.heap.size w' A cs
    | none => e = .returned (.tuple #[.slice none 0 0, .int .i64 20])) ∧ Below w.heap.size w w'

theorem parse_any (t : ByteArray) (w : World) (ht : t.size < 4294967281) (hm : Mx w) :
    Calls Tryd.prog 25 #[.string t] w (ParseR t w) := by
  by_cases h2 : 2 ≤ t.size
  · have g0 := getD_at t 0 (by omega)
    have g1 := getD_at t (t.size - 1) (by omega)
    have hn : ∀ x : UInt8, ∀ n : Nat, n < 256 → (((x.toNat : Int) != (n : Int)) = true ↔ (x == UInt8.ofNat n) = false) := fun x n h => by
      rw [bne_iff_ne, beq_eq_false_iff_ne, Ne, Ne, not_congr]
      constructor
      · intro e; exact UInt8.toNat_inj.1 (by simp; omega)
      · rintro rfl; simp; omega
    by_cases b0 : ((t[0].toNat : Int) != 40) = true
    · refine (parse_first t w h2 (by omega) b0).mono fun e w' ⟨he, hb⟩ => ⟨?_, hb⟩
      have : parsedC t = none := by
        unfold parsedC bracketed
        rw [g0, show ((t[0] == 40) = false) from (hn t[0] 40 (by decide)).1 b0]; simp
      rw [this]; exact he
    by_cases b1 : ((t[t.size - 1].toNat : Int) != 41) = true
    · refine (parse_last t w h2 (by omega) (by simpa using b0) b1).mono fun e w' ⟨he, hb⟩ => ⟨?_, hb⟩
      have : parsedC t = none := by
        unfold parsedC bracketed
        rw [g1, show ((t[t.size - 1] == 41) = false) from (hn t[t.size - 1] 41 (by decide)).1 b1]; simp
      rw [this]; exact he
    have c0 : (t[0] == 40) = true := by
      cases h : t[0] == 40
      · exact absurd ((hn t[0] 40 (by decide)).2 h) b0
      · rfl
    have c1 : (t[t.size - 1] == 41) = true := by
      cases h : t[t.size - 1] == 41
      · exact absurd ((hn t[t.size - 1] 41 (by decide)).2 h) b1
      · rfl
    have hB : bracketed t = true := by unfold bracketed; rw [g0, g1, c0, c1]; simp [h2]
    refine (parse_in t w h2 ht (by simpa using b0) (by simpa using b1) hm).mono fun e w' ⟨he, hb⟩ => ⟨?_, hb⟩
    unfold parsedC
    by_cases hz : checkC (colsOf t) = 0
    · rw [if_pos ⟨hB, hz⟩]; rw [if_pos hz] at he; exact he
    · rw [if_neg (fun h => hz h.2)]; rw [if_neg hz] at he; exact he
  · refine (parse_short t w (by omega)).mono fun e w' ⟨he, hb⟩ => ⟨?_, hb⟩
    have : parsedC t = none := by
      unfold parsedC bracketed
      rw [show decide (2 ≤ t.size) = false by simp; omega]; simp
    rw [this]; exact he
end Go.Proofs.YtheeihdbeefkkaaDoor
