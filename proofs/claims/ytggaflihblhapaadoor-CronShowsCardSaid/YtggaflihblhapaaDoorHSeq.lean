/-
  A range over the parts of a text: the closure that strings.SplitSeq makes keeps what is left in a cell of its own.
-/
import Derived.RangeFuncNested
import Derived.RangeFuncBound
import Derived.RangeFuncCalls
import Derived.RangeFuncLeaves
import Derived.Shelf.Abstract
import Derived.Shelf.RegionOpen
import Derived.WalkKit
import Derived.OwnWalkIn
import Derived.TacticsInMore
import Derived.LoopNIn
import Derived.LoopIn
import Derived.Test.YtggaflihblhapaaDoorHBase
import Derived.Test.YtggaflihblhapaaDoorHPie
import Derived.Test.YtggaflihblhapaaDoorShelf
namespace Go.Proofs.YtggaflihblhapaaDoor
open Go.RowKit Go.Shelf HM
attribute [local go_sem] Oper.semAt_some

/-- The three cells of the closure: what is left, the byte between, and how much of it goes to a part. -/
def It (bp bs bv : Nat) (c : UInt8) (w : World) (t : ByteArray) : Prop :=
  w.cell? ⟨bs, 0, none⟩ = some (.string t) ∧ w.frozen? ⟨bs, 0, none⟩ = false ∧ w.cell? ⟨bp, 0, none⟩ = some (.string ⟨#[c]⟩) ∧ w.cell? ⟨bv, 0, none⟩ = some (.int .i64 0)
/-- What a round leaves as it was. -/
def ItK (bp bs bv : Nat) (c : UInt8) (w w' : World) : Prop := w.heap.size ≤ w'.heap.size ∧ ∀ t, It bp bs bv c w t → It bp bs bv c w' t
/-- What goes on saying the same when the closure writes its cell. -/
def Stay (bs : Nat) (J : List ByteArray → World → Prop) : Prop := ∀ pre W v, J pre W → J pre (W.setCell ⟨bs, 0, none⟩ v)
def leftIn (bs : Nat) (w : World) : Nat := match w.cell? ⟨bs, 0, none⟩ with
  | some (.string t) => t.size
  | _ => 0
theorem It.set {bp bs bv : Nat} {c : UInt8} {w : World} {t u : ByteArray} (h : It bp bs bv c w t) (h1 : bs ≠ bp) (h2 : bs ≠ bv) : It bp bs bv c (w.setCell ⟨bs, 0, none⟩ (.string u)) u := by
  obtain ⟨a, b, d, e⟩ := h
  refine ⟨World.cell?_setCell_same' _ _ _ (by rw [a]; rfl), by rw [World.frozen?_setCell]; exact b, ?_, ?_⟩
  · rw [World.cell?_setCell_other _ _ _ _ (by intro x; injection x with x; exact h1 x)]; exact d
  · rw [World.cell?_setCell_other _ _ _ _ (by intro x; injection x with x; exact h2 x)]; exact e
set_option maxRecDepth 100000 in
set_option maxHeartbeats 2000000 in
theorem split_iter (n : Nat) (hn : 1 ≤ n) (l bp bs bv : Nat) (h1 : bs ≠ bp) (h2 : bs ≠ bv) (c : UInt8) (s : ByteArray) (hs : s.size ≤ 1000000) (J Jx : List ByteArray → World → Prop) (hJ : Stay bs J)
    (hY : ∀ pre (x : ByteArray) W t, x.size ≤ 1000000 → J pre W → It bp bs bv c W t → YieldAt Fence.wide (n - 1) Tryd.prog l #[.string x] W fun e W' =>
      (e = .returned (.bool true) ∧ J (pre ++ [x]) W' ∧ ItK bp bs bv c W W') ∨ (e = .returned (.bool false) ∧ Jx (pre ++ [x]) W'))
    (W : World) (hit : It bp bs bv c W s) (h0 : J [] W) :
    CallsIn Fence.wide n Tryd.prog 99 #[.func (.yield l) #[] #[], .pointer (some ⟨bp, 0, none⟩), .pointer (some ⟨bs, 0, none⟩), .pointer (some ⟨bv, 0, none⟩)] W fun e W' => (∃ v, e = .returned v) ∧
      ((∃ ys, bytesOf ys = pieces c s.data.toList ∧ J ys W') ∨ (∃ pre, bytesOf pre <+: pieces c s.data.toList ∧ Jx pre W')) := by
  refine callsIn_of_wp Tryd.func99 rfl trivial ?_ rfl
  simp only [Tryd.ntmps99, List.size_toArray, List.length_cons, List.length_nil, Nat.reduceAdd, Nat.reduceSub, Array.replicate_succ, Array.replicate_zero, List.push_toArray, List.append_toArray, List.nil_append, List.cons_append]
  have hq := hit
  obtain ⟨q0, q1, q2, q3⟩ := hq
  gi_wp2
  clear q0 q1 q2 q3
  gi_loopw [7] (fun _ wr => ∃ (pre : List ByteArray) (t : ByteArray), t.size ≤ 1000000 ∧ bytesOf pre ++ pieces c t.data.toList = pieces c s.data.toList ∧ It bp bs bv c wr t ∧ J pre wr) (fun _ wr => leftIn bs wr)
  case atStart => exact ⟨[], s, hs, rfl, hit, h0⟩
  case round =>
    obtain ⟨pre, t, hts, hcat, hitr, hJr⟩ := hrel
    have HC := hide hcat
    have HI := hide hitr
    obtain ⟨q0, q1, q2, q3⟩ := hitr
    have HX := hide (fun w => (Tryd.strings_Index_one t c w).mono fun _ _ h => (⟨h.1, h.2.symm⟩ : _ ∧ _))
    clear hcat
    rcases index_range c t.data.toList with hx | ⟨hx0, hx1⟩
    · have HP := hide (pieces_none hx)
      obtain ⟨fn, tmps, assign, body, hy, hR⟩ := hY pre t wr t hts hJr HI.out
      rw [hx] at HX
      gi_wp2_with (refine ⟨trivial, ?_⟩; gi_at_call 101; refine (callsIn_wide.2 (HX.out _)).mono ?_; rintro e w' ⟨rfl, rfl⟩)
      have HF : Hid (bytesOf (pre ++ [t]) = pieces c s.data.toList) := hide (by
        have := HC.out
        rw [HP.out] at this
        rw [← this]; simp [bytesOf])
      refine hR.mono ?_
      rintro e W3 (⟨rfl, hJ3, hk3⟩ | ⟨rfl, hJx3⟩)
      · gi_wp2
        go_end0
        exact ⟨⟨_, rfl⟩, .inl ⟨_, HF.out, hJ3⟩⟩
      · gi_wp2
        go_end0
        exact ⟨⟨_, rfl⟩, .inr ⟨_, ⟨[], by rw [List.append_nil]; exact HF.out⟩, hJx3⟩⟩
    · obtain ⟨k, hk⟩ := Int.eq_ofNat_of_zero_le hx0
      have hP := pieces_at (c := c) (l := t.data.toList) (k := k) (by omega)
      have hkt : k < t.size := by have := hP.1; simpa using this
      have HL1 : Hid ((t.extract 0 k).data.toList = t.data.toList.take k) := hide (by simp)
      have HL2 : Hid ((t.extract (k + 1) t.size).data.toList = t.data.toList.drop (k + 1)) := hide (by simp [List.take_of_length_le])
      have HF : Hid (bytesOf (pre ++ [t.extract 0 k]) ++ pieces c (t.extract (k + 1) t.size).data.toList = pieces c s.data.toList) := hide (by
        have := HC.out
        rw [hP.2] at this
        rw [← this, HL2.out]
        simp [bytesOf])
      have HS : Hid ((t.extract (k + 1) t.size).size < t.size) := hide (by simp; omega)
      have HLf : Hid (leftIn bs wr = t.size) := hide (by unfold leftIn; rw [q0])
      obtain ⟨fn, tmps, assign, body, hy, hR⟩ := hY pre (t.extract 0 k) wr t (by simp; omega) hJr HI.out
      rw [hk] at HX
      have hkb : (k : Int) ≤ 1000000 := by omega
      clear hx0 hx1 hk hP
      gi_wp2_with (refine ⟨trivial, ?_⟩; gi_at_call 101; refine (callsIn_wide.2 (HX.out _)).mono ?_; rintro e w' ⟨rfl, rfl⟩)
      refine hR.mono ?_
      rintro e W3 (⟨rfl, hJ3, hk3⟩ | ⟨rfl, hJx3⟩)
      · have HI3 := hide (hk3.2 _ HI.out)
        clear q0 q1 q2 q3
        obtain ⟨q0, q1, q2, q3⟩ := HI3.out
        gi_wp2
        go_roundw
        case rel => exact ⟨pre ++ [t.extract 0 k], t.extract (k + 1) t.size, Nat.le_of_lt (Nat.lt_of_lt_of_le HS.out hts), HF.out, HI3.out.set h1 h2, hJ _ _ _ hJ3⟩
        case measure =>
          rw [HLf.out]
          unfold leftIn
          rw [(HI3.out.set (u := t.extract (k + 1) t.size) h1 h2).1]
          exact HS.out
      · gi_wp2
        refine bodyPost_ret (results_none rfl _ _ _) rfl ?_
        exact ⟨⟨_, rfl⟩, .inr ⟨_, ⟨pieces c (t.extract (k + 1) t.size).data.toList, HF.out⟩, hJx3⟩⟩
end Go.Proofs.YtggaflihblhapaaDoor
