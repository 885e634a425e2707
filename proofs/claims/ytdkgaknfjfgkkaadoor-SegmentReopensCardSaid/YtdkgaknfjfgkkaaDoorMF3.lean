/-
  The decoder's small calls: fail, take, NewIn, Bad, Done.
  slices.Backward over bytes: the iterator's contract.
  The decoder's digits: the bytes of an integer that is not negative.
  The decoder: integers, texts, counts.
  The decoder: texts and counts.
-/
import Derived.Test.YtdkgaknfjfgkkaaDoorMF2
import Derived.RegionTactic
import Derived.Deep.RegionWith
import Derived.ChangeAlike
import Derived.RangeFuncBox
import Derived.RangeFuncLeaves
import Derived.RangeFuncNested
import Derived.RangeFuncBound
import Derived.RangeFuncCalls
import Derived.Shelf.Abstract
import Derived.Shelf.RegionOpen
import Derived.OwnWalkIn
import Derived.TacticsInMore
import Derived.LoopNIn
import Derived.LoopIn
import Derived.Laws.BitsAll
import Derived.IntWalk
namespace Go.Proofs.YtdkgaknfjfgkkaaDoor
open Go.RowKit

abbrev vI (g : Nat) : Value := .pointer (some ⟨g, 0, none⟩)
theorem InAt.cells {g : Nat} {w : World} {A : Option Addr} {n c : Nat} {bad : Bool} (h : w.heap[g]? = some (.cells #[.slice A n c, .bool bad] 112 (0, 0))) :
    w.cell? ⟨g, 0, none⟩ = some (.slice A n c) ∧ w.cell? ⟨g, 1, none⟩ = some (.bool bad) ∧ w.frozen? ⟨g, 0, none⟩ = false ∧ w.frozen? ⟨g, 1, none⟩ = false :=
  ⟨Lib.cell_of_heap h 0, Lib.cell_of_heap h 1, Lib.frozen_of_heap h 0, Lib.frozen_of_heap h 1⟩
/-- A store into the first cell. -/
theorem In_set0 {lo : Nat → Prop} {g : Nat} {w : World} {A A' : Option Addr} {n c c' : Nat} {l : List UInt8} {bad : Bool} (hg : lo g) (hb0 : bad = true → l = []) (h : w.heap[g]? = some (.cells #[.slice A n c, .bool bad] 112 (0, 0)))
    (h1 : l.length ≤ c') (h2 : c' ≤ 9223372036854775807 ∧ l.length ≤ 140737488355328) (h3 : A' = none → c' = 0) (h4 : ∀ a, A' = some a → a = ⟨a.block, a.off, none⟩) (h5 : Reads lo g w A' l) :
    InAt lo g (w.setCell ⟨g, 0, none⟩ (.slice A' l.length c')) l bad ∧ OnlyG g w (w.setCell ⟨g, 0, none⟩ (.slice A' l.length c')) := by
  have ho : OnlyG g w (w.setCell ⟨g, 0, none⟩ (.slice A' l.length c')) := ⟨rfl, rfl, rfl, by simp [World.setCell], fun b _ hg => Below.heap_setCell _ _ _ _ hg⟩
  refine ⟨⟨hg, hb0, A', c', ?_, h1, h2, h3, h4, h5.turn ho⟩, ho⟩
  rw [Joins.block_setCell (i := 0) h]
  simp

set_option maxHeartbeats 1600000 in
set_option maxRecDepth 100000 in
theorem fail_any {lo : Nat → Prop} {g : Nat} {l : List UInt8} {bad : Bool} (w : World) (hI : InAt lo g w l bad) :
    Calls Tryd.prog 87 #[vI g] w fun e w' => e = .returned (.tuple #[]) ∧ InAt lo g w' [] true ∧ OnlyG g w w' := by
  obtain ⟨hg, _, A, c, hbx, _, _, _, _, _⟩ := hI
  obtain ⟨c0, c1, f0, f1⟩ := InAt.cells hbx
  have hlt : g < w.heap.size := (Array.getElem?_eq_some_iff.1 hbx).1
  have HF := hide (show InAt lo g ((w.setCell ⟨g, 0, none⟩ (.slice none 0 0)).setCell ⟨g, 1, none⟩ (.bool true)) [] true ∧ OnlyG g w ((w.setCell ⟨g, 0, none⟩ (.slice none 0 0)).setCell ⟨g, 1, none⟩ (.bool true)) by
    have ho : OnlyG g w ((w.setCell ⟨g, 0, none⟩ (.slice none 0 0)).setCell ⟨g, 1, none⟩ (.bool true)) := ⟨rfl, rfl, rfl, by simp [World.setCell], fun b _ hg => by rw [Below.heap_setCell _ _ _ _ hg, Below.heap_setCell _ _ _ _ hg]⟩
    refine ⟨⟨hg, fun _ => rfl, none, 0, ?_, by simp, by simp, fun _ => rfl, (fun a e => by cases e), Reads.nil _ _ _ _⟩, ho⟩
    have h1 := Joins.block_setCell (i := 0) hbx (.slice none 0 0)
    rw [Joins.block_setCell (i := 1) h1 (.bool true)]
    simp)
  clear hbx
  go_enter Tryd.func87, Tryd.ntmps87
  go_wp2_with fail
  refine bodyPost_end (results_none rfl _ _ _) rfl ?_
  exact ⟨rfl, HF.out⟩

set_option maxHeartbeats 1600000 in
set_option maxRecDepth 100000 in
theorem bad_any {lo : Nat → Prop} {g : Nat} {l : List UInt8} {bad : Bool} (w : World) (hI : InAt lo g w l bad) :
    Calls Tryd.prog 83 #[vI g] w fun e w' => e = .returned (.bool bad) ∧ w = w' := by
  obtain ⟨hg, _, A, c, hbx, _, _, _, _, _⟩ := hI
  obtain ⟨c0, c1, f0, f1⟩ := InAt.cells hbx
  clear hbx
  go_enter Tryd.func83, Tryd.ntmps83
  go_wp2_with fail
  go_ret
  exact ⟨rfl, rfl⟩
set_option maxHeartbeats 1600000 in
set_option maxRecDepth 100000 in
theorem done_any {lo : Nat → Prop} {g : Nat} {l : List UInt8} {bad : Bool} (w : World) (hI : InAt lo g w l bad) :
    Calls Tryd.prog 81 #[vI g] w fun e w' => e = .returned (.bool (!bad && l.isEmpty)) ∧ w = w' := by
  have hs := hI.short
  obtain ⟨hg, _, A, c, hbx, _, _, _, _, _⟩ := hI
  obtain ⟨c0, c1, f0, f1⟩ := InAt.cells hbx
  clear hbx
  cases bad
  · cases l with
    | nil =>
      rw [List.length_nil] at *
      go_enter Tryd.func81, Tryd.ntmps81
      go_wp2_with fail
      go_ret
      exact ⟨rfl, rfl⟩
    | cons x l =>
      have hq : (((x :: l).length : Int) == 0) = false := by rw [beq_eq_false_iff_ne]; simp; omega
      have HQ := hide (show (!false && (x :: l).isEmpty) = false from rfl)
      generalize (x :: l).isEmpty = q at *
      generalize (x :: l).length = n at *
      go_enter Tryd.func81, Tryd.ntmps81
      go_wp2_with fail
      go_ret
      exact ⟨ret_bool HQ.out.symm, rfl⟩
  · go_enter Tryd.func81, Tryd.ntmps81
    go_wp2_with fail
    go_ret
    exact ⟨rfl, rfl⟩

/-- What take leaves. -/
def takeOk (l : List UInt8) (n : Int) : Bool := decide (0 ≤ n) && decide (n ≤ l.length)
set_option maxHeartbeats 1600000 in
set_option maxRecDepth 100000 in
theorem take_yes {lo : Nat → Prop} {g : Nat} {l : List UInt8} {bad : Bool} (n : Nat) (w : World) (hI : InAt lo g w l bad) (hn : n ≤ l.length) :
    Calls Tryd.prog 85 #[vI g, .int .i64 n] w fun e w' => ∃ A c, e = .returned (.slice A n c) ∧ n ≤ c ∧ (A = none → c = 0) ∧ Reads lo g w' A (l.take n) ∧ InAt lo g w' (l.drop n) bad ∧ OnlyG g w w' := by
  have hs := hI.short
  obtain ⟨hg, hbad, A, c, hbx, h1, h2, h3, h4, h5⟩ := hI
  obtain ⟨c0, c1, f0, f1⟩ := InAt.cells hbx
  have hbad' : bad = true → l.drop n = [] := fun e => by rw [hbad e]; simp
  have hln : (l.drop n).length = l.length - n := List.length_drop
  by_cases hc : n = c
  · subst hc
    have hll : l.length = n := by omega
    have HF := hide (In_set0 (A' := A) (c' := 0) hg hbad' hbx (by omega) ⟨by omega, by omega⟩ (fun _ => rfl) h4 (by rw [show l.drop n = [] by rw [List.drop_eq_nil_iff]; omega]; exact Reads.nil _ _ _ _))
    rw [hln, show l.length - n = 0 by omega] at HF
    have HR := hide (fun w' (k : OnlyG g w w') => (h5.take n).turn k)
    have H3 := hide h3
    clear hbx h3 h4 h5 hbad hbad' hln
    rw [hll] at *
    go_enter Tryd.func85, Tryd.ntmps85
    go_wp2_with fail
    go_ret
    exact ⟨A, n, rfl, Nat.le_refl _, H3.out, HR.out _ HF.out.2, HF.out⟩
  · obtain ⟨a, rfl⟩ : ∃ a, A = some a := by
      cases A with
      | none => have := h3 rfl; omega
      | some a => exact ⟨a, rfl⟩
    obtain ⟨b, off, ha⟩ : ∃ b off, a = ⟨b, off, none⟩ := ⟨_, _, h4 a rfl⟩
    subst ha
    have HF := hide (In_set0 (A' := some ⟨b, off + n, none⟩) (c' := c - n) hg hbad' hbx (by omega) ⟨by omega, by omega⟩ (fun e => by cases e) (fun a e => by injection e with e; rw [← e]) (h5.drop n))
    rw [hln] at HF
    have HR := hide (fun w' (k : OnlyG g w w') => (h5.take n).turn k)
    clear hbx h3 h4 h5 hbad hbad' hln
    go_enter Tryd.func85, Tryd.ntmps85
    go_wp2_with fail
    go_ret
    exact ⟨some ⟨b, off, none⟩, n, rfl, Nat.le_refl _, (fun e => by cases e), HR.out _ HF.out.2, HF.out⟩

set_option maxHeartbeats 1600000 in
set_option maxRecDepth 100000 in
theorem take_no {lo : Nat → Prop} {g : Nat} {l : List UInt8} {bad : Bool} (n : Int) (w : World) (hI : InAt lo g w l bad) (h0 : -9223372036854775808 ≤ n) (h1 : n ≤ 9223372036854775807) (hn : ¬ (0 ≤ n ∧ n ≤ l.length)) :
    Calls Tryd.prog 85 #[vI g, .int .i64 n] w fun e w' => e = .returned (.slice none 0 0) ∧ InAt lo g w' [] true ∧ OnlyG g w w' := by
  have hs := hI.short
  have HFl := hide (fail_any w hI)
  obtain ⟨hg, _, A, c, hbx, k1, _, _, _, _⟩ := hI
  obtain ⟨c0, c1, f0, f1⟩ := InAt.cells hbx
  clear hbx
  generalize l.length = m at *
  by_cases hz : n < 0
  · clear hn
    go_enter Tryd.func85, Tryd.ntmps85
    go_wp2_with fail
    refine HFl.out.mono ?_
    rintro e w1 ⟨rfl, hI1, ho1⟩
    have HA := hide (And.intro hI1 ho1)
    clear hI1 ho1
    go_wp2_with fail
    go_ret
    exact ⟨rfl, HA.out⟩
  · have hz1 : (m : Int) < n := by omega
    clear hn
    go_enter Tryd.func85, Tryd.ntmps85
    go_wp2_with fail
    refine HFl.out.mono ?_
    rintro e w1 ⟨rfl, hI1, ho1⟩
    have HA := hide (And.intro hI1 ho1)
    clear hI1 ho1
    go_wp2_with fail
    go_ret
    exact ⟨rfl, HA.out⟩

set_option maxHeartbeats 1600000 in
set_option maxRecDepth 100000 in
theorem newIn_any (A : Option Addr) (c : Nat) (l : List UInt8) (w : World) (hB : BytesAt w.heap.size w A l) (hl : l.length ≤ 140737488355328) :
    Calls Tryd.prog 78 #[.slice A l.length c] w fun e w' => ∃ g, e = .returned (vI g) ∧ w.heap.size ≤ g ∧ InAt (fun b => w.heap.size ≤ b) g w' l false ∧ Below w.heap.size w w' := by
  have HC := hide (clone_any A c l w hB hl)
  clear hB
  go_enter Tryd.func78, Tryd.ntmps78
  go_wp2_with fail
  refine HC.out.mono ?_
  rintro e w1 ⟨v1, rfl, hrow, hb1⟩
  obtain ⟨A1, c1, rfl, hB1, hA1, hn1, hc1⟩ := bytes_of_row hrow
  obtain ⟨_, cq, he, _, hc2⟩ := row_slice hrow
  have hcc : c1 = cq := by injection he
  rw [← hcc] at hc2
  clear he hcc
  have hlt1 := hb1.size
  have hc2' : c1 ≤ 9223372036854775807 := by unfold maxLen at hc2; omega
  have HF := hide (show InAt (fun b => w.heap.size ≤ b) w1.heap.size (w1.alloc (.cells #[.slice A1 l.length c1, .bool false] 112)) l false ∧ Below w.heap.size w (w1.alloc (.cells #[.slice A1 l.length c1, .bool false] 112)) by
    refine ⟨⟨hlt1, (fun e => by cases e), A1, c1, heap_alloc_new w1 _, hc1, ⟨hc2', hl⟩, hn1, fun a e => ?_, fun j hj => ?_⟩, hb1.alloc hlt1 _⟩
    · cases l with
      | nil =>
        obtain ⟨b, hb⟩ : ∃ b, a = b := ⟨_, rfl⟩
        rcases hrow.2 with ⟨h0, _⟩ | ⟨g, cap, cur, h0, _⟩
        · injection h0 with h0; rw [e] at h0; cases h0
        · injection h0 with h0; rw [e] at h0; injection h0 with h0; rw [h0]
      | cons x r =>
        obtain ⟨b, off, e2, _⟩ := hB1 0 (by simp)
        rw [e] at e2; injection e2 with e2; rw [e2]
    · obtain ⟨b, off, e, hlt, h0⟩ := hB1 j hj
      have := (hA1 _ e).1
      exact ⟨b, off, e, this, by omega, by simp; omega, by rw [Lib.cell?_alloc_some _ h0]⟩)
  clear hrow hB1 hA1 hn1 hb1 hc2 hc2'
  go_wp2_with fail
  go_ret
  exact ⟨w1.heap.size, rfl, hlt1, HF.out⟩
end Go.Proofs.YtdkgaknfjfgkkaaDoor
namespace Go.Proofs.YtdkgaknfjfgkkaaDoor
open Go.RowKit Go.Shelf

attribute [local go_sem] Oper.semAt_some

/-- What has come when k rounds are over. -/
def uptoF {α : Type} (f : Nat → α) (k : Nat) : List α := (List.range k).map f
theorem uptoF_succ {α : Type} (f : Nat → α) (k : Nat) : uptoF f (k + 1) = uptoF f k ++ [f k] := by simp [uptoF, List.range_succ]
theorem uptoF_length {α : Type} (f : Nat → α) (k : Nat) : (uptoF f k).length = k := by simp [uptoF]
/-- The pair of round k: its index, its byte. -/
def backF (l : List UInt8) (k : Nat) : Nat × UInt8 := (l.length - 1 - k, l.getD (l.length - 1 - k) 0)

/-- What a round keeps: what lay below n₀, and the block of the slice's box. -/
def KB (Bs n₀ : Nat) (W W' : World) : Prop := Below n₀ W W' ∧ W'.heap[Bs]? = W.heap[Bs]?
theorem KB.refl (Bs n₀ : Nat) (W : World) : KB Bs n₀ W W := ⟨Below.refl _ _, rfl⟩
theorem KB.trans {Bs n₀ : Nat} {A B C : World} (h : KB Bs n₀ A B) (k : KB Bs n₀ B C) : KB Bs n₀ A C := ⟨h.1.trans k.1, k.2.trans h.2⟩
theorem KB.cell {Bs n₀ : Nat} {A B : World} (h : KB Bs n₀ A B) {v : Value} (hc : A.cell? ⟨Bs, 0, none⟩ = some v) : B.cell? ⟨Bs, 0, none⟩ = some v := by
  rw [← hc]; simp only [World.cell?]; rw [h.2]

set_option maxRecDepth 100000 in
set_option maxHeartbeats 2000000 in
/-- The closure: the last byte first. -/
theorem back1_in (F : Fence) (n : Nat) (hf : F.fn 90) (hro : F.round = none) (hn : 1 ≤ n) (ll Bs n₀ cap : Nat) (A : Option Addr) (l : List UInt8) (hlen : l.length ≤ 1073741824) (J Jx : List (Nat × UInt8) → World → Prop)
    (hY : ∀ pre x W, J pre W → pre.length < l.length → YieldAt F (n - 1) Tryd.prog ll #[.int .i64 (x.1 : Int), .int .u8 x.2.toNat] W fun e W' =>
      (e = .returned (.bool true) ∧ J (pre ++ [x]) W' ∧ KB Bs n₀ W W') ∨ (e = .returned (.bool false) ∧ Jx (pre ++ [x]) W'))
    (W : World) (hBs : W.cell? ⟨Bs, 0, none⟩ = some (.slice A l.length cap)) (hc : BytesAt n₀ W A l) (h0 : J [] W) :
    CallsIn F n Tryd.prog 90 #[.func (.yield ll) #[] #[], .pointer (some ⟨Bs, 0, none⟩)] W fun e W' => (∃ v, e = .returned v) ∧
      ((∃ ys, ys = uptoF (backF l) l.length ∧ J ys W') ∨ (∃ pre, (∃ k, k ≤ l.length ∧ pre = uptoF (backF l) k) ∧ Jx pre W')) := by
  refine callsIn_of_wp Tryd.func90 rfl hf ?_ hro
  simp only [Tryd.ntmps90, List.size_toArray, List.length_cons, List.length_nil, Nat.reduceAdd, Nat.reduceSub, Array.replicate_succ, Array.replicate_zero, List.push_toArray, List.append_toArray, List.nil_append, List.cons_append]
  have HC := hide hc
  clear hc
  gi_wp2
  gi_loopw [3] (fun i wr => ∃ k : Nat, k ≤ l.length ∧ i = .int .i64 ((l.length : Int) - 1 - k) ∧ J (uptoF (backF l) k) wr ∧ KB Bs n₀ W wr)
    (fun i _ => (intOf i + 1).toNat)
  case atStart => exact ⟨0, Nat.zero_le _, by simp, h0, KB.refl _ _ _⟩
  case round =>
    obtain ⟨k, hk, rfl, hJs, hnx⟩ := hrel
    have hbs' : wr.cell? ⟨Bs, 0, none⟩ = some (.slice A l.length cap) := hnx.cell hBs
    by_cases hlt : k < l.length
    · obtain ⟨m, hm⟩ : ∃ m, m = l.length - 1 - k := ⟨_, rfl⟩
      have hml : m < l.length := by omega
      have hmi : (l.length : Int) - 1 - k = m := by omega
      obtain ⟨b, off, rfl, hb, hcx⟩ := (HC.out.below hnx.1) m hml
      have HX := hide (show backF l k = (m, l.getD m 0) by unfold backF; rw [← hm])
      obtain ⟨fn, tmps, assign, body, hy, hR⟩ := hY _ (m, l.getD m 0) wr hJs (by rw [uptoF_length]; exact hlt)
      dsimp only at hy
      have HM := hide hm
      clear hm
      rw [hmi]
      clear hmi
      generalize l.getD m 0 = c at *
      gi_wp2
      refine hR.mono ?_
      rintro e W3 (⟨rfl, hJ3, hk3⟩ | ⟨rfl, hJx3⟩)
      · gi_wp2
        go_roundw
        case rel => exact ⟨k + 1, by omega, by have := HM.out; rw [show (l.length : Int) - 1 - ((k + 1 : Nat) : Int) = (m : Int) - 1 by omega], by rw [uptoF_succ, HX.out]; exact hJ3, hnx.trans hk3⟩
        case measure => simp [intOf]
      · gi_wp2
        refine bodyPost_ret (results_none rfl _ _ _) rfl ?_
        exact ⟨⟨_, rfl⟩, .inr ⟨_, ⟨k + 1, by omega, by rw [uptoF_succ, HX.out]⟩, hJx3⟩⟩
    · obtain rfl : k = l.length := by omega
      have hmi : (l.length : Int) - 1 - l.length = -1 := by omega
      rw [hmi]
      clear hmi
      gi_wp2
      go_end0
      exact ⟨⟨_, rfl⟩, .inl ⟨_, rfl, hJs⟩⟩

set_option maxHeartbeats 1000000 in
/-- slices.Backward(b): the slice value is boxed; the function value captures the box. -/
theorem back_in (F : Fence) (n : Nat) (hf : F.fn 89) (hro : F.round = none) (A : Option Addr) (len cap : Nat) (w : World) :
    CallsIn F n Tryd.prog 89 #[.slice A len cap] w fun e w' => e = .returned (.func (.func 90) #[] #[.pointer (some ⟨w.heap.size, 0, none⟩)]) ∧ w' = w.alloc (.cells #[.slice A len cap] 22) := by
  refine callsIn_of_wp Tryd.func89 rfl hf ?_ hro
  simp only [Tryd.ntmps89, List.size_toArray, List.length_cons, List.length_nil, Nat.reduceAdd, Nat.reduceSub, Array.replicate_succ, Array.replicate_zero, List.push_toArray, List.append_toArray, List.nil_append, List.cons_append]
  gi_wp2
  go_ret
  exact ⟨rfl, rfl⟩

theorem back_stops (F : Fence) (n : Nat) (hf : F.fn 90) (hro : F.round = none) (hn : 1 ≤ n) (Bs n₀ cap : Nat) (A : Option Addr) (l : List UInt8) (hlen : l.length ≤ 1073741824) (w : World) (hBs : Bs < w.heap.size) (hn₀ : n₀ ≤ w.heap.size)
    (hc : w.cell? ⟨Bs, 0, none⟩ = some (.slice A l.length cap)) (hI : BytesAt n₀ w A l) :
    SeqStopsK F n Tryd.prog 90 #[.pointer (some ⟨Bs, 0, none⟩)] (fun x : Nat × UInt8 => #[Value.int .i64 (x.1 : Int), Value.int .u8 x.2.toNat]) (KB Bs n₀) (fun ys => ys = uptoF (backF l) l.length)
      (fun pre => ∃ k, k ≤ l.length ∧ pre = uptoF (backF l) k) l.length w := fun ll J Jx W hW _ _ hY h0 =>
  back1_in F n hf hro hn ll Bs n₀ cap A l hlen J Jx hY W ((hW.cell (p := ⟨Bs, 0, none⟩) hBs).trans hc) (hI.below (hW.mono hn₀)) h0
/-- The number that comes, the highest byte first. -/
def accB (pre : List (Nat × UInt8)) : Nat := pre.foldl (fun n x => n * 256 + x.2.toNat) 0
theorem accB_snoc (pre : List (Nat × UInt8)) (x : Nat × UInt8) : accB (pre ++ [x]) = accB pre * 256 + x.2.toNat := by unfold accB; rw [List.foldl_append]; rfl
theorem accB_drop (l : List UInt8) : ∀ k, k ≤ l.length → accB (uptoF (backF l) k) = valL (l.drop (l.length - k))
  | 0, _ => by simp [uptoF, accB, valL]
  | k + 1, h => by
    rw [uptoF_succ, accB_snoc, accB_drop l k (by omega)]
    have e : l.length - k = l.length - (k + 1) + 1 := by omega
    have h2 : l.length - (k + 1) < l.length := by omega
    rw [List.drop_eq_getElem_cons h2, valL, ← e]
    have h3 : (backF l k).2 = l[l.length - (k + 1)] := by
      unfold backF
      rw [show l.length - 1 - k = l.length - (k + 1) by omega, List.getD_eq_getElem?_getD, List.getElem?_eq_getElem h2]
      rfl
    rw [h3]
    omega
theorem accB_all (l : List UInt8) : accB (uptoF (backF l) l.length) = valL l := by rw [accB_drop l l.length (Nat.le_refl _)]; simp
theorem accB_lt {l : List UInt8} {k : Nat} (hk : k ≤ l.length) (hl : l.length ≤ 8) : accB (uptoF (backF l) k) < 256 ^ k := by
  rw [accB_drop l k hk]
  have := valL_lt (l.drop (l.length - k))
  rw [List.length_drop, show l.length - (l.length - k) = k by omega] at this
  exact this
end Go.Proofs.YtdkgaknfjfgkkaaDoor
namespace Go.Proofs.YtdkgaknfjfgkkaaDoor
open Go.RowKit Go.Shelf

attribute [local go_sem] Oper.semAt_some

/-- What take gives: these bytes; what is left. -/
def TakeRes (lo : Nat → Prop) (g : Nat) (w : World) (bl l2 : List UInt8) (b2 : Bool) (e : Ending) (w' : World) : Prop :=
  ∃ A c, e = .returned (.slice A bl.length c) ∧ Reads lo g w' A bl ∧ InAt lo g w' l2 b2 ∧ OnlyG g w w'
def DigRes (lo : Nat → Prop) (g : Nat) (w : World) (bl l2 : List UInt8) (b2 : Bool) (e : Ending) (w' : World) : Prop :=
  ((lastB bl ≠ 0 ∧ valL bl < 9223372036854775808) → e = .returned (.int .i64 (valL bl : Nat)) ∧ InAt lo g w' l2 b2) ∧
  (¬ (lastB bl ≠ 0 ∧ valL bl < 9223372036854775808) → e = .returned (.int .i64 0) ∧ InAt lo g w' [] true) ∧ OnlyG g w w'

theorem accB_bd (pre : List (Nat × UInt8)) : accB pre < 256 ^ pre.length := by
  have key : ∀ (l : List (Nat × UInt8)) (n k : Nat), n < 256 ^ k → l.foldl (fun n x => n * 256 + x.2.toNat) n < 256 ^ (k + l.length) := fun l => by
    induction l with
    | nil => intro n k h; exact h
    | cons x l ih =>
      intro n k h
      have hx := x.2.toNat_lt
      rw [List.foldl_cons, List.length_cons, show k + (l.length + 1) = k + 1 + l.length by omega]
      refine ih _ (k + 1) ?_
      rw [Nat.pow_succ]
      omega
  have := key pre 0 0 (by simp)
  rwa [Nat.zero_add] at this
theorem lastB_get {l : List UInt8} (h : l ≠ []) : lastB l = (l.getD (l.length - 1) 0).toNat := by
  unfold lastB
  rw [List.getLast?_eq_getElem?, List.getD_eq_getElem?_getD, List.getElem?_eq_getElem (by have := List.length_pos_iff.2 h; omega)]
  rfl
theorem OnlyG.then {g : Nat} {a b c : World} (h : OnlyG g a b) (k : Below a.heap.size b c) : OnlyG g a c :=
  ⟨k.os.trans h.os, k.tape.trans h.tape, k.output.trans h.output, Nat.le_trans h.size k.size, fun i hi hg => (k.block i hi).trans (h.block i hi hg)⟩
theorem InAt.empty {lo : Nat → Prop} {g : Nat} {w w' : World} (h : InAt lo g w [] true) (hb : w'.heap[g]? = w.heap[g]?) : InAt lo g w' [] true := by
  obtain ⟨hg, h0, A, c, hbx, h1, h2, h3, h4, h5⟩ := h
  exact ⟨hg, h0, A, c, hb.trans hbx, h1, h2, h3, h4, Reads.nil _ _ _ _⟩
theorem or_byte (N c : Nat) (hN : N < 72057594037927936) (hc : c < 256) : bits .or .u64 ((N : Int) * 256) (c : Int) = ((N * 256 + c : Nat) : Int) := by
  rw [show (N : Int) * 256 = ((N * 256 : Nat) : Int) by omega, u64_or_nat _ _ (by omega) (by omega)]
  congr 1
  rw [Nat.mul_comm]
  exact (Nat.two_pow_add_eq_or_of_lt (i := 8) hc N).symm

set_option maxRecDepth 100000 in
set_option maxHeartbeats 4000000 in
theorem dig_walk {lo : Nat → Prop} {g : Nat} {bl l2 : List UInt8} {b2 : Bool} (n : Nat) (w : World) (hn : n ≤ 8) (hbl : bl.length ≤ 8)
    (hT : Calls Tryd.prog 85 #[vI g, .int .i64 n] w (TakeRes lo g w bl l2 b2)) :
    Calls Tryd.prog 88 #[vI g, .int .i64 n] w (DigRes lo g w bl l2 b2) := by
  have HT := hide hT
  clear hT
  refine (callsIn_wide (n := 3)).1 ?_
  refine callsIn_of_wp_marks Tryd.func88 rfl trivial ?_ rfl
  simp only [Tryd.ntmps88, List.size_toArray, List.length_cons, List.length_nil, Nat.reduceAdd, Nat.reduceSub, Array.replicate_succ, Array.replicate_zero, List.push_toArray, List.append_toArray, List.nil_append, List.cons_append]
  have hd8 : decide (8 < (n : Int)) = false := by simp; omega
  gi_wp2_with (refine ⟨trivial, ?_⟩; gi_at_call 85; refine (callsIn_wide.2 HT.out).mono ?_; rintro e w2 ⟨A, c, rfl, hR2, hI2, ho2⟩)
  refine ⟨trivial, ?_⟩
  refine (back_in Fence.wide 2 trivial rfl _ _ _ _).mono ?_
  rintro e w3 ⟨rfl, rfl⟩
  have bN := Boxed.new w2 108 (.int .u64 0)
  have bS := Boxed.new (w2.alloc (.cells #[.int .u64 0] 108)) 22 (.slice A bl.length c)
  rw [World.size_alloc] at bS
  have hB0 : Below w2.heap.size w2 ((w2.alloc (.cells #[.int .u64 0] 108)).alloc (.cells #[.slice A bl.length c] 22)) := ((Below.refl _ w2).alloc (Nat.le_refl _) _).alloc (by simp) _
  have HR2 := hide hR2
  have HI2 := hide hI2
  have HO2 := hide ho2
  clear hR2 hI2 ho2
  gi_wp2
  have hBy : BytesAt w2.heap.size ((w2.alloc (.cells #[.int .u64 0] 108)).alloc (.cells #[.slice A bl.length c] 22)) A bl := HR2.out.bytes.below hB0
  have HB0 := hide hB0
  refine wpIn_rangeFunc_ownG rfl (by omega) (gf := 90) (lb := #[.pointer (some ⟨w2.heap.size + 1, 0, none⟩)]) rfl trivial (enters_of Tryd.func90 (by kernel_rfl) rfl)
    (back_stops Fence.wide 2 trivial rfl (by omega) (w2.heap.size + 1) w2.heap.size c A bl (by omega) _ (by simp) (by simp; omega) bS.cell hBy) (fun h k => h.trans k)
    (fun W l o o' hl h h1 h2 => ⟨belowK_b (w := w2) (Nat.le_refl _) W l o o' (by simp at hl; omega) h h1 h2, (belowK_b (n₀ := w2.heap.size + 1 + 1) (w := (w2.alloc (.cells #[.int .u64 0] 108)).alloc (.cells #[.slice A bl.length c] 22)) (by simp) W l o o' hl h h1 h2).block _ (by omega)⟩)
    (Below.refl _ _) (fun _ => rfl)
    (fun pre W => (W.cell? ⟨w2.heap.size, 0, none⟩ = some (.int .u64 (accB pre : Nat)) ∧ W.frozen? ⟨w2.heap.size, 0, none⟩ = false) ∧ Below w2.heap.size w2 W)
    (fun _ _ _ => False)
    (OwnFrom.and (Own.from (fun s A B row hs hg hr => ⟨cell_kept hs.1 hg hr, (frozen_kept hs.1 hg hr).trans hs.2⟩) _) (ownFrom_below (Nat.le_refl _) (by simp; omega)))
    (fun _ _ _ _ _ hs _ _ => hs)
    ⟨⟨(bN.alloc _).cell, (bN.alloc _).frozen⟩, hB0⟩
    (fun x => { tmps := #[vI g, .int .i64 n, undef, undef, .int .i64 0, .slice A bl.length c, .pointer (some ⟨w2.heap.size, 0, none⟩), undef, .int .u8 x.2.toNat, .int .i64 n, .bool false, undef, undef, vI g, .int .i64 n, .slice A bl.length c, .slice A bl.length c, .func (.func 90) #[] #[.pointer (some ⟨w2.heap.size + 1, 0, none⟩)], .int .i64 (x.1 : Int), .int .u8 x.2.toNat, undef, undef, undef, undef, undef, undef, undef, undef, undef, undef, undef, undef, undef, undef, undef, undef, undef, undef, undef, undef, undef, undef, undef, undef, undef], defers := [] }) ?assign ?body ?done ?stop
  case assign =>
    intro l x W K hK
    gi_wp2
    exact hK
  case body =>
    rintro l pre x W ⟨⟨hc, hf⟩, hB⟩ hlen
    have hN : accB pre < 72057594037927936 := Nat.lt_of_lt_of_le (accB_bd pre) (show 256 ^ pre.length ≤ 256 ^ 7 from Nat.pow_le_pow_right (by omega) (by omega))
    have hcx : x.2.toNat < 256 := x.2.toNat_lt
    have ho := or_byte (accB pre) x.2.toNat hN hcx
    have HS := hide (accB_snoc pre x)
    generalize accB pre = N at *
    gi_wp2
    exact ⟨(KeepsOthers.setCell _ _ _).from _, ⟨(Below.refl w2.heap.size W).setCell (p := ⟨w2.heap.size, 0, none⟩) (Nat.le_refl _) _, Below.heap_setCell _ _ _ _ (show w2.heap.size + 1 ≠ w2.heap.size by omega)⟩, ⟨by rw [HS.out]; exact World.cell?_setCell_same' _ _ _ (by rw [hc]; rfl), by rw [World.frozen?_setCell]; exact hf⟩, hB.setCell (p := ⟨w2.heap.size, 0, none⟩) (Nat.le_refl _) _⟩
  case done =>
    rintro D ys W hD rfl ⟨⟨hc, _⟩, hB⟩ hK
    rw [accB_all] at hc
    have hD2 : w2.heap.size ≤ D := by simp at hD; omega
    have HI := hide (HI2.out.below hB)
    have HO := hide (HO2.out.trans (OnlyG.of_below hB))
    have HFl := hide (fail_any W (HI2.out.below hB))
    have hgl := (HI2.out).lt
    have hv : valL bl < 18446744073709551616 := Nat.lt_of_lt_of_le (valL_lt bl) (show 256 ^ bl.length ≤ 256 ^ 8 from Nat.pow_le_pow_right (by omega) hbl)
    have HGood := hide (fun (h : lastB bl ≠ 0 ∧ valL bl < 9223372036854775808) => (by
      have hb2 := belowK_b (n₀ := w2.heap.size) (w := w2) (Nat.le_refl _) W D _ (.deferred none) hD2 hK rfl rfl
      exact ⟨fun _ => ⟨rfl, HI2.out.below (hB.trans hb2)⟩, fun hn => absurd h hn, HO.out.then (hb2.mono HO2.out.size)⟩ : DigRes lo g w bl l2 b2 (.returned (.int .i64 (valL bl : Nat))) (W.putObj D (.deferred none))))
    have HBad := hide (fun (W3 : World) (h : ¬ (lastB bl ≠ 0 ∧ valL bl < 9223372036854775808)) (hi : InAt lo g W3 [] true) (ho : OnlyG g W W3) => (by
      have hDlt : D < W.heap.size := (Array.getElem?_eq_some_iff.1 hK).1
      have hK3 : W3.heap[D]? = some (.deferred (some [])) := (ho.block D hDlt (by omega)).trans hK
      have hb2 := belowK_b (n₀ := w2.heap.size) (w := w2) (Nat.le_refl _) W3 D _ (.deferred none) hD2 hK3 rfl rfl
      exact ⟨hK3, fun hn => absurd hn h, fun _ => ⟨rfl, hi.empty (hb2.block g hgl)⟩, (HO.out.trans ho).then (hb2.mono HO2.out.size)⟩ : W3.heap[D]? = some (.deferred (some [])) ∧ DigRes lo g w bl l2 b2 (.returned (.int .i64 0)) (W3.putObj D (.deferred none))))
    by_cases h0 : bl = []
    · subst h0
      have hv0 : valL [] = 0 := rfl
      have HG := hide (show DigRes lo g w [] l2 b2 (.returned (.int .i64 0)) (W.putObj D (.deferred none)) from HGood.out (by decide))
      rw [hv0] at hc
      clear hv hB hBy HGood HBad HR2 hB0
      gi_wp2
      refine ⟨by simp, .inl ⟨_, _, rfl, run_takeDeferred hK, ?_⟩⟩
      refine ⟨_, results_tmp rfl _ _ _, ?_⟩
      exact HG.out
    · have hln : 0 < bl.length := List.length_pos_iff.2 h0
      obtain ⟨b, off, hA, hb, cl⟩ := (HR2.out.bytes.below hB) (bl.length - 1) (by omega)
      have HL := hide (lastB_get h0)
      have hci : (bl.length : Int) - 1 = ((bl.length - 1 : Nat) : Int) := by omega
      generalize bl.getD (bl.length - 1) 0 = z at *
      subst hA
      generalize valL bl = V at *
      have hz : z.toNat < 256 := z.toNat_lt
      clear hB hBy hB0 bN bS h0
      have hw1 : IntKind.i64.wrap ((bl.length : Int) - 1) = (bl.length : Int) - 1 := IntWalk.i64_in _ (by omega)
      by_cases hz0 : z.toNat = 0
      · have hzb : (((z.toNat : Nat) : Int) == 0) = true := by rw [hz0]; rfl
        rw [hci] at hw1
        have HB := hide (fun W3 => HBad.out W3 (fun h => h.1 (by rw [HL.out]; exact hz0)))
        clear HBad HGood
        gi_wp2
        refine ⟨trivial, (callsIn_wide.2 HFl.out).mono ?_⟩
        rintro e W3 ⟨rfl, hi3, ho3⟩
        obtain ⟨hK3, hF3⟩ := HB.out W3 hi3 ho3
        have HF3 := hide hF3
        clear hi3 ho3 hF3
        gi_wp2
        refine ⟨by simp, .inl ⟨_, _, rfl, run_takeDeferred hK3, ?_⟩⟩
        refine ⟨_, results_tmp rfl _ _ _, ?_⟩
        exact HF3.out
      · have hzb : (((z.toNat : Nat) : Int) == 0) = false := by rw [beq_eq_false_iff_ne]; omega
        rw [hci] at hw1
        by_cases hV : V < 9223372036854775808
        · have HG := hide (HGood.out ⟨by rw [HL.out]; exact hz0, hV⟩)
          clear HBad HGood hv
          gi_wp2
          refine ⟨by simp, .inl ⟨_, _, rfl, run_takeDeferred hK, ?_⟩⟩
          refine ⟨_, results_tmp rfl _ _ _, ?_⟩
          exact HG.out
        · have HB := hide (fun W3 => HBad.out W3 (fun h => hV h.2))
          have hV2 : (9223372036854775807 : Int) < V := by omega
          clear HBad HGood
          gi_wp2
          refine ⟨trivial, (callsIn_wide.2 HFl.out).mono ?_⟩
          rintro e W3 ⟨rfl, hi3, ho3⟩
          obtain ⟨hK3, hF3⟩ := HB.out W3 hi3 ho3
          have HF3 := hide hF3
          clear hi3 ho3 hF3
          gi_wp2
          refine ⟨by simp, .inl ⟨_, _, rfl, run_takeDeferred hK3, ?_⟩⟩
          refine ⟨_, results_tmp rfl _ _ _, ?_⟩
          exact HF3.out
  case stop =>
    rintro D c pre W _ _ h _
    exact h.elim
end Go.Proofs.YtdkgaknfjfgkkaaDoor
namespace Go.Proofs.YtdkgaknfjfgkkaaDoor
open Go.RowKit

def GoodD (t : List UInt8) (n : Nat) : Prop := n ≤ 8 ∧ n ≤ t.length ∧ lastB (t.take n) ≠ 0 ∧ valL (t.take n) < 9223372036854775808
theorem dig_yes {lo : Nat → Prop} {g : Nat} {l : List UInt8} {bad : Bool} (n : Nat) (w : World) (hI : InAt lo g w l bad) (h : GoodD l n) :
    Calls Tryd.prog 88 #[vI g, .int .i64 n] w fun e w' => e = .returned (.int .i64 (valL (l.take n) : Nat)) ∧ InAt lo g w' (l.drop n) bad ∧ OnlyG g w w' := by
  obtain ⟨h1, h2, h3, h4⟩ := h
  have hln : (l.take n).length = n := by rw [List.length_take]; omega
  refine (dig_walk (bl := l.take n) (l2 := l.drop n) (b2 := bad) n w h1 (by omega) ((take_yes n w hI h2).mono fun e w' hh => ?_)).mono fun e w' hh => ⟨(hh.1 ⟨h3, h4⟩).1, (hh.1 ⟨h3, h4⟩).2, hh.2.2⟩
  obtain ⟨A, c, e1, _, _, e4, e5, e6⟩ := hh
  exact ⟨A, c, by rw [hln]; exact e1, e4, e5, e6⟩
set_option maxHeartbeats 1600000 in
set_option maxRecDepth 100000 in
theorem dig_big {lo : Nat → Prop} {g : Nat} {l : List UInt8} {bad : Bool} (n : Nat) (w : World) (hI : InAt lo g w l bad) (hn : ¬ n ≤ 8) (hn2 : n ≤ 255) :
    Calls Tryd.prog 88 #[vI g, .int .i64 n] w fun e w' => e = .returned (.int .i64 0) ∧ InAt lo g w' [] true ∧ OnlyG g w w' := by
  have HF := hide (fail_any w hI)
  have hn3 : 8 < (n : Int) := by omega
  clear hI hn
  go_enter Tryd.func88, Tryd.ntmps88
  go_wp2_with fail
  refine HF.out.mono ?_
  rintro e w1 ⟨rfl, h1, h2⟩
  have HA := hide (And.intro h1 h2)
  clear h1 h2
  go_wp2_with fail
  go_ret
  exact ⟨rfl, HA.out⟩
theorem dig_no {lo : Nat → Prop} {g : Nat} {l : List UInt8} {bad : Bool} (n : Nat) (w : World) (hI : InAt lo g w l bad) (hn2 : n ≤ 255) (h : ¬ GoodD l n) :
    Calls Tryd.prog 88 #[vI g, .int .i64 n] w fun e w' => e = .returned (.int .i64 0) ∧ InAt lo g w' [] true ∧ OnlyG g w w' := by
  by_cases h1 : n ≤ 8
  · by_cases h2 : n ≤ l.length
    · have hln : (l.take n).length = n := by rw [List.length_take]; omega
      have h3 : ¬ (lastB (l.take n) ≠ 0 ∧ valL (l.take n) < 9223372036854775808) := fun hh => h ⟨h1, h2, hh.1, hh.2⟩
      refine (dig_walk (bl := l.take n) (l2 := l.drop n) (b2 := bad) n w h1 (by omega) ((take_yes n w hI h2).mono fun e w' hh => ?_)).mono fun e w' hh => ⟨(hh.2.1 h3).1, (hh.2.1 h3).2, hh.2.2⟩
      obtain ⟨A, c, e1, _, _, e4, e5, e6⟩ := hh
      exact ⟨A, c, by rw [hln]; exact e1, e4, e5, e6⟩
    · refine (dig_walk (bl := []) (l2 := []) (b2 := true) n w h1 (by simp) ((take_no (n : Int) w hI (by omega) (by omega) (by omega)).mono fun e w' hh => ⟨none, 0, hh.1, Reads.nil _ _ _ _, hh.2.1, hh.2.2⟩)).mono fun e w' hh => ?_
      have := hh.1 ⟨by decide, by decide⟩
      exact ⟨this.1, this.2, hh.2.2⟩
  · exact dig_big n w hI h1 hn2
theorem readI_low {c : UInt8} {t : List UInt8} (h : ¬ 16 ≤ c.toNat) (hg : GoodD t c.toNat) : readI (c :: t) = some (((valL (t.take c.toNat) : Nat) : Int), 1 + c.toNat) := by
  obtain ⟨h1, h2, h3, h4⟩ := hg
  have e : c.toNat % 16 = c.toNat := by omega
  rw [readI, e, if_pos (by simp only [headOk, e, Bool.and_eq_true, decide_eq_true_eq]; omega), if_pos ⟨h3, h4⟩]
  unfold signI; rw [if_neg h]
theorem readI_low_no {c : UInt8} {t : List UInt8} (h : ¬ 16 ≤ c.toNat) (hg : ¬ GoodD t c.toNat) : readI (c :: t) = none := by
  have e : c.toNat % 16 = c.toNat := by omega
  rw [readI]
  simp only [e]
  split
  · rename_i ho
    simp only [headOk, e, Bool.and_eq_true, decide_eq_true_eq] at ho
    rw [if_neg fun hh => hg ⟨by omega, by omega, hh.1, hh.2⟩]
  · rfl
theorem readI_high {c : UInt8} {t : List UInt8} (h : 16 ≤ c.toNat) (hg : GoodD t (c.toNat - 16)) : readI (c :: t) = some (-1 - ((valL (t.take (c.toNat - 16)) : Nat) : Int), 1 + (c.toNat - 16)) := by
  obtain ⟨h1, h2, h3, h4⟩ := hg
  have e : c.toNat % 16 = c.toNat - 16 := by omega
  rw [readI, e, if_pos (by simp only [headOk, e, Bool.and_eq_true, decide_eq_true_eq]; omega), if_pos ⟨h3, h4⟩]
  unfold signI; rw [if_pos h]
theorem readI_high_no {c : UInt8} {t : List UInt8} (h : 16 ≤ c.toNat) (hg : ¬ GoodD t (c.toNat - 16)) : readI (c :: t) = none := by
  rw [readI]
  split
  · rename_i ho
    simp only [headOk, Bool.and_eq_true, decide_eq_true_eq] at ho
    have e : c.toNat % 16 = c.toNat - 16 := by omega
    rw [e, if_neg fun hh => hg ⟨by omega, by omega, hh.1, hh.2⟩]
  · rfl
/-- What Int gives; what is left; whether the decoder is bad. -/
def intN (l : List UInt8) : Int := (readI l).elim 0 (·.1)
def intL (l : List UInt8) : List UInt8 := (readI l).elim [] fun p => l.drop p.2
def intX (l : List UInt8) : Bool := (readI l).isNone
def IntRes (lo : Nat → Prop) (g : Nat) (w : World) (l : List UInt8) (e : Ending) (w' : World) : Prop := e = .returned (.int .i64 (intN l)) ∧ InAt lo g w' (intL l) (intX l) ∧ OnlyG g w w'
set_option maxHeartbeats 3200000 in
set_option maxRecDepth 100000 in
theorem inInt_any {lo : Nat → Prop} {g : Nat} {l : List UInt8} {bad : Bool} (w : World) (hI : InAt lo g w l bad) :
    Calls Tryd.prog 79 #[vI g] w (IntRes lo g w l) := by
  cases l with
  | nil =>
    have HN := hide (show intN [] = 0 from rfl)
    have HL := hide (show intL [] = [] from rfl)
    have HX := hide (show intX [] = true from rfl)
    have HT := hide (take_no 1 w hI (by omega) (by omega) (by simp))
    clear hI
    unfold IntRes
    go_enter Tryd.func79, Tryd.ntmps79
    go_wp2_with fail
    refine HT.out.mono ?_
    rintro e w1 ⟨rfl, hI1, ho1⟩
    have HA := hide (And.intro hI1 ho1)
    obtain ⟨_, _, A1, c1, hbx, _⟩ := hI1
    obtain ⟨k0, k1, f0, f1⟩ := InAt.cells hbx
    clear hbx ho1
    go_wp2_with fail
    go_ret
    exact ⟨rfl, HA.out⟩
  | cons c t =>
    have hbad : bad = false := by
      cases bad with
      | false => rfl
      | true => obtain ⟨_, h0, _⟩ := hI; cases h0 rfl
    subst hbad
    have hc := c.toNat_lt
    have hc1 : c.toNat < 256 := hc
    clear hc
    have HT := hide (take_yes 1 w hI (by simp))
    clear hI
    by_cases h16 : 16 ≤ c.toNat
    · by_cases hg : GoodD t (c.toNat - 16)
      · have HR := hide (readI_high h16 hg)
        have HN := hide (show intN (c :: t) = -1 - ((valL (t.take (c.toNat - 16)) : Nat) : Int) by unfold intN; rw [HR.out]; rfl)
        have HL := hide (show intL (c :: t) = t.drop (c.toNat - 16) by unfold intL; rw [HR.out]; show (c :: t).drop (1 + _) = _; rw [Nat.add_comm 1, List.drop_succ_cons])
        have HX := hide (show intX (c :: t) = false by unfold intX; rw [HR.out]; rfl)
        have HD := hide (fun w' (h : InAt lo g w' t false) => dig_yes (c.toNat - 16) w' h hg)
        have hv := hg.2.2.2
        generalize valL (t.take (c.toNat - 16)) = V at *
        have hm : (c.toNat : Int) - 16 = ((c.toNat - 16 : Nat) : Int) := by omega
        have h16' : (16 : Int) ≤ (c.toNat : Int) := by omega
        clear hg h16
        unfold IntRes
        generalize intN (c :: t) = rN at *
        generalize intL (c :: t) = rL at *
        generalize intX (c :: t) = rX at *
        go_enter Tryd.func79, Tryd.ntmps79
        go_wp2_with fail
        refine HT.out.mono ?_
        rintro e w1 ⟨A1, c1, rfl, hc1, hn1, hR1, hI1, ho1⟩
        obtain ⟨b, off, hA, _, _, _, cz⟩ := hR1 0 (by simp)
        subst hA
        rw [Nat.add_zero, List.take_succ_cons, List.getD_cons_zero] at cz
        have HD1 := hide (HD.out w1 hI1)
        have HO1 := hide ho1
        obtain ⟨_, _, A2, c2, hbx, _⟩ := hI1
        obtain ⟨k0, k1, f0, f1⟩ := InAt.cells hbx
        clear hbx hR1 hn1 ho1 HD HT
        go_wp2_with fail
        refine HD1.out.mono ?_
        rintro e w2 ⟨rfl, hI2, ho2⟩
        have HA := hide (show InAt lo g w2 rL rX ∧ OnlyG g w w2 from ⟨by rw [HL.out, HX.out]; exact hI2, HO1.out.trans ho2⟩)
        obtain ⟨_, _, A3, c3, hbx, _⟩ := hI2
        obtain ⟨m0, m1, f2, f3⟩ := InAt.cells hbx
        clear hbx ho2 k0 k1 f0 f1 cz HD1
        go_wp2_with fail
        go_ret
        exact ⟨ret_int HN.out.symm, HA.out⟩
      · have HR := hide (readI_high_no h16 hg)
        have HN := hide (show intN (c :: t) = 0 by unfold intN; rw [HR.out]; rfl)
        have HL := hide (show intL (c :: t) = [] by unfold intL; rw [HR.out]; rfl)
        have HX := hide (show intX (c :: t) = true by unfold intX; rw [HR.out]; rfl)
        have HD := hide (fun w' (h : InAt lo g w' t false) => dig_no (c.toNat - 16) w' h (by omega) hg)
        have hm : (c.toNat : Int) - 16 = ((c.toNat - 16 : Nat) : Int) := by omega
        have h16' : (16 : Int) ≤ (c.toNat : Int) := by omega
        clear hg h16
        unfold IntRes
        generalize intN (c :: t) = rN at *
        generalize intL (c :: t) = rL at *
        generalize intX (c :: t) = rX at *
        go_enter Tryd.func79, Tryd.ntmps79
        go_wp2_with fail
        refine HT.out.mono ?_
        rintro e w1 ⟨A1, c1, rfl, hc1, hn1, hR1, hI1, ho1⟩
        obtain ⟨b, off, hA, _, _, _, cz⟩ := hR1 0 (by simp)
        subst hA
        rw [Nat.add_zero, List.take_succ_cons, List.getD_cons_zero] at cz
        have HD1 := hide (HD.out w1 hI1)
        have HO1 := hide ho1
        obtain ⟨_, _, A2, c2, hbx, _⟩ := hI1
        obtain ⟨k0, k1, f0, f1⟩ := InAt.cells hbx
        clear hbx hR1 hn1 ho1 HD HT
        go_wp2_with fail
        refine HD1.out.mono ?_
        rintro e w2 ⟨rfl, hI2, ho2⟩
        have HA := hide (show InAt lo g w2 rL rX ∧ OnlyG g w w2 from ⟨by rw [HL.out, HX.out]; exact hI2, HO1.out.trans ho2⟩)
        obtain ⟨_, _, A3, c3, hbx, _⟩ := hI2
        obtain ⟨m0, m1, f2, f3⟩ := InAt.cells hbx
        clear hbx ho2 k0 k1 f0 f1 cz HD1
        go_wp2_with fail
        go_ret
        exact ⟨ret_int HN.out.symm, HA.out⟩
    · by_cases hg : GoodD t c.toNat
      · have HR := hide (readI_low h16 hg)
        have HN := hide (show intN (c :: t) = ((valL (t.take c.toNat) : Nat) : Int) by unfold intN; rw [HR.out]; rfl)
        have HL := hide (show intL (c :: t) = t.drop (c.toNat) by unfold intL; rw [HR.out]; show (c :: t).drop (1 + _) = _; rw [Nat.add_comm 1, List.drop_succ_cons])
        have HX := hide (show intX (c :: t) = false by unfold intX; rw [HR.out]; rfl)
        have HD := hide (fun w' (h : InAt lo g w' t false) => dig_yes (c.toNat) w' h hg)
        have hv := hg.2.2.2
        generalize valL (t.take (c.toNat)) = V at *
        have h16' : ¬ (16 : Int) ≤ (c.toNat : Int) := by omega
        clear hg h16
        unfold IntRes
        generalize intN (c :: t) = rN at *
        generalize intL (c :: t) = rL at *
        generalize intX (c :: t) = rX at *
        go_enter Tryd.func79, Tryd.ntmps79
        go_wp2_with fail
        refine HT.out.mono ?_
        rintro e w1 ⟨A1, c1, rfl, hc1, hn1, hR1, hI1, ho1⟩
        obtain ⟨b, off, hA, _, _, _, cz⟩ := hR1 0 (by simp)
        subst hA
        rw [Nat.add_zero, List.take_succ_cons, List.getD_cons_zero] at cz
        have HD1 := hide (HD.out w1 hI1)
        have HO1 := hide ho1
        obtain ⟨_, _, A2, c2, hbx, _⟩ := hI1
        obtain ⟨k0, k1, f0, f1⟩ := InAt.cells hbx
        clear hbx hR1 hn1 ho1 HD HT
        go_wp2_with fail
        refine HD1.out.mono ?_
        rintro e w2 ⟨rfl, hI2, ho2⟩
        have HA := hide (show InAt lo g w2 rL rX ∧ OnlyG g w w2 from ⟨by rw [HL.out, HX.out]; exact hI2, HO1.out.trans ho2⟩)
        obtain ⟨_, _, A3, c3, hbx, _⟩ := hI2
        obtain ⟨m0, m1, f2, f3⟩ := InAt.cells hbx
        clear hbx ho2 k0 k1 f0 f1 cz HD1
        go_wp2_with fail
        go_ret
        exact ⟨ret_int HN.out.symm, HA.out⟩
      · have HR := hide (readI_low_no h16 hg)
        have HN := hide (show intN (c :: t) = 0 by unfold intN; rw [HR.out]; rfl)
        have HL := hide (show intL (c :: t) = [] by unfold intL; rw [HR.out]; rfl)
        have HX := hide (show intX (c :: t) = true by unfold intX; rw [HR.out]; rfl)
        have HD := hide (fun w' (h : InAt lo g w' t false) => dig_no (c.toNat) w' h (by omega) hg)
        have h16' : ¬ (16 : Int) ≤ (c.toNat : Int) := by omega
        clear hg h16
        unfold IntRes
        generalize intN (c :: t) = rN at *
        generalize intL (c :: t) = rL at *
        generalize intX (c :: t) = rX at *
        go_enter Tryd.func79, Tryd.ntmps79
        go_wp2_with fail
        refine HT.out.mono ?_
        rintro e w1 ⟨A1, c1, rfl, hc1, hn1, hR1, hI1, ho1⟩
        obtain ⟨b, off, hA, _, _, _, cz⟩ := hR1 0 (by simp)
        subst hA
        rw [Nat.add_zero, List.take_succ_cons, List.getD_cons_zero] at cz
        have HD1 := hide (HD.out w1 hI1)
        have HO1 := hide ho1
        obtain ⟨_, _, A2, c2, hbx, _⟩ := hI1
        obtain ⟨k0, k1, f0, f1⟩ := InAt.cells hbx
        clear hbx hR1 hn1 ho1 HD HT
        go_wp2_with fail
        refine HD1.out.mono ?_
        rintro e w2 ⟨rfl, hI2, ho2⟩
        have HA := hide (show InAt lo g w2 rL rX ∧ OnlyG g w w2 from ⟨by rw [HL.out, HX.out]; exact hI2, HO1.out.trans ho2⟩)
        obtain ⟨_, _, A3, c3, hbx, _⟩ := hI2
        obtain ⟨m0, m1, f2, f3⟩ := InAt.cells hbx
        clear hbx ho2 k0 k1 f0 f1 cz HD1
        go_wp2_with fail
        go_ret
        exact ⟨ret_int HN.out.symm, HA.out⟩
end Go.Proofs.YtdkgaknfjfgkkaaDoor
namespace Go.Proofs.YtdkgaknfjfgkkaaDoor
open Go.RowKit

theorem intN_i64 (l : List UInt8) : Int64 (intN l) := by
  unfold intN
  cases h : readI l with
  | none => exact ⟨by decide, by decide⟩
  | some p => obtain ⟨n, k⟩ := p; exact readI_i64 h
def TxtOk (l : List UInt8) : Prop := 0 ≤ intN l ∧ intN l ≤ (intL l).length
instance (l : List UInt8) : Decidable (TxtOk l) := by unfold TxtOk; infer_instance
def txtS (l : List UInt8) : List UInt8 := if TxtOk l then (intL l).take (intN l).toNat else []
def txtL (l : List UInt8) : List UInt8 := if TxtOk l then (intL l).drop (intN l).toNat else []
def txtX (l : List UInt8) : Bool := if TxtOk l then intX l else true
def TxtRes (lo : Nat → Prop) (g : Nat) (w : World) (l : List UInt8) (e : Ending) (w' : World) : Prop := e = .returned (.string ⟨(txtS l).toArray⟩) ∧ InAt lo g w' (txtL l) (txtX l) ∧ OnlyG g w w'
set_option maxHeartbeats 3200000 in
set_option maxRecDepth 100000 in
theorem inText_any {lo : Nat → Prop} {g : Nat} {l : List UInt8} {bad : Bool} (w : World) (hI : InAt lo g w l bad) :
    Calls Tryd.prog 80 #[vI g] w (TxtRes lo g w l) := by
  have HT := hide (inInt_any w hI)
  have hn := intN_i64 l
  unfold Int64 at hn
  obtain ⟨hn0, hn1⟩ := hn
  have HC := hide (fun (A : Option Addr) (c n : Nat) (l' : List UInt8) (w' : World) (h : BytesAt w'.heap.size w' A l') (hl : n = l'.length) => (show (convert 22 9 (.slice A n c)).run Tryd.prog w' = .ok (.string ⟨l'.toArray⟩) w' from hl ▸ conv_bytes A c l' w' h))
  clear hI
  by_cases ho : TxtOk l
  · have HS := hide (show txtS l = (intL l).take (intN l).toNat by unfold txtS; rw [if_pos ho])
    have HL := hide (show txtL l = (intL l).drop (intN l).toNat by unfold txtL; rw [if_pos ho])
    have HX := hide (show txtX l = intX l by unfold txtX; rw [if_pos ho])
    obtain ⟨o1, o2⟩ := ho
    have hnt : intN l = ((intN l).toNat : Nat) := by omega
    have HTk := hide (fun w' (h : InAt lo g w' (intL l) (intX l)) => take_yes (intN l).toNat w' h (by omega))
    unfold IntRes at HT
    unfold TxtRes
    rw [hnt] at HT
    have hk : (intN l).toNat ≤ (intL l).length := by omega
    clear hnt o1 o2 hn0 hn1
    generalize (intN l).toNat = k at *
    generalize intL l = tl at *
    go_enter Tryd.func80, Tryd.ntmps80
    go_wp2_with fail
    refine HT.out.mono ?_
    rintro e w1 ⟨rfl, hI1, ho1⟩
    have HI1 := hide hI1
    have HO1 := hide ho1
    clear hI1 ho1
    go_wp2_with fail
    refine (HTk.out w1 HI1.out).mono ?_
    rintro e w2 ⟨A, c, rfl, hc, hn, hR, hI2, ho2⟩
    have hcv := HC.out A c k (tl.take k) w2 hR.bytes (by rw [List.length_take]; omega)
    have HA := hide (show InAt lo g w2 (txtL l) (txtX l) ∧ OnlyG g w w2 from ⟨by rw [HL.out, HX.out]; exact hI2, HO1.out.trans ho2⟩)
    clear hR hI2 ho2 hc hn
    go_wp2_with fail
    go_ret
    exact ⟨ret_str (by rw [HS.out]), HA.out⟩
  · have HS := hide (show txtS l = [] by unfold txtS; rw [if_neg ho])
    have HL := hide (show txtL l = [] by unfold txtL; rw [if_neg ho])
    have HX := hide (show txtX l = true by unfold txtX; rw [if_neg ho])
    have HTk := hide (fun w' (h : InAt lo g w' (intL l) (intX l)) => take_no (intN l) w' h hn0 hn1 ho)
    unfold IntRes at HT
    unfold TxtRes
    clear ho
    generalize intN l = k at *
    generalize intL l = tl at *
    go_enter Tryd.func80, Tryd.ntmps80
    go_wp2_with fail
    refine HT.out.mono ?_
    rintro e w1 ⟨rfl, hI1, ho1⟩
    have HI1 := hide hI1
    have HO1 := hide ho1
    clear hI1 ho1
    go_wp2_with fail
    refine (HTk.out w1 HI1.out).mono ?_
    rintro e w2 ⟨rfl, hI2, ho2⟩
    have hcv := HC.out none 0 0 [] w2 (fun j hj => by simp at hj) rfl
    have HA := hide (show InAt lo g w2 (txtL l) (txtX l) ∧ OnlyG g w w2 from ⟨by rw [HL.out, HX.out]; exact hI2, HO1.out.trans ho2⟩)
    clear hI2 ho2
    go_wp2_with fail
    go_ret
    exact ⟨ret_str (by rw [HS.out]), HA.out⟩
def CntOk (l : List UInt8) (most : Int) : Prop := 0 ≤ intN l ∧ intN l ≤ most
instance (l : List UInt8) (m : Int) : Decidable (CntOk l m) := by unfold CntOk; infer_instance
def cntN (l : List UInt8) (m : Int) : Int := if CntOk l m then intN l else 0
def cntL (l : List UInt8) (m : Int) : List UInt8 := if CntOk l m then intL l else []
def cntX (l : List UInt8) (m : Int) : Bool := if CntOk l m then intX l else true
def CntRes (lo : Nat → Prop) (g : Nat) (w : World) (l : List UInt8) (m : Int) (e : Ending) (w' : World) : Prop := e = .returned (.int .i64 (cntN l m)) ∧ InAt lo g w' (cntL l m) (cntX l m) ∧ OnlyG g w w'
set_option maxHeartbeats 3200000 in
set_option maxRecDepth 100000 in
theorem inCount_any {lo : Nat → Prop} {g : Nat} {l : List UInt8} {bad : Bool} (m : Int) (w : World) (hI : InAt lo g w l bad) :
    Calls Tryd.prog 82 #[vI g, .int .i64 m] w (CntRes lo g w l m) := by
  have HT := hide (inInt_any w hI)
  clear hI
  unfold IntRes at HT
  unfold CntRes
  by_cases ho : CntOk l m
  · have HS := hide (show cntN l m = intN l by unfold cntN; rw [if_pos ho])
    have HL := hide (show cntL l m = intL l by unfold cntL; rw [if_pos ho])
    have HX := hide (show cntX l m = intX l by unfold cntX; rw [if_pos ho])
    obtain ⟨o1, o2⟩ := ho
    generalize intN l = k at *
    have o3 : ¬ k < 0 := by omega
    have o4 : ¬ m < k := by omega
    clear o1 o2
    go_enter Tryd.func82, Tryd.ntmps82
    go_wp2_with fail
    refine HT.out.mono ?_
    rintro e w1 ⟨rfl, hI1, ho1⟩
    have HA := hide (show InAt lo g w1 (cntL l m) (cntX l m) ∧ OnlyG g w w1 from ⟨by rw [HL.out, HX.out]; exact hI1, ho1⟩)
    clear hI1 ho1
    go_wp2_with fail
    go_ret
    exact ⟨ret_int HS.out.symm, HA.out⟩
  · have HS := hide (show cntN l m = 0 by unfold cntN; rw [if_neg ho])
    have HL := hide (show cntL l m = [] by unfold cntL; rw [if_neg ho])
    have HX := hide (show cntX l m = true by unfold cntX; rw [if_neg ho])
    unfold CntOk at ho
    generalize intN l = k at *
    by_cases o3 : k < 0
    · clear ho
      go_enter Tryd.func82, Tryd.ntmps82
      go_wp2_with fail
      refine HT.out.mono ?_
      rintro e w1 ⟨rfl, hI1, ho1⟩
      have HF := hide (fail_any w1 hI1)
      have HO := hide ho1
      clear hI1 ho1
      go_wp2_with fail
      refine HF.out.mono ?_
      rintro e w2 ⟨rfl, hI2, ho2⟩
      have HA := hide (show InAt lo g w2 (cntL l m) (cntX l m) ∧ OnlyG g w w2 from ⟨by rw [HL.out, HX.out]; exact hI2, HO.out.trans ho2⟩)
      clear hI2 ho2
      go_wp2_with fail
      go_ret
      exact ⟨ret_int HS.out.symm, HA.out⟩
    · have o4 : m < k := by omega
      clear ho
      go_enter Tryd.func82, Tryd.ntmps82
      go_wp2_with fail
      refine HT.out.mono ?_
      rintro e w1 ⟨rfl, hI1, ho1⟩
      have HF := hide (fail_any w1 hI1)
      have HO := hide ho1
      clear hI1 ho1
      go_wp2_with fail
      refine HF.out.mono ?_
      rintro e w2 ⟨rfl, hI2, ho2⟩
      have HA := hide (show InAt lo g w2 (cntL l m) (cntX l m) ∧ OnlyG g w w2 from ⟨by rw [HL.out, HX.out]; exact hI2, HO.out.trans ho2⟩)
      clear hI2 ho2
      go_wp2_with fail
      go_ret
      exact ⟨ret_int HS.out.symm, HA.out⟩
end Go.Proofs.YtdkgaknfjfgkkaaDoor
