/-
  slices.Backward over bytes: the iterator's contract.
-/
import Derived.Test.YtkdihekhdnnheaaDoorFIn
import Derived.RangeFuncBox
import Derived.RangeFuncLeaves
import Derived.RangeFuncNested
import Derived.RangeFuncBound
import Derived.RangeFuncCalls
import Derived.Shelf.Abstract
import Derived.Shelf.RegionOpen
import Derived.OwnWalkIn
import Derived.TacticsInMore
import Derived.LoopNIn
import Derived.LoopIn
namespace Go.Proofs.YtkdihekhdnnheaaDoor
open Go.RowKit Go.Shelf

attribute [local go_sem] Oper.semAt_some

/-- What has come when k rounds are over. -/
def uptoF {α : Type} (f : Nat → α) (k : Nat) : List α := (List.range k).map f
theorem uptoF_succ {α : Type} (f : Nat → α) (k : Nat) : uptoF f (k + 1) = uptoF f k ++ [f k] := by simp [uptoF, List.range_succ]
theorem uptoF_length {α : Type} (f : Nat → α) (k : Nat) : (uptoF f k).length = k := by simp [uptoF]
/-- The pair of round k: its index, its byte. -/
def backF (l : List UInt8) (k : Nat) : Nat × UInt8 := (l.length - 1 - k, l.getD (l.length - 1 - k) 0)

/-- What a round keeps: what lay below n₀, and the block of the slice's box. -/
def KB (Bs n₀ : Nat) (W W' : World) : Prop := Below n₀ W W' ∧ W'.heap[Bs]? = W.heap[Bs]?
theorem KB.refl (Bs n₀ : Nat) (W : World) : KB Bs n₀ W W := ⟨Below.refl _ _, rfl⟩
theorem KB.trans {Bs n₀ : Nat} {A B C : World} (h : KB Bs n₀ A B) (k : KB Bs n₀ B C) : KB Bs n₀ A C := ⟨h.1.trans k.1, k.2.trans h.2⟩
theorem KB.cell {Bs n₀ : Nat} {A B : World} (h : KB Bs n₀ A B) {v : Value} (hc : A.cell? ⟨Bs, 0, none⟩ = some v) : B.cell? ⟨Bs, 0, none⟩ = some v := by
  rw [← hc]; simp only [World.cell?]; rw [h.2]

set_option maxRecDepth 100000 in
set_option maxHeartbeats 2000000 in
/-- The closure: the last byte first. -/
theorem back1_in (F : Fence) (n : Nat) (hf : F.fn 79) (hro : F.round = none) (hn : 1 ≤ n) (ll Bs n₀ cap : Nat) (A : Option Addr) (l : List UInt8) (hlen : l.length ≤ 1073741824) (J Jx : List (Nat × UInt8) → World → Prop)
    (hY : ∀ pre x W, J pre W → pre.length < l.length → YieldAt F (n - 1) Tryd.prog ll #[.int .i64 (x.1 : Int), .int .u8 x.2.toNat] W fun e W' =>
      (e = .returned (.bool true) ∧ J (pre ++ [x]) W' ∧ KB Bs n₀ W W') ∨ (e = .returned (.bool false) ∧ Jx (pre ++ [x]) W'))
    (W : World) (hBs : W.cell? ⟨Bs, 0, none⟩ = some (.slice A l.length cap)) (hc : BytesAt n₀ W A l) (h0 : J [] W) :
    CallsIn F n Tryd.prog 79 #[.func (.yield ll) #[] #[], .pointer (some ⟨Bs, 0, none⟩)] W fun e W' => (∃ v, e = .returned v) ∧
      ((∃ ys, ys = uptoF (backF l) l.length ∧ J ys W') ∨ (∃ pre, (∃ k, k ≤ l.length ∧ pre = uptoF (backF l) k) ∧ Jx pre W')) := by
  refine callsIn_of_wp Tryd.func79 rfl hf ?_ hro
  simp only [Tryd.ntmps79, List.size_toArray, List.length_cons, List.length_nil, Nat.reduceAdd, Nat.reduceSub, Array.replicate_succ, Array.replicate_zero, List.push_toArray, List.append_toArray, List.nil_append, List.cons_append]
  have HC := hide hc
  clear hc
  gi_wp2
  gi_loopw [3] (fun i wr => ∃ k : Nat, k ≤ l.length ∧ i = .int .i64 ((l.length : Int) - 1 - k) ∧ J (uptoF (backF l) k) wr ∧ KB Bs n₀ W wr)
    (fun i _ => (intOf i + 1).toNat)
  case atStart => exact ⟨0, Nat.zero_le _, by simp, h0, KB.refl _ _ _⟩
  case round =>
    obtain ⟨k, hk, rfl, hJs, hnx⟩ := hrel
    have hbs' : wr.cell? ⟨Bs, 0, none⟩ = some (.slice A l.length cap) := hnx.cell hBs
    by_cases hlt : k < l.length
    · obtain ⟨m, hm⟩ : ∃ m, m = l.length - 1 - k := ⟨_, rfl⟩
      have hml : m < l.length := by omega
      have hmi : (l.length : Int) - 1 - k = m := by omega
      obtain ⟨b, off, rfl, hb, hcx⟩ := (HC.out.below hnx.1) m hml
      have HX := hide (show backF l k = (m, l.getD m 0) by unfold backF; rw [← hm])
      obtain ⟨fn, tmps, assign, body, hy, hR⟩ := hY _ (m, l.getD m 0) wr hJs (by rw [uptoF_length]; exact hlt)
      dsimp only at hy
      have HM := hide hm
      clear hm
      rw [hmi]
      clear hmi
      generalize l.getD m 0 = c at *
      gi_wp2
      refine hR.mono ?_
      rintro e W3 (⟨rfl, hJ3, hk3⟩ | ⟨rfl, hJx3⟩)
      · gi_wp2
        go_roundw
        case rel => exact ⟨k + 1, by omega, by have := HM.out; rw [show (l.length : Int) - 1 - ((k + 1 : Nat) : Int) = (m : Int) - 1 by omega], by rw [uptoF_succ, HX.out]; exact hJ3, hnx.trans hk3⟩
        case measure => simp [intOf]
      · gi_wp2
        refine bodyPost_ret (results_none rfl _ _ _) rfl ?_
        exact ⟨⟨_, rfl⟩, .inr ⟨_, ⟨k + 1, by omega, by rw [uptoF_succ, HX.out]⟩, hJx3⟩⟩
    · obtain rfl : k = l.length := by omega
      have hmi : (l.length : Int) - 1 - l.length = -1 := by omega
      rw [hmi]
      clear hmi
      gi_wp2
      go_end0
      exact ⟨⟨_, rfl⟩, .inl ⟨_, rfl, hJs⟩⟩

set_option maxHeartbeats 1000000 in
/-- slices.Backward(b): the slice value is boxed; the function value captures the box. -/
theorem back_in (F : Fence) (n : Nat) (hf : F.fn 78) (hro : F.round = none) (A : Option Addr) (len cap : Nat) (w : World) :
    CallsIn F n Tryd.prog 78 #[.slice A len cap] w fun e w' => e = .returned (.func (.func 79) #[] #[.pointer (some ⟨w.heap.size, 0, none⟩)]) ∧ w' = w.alloc (.cells #[.slice A len cap] 28) := by
  refine callsIn_of_wp Tryd.func78 rfl hf ?_ hro
  simp only [Tryd.ntmps78, List.size_toArray, List.length_cons, List.length_nil, Nat.reduceAdd, Nat.reduceSub, Array.replicate_succ, Array.replicate_zero, List.push_toArray, List.append_toArray, List.nil_append, List.cons_append]
  gi_wp2
  go_ret
  exact ⟨rfl, rfl⟩

theorem back_stops (F : Fence) (n : Nat) (hf : F.fn 79) (hro : F.round = none) (hn : 1 ≤ n) (Bs n₀ cap : Nat) (A : Option Addr) (l : List UInt8) (hlen : l.length ≤ 1073741824) (w : World) (hBs : Bs < w.heap.size) (hn₀ : n₀ ≤ w.heap.size)
    (hc : w.cell? ⟨Bs, 0, none⟩ = some (.slice A l.length cap)) (hI : BytesAt n₀ w A l) :
    SeqStopsK F n Tryd.prog 79 #[.pointer (some ⟨Bs, 0, none⟩)] (fun x : Nat × UInt8 => #[Value.int .i64 (x.1 : Int), Value.int .u8 x.2.toNat]) (KB Bs n₀) (fun ys => ys = uptoF (backF l) l.length)
      (fun pre => ∃ k, k ≤ l.length ∧ pre = uptoF (backF l) k) l.length w := fun ll J Jx W hW _ _ hY h0 =>
  back1_in F n hf hro hn ll Bs n₀ cap A l hlen J Jx hY W ((hW.cell (p := ⟨Bs, 0, none⟩) hBs).trans hc) (hI.below (hW.mono hn₀)) h0
/-- The number that comes, the highest byte first. -/
def accB (pre : List (Nat × UInt8)) : Nat := pre.foldl (fun n x => n * 256 + x.2.toNat) 0
theorem accB_snoc (pre : List (Nat × UInt8)) (x : Nat × UInt8) : accB (pre ++ [x]) = accB pre * 256 + x.2.toNat := by unfold accB; rw [List.foldl_append]; rfl
theorem accB_drop (l : List UInt8) : ∀ k, k ≤ l.length → accB (uptoF (backF l) k) = valL (l.drop (l.length - k))
  | 0, _ => by simp [uptoF, accB, valL]
  | k + 1, h => by
    rw [uptoF_succ, accB_snoc, accB_drop l k (by omega)]
    have e : l.length - k = l.length - (k + 1) + 1 := by omega
    have h2 : l.length - (k + 1) < l.length := by omega
    rw [List.drop_eq_getElem_cons h2, valL, ← e]
    have h3 : (backF l k).2 = l[l.length - (k + 1)] := by
      unfold backF
      rw [show l.length - 1 - k = l.length - (k + 1) by omega, List.getD_eq_getElem?_getD, List.getElem?_eq_getElem h2]
      rfl
    rw [h3]
    omega
theorem accB_all (l : List UInt8) : accB (uptoF (backF l) l.length) = valL l := by rw [accB_drop l l.length (Nat.le_refl _)]; simp
theorem accB_lt {l : List UInt8} {k : Nat} (hk : k ≤ l.length) (hl : l.length ≤ 8) : accB (uptoF (backF l) k) < 256 ^ k := by
  rw [accB_drop l k hk]
  have := valL_lt (l.drop (l.length - k))
  rw [List.length_drop, show l.length - (l.length - k) = k by omega] at this
  exact this
end Go.Proofs.YtkdihekhdnnheaaDoor
