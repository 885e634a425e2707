/-
  The decoder's small calls: fail, take, NewIn, Bad, Done.
-/
import Derived.Test.YtkdihekhdnnheaaDoorFClone
import Derived.RegionTactic
import Derived.Deep.RegionWith
import Derived.ChangeAlike
namespace Go.Proofs.YtkdihekhdnnheaaDoor
open Go.RowKit

abbrev vI (g : Nat) : Value := .pointer (some ⟨g, 0, none⟩)
theorem InAt.cells {g : Nat} {w : World} {A : Option Addr} {n c : Nat} {bad : Bool} (h : w.heap[g]? = some (.cells #[.slice A n c, .bool bad] 96 (0, 0))) :
    w.cell? ⟨g, 0, none⟩ = some (.slice A n c) ∧ w.cell? ⟨g, 1, none⟩ = some (.bool bad) ∧ w.frozen? ⟨g, 0, none⟩ = false ∧ w.frozen? ⟨g, 1, none⟩ = false :=
  ⟨Lib.cell_of_heap h 0, Lib.cell_of_heap h 1, Lib.frozen_of_heap h 0, Lib.frozen_of_heap h 1⟩
/-- A store into the first cell. -/
theorem In_set0 {lo : Nat → Prop} {g : Nat} {w : World} {A A' : Option Addr} {n c c' : Nat} {l : List UInt8} {bad : Bool} (hg : lo g) (hb0 : bad = true → l = []) (h : w.heap[g]? = some (.cells #[.slice A n c, .bool bad] 96 (0, 0)))
    (h1 : l.length ≤ c') (h2 : c' ≤ 9223372036854775807 ∧ l.length ≤ 140737488355328) (h3 : A' = none → c' = 0) (h4 : ∀ a, A' = some a → a = ⟨a.block, a.off, none⟩) (h5 : Reads lo g w A' l) :
    InAt lo g (w.setCell ⟨g, 0, none⟩ (.slice A' l.length c')) l bad ∧ OnlyG g w (w.setCell ⟨g, 0, none⟩ (.slice A' l.length c')) := by
  have ho : OnlyG g w (w.setCell ⟨g, 0, none⟩ (.slice A' l.length c')) := ⟨rfl, rfl, rfl, by simp [World.setCell], fun b _ hg => Below.heap_setCell _ _ _ _ hg⟩
  refine ⟨⟨hg, hb0, A', c', ?_, h1, h2, h3, h4, h5.turn ho⟩, ho⟩
  rw [Joins.block_setCell (i := 0) h]
  simp

set_option maxHeartbeats 1600000 in
set_option maxRecDepth 100000 in
theorem fail_any {lo : Nat → Prop} {g : Nat} {l : List UInt8} {bad : Bool} (w : World) (hI : InAt lo g w l bad) :
    Calls Tryd.prog 76 #[vI g] w fun e w' => e = .returned (.tuple #[]) ∧ InAt lo g w' [] true ∧ OnlyG g w w' := by
  obtain ⟨hg, _, A, c, hbx, _, _, _, _, _⟩ := hI
  obtain ⟨c0, c1, f0, f1⟩ := InAt.cells hbx
  have hlt : g < w.heap.size := (Array.getElem?_eq_some_iff.1 hbx).1
  have HF := hide (show InAt lo g ((w.setCell ⟨g, 0, none⟩ (.slice none 0 0)).setCell ⟨g, 1, none⟩ (.bool true)) [] true ∧ OnlyG g w ((w.setCell ⟨g, 0, none⟩ (.slice none 0 0)).setCell ⟨g, 1, none⟩ (.bool true)) by
    have ho : OnlyG g w ((w.setCell ⟨g, 0, none⟩ (.slice none 0 0)).setCell ⟨g, 1, none⟩ (.bool true)) := ⟨rfl, rfl, rfl, by simp [World.setCell], fun b _ hg => by rw [Below.heap_setCell _ _ _ _ hg, Below.heap_setCell _ _ _ _ hg]⟩
    refine ⟨⟨hg, fun _ => rfl, none, 0, ?_, by simp, by simp, fun _ => rfl, (fun a e => by cases e), Reads.nil _ _ _ _⟩, ho⟩
    have h1 := Joins.block_setCell (i := 0) hbx (.slice none 0 0)
    rw [Joins.block_setCell (i := 1) h1 (.bool true)]
    simp)
  clear hbx
  go_enter Tryd.func76, Tryd.ntmps76
  go_wp2_with fail
  refine bodyPost_end (results_none rfl _ _ _) rfl ?_
  exact ⟨rfl, HF.out⟩

set_option maxHeartbeats 1600000 in
set_option maxRecDepth 100000 in
theorem bad_any {lo : Nat → Prop} {g : Nat} {l : List UInt8} {bad : Bool} (w : World) (hI : InAt lo g w l bad) :
    Calls Tryd.prog 72 #[vI g] w fun e w' => e = .returned (.bool bad) ∧ w = w' := by
  obtain ⟨hg, _, A, c, hbx, _, _, _, _, _⟩ := hI
  obtain ⟨c0, c1, f0, f1⟩ := InAt.cells hbx
  clear hbx
  go_enter Tryd.func72, Tryd.ntmps72
  go_wp2_with fail
  go_ret
  exact ⟨rfl, rfl⟩
set_option maxHeartbeats 1600000 in
set_option maxRecDepth 100000 in
theorem done_any {lo : Nat → Prop} {g : Nat} {l : List UInt8} {bad : Bool} (w : World) (hI : InAt lo g w l bad) :
    Calls Tryd.prog 70 #[vI g] w fun e w' => e = .returned (.bool (!bad && l.isEmpty)) ∧ w = w' := by
  have hs := hI.short
  obtain ⟨hg, _, A, c, hbx, _, _, _, _, _⟩ := hI
  obtain ⟨c0, c1, f0, f1⟩ := InAt.cells hbx
  clear hbx
  cases bad
  · cases l with
    | nil =>
      rw [List.length_nil] at *
      go_enter Tryd.func70, Tryd.ntmps70
      go_wp2_with fail
      go_ret
      exact ⟨rfl, rfl⟩
    | cons x l =>
      have hq : (((x :: l).length : Int) == 0) = false := by rw [beq_eq_false_iff_ne]; simp; omega
      have HQ := hide (show (!false && (x :: l).isEmpty) = false from rfl)
      generalize (x :: l).isEmpty = q at *
      generalize (x :: l).length = n at *
      go_enter Tryd.func70, Tryd.ntmps70
      go_wp2_with fail
      go_ret
      exact ⟨ret_bool HQ.out.symm, rfl⟩
  · go_enter Tryd.func70, Tryd.ntmps70
    go_wp2_with fail
    go_ret
    exact ⟨rfl, rfl⟩

/-- What take leaves. -/
def takeOk (l : List UInt8) (n : Int) : Bool := decide (0 ≤ n) && decide (n ≤ l.length)
set_option maxHeartbeats 1600000 in
set_option maxRecDepth 100000 in
theorem take_yes {lo : Nat → Prop} {g : Nat} {l : List UInt8} {bad : Bool} (n : Nat) (w : World) (hI : InAt lo g w l bad) (hn : n ≤ l.length) :
    Calls Tryd.prog 74 #[vI g, .int .i64 n] w fun e w' => ∃ A c, e = .returned (.slice A n c) ∧ n ≤ c ∧ (A = none → c = 0) ∧ Reads lo g w' A (l.take n) ∧ InAt lo g w' (l.drop n) bad ∧ OnlyG g w w' := by
  have hs := hI.short
  obtain ⟨hg, hbad, A, c, hbx, h1, h2, h3, h4, h5⟩ := hI
  obtain ⟨c0, c1, f0, f1⟩ := InAt.cells hbx
  have hbad' : bad = true → l.drop n = [] := fun e => by rw [hbad e]; simp
  have hln : (l.drop n).length = l.length - n := List.length_drop
  by_cases hc : n = c
  · subst hc
    have hll : l.length = n := by omega
    have HF := hide (In_set0 (A' := A) (c' := 0) hg hbad' hbx (by omega) ⟨by omega, by omega⟩ (fun _ => rfl) h4 (by rw [show l.drop n = [] by rw [List.drop_eq_nil_iff]; omega]; exact Reads.nil _ _ _ _))
    rw [hln, show l.length - n = 0 by omega] at HF
    have HR := hide (fun w' (k : OnlyG g w w') => (h5.take n).turn k)
    have H3 := hide h3
    clear hbx h3 h4 h5 hbad hbad' hln
    rw [hll] at *
    go_enter Tryd.func74, Tryd.ntmps74
    go_wp2_with fail
    go_ret
    exact ⟨A, n, rfl, Nat.le_refl _, H3.out, HR.out _ HF.out.2, HF.out⟩
  · obtain ⟨a, rfl⟩ : ∃ a, A = some a := by
      cases A with
      | none => have := h3 rfl; omega
      | some a => exact ⟨a, rfl⟩
    obtain ⟨b, off, ha⟩ : ∃ b off, a = ⟨b, off, none⟩ := ⟨_, _, h4 a rfl⟩
    subst ha
    have HF := hide (In_set0 (A' := some ⟨b, off + n, none⟩) (c' := c - n) hg hbad' hbx (by omega) ⟨by omega, by omega⟩ (fun e => by cases e) (fun a e => by injection e with e; rw [← e]) (h5.drop n))
    rw [hln] at HF
    have HR := hide (fun w' (k : OnlyG g w w') => (h5.take n).turn k)
    clear hbx h3 h4 h5 hbad hbad' hln
    go_enter Tryd.func74, Tryd.ntmps74
    go_wp2_with fail
    go_ret
    exact ⟨some ⟨b, off, none⟩, n, rfl, Nat.le_refl _, (fun e => by cases e), HR.out _ HF.out.2, HF.out⟩

set_option maxHeartbeats 1600000 in
set_option maxRecDepth 100000 in
theorem take_no {lo : Nat → Prop} {g : Nat} {l : List UInt8} {bad : Bool} (n : Int) (w : World) (hI : InAt lo g w l bad) (h0 : -9223372036854775808 ≤ n) (h1 : n ≤ 9223372036854775807) (hn : ¬ (0 ≤ n ∧ n ≤ l.length)) :
    Calls Tryd.prog 74 #[vI g, .int .i64 n] w fun e w' => e = .returned (.slice none 0 0) ∧ InAt lo g w' [] true ∧ OnlyG g w w' := by
  have hs := hI.short
  have HFl := hide (fail_any w hI)
  obtain ⟨hg, _, A, c, hbx, k1, _, _, _, _⟩ := hI
  obtain ⟨c0, c1, f0, f1⟩ := InAt.cells hbx
  clear hbx
  generalize l.length = m at *
  by_cases hz : n < 0
  · clear hn
    go_enter Tryd.func74, Tryd.ntmps74
    go_wp2_with fail
    refine HFl.out.mono ?_
    rintro e w1 ⟨rfl, hI1, ho1⟩
    have HA := hide (And.intro hI1 ho1)
    clear hI1 ho1
    go_wp2_with fail
    go_ret
    exact ⟨rfl, HA.out⟩
  · have hz1 : (m : Int) < n := by omega
    clear hn
    go_enter Tryd.func74, Tryd.ntmps74
    go_wp2_with fail
    refine HFl.out.mono ?_
    rintro e w1 ⟨rfl, hI1, ho1⟩
    have HA := hide (And.intro hI1 ho1)
    clear hI1 ho1
    go_wp2_with fail
    go_ret
    exact ⟨rfl, HA.out⟩

set_option maxHeartbeats 1600000 in
set_option maxRecDepth 100000 in
theorem newIn_any (A : Option Addr) (c : Nat) (l : List UInt8) (w : World) (hB : BytesAt w.heap.size w A l) (hl : l.length ≤ 140737488355328) :
    Calls Tryd.prog 67 #[.slice A l.length c] w fun e w' => ∃ g, e = .returned (vI g) ∧ w.heap.size ≤ g ∧ InAt (fun b => w.heap.size ≤ b) g w' l false ∧ Below w.heap.size w w' := by
  have HC := hide (clone_any A c l w hB hl)
  clear hB
  go_enter Tryd.func67, Tryd.ntmps67
  go_wp2_with fail
  refine HC.out.mono ?_
  rintro e w1 ⟨v1, rfl, hrow, hb1⟩
  obtain ⟨A1, c1, rfl, hB1, hA1, hn1, hc1⟩ := bytes_of_row hrow
  obtain ⟨_, cq, he, _, hc2⟩ := row_slice hrow
  have hcc : c1 = cq := by injection he
  rw [← hcc] at hc2
  clear he hcc
  have hlt1 := hb1.size
  have hc2' : c1 ≤ 9223372036854775807 := by unfold maxLen at hc2; omega
  have HF := hide (show InAt (fun b => w.heap.size ≤ b) w1.heap.size (w1.alloc (.cells #[.slice A1 l.length c1, .bool false] 96)) l false ∧ Below w.heap.size w (w1.alloc (.cells #[.slice A1 l.length c1, .bool false] 96)) by
    refine ⟨⟨hlt1, (fun e => by cases e), A1, c1, heap_alloc_new w1 _, hc1, ⟨hc2', hl⟩, hn1, fun a e => ?_, fun j hj => ?_⟩, hb1.alloc hlt1 _⟩
    · cases l with
      | nil =>
        obtain ⟨b, hb⟩ : ∃ b, a = b := ⟨_, rfl⟩
        rcases hrow.2 with ⟨h0, _⟩ | ⟨g, cap, cur, h0, _⟩
        · injection h0 with h0; rw [e] at h0; cases h0
        · injection h0 with h0; rw [e] at h0; injection h0 with h0; rw [h0]
      | cons x r =>
        obtain ⟨b, off, e2, _⟩ := hB1 0 (by simp)
        rw [e] at e2; injection e2 with e2; rw [e2]
    · obtain ⟨b, off, e, hlt, h0⟩ := hB1 j hj
      have := (hA1 _ e).1
      exact ⟨b, off, e, this, by omega, by simp; omega, by rw [Lib.cell?_alloc_some _ h0]⟩)
  clear hrow hB1 hA1 hn1 hb1 hc2 hc2'
  go_wp2_with fail
  go_ret
  exact ⟨w1.heap.size, rfl, hlt1, HF.out⟩
end Go.Proofs.YtkdihekhdnnheaaDoor
