/-
  A field of a text.
-/
import Derived.Test.YtggaflihblhapaaDoorHFit
import Derived.Test.YtggaflihblhapaaDoorHRound
namespace Go.Proofs.YtggaflihblhapaaDoor
open Go.RowKit Go.Shelf HM
attribute [local go_sem] Oper.semAt_some

/-- The set of a list of items, or the error of the first that has one. -/
def fieldF (f : Nat) : List (List UInt8) → Nat → Int × Nat
  | [], acc => (0, acc)
  | p :: r, acc => if (itm f p).2.2.2 = false then (20, 0) else if fitB f (itm f p).1 (itm f p).2.1 (itm f p).2.2.1 = false then (30, 0) else fieldF f r (acc ||| spanN (itm f p).1 (itm f p).2.1 (itm f p).2.2.1)
def fieldM (f : Nat) (l : List UInt8) : Int × Nat := if l = [42] then (0, maskN f) else fieldF f (pieces 44 l) 0
theorem fieldF_snoc (f : Nat) (p : List UInt8) : ∀ (l : List (List UInt8)) (acc acc' : Nat), fieldF f l acc = (0, acc') → fieldF f (l ++ [p]) acc = fieldF f [p] acc'
  | [], acc, acc', h => by simp [fieldF] at h; subst h; rfl
  | q :: r, acc, acc', h => by
    rw [List.cons_append]
    unfold fieldF at h ⊢
    split at h
    · simp at h
    · rename_i h1
      rw [if_neg h1]
      split at h
      · simp at h
      · rename_i h2
        rw [if_neg h2]
        exact fieldF_snoc f p r _ acc' h
theorem fieldF_stop (f : Nat) (rest : List (List UInt8)) : ∀ (l : List (List UInt8)) (acc : Nat), (fieldF f l acc).1 ≠ 0 → fieldF f (l ++ rest) acc = fieldF f l acc
  | [], acc, h => by simp [fieldF] at h
  | q :: r, acc, h => by
    rw [List.cons_append]
    unfold fieldF at h ⊢
    split
    · rfl
    · rename_i h1
      rw [if_neg h1] at h
      split
      · rfl
      · rename_i h2
        rw [if_neg h2] at h
        exact fieldF_stop f rest r _ h
/-- A cell that may be written. -/
def At (W : World) (b : Nat) (v : Value) : Prop := W.cell? ⟨b, 0, none⟩ = some v ∧ W.frozen? ⟨b, 0, none⟩ = false
theorem At.own {W W' : World} {b : Nat} {v : Value} {row : Option Nat} (h : At W b v) (hg : W.grownBy W' row) (hr : ∀ r, row = some r → ∃ o : Obj, W.heap[r]? = some o ∧ o.isCells = false) : At W' b v :=
  ⟨cell_kept h.1 hg hr, (frozen_kept h.1 hg hr).trans h.2⟩
theorem At.lt {W : World} {b : Nat} {v : Value} (h : At W b v) : b < W.heap.size := lt_of_cell h.1
theorem At.other {W : World} {b b' : Nat} {v u : Value} (h : At W b v) (hne : b ≠ b') : At (W.setCell ⟨b', 0, none⟩ u) b v :=
  ⟨(World.cell?_setCell_other _ _ _ _ (by intro x; injection x with x; exact hne x.symm)).trans h.1, by rw [World.frozen?_setCell]; exact h.2⟩
theorem At.same {W : World} {b : Nat} {v u : Value} (h : At W b v) : At (W.setCell ⟨b, 0, none⟩ u) b u :=
  ⟨World.cell?_setCell_same' _ _ _ (by rw [h.1]; rfl), by rw [World.frozen?_setCell]; exact h.2⟩
theorem At.on {W W' : World} {b : Nat} {v : Value} (h : At W b v) (hb : Below W.heap.size W W') : At W' b v :=
  ⟨(hb.cell (p := ⟨b, 0, none⟩) h.lt).trans h.1, (hb.frozen (p := ⟨b, 0, none⟩) h.lt).trans h.2⟩
theorem At.alloc {W : World} {b : Nat} {v : Value} (h : At W b v) (o : Obj) : At (W.alloc o) b v := h.on ((Below.refl _ _).alloc (Nat.le_refl _) _)
theorem At.new (W : World) (v : Value) (t : TypeId) {b : Nat} (hb : b = W.heap.size) : At (W.alloc (.cells #[v] t)) b v := by
  subst hb
  exact ⟨by simp, by simp⟩
theorem keeps_below {W W' : World} (hb : Below W.heap.size W W') : KeepsOthers W W' := ⟨hb.size, fun k _ hk _ => (hb.block k (Array.getElem?_eq_some_iff.1 hk).1).trans hk⟩
theorem It.on {bp bs bv : Nat} {c : UInt8} {W W' : World} {t : ByteArray} (h : It bp bs bv c W t) (hb : Below W.heap.size W W') : It bp bs bv c W' t :=
  ⟨(hb.cell (p := ⟨bs, 0, none⟩) (lt_of_cell h.1)).trans h.1, (hb.frozen (p := ⟨bs, 0, none⟩) (lt_of_cell h.1)).trans h.2.1, (hb.cell (p := ⟨bp, 0, none⟩) (lt_of_cell h.2.2.1)).trans h.2.2.1, (hb.cell (p := ⟨bv, 0, none⟩) (lt_of_cell h.2.2.2)).trans h.2.2.2⟩
theorem ItK.below {bp bs bv : Nat} {c : UInt8} {W W' : World} (hb : Below W.heap.size W W') : ItK bp bs bv c W W' := ⟨hb.size, fun _ ht => ht.on hb⟩
/-- A store elsewhere. -/
theorem It.store {bp bs bv b : Nat} {c : UInt8} {W : World} {t : ByteArray} {u : Value} (h : It bp bs bv c W t) (h1 : b ≠ bp) (h2 : b ≠ bs) (h3 : b ≠ bv) : It bp bs bv c (W.setCell ⟨b, 0, none⟩ u) t := by
  obtain ⟨a1, a2, a3, a4⟩ := h
  refine ⟨?_, by rw [World.frozen?_setCell]; exact a2, ?_, ?_⟩
  · exact (World.cell?_setCell_other _ _ _ _ (by intro x; injection x with x; exact h2 x)).trans a1
  · exact (World.cell?_setCell_other _ _ _ _ (by intro x; injection x with x; exact h1 x)).trans a3
  · exact (World.cell?_setCell_other _ _ _ _ (by intro x; injection x with x; exact h3 x)).trans a4
theorem ItK.store {bp bs bv b : Nat} {c : UInt8} {W : World} {u : Value} (h1 : b ≠ bp) (h2 : b ≠ bs) (h3 : b ≠ bv) : ItK bp bs bv c W (W.setCell ⟨b, 0, none⟩ u) := ⟨by simp, fun _ ht => ht.store h1 h2 h3⟩
set_option maxHeartbeats 2000000 in
theorem pf_star (f : Nat) (s : ByteArray) (w : World) (hf : f < 5) (hst : s.data.toList = [42]) (hB : Bnd w) : Calls Tryd.prog 39 #[.int .i64 (f : Nat), .string s] w fun e w' => e = .returned (.tuple #[.int .u64 (maskN f : Nat), .int .i64 0]) ∧ Below w.heap.size w w' := by
  have hts : (s.toList == [42]) = true := by rw [Lib.toList_data, hst]; rfl
  have HF := hide (fun w hB => full_any f w hf hB)
  obtain ⟨W0, hW0⟩ : ∃ W0, W0 = (((w.alloc (.cells #[.int .i64 (f : Nat)] 3)).alloc (.cells #[.int .u64 0] 22)).alloc (.cells #[.int .i64 0] 29)) := ⟨_, rfl⟩
  have HB0 : Hid (Below w.heap.size w W0) := hide (by rw [hW0]; exact (((Below.refl w.heap.size w).alloc (Nat.le_refl _) _).alloc (by simp) _).alloc (by simp; omega) _)
  have hc1 : At W0 (w.heap.size + 1) (.int .u64 0) := by rw [hW0]; exact (At.new _ _ _ (by simp)).alloc _
  have hc2 : At W0 (w.heap.size + 1 + 1) (.int .i64 0) := by rw [hW0]; exact At.new _ _ _ (by simp)
  have HWE := hide hW0
  have HBd := hide (hB.on HB0.out)
  clear hB hW0
  go_enter Tryd.func39, Tryd.ntmps39
  go_wp2_with (first | (go_at_call 34; rw [← HWE.out]) | fail)
  refine (HF.out _ HBd.out).mono ?_
  rintro e w1 ⟨rfl, hb1⟩
  have k1 := hc1.on hb1
  have k2 := hc2.on hb1
  have z1 := k1.lt
  have z2 := k2.lt
  have HB1 := hide (HB0.out.trans (hb1.mono HB0.out.size))
  clear hb1 hc1 hc2
  obtain ⟨e1, f1⟩ := k1
  obtain ⟨e2, f2⟩ := k2
  go_wp2_with fail
  refine bodyPost_ret (v := .tuple #[.int .u64 (maskN f : Nat), .int .i64 0]) (by simp [results, Tryd.results39, go_sem, e1, e2]) rfl ⟨rfl, (HB1.out.setCell (by simp) _).setCell (by simp; omega) _⟩
end Go.Proofs.YtggaflihblhapaaDoor
