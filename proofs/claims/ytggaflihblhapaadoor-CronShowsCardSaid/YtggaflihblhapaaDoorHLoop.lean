/-
  The statement that ranges over the parts of a text: what its body owes, and what lies behind it.
-/
import Derived.Test.YtggaflihblhapaaDoorHSeq
namespace Go.Proofs.YtggaflihblhapaaDoor
open Go.RowKit Go.Shelf HM
attribute [local go_sem] Oper.semAt_some

/-- What a caller may say between two rounds: it stands when the loop turns blocks of its own, and when the closure writes its cell. -/
def Firm (bs B : Nat) (I : List ByteArray → World → Prop) : Prop := OwnFrom B I ∧ Stay bs I
/-- The closure that SplitSeq makes. -/
abbrev clo (bp bs bv : Nat) : Value := .func (.func 99) #[] #[.pointer (some ⟨bp, 0, none⟩), .pointer (some ⟨bs, 0, none⟩), .pointer (some ⟨bv, 0, none⟩)]
theorem It.lt {bp bs bv : Nat} {c : UInt8} {w : World} {t : ByteArray} (h : It bp bs bv c w t) : bs < w.heap.size := lt_of_cell h.1
theorem It.grown {bp bs bv : Nat} {c : UInt8} {w w' : World} {t : ByteArray} {row : Option Nat} (h : It bp bs bv c w t) (hg : w.grownBy w' row) (hr : ∀ r, row = some r → ∃ o : Obj, w.heap[r]? = some o ∧ o.isCells = false) : It bp bs bv c w' t :=
  ⟨cell_kept h.1 hg hr, (frozen_kept h.1 hg hr).trans h.2.1, cell_kept h.2.2.1 hg hr, cell_kept h.2.2.2 hg hr⟩
/-- The loop's own record r and the block d for deferred calls, beside what the caller says. -/
def Rec (r d : Nat) (L : Loop) (P : World → Prop) (W : World) : Prop := P W ∧ W.heap[r]? = some (.loop L) ∧ W.heap[d]? = some (.deferred (some []))
theorem Rec.set {r d bs : Nat} {L : Loop} {P : World → Prop} {W : World} {v : Value} (h : Rec r d L P W) (h1 : r ≠ bs) (h2 : d ≠ bs) (hp : P (W.setCell ⟨bs, 0, none⟩ v)) : Rec r d L P (W.setCell ⟨bs, 0, none⟩ v) :=
  ⟨hp, (Below.heap_setCell W ⟨bs, 0, none⟩ v r h1).trans h.2.1, (Below.heap_setCell W ⟨bs, 0, none⟩ v d h2).trans h.2.2⟩
theorem put_same {W : World} {r : Nat} {o o' : Obj} (h : W.heap[r]? = some o) : (W.putObj r o').heap[r]? = some o' := World.putObj_heap_same (Array.getElem?_eq_some_iff.1 h).1
theorem ItK.put {bp bs bv : Nat} {c : UInt8} {W : World} {r : Nat} {o o' : Obj} (h : W.heap[r]? = some o) (ho : o.isCells = false) : ItK bp bs bv c W (W.putObj r o') :=
  ⟨by simp, fun _ ht => ht.grown (grownBy_putObj' W r o') (fun k e => by cases e; exact ⟨o, h, ho⟩)⟩
theorem ItK.trans {bp bs bv : Nat} {c : UInt8} {A B C : World} (h : ItK bp bs bv c A B) (k : ItK bp bs bv c B C) : ItK bp bs bv c A C := ⟨Nat.le_trans h.1 k.1, fun t ht => k.2 t (h.2 t ht)⟩
set_option maxHeartbeats 1000000 in
theorem range_split (n : Nat) (hn : 3 ≤ n) {g : Operand} {ps : Array Tmp} {assign body : Code} {Q : Exit → Act → World → Prop} {a : Act} {w : World}
    (bp bs bv : Nat) (h1 : bs ≠ bp) (h2 : bs ≠ bv) (c : UInt8) (s : ByteArray) (hs : s.size ≤ 1000000) (hg : a.eval g = clo bp bs bv) (hps : ps.size = 1) (hit : It bp bs bv c w s)
    (I : List ByteArray → World → Prop) (Ix : Code → List ByteArray → World → Prop) (hI : Firm bs w.heap.size I) (hIx : ∀ x, Firm bs w.heap.size (Ix x)) (h0 : I [] w) (a₁ : ByteArray → Act)
    (hassign : ∀ (l : Nat) (x : ByteArray) (W : World) (K : Act → World → Prop), K (a₁ x) W →
      assign.wpIn (Fence.wide.inRound l) (n - 1 - 1) Tryd.prog (Exit.then K (fun _ _ _ => False)) { tmps := (ps.zip #[Value.string x]).foldl (fun t (p, v) => t.setIfInBounds p v) a.tmps, defers := [] } W)
    (hbody : ∀ (l : Nat) (pre : List ByteArray) (x : ByteArray) (W : World) (t : ByteArray), x.size ≤ 1000000 → I pre W → It bp bs bv c W t → body.wpIn (Fence.wide.inRound l) (n - 1 - 1) Tryd.prog (ownPostK (ItK bp bs bv c) I Ix (pre ++ [x]) W) (a₁ x) W)
    (hdone : ∀ (D : Nat) (xs : List ByteArray) (W : World), w.heap.size ≤ D → bytesOf xs = pieces c s.data.toList → I xs W → W.heap[D]? = some (.deferred (some [])) → Q .normal { a with defers := { target := .collected D, args := #[] } :: a.defers } W)
    (hstop : ∀ (D : Nat) (x : Code) (pre : List ByteArray) (W : World), w.heap.size ≤ D → bytesOf pre <+: pieces c s.data.toList → Ix x pre W → W.heap[D]? = some (.deferred (some [])) → x.wpIn Fence.wide n Tryd.prog Q { a with defers := { target := .collected D, args := #[] } :: a.defers } W) :
    (Code.rangeFunc g ps assign body).wpIn Fence.wide n Tryd.prog Q a w := by
  have hbs := hit.lt
  refine wpIn_rangeFunc fun fn hfn => ?_
  -- the record in its states
  let L : LoopState → Option Code → Loop := fun st pe => { state := st, pending := pe, fn, tmps := a.tmps, params := ps, assign, body, defers := w.heap.size }
  have hr1 : ((w.alloc (.deferred (some []))).alloc (.loop (L .ready none))).heap[w.heap.size + 1]? = some (.loop (L .ready none)) := by
    have := World.alloc_heap_new (w.alloc (.deferred (some []))) (.loop (L .ready none))
    rwa [World.size_alloc] at this
  have hd1 : ((w.alloc (.deferred (some []))).alloc (.loop (L .ready none))).heap[w.heap.size]? = some (.deferred (some [])) :=
    (Below.heap_alloc _ _ _ (by simp)).trans (World.alloc_heap_new w _)
  have hi1 : I [] ((w.alloc (.deferred (some []))).alloc (.loop (L .ready none))) := hI.1.alloc _ (hI.1.alloc _ h0)
  have ht1 : It bp bs bv c ((w.alloc (.deferred (some []))).alloc (.loop (L .ready none))) s :=
    (hit.grown (World.grownBy_alloc w _ none) (fun r e => by cases e)).grown (World.grownBy_alloc _ _ none) (fun r e => by cases e)
  generalize hW1 : (w.alloc (.deferred (some []))).alloc (.loop (L .ready none)) = W1 at hr1 hd1 hi1 ht1
  refine ⟨w.heap.size + 1, [{ target := .collected w.heap.size, args := #[] }], W1, { target := .fn (.func 99) #[.pointer (some ⟨bp, 0, none⟩), .pointer (some ⟨bs, 0, none⟩), .pointer (some ⟨bv, 0, none⟩)], args := #[.func (.yield (w.heap.size + 1)) #[] #[]] }, W1, 99, #[.func (.yield (w.heap.size + 1)) #[] #[], .pointer (some ⟨bp, 0, none⟩), .pointer (some ⟨bs, 0, none⟩), .pointer (some ⟨bv, 0, none⟩)], W1, ?_, ?_, fun _ _ => trivial, ?_, fun _ => by omega, ?_⟩
  · rw [← hW1]; exact run_enterLoop_outer _ _ _ _ _
  · simp only [resolve, hg]
    simp [go_sem]
  · have e73 : ∀ args w, (callFunc 99 args).run Tryd.prog w = .ok (.enter 99 args) w := enters_of Tryd.func99 (by kernel_rfl) rfl
    simp [invoke, go_sem, e73]
  · have hnr : w.heap.size + 1 ≠ bs := by omega
    have hnd : w.heap.size ≠ bs := by omega
    refine (split_iter (n - 1) (by omega) (w.heap.size + 1) bp bs bv h1 h2 c s hs (fun pre => Rec (w.heap.size + 1) w.heap.size (L .ready none) (I pre)) (fun pre W => ∃ x, Rec (w.heap.size + 1) w.heap.size (L .done (some x)) (Ix x pre) W)
      (fun pre W v hR => hR.set hnr hnd (hI.2 _ _ _ hR.1)) ?_ W1 ht1 ⟨hi1, hr1, hd1⟩).mono ?_
    · -- a round
      rintro pre x W t hxs ⟨hi, hl, hd⟩ htt
      have hy := run_yield (P := Tryd.prog) (args := #[Value.string x]) hl (by show (1 : Nat) = ps.size; exact hps.symm)
      refine ⟨fn, _, assign, body, hy, roundIn_of_wpIn hfn (hassign _ x W _ ⟨_, run_beginRound hl rfl, ?_⟩)⟩
      have hlb := put_same (o' := .loop (L .busy none)) hl
      have hdb : (W.putObj (w.heap.size + 1) (.loop (L .busy none))).heap[w.heap.size]? = some (.deferred (some [])) := (World.putObj_heap_other (by omega)).trans hd
      have hk0 : ItK bp bs bv c W (W.putObj (w.heap.size + 1) (.loop (L .busy none))) := ItK.put hl rfl
      have hib := hI.1.putObj (.loop (L .busy none)) hi (by omega) hl rfl
      refine wpIn_mono (hbody _ pre x _ t hxs hib (hk0.2 _ htt)) ?_
      have fin : ∀ (j : Option Code) (W3 : World), KeepsOthers (W.putObj (w.heap.size + 1) (.loop (L .busy none))) W3 → W3.heap[w.heap.size + 1]? = some (.loop (L .busy none)) ∧ (W3.putObj (w.heap.size + 1) (.loop (L (if j.isNone then .ready else .done) j))).heap[w.heap.size]? = some (.deferred (some [])) ∧ (Instr.endRound (w.heap.size + 1) j).run Tryd.prog W3 = .ok (.bool j.isNone) (W3.putObj (w.heap.size + 1) (.loop (L (if j.isNone then .ready else .done) j))) := fun j W3 hk => by
        have h3 := hk.same _ _ hlb rfl
        exact ⟨h3, (World.putObj_heap_other (by omega)).trans (hk.same _ _ hdb rfl), run_endRound j h3⟩
      intro e a3 W3 hp
      cases e with
      | normal =>
        obtain ⟨hk, hK, hi3⟩ := hp
        obtain ⟨f1, f2, f3⟩ := fin none W3 hk
        exact ⟨_, _, f3, .inl ⟨rfl, ⟨hI.1.putObj _ hi3 (by omega) f1 rfl, put_same f1, f2⟩, (hk0.trans hK).trans (ItK.put f1 rfl)⟩⟩
      | ret =>
        obtain ⟨hk, hi3⟩ := hp
        obtain ⟨f1, f2, f3⟩ := fin (some .ret) W3 hk
        exact ⟨_, _, f3, .inr ⟨rfl, _, (hIx _).1.putObj _ hi3 (by omega) f1 rfl, put_same f1, f2⟩⟩
      | exit id =>
        obtain ⟨hk, hi3⟩ := hp
        obtain ⟨f1, f2, f3⟩ := fin (some (.exit id)) W3 hk
        exact ⟨_, _, f3, .inr ⟨rfl, _, (hIx _).1.putObj _ hi3 (by omega) f1 rfl, put_same f1, f2⟩⟩
      | goto t' =>
        obtain ⟨hk, hi3⟩ := hp
        obtain ⟨f1, f2, f3⟩ := fin (some (.goto t')) W3 hk
        exact ⟨_, _, f3, .inr ⟨rfl, _, (hIx _).1.putObj _ hi3 (by omega) f1 rfl, put_same f1, f2⟩⟩
      | panic ch => exact hp.elim
      | outgrown => exact hp.elim
    · rintro e W2 ⟨⟨v, rfl⟩, ⟨xs, hS, hi, hl, hd⟩ | ⟨pre, hS, x, hi, hl, hd⟩⟩
      · exact ⟨none, _, run_endLoop hl (by simp [L]), hdone _ xs _ (Nat.le_refl _) hS (hI.1.putObj _ hi (by omega) hl rfl) ((World.putObj_heap_other (by omega)).trans hd)⟩
      · exact ⟨some x, _, run_endLoop hl (by simp [L]), hstop _ x pre _ (Nat.le_refl _) hS ((hIx x).1.putObj _ hi (by omega) hl rfl) ((World.putObj_heap_other (by omega)).trans hd)⟩
end Go.Proofs.YtggaflihblhapaaDoor
