/-
  which, oneOf: the first of some words.
  A slice of one element; what rules tell; how a row grows.
  Boxes: small words.
-/
import Derived.Test.YtljoajjlkjjgeaaGreatDoorMN2
import Derived.Deep.LoopGhost
import Derived.Great.BuildSlice
import Derived.Maps.AppendAt
namespace Go.Proofs.YtljoajjlkjjgeaaGreatDoor
open Go.RowKit Go.Sort LM Go

theorem ef_acc : ∀ args w, (callFunc 57 args).run Tryz.prog w = .ok (.enter 57 args) w := enters_of Tryz.func57 (by kernel_rfl) rfl
/-- Texts in memory, off the parser's block. -/
def StrW (q : Nat) (w : World) (A : Option Addr) (xs : List (List UInt8)) : Prop := ∀ j, ∀ h : j < xs.length, ∃ b off, A = some ⟨b, off, none⟩ ∧ b ≠ q ∧ b < w.heap.size ∧ w.cell? ⟨b, off + j, none⟩ = some (.string (ba xs[j]))
theorem StrW.turn {q : Nat} {w w' : World} {A : Option Addr} {xs : List (List UInt8)} (h : StrW q w A xs) (k : Turn q w w') : StrW q w' A xs := fun j hj => by
 obtain ⟨b, off, e, h1, h2, h3⟩ := h j hj
 exact ⟨b, off, e, h1, Nat.lt_of_lt_of_le h2 k.size, (World.cell?_of_block (a := ⟨b, _, none⟩) (k.block b h2 (by simpa using h1))).trans h3⟩
theorem findW_lt {xs : List (List UInt8)} {t : T3} {i : Nat} (h : findW xs t = some i) : i < xs.length := by
 unfold findW at h
 exact (List.findIdx?_eq_some_iff_getElem.1 h).1
theorem findW_at {xs : List (List UInt8)} {t : T3} {j : Nat} (hj : j < xs.length) (h : ∀ k, ∀ hk : k < xs.length, k < j → isT t xs[k] = false) (hy : isT t xs[j] = true) : findW xs t = some j := by
 unfold findW
 rw [List.findIdx?_eq_some_iff_getElem]
 exact ⟨hj, hy, fun k hk => by simpa using h k (by omega) hk⟩
theorem findW_no {xs : List (List UInt8)} {t : T3} (h : ∀ k, ∀ hk : k < xs.length, isT t xs[k] = false) : findW xs t = none := by
 unfold findW
 rw [List.findIdx?_eq_none_iff]
 intro x hx
 obtain ⟨k, hk, rfl⟩ := List.getElem_of_mem hx
 exact h k hk
abbrev fAcc (q : Nat) : Value := .func (.func 57) #[pP q] #[]
set_option maxHeartbeats 4000000 in
theorem indexFunc_any {q : Nat} {TL : List Tk} {E : Nat} {s : PSt} (A : Option Addr) (cap : Nat) (xs : List (List UInt8)) (w : World) (H : ParAt q TL E w s) (hA : StrW q w A xs) (hl : xs.length ≤ 1000) :
  Calls Tryz.prog 127 #[.slice A xs.length cap, fAcc q] w (StepTo q TL E w (.int .i64 (idxI (whichS xs s).1)) (whichS xs s).2) := by
 unfold StepTo
 have HC := hide (fun x w1 (h : ParAt q TL E w1 s) => accept_any x w1 h)
 have HWy := hide (fun (j : Nat) (hj : j < xs.length) (h : ∀ k, ∀ hk : k < xs.length, k < j → isT (aheadS 0 s) xs[k] = false) (hy : isT (aheadS 0 s) xs[j] = true) => (by unfold whichS; rw [findW_at hj h hy] : whichS xs s = (some j, (takeS s).2)))
 have HWn := hide (fun (h : ∀ k, ∀ hk : k < xs.length, isT (aheadS 0 s) xs[k] = false) => (by unfold whichS; rw [findW_no h] : whichS xs s = (none, s)))
 generalize whichS xs s = R at *
 generalize (takeS s).2 = s1 at *
 generalize aheadS 0 s = t at *
 have HH := hide H
 have HA := hide hA
 clear H hA
 go_enter Tryz.func127, Tryz.ntmps127
 go_wp2_with fail
 go_loopw [8] (fun i wr => ∃ j : Nat, i = .int .i64 j ∧ j ≤ xs.length ∧ Hid (∀ k, ∀ hk : k < xs.length, k < j → isT t xs[k] = false) ∧ Hid (ParAt q TL E wr s) ∧ Hid (Turn q w wr)) (fun i _ => xs.length - (intOf i).toNat)
 case atStart => exact ⟨0, rfl, Nat.zero_le _, hide (fun k _ h => by omega), HH, hide (Turn.refl _ _)⟩
 case round =>
  obtain ⟨j, rfl, hj, HN, HP, HT⟩ := hrel
  by_cases hlt : j < xs.length
  ·obtain ⟨b, off, rfl, hbq, hbl, hc⟩ := (HA.out.turn HT.out) j hlt
   have HCj := hide (HC.out xs[j] wr HP.out)
   have HWj := hide (HWy.out j hlt HN.out)
   have HN1 := hide (fun (h : isT t xs[j] = false) k (hk : k < xs.length) (h2 : k < j + 1) => (by
    rcases Nat.lt_or_ge k j with h3 | h3
    ·exact HN.out k hk h3
    ·obtain rfl : k = j := by omega
     exact h : isT t xs[k] = false))
   generalize xs[j] = x at *
   have hl2 : (xs.length : Int) ≤ 1000 := by omega
   have hl1 : (j : Int) < (xs.length : Int) := by omega
   clear HC HWn HN
   cases hb : isT t x
   all_goals
    rw [hb] at HCj
    go_wp2_with fail
    refine HCj.out.mono ?_
    rintro e w1 ⟨rfl, h1, ht1⟩
    have H1 := hide h1
    have HT1 := hide (HT.out.trans ht1)
    clear h1 ht1
    go_wp2_with fail
   ·go_roundw
    case rel => exact ⟨j + 1, by go_num, by omega, hide (HN1.out hb), H1, HT1⟩
    case measure => simp [intOf]; omega
   ·go_ret
    rw [HWj.out hb]
    exact ⟨rfl, H1.out, HT1.out⟩
  ·have HR := hide (HWn.out fun k hk => HN.out k hk (by omega))
   have hl1 : (xs.length : Int) ≤ (j : Int) := by omega
   clear HC HWn HWy HN
   go_wp2_with fail
   go_ret
   rw [HR.out]
   exact ⟨rfl, HP.out, HT.out⟩
set_option maxHeartbeats 4000000 in
theorem which_any {q : Nat} {TL : List Tk} {E : Nat} {s : PSt} (A : Option Addr) (cap : Nat) (xs : List (List UInt8)) (w : World) (H : ParAt q TL E w s) (hA : StrW q w A xs) (hl : xs.length ≤ 1000) :
  Calls Tryz.prog 106 #[pP q, .slice A xs.length cap] w (StepTo q TL E w (.tuple #[.int .i64 (idxI (whichS xs s).1), .bool (whichS xs s).1.isSome]) (whichS xs s).2) := by
 unfold StepTo
 have HI := hide (indexFunc_any A cap xs w H hA hl)
 generalize whichS xs s = R at *
 obtain ⟨o, s1⟩ := R
 clear H hA
 have hb : (decide ((0 : Int) ≤ idxI o)) = o.isSome := by
  cases o with
  | none => rfl
  | some i => simp [idxI]
 have HB := hide hb
 simp only at HI ⊢
 generalize o.isSome = b at *
 generalize idxI o = n at *
 clear hb
 go_enter Tryz.func106, Tryz.ntmps106
 go_wp2_with fail
 refine HI.out.mono ?_
 rintro e w1 ⟨rfl, h1', ht1⟩
 have H1 := hide h1'
 have HT1 := hide ht1
 clear h1' ht1
 go_wp2_with fail
 go_ret2
 rw [← HB.out]
 exact ⟨rfl, H1.out, HT1.out⟩
set_option maxHeartbeats 4000000 in
theorem oneOf_any {q : Nat} {TL : List Tk} {E : Nat} {s : PSt} (A : Option Addr) (cap : Nat) (xs : List (List UInt8)) (w : World) (H : ParAt q TL E w s) (hA : StrW q w A xs) (hl : xs.length ≤ 1000) :
  Calls Tryz.prog 72 #[pP q, .slice A xs.length cap] w (StepTo q TL E w (.int .i64 (oneOfS xs s).1) (oneOfS xs s).2) := by
 unfold StepTo
 have HI := hide (which_any A cap xs w H hA hl)
 have hR : oneOfS xs s = (match whichS xs s with | (some i, s1) => ((i : Int) + 1, s1) | (none, s1) => (0, failS 51 s1)) := rfl
 have hi := fun i => @findW_lt xs (aheadS 0 s) i
 have hw : (whichS xs s).1 = findW xs (aheadS 0 s) := by unfold whichS; split <;> simp_all
 rw [← hw] at hi
 generalize oneOfS xs s = R at *
 generalize whichS xs s = W at *
 obtain ⟨o, s1⟩ := W
 clear H hA hw
 simp only at HI hR hi
 cases o with
 | none =>
  simp only [idxI, Option.isSome_none] at HI hR
  subst hR
  have HF := hide (fun w1 (h : ParAt q TL E w1 s1) => fail_any 51 (by decide) w1 h)
  go_enter Tryz.func72, Tryz.ntmps72
  go_wp2_with fail
  refine HI.out.mono ?_
  rintro e w1 ⟨rfl, h1', ht1⟩
  have H1 := hide h1'
  have HT1 := hide ht1
  clear h1' ht1
  go_wp2_with fail
  refine (HF.out _ H1.out).mono ?_
  rintro e w2 ⟨rfl, h2, ht2⟩
  have H2 := hide h2
  have HT2 := hide (HT1.out.trans ht2)
  clear h2 ht2
  go_wp2_with fail
  go_ret
  exact ⟨rfl, H2.out, HT2.out⟩
 | some i =>
  simp only [idxI, Option.isSome_some] at HI hR
  have hi' := hi i rfl
  have hi2 : (i : Int) < 1000 := by omega
  subst hR
  clear hi hi'
  go_enter Tryz.func72, Tryz.ntmps72
  go_wp2_with fail
  refine HI.out.mono ?_
  rintro e w1 ⟨rfl, h1', ht1⟩
  have H1 := hide h1'
  have HT1 := hide ht1
  clear h1' ht1
  go_wp2_with fail
  go_ret
  exact ⟨rfl, H1.out, HT1.out⟩
end Go.Proofs.YtljoajjlkjjgeaaGreatDoor
namespace Go.Proofs.YtljoajjlkjjgeaaGreatDoor
open Go.RowKit Go.Sort LM Go

/-- A rule tells a value of one cell. -/
def OneTo (q : Nat) (TL : List Tk) (E : Nat) (w : World) (d : Dt) (s : PSt) (e : Ending) (w' : World) : Prop := ∃ v, e = .returned v ∧ Rep (New w.heap.size) w' d v ∧ ParAt q TL E w' s ∧ Turn q w w'
/-- A rule tells a struct. -/
def AggTo (q : Nat) (TL : List Tk) (E : Nat) (w : World) (ds : List Dt) (s : PSt) (e : Ending) (w' : World) : Prop := ∃ vs : List Value, e = .returned (.agg vs.toArray) ∧ RepC (New w.heap.size) w' ds vs ∧ ParAt q TL E w' s ∧ Turn q w w'
theorem fold_set : ∀ (vs : List Value) (k : Nat) (cs : Array Value), cs.size = k + vs.length → ((vs.zipIdx k).foldl (fun (cs : Array Value) (x : Value × Nat) => cs.setIfInBounds (0 + x.2) x.1) cs).toList = cs.toList.take k ++ vs
 | [], k, cs, h => by
  simp only [List.zipIdx_nil, List.foldl_nil, List.append_nil]
  rw [List.take_of_length_le (by simp at h ⊢; omega)]
 | v :: r, k, cs, h => by
  rw [List.zipIdx_cons, List.foldl_cons, fold_set r (k + 1) _ (by simp at h ⊢; omega)]
  simp only [Nat.zero_add, Array.toList_setIfInBounds]
  have hk : k < cs.toList.length := by simp at h ⊢; omega
  rw [List.take_succ_eq_append_getElem (by simpa using hk), List.take_set_of_le (Nat.le_refl _)]
  simp
theorem fill_one (n : Nat) (cs : Array Value) (v : Value) (vs : List Value) (hv : v.cells = vs.toArray) (hn : vs.length = n) (hc : cs.size = n) : Instr.fill (fun i => some (i * n, n)) cs [(0, v)] = some vs.toArray := by
 have h1 : v.cells.size = n := by rw [hv]; simpa using hn
 simp only [Instr.fill, h1, Nat.zero_mul]
 rw [if_neg (by simp [hc])]
 congr 1
 apply Array.ext'
 rw [hv]
 have := fold_set vs 0 cs (by omega)
 simpa [Array.foldl_toList] using this
theorem wpList_buildOne {ops : Array Oper} {rest : List Oper} {o : Oper} {a : Act} {w : World} {Q : Exit → Act → World → Prop} (hg : o.guard = none) (t e : TypeId) (x : Operand) (ho : o.op = .buildSlice t 1 #[(0, x)])
  (n : Nat) (vs : List Value) (hv : (a.eval x).cells = vs.toArray) (hn : vs.length = n) (h0 : 0 < n) (h1 : n ≤ 1000)
  (hu : Tryz.prog.underlying t = some (.slice e)) (i : TypeInfo) (z : Value) (hi : Tryz.prog.info? e = some i) (hz : i.zero = some z) (hs : i.size = n)
  (h : wpList Tryz.prog ops Q rest (a.put o.dst (.slice (some ⟨w.heap.size, 0, none⟩) 1 1)) (w.alloc (.cells vs.toArray e))) : wpList Tryz.prog ops Q (o :: rest) a w := by
 refine wpList_buildSlice hg t e 1 #[(0, x)] ho vs.toArray i z hu hi hz (by rw [hs]; omega) (by rw [hs]; omega) ?_ h
 rw [hs]
 have e : (Array.map (fun (y : Nat × Operand) => match y with | (i, x) => (i, a.eval x)) #[(0, x)]).toList = [(0, a.eval x)] := by simp
 rw [e]
 refine fill_one n _ _ vs hv hn ?_
 simp only [Array.size_map, Array.size_range, Nat.one_mul]
theorem own_one (w : World) (base n : Nat) (e : TypeId) (vs : List Value) (hb : base ≤ w.heap.size) (hn : vs.length = n) : (w.alloc (.cells vs.toArray e)).ownsRow base e n (.slice (some ⟨w.heap.size, 0, none⟩) 1 1) 1 vs :=
 ⟨by omega, .inr ⟨w.heap.size, 1, vs.toArray, rfl, hb, heap_alloc_new w _, Nat.le_refl _, by decide, by simp [hn], by simp [← hn]⟩⟩
theorem Turn.grown {q : Nat} {a w w' : World} {row : Option Nat} (h : Turn q a w) (k : w.grownBy w' row) (hr : ∀ g, row = some g → a.heap.size ≤ g) : Turn q a w' :=
 ⟨k.os.trans h.os, k.tape.trans h.tape, k.output.trans h.output, Nat.le_trans h.size k.size, fun i hi hn => (k.block i (Nat.lt_of_lt_of_le hi h.size) (fun e => by have := hr i e.symm; omega)).trans (h.block i hi hn)⟩
theorem ParAt.grown {q : Nat} {TL : List Tk} {E : Nat} {w w' : World} {row : Option Nat} {s : PSt} (h : ParAt q TL E w s) (k : w.grownBy w' row) (hr : ∀ g, row = some g → q < g) : ParAt q TL E w' s :=
 h.below ⟨k.os, k.tape, k.output, k.size, fun i hi => k.block i (by have := h.lt; omega) (fun e => by have := hr i e.symm; omega)⟩
/-- Blocks from base on, but the row's own. -/
abbrev Off1 (base : Nat) (w : World) (v : Value) : Nat → Prop := fun b => base ≤ b ∧ b < w.heap.size ∧ v.ownBlock ≠ some b
theorem Off1.turn {q base : Nat} {w w' : World} {v : Value} (h : Turn q w w') (hq : q < base) : Stay (Off1 base w v) (Off1 base w' v) w w' :=
 ⟨fun _ _ k => ⟨k.1, Nat.lt_of_lt_of_le k.2.1 h.size, k.2.2⟩, h.size, fun _ k hlt => h.blk (Nat.lt_of_lt_of_le hq k.1) hlt⟩
theorem Off1.alloc {base : Nat} {w : World} {v : Value} (o : Obj) : Stay (Off1 base w v) (Off1 base (w.alloc o) v) w (w.alloc o) :=
 ⟨fun _ _ k => ⟨k.1, Nat.lt_of_lt_of_le k.2.1 (by simp), k.2.2⟩, by simp, fun _ _ hlt => Below.heap_alloc _ _ _ hlt⟩
theorem Off1.grow {base : Nat} {w w' : World} {v v' : Value} (h : w.grownBy w' v.ownBlock) (hv : v'.ownBlock = v.ownBlock ∨ v'.ownBlock = some w.heap.size) : Stay (Off1 base w v) (Off1 base w' v') w w' :=
 ⟨fun b hb k => ⟨k.1, Nat.lt_of_lt_of_le k.2.1 h.size, by rcases hv with e | e <;> rw [e]; exact k.2.2; intro e; injection e; omega⟩, h.size, fun b k hlt => h.block b hlt (fun e => k.2.2 e.symm)⟩
theorem Off1.one {base lo : Nat} {w : World} (hb : base ≤ lo) (o : Obj) (n c : Nat) : Stay (New lo) (Off1 base (w.alloc o) (.slice (some ⟨w.heap.size, 0, none⟩) n c)) w (w.alloc o) :=
 ⟨fun b hlt k => ⟨Nat.le_trans hb k, by simp; omega, by simp [Value.ownBlock]; omega⟩, by simp, fun _ _ hlt => Below.heap_alloc _ _ _ hlt⟩
theorem Off1.news {base lo : Nat} {w : World} {v : Value} (hb : base ≤ lo) (hv : ∀ g, v.ownBlock = some g → g < lo) : Stay (New lo) (Off1 base w v) w w :=
 ⟨fun b hlt k => ⟨Nat.le_trans hb k, hlt, fun e => by have := hv b e; have : lo ≤ b := k; omega⟩, Nat.le_refl _, fun _ _ _ => rfl⟩
theorem own_turn {q base sz n : Nat} {t : TypeId} {w w' : World} {v : Value} {cs : List Value} (h : w.ownsRow base t sz v n cs) (k : Turn q w w') (hq : q < base) : w'.ownsRow base t sz v n cs :=
 h.kept k (by
  cases hv : v.ownBlock with
  | none => exact Or.inl rfl
  | some g => exact Or.inr (by have := (h.lt g hv).1; simp; omega))
/-- How many tokens are left, in memory. -/
def measL (w : World) (q : Nat) : Nat := match w.cell? ⟨q, 0, none⟩ with
 | some (.slice _ n _) => n
 | _ => 0
theorem meas_eq {q : Nat} {TL : List Tk} {E : Nat} {w : World} {s : PSt} (h : ParAt q TL E w s) : measL w q = s.L.length := by
 obtain ⟨A, cap, K, hK, -, -, -, -, hb⟩ := h.ex
 unfold measL
 rw [(blk_cell hb).1, ← hK]
 simp
theorem new_cells (w : World) (vs : List Value) (e : TypeId) (H : Nat) (hH : w.heap.size = H) : ∀ j u, vs[j]? = some u → (w.alloc (.cells vs.toArray e)).cell? ((⟨H, 0, none⟩ : Addr).add j) = some u := fun j u hj => by
 subst hH
 have hadd : (⟨w.heap.size, 0, none⟩ : Addr).add j = ⟨w.heap.size, j, none⟩ := by unfold Addr.add; split <;> simp_all
 rw [hadd, Lib.cell_of_heap (heap_alloc_new w _)]
 simpa using hj
theorem take_lt {s : PSt} (h : Wf s) {x : List UInt8} (hx : isT (aheadS 0 s) x = true) : (takeS s).2.L.length < s.L.length := by
 have hk : (aheadS 0 s).1 ≠ 0 := fun e => by
  unfold isT at hx
  rw [e] at hx
  revert hx; simp
 have hne : s.L ≠ [] := fun e => hk (by unfold aheadS; rw [e]; rfl)
 have hpos := List.length_pos_iff.2 hne
 rw [take_eq]
 unfold deepS
 split
 ·have hl : (failS 52 s).L = [] := by
   unfold failS
   cases hb : s.b with
   | none => rfl
   | some y => exact absurd (h (by rw [hb]; simp)) hne
  split
  ·rw [hl]; exact hpos
  ·simp only [hl]; simpa using hpos
 ·first
  | (rw [if_neg hk]; simp only [List.length_tail]; omega)
  | (simp only [List.length_tail]; omega)
theorem listG_step {α : Type} {M : Rule α} {n : Nat} {l : List α} {s : PSt} (h : isT (aheadS 0 s) [44] = true) : listG M (n + 1) l s = listG M n (l ++ [(M (takeS s).2).1]) (M (takeS s).2).2 := by rw [listG, if_pos h]
theorem listG_end {α : Type} {M : Rule α} {n : Nat} {l : List α} {s : PSt} (h : isT (aheadS 0 s) [44] = false) : listG M n l s = (l, s) := by
 cases n with
 | zero => rfl
 | succ n => rw [listG, if_neg (by simp [h])]
/-- A predicate on the parser that every step keeps. -/
structure Good (F : Nat) (G : PSt → Prop) : Prop where
 tr : ∀ s t, G s → Tr s t → G t
 len : ∀ s, G s → s.L.length ≤ F
end Go.Proofs.YtljoajjlkjjgeaaGreatDoor
namespace Go.Proofs.YtljoajjlkjjgeaaGreatDoor
open Go.RowKit Go.Sort LM Go

theorem big_pair : Big 70 2 := ⟨by kernel_rfl, by kernel_rfl⟩
theorem big_agg : Big 72 3 := ⟨by kernel_rfl, by kernel_rfl⟩
theorem big_ord : Big 74 2 := ⟨by kernel_rfl, by kernel_rfl⟩
theorem big_col : Big 45 2 := ⟨by kernel_rfl, by kernel_rfl⟩
theorem big_inp : Big 56 4 := ⟨by kernel_rfl, by kernel_rfl⟩
theorem big_named : Big 146 8 := ⟨by kernel_rfl, by kernel_rfl⟩
theorem big_scheme : Big 24 3 := ⟨by kernel_rfl, by kernel_rfl⟩
theorem big_map : Big 54 2 := ⟨by kernel_rfl, by kernel_rfl⟩
theorem big_def : Big 43 25 := ⟨by kernel_rfl, by kernel_rfl⟩
/-- What a box was given last is told: it lies above the box. -/
theorem RepC.ret {lo r : Nat} {w : World} {ds : List Dt} {vs : List Value} (h : RepC (New lo) w ds vs) (hr : r < lo) {lo' : Nat} (hl : lo' ≤ lo) (c : Array Value) : RepC (New lo') (w.setRow r c) ds vs :=
 h.stay ⟨fun _ _ k => Nat.le_trans hl k, by rw [set_row_size]; exact Nat.le_refl _, fun b k _ => set_row_other _ _ (by have : lo ≤ b := k; omega)⟩
theorem Rep.ret {lo r : Nat} {w : World} {d : Dt} {v : Value} (h : Rep (New lo) w d v) (hr : r < lo) {lo' : Nat} (hl : lo' ≤ lo) (c : Array Value) : Rep (New lo') (w.setRow r c) d v :=
 h.stay ⟨fun _ _ k => Nat.le_trans hl k, by rw [set_row_size]; exact Nat.le_refl _, fun b k _ => set_row_other _ _ (by have : lo ≤ b := k; omega)⟩
theorem ParAt.dep {q : Nat} {TL : List Tk} {E : Nat} {w : World} {s : PSt} (h : ParAt q TL E w s) (d : Int) : ParAt q TL E (w.setCell ⟨q, 2, none⟩ (.int .i64 d)) ⟨s.L, d, s.b⟩ := by
 obtain ⟨A, cap, K, h1, h2, h3, h4, h5, h6⟩ := h.ex
 exact ⟨⟨A, cap, K, h1, h2, h3, h4, h5.below ((Below.refl q w).setCell (Nat.le_refl _) _), Joins.block_setCell (i := 2) h6 _⟩, h.wf, h.er⟩
theorem ParAt.cells {q : Nat} {TL : List Tk} {E : Nat} {w : World} {s : PSt} (h : ParAt q TL E w s) : w.cell? ⟨q, 2, none⟩ = some (.int .i64 s.d) ∧ w.frozen? ⟨q, 2, none⟩ = false ∧ q < w.heap.size := by
 obtain ⟨A, cap, K, h1, h2, h3, h4, h5, h6⟩ := h.ex
 obtain ⟨c0, c1, c2, c3, c4, cf, cq⟩ := blk_cell h6
 exact ⟨c2, cf 2, cq⟩
theorem holds_size {r : Nat} {t : TypeId} {vs : List Value} {w : World} (h : HoldB r t vs w) : r < w.heap.size := (Array.getElem?_eq_some_iff.1 h).1
theorem RepC.dep {lo q : Nat} {w : World} {ds : List Dt} {vs : List Value} (h : RepC (New lo) w ds vs) (hq : q < lo) (i : Nat) (v : Value) : RepC (New lo) (w.setCell ⟨q, i, none⟩ v) ds vs :=
 h.stay ⟨fun _ _ k => k, by simp, fun b k _ => Below.heap_setCell _ _ _ _ (by have : lo ≤ b := k; simp; omega)⟩
end Go.Proofs.YtljoajjlkjjgeaaGreatDoor
