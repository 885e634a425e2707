/-
  Two growing slices side by side: bytes and integers. Lists of byte slices that come in.
-/
import Derived.Test.YtkdihekhdnnheaaDoorFHeads
import Derived.Test.YtkdihekhdnnheaaDoorFLists
namespace Go.Proofs.YtkdihekhdnnheaaDoor
open Go.RowKit

def intC (l : List Int) : List Value := l.map fun n => .int .i64 n
theorem int_info : (Tryd.prog.info? 3).map (fun i => (i.zero, i.size, i.bytes)) = some (some (.int .i64 0), 1, 8) := by kernel_rfl
set_option maxRecDepth 100000 in
/-- append of one integer. -/
theorem append_int {w : World} {ops : Array Oper} {rest : List Oper} {o : Oper} {a : Act} {Q : Exit → Act → World → Prop} (hgd : o.guard = none) (s x : Operand)
    (ho : o.op = .call { callee := .builtin .append, args := #[s, x], argTypes := #[37, 37] })
    (base : Nat) (v : Value) (xs : List Int) (n : Nat) (he : a.eval s = v) (hown : w.ownsRow base 3 1 v n (intC xs)) (y : Int) (bl : Nat) (hx : a.eval x = .slice (some ⟨bl, 0, none⟩) 1 1) (hc : w.cell? ⟨bl, 0, none⟩ = some (.int .i64 y))
    (hlen : n ≤ 1073741824) (hbase : base ≤ w.heap.size)
    (hk : ∀ v' w', w'.ownsRow base 3 1 v' (n + 1) (intC (xs ++ [y])) → w.grownBy w' v.ownBlock → (v'.ownBlock = v.ownBlock ∨ v'.ownBlock = some w.heap.size) → wpList Tryd.prog ops Q rest (a.put o.dst v') w') : wpList Tryd.prog ops Q (o :: rest) a w := by
  obtain ⟨i0, hi, hz0, hz1, hz2⟩ := info_parts int_info
  have hcat : intC (xs ++ [y]) = intC xs ++ [.int .i64 y] := by simp [intC]
  refine wpList_append_own_at w hgd s x _ ho base 3 i0 (.int .i64 0) 1 8 Tryd.underlying37 hi hz0 hz1 hz2 rfl (by decide) v n _ he hown ⟨bl, 0, none⟩ 1 1 [.int .i64 y] hx rfl ?_ ?_ (by unfold maxLen; omega) (by omega) hbase ?_
  · intro j u hu
    match j, hu with
    | 0, hu =>
      simp at hu
      subst hu
      exact hc
  · intro u hu
    simp at hu
    subst hu
    rfl
  · intro v' w' h1 h2 _ h4
    rw [← hcat] at h1
    exact hk v' w' h1 h2 h4
structure TwoR (base : Nat) (w : World) (va ve : Value) (la : List UInt8) (es : List Int) : Prop where
  ra : w.ownsRow base 5 1 va la.length (byC la)
  re : w.ownsRow base 3 1 ve es.length (intC es)
  ap : ∀ b, va.ownBlock = some b → ve.ownBlock ≠ some b
theorem TwoR.below {base : Nat} {w w' : World} {va ve : Value} {la : List UInt8} {es : List Int} (h : TwoR base w va ve la es) (hb : Below w.heap.size w w') : TwoR base w' va ve la es :=
  ⟨row_keep h.ra fun b e => hb.block b (h.ra.lt b e).2, row_keep h.re fun b e => hb.block b (h.re.lt b e).2, h.ap⟩
theorem TwoR.appA {base : Nat} {w w' : World} {va va' ve : Value} {la ys : List UInt8} {es : List Int} (h : TwoR base w va ve la es) (n : Nat) (hn : n = (la ++ ys).length) (h1 : w'.ownsRow base 5 1 va' n (byC (la ++ ys))) (h2 : w.grownBy w' va.ownBlock) (h3 : va'.ownBlock = va.ownBlock ∨ va'.ownBlock = some w.heap.size) : TwoR base w' va' ve (la ++ ys) es := by
  subst hn
  refine ⟨h1, row_keep h.re fun b e => h2.block b (h.re.lt b e).2 fun e2 => h.ap b e2.symm e, fun b e e2 => ?_⟩
  rcases h3 with h4 | h4
  · exact h.ap b (h4.symm.trans e) e2
  · rw [e] at h4; injection h4 with h4
    have := (h.re.lt b e2).2; omega
theorem TwoR.appE {base : Nat} {w w' : World} {va ve ve' : Value} {la : List UInt8} {es : List Int} {y : Int} (h : TwoR base w va ve la es) (n : Nat) (hn : n = (es ++ [y]).length) (h1 : w'.ownsRow base 3 1 ve' n (intC (es ++ [y]))) (h2 : w.grownBy w' ve.ownBlock) (h3 : ve'.ownBlock = ve.ownBlock ∨ ve'.ownBlock = some w.heap.size) : TwoR base w' va ve' la (es ++ [y]) := by
  subst hn
  refine ⟨row_keep h.ra fun b e => h2.block b (h.ra.lt b e).2 fun e2 => h.ap b e e2.symm, h1, fun b e e2 => ?_⟩
  rcases h3 with h4 | h4
  · exact h.ap b e (h4.symm.trans e2)
  · rw [e2] at h4; injection h4 with h4
    have := (h.ra.lt b e).2; omega
theorem BytesAt.take {B : Nat} {w : World} {A : Option Addr} {l : List UInt8} (h : BytesAt B w A l) (n : Nat) : BytesAt B w A (l.take n) := fun j hj => by
  rw [List.length_take] at hj
  obtain ⟨b, off, e, hlt, hc⟩ := h j (by omega)
  refine ⟨b, off, e, hlt, ?_⟩
  rw [hc, List.getD_eq_getElem?_getD, List.getD_eq_getElem?_getD, List.getElem?_take_of_lt (by omega)]
/-- The ends so far. -/
def endsV (ls : List (List UInt8)) (k : Nat) : List Int := (List.range k).map fun j => ((endsL ls (j + 1) : Nat) : Int)
theorem endsV_len (ls : List (List UInt8)) (k : Nat) : (endsV ls k).length = k := by simp [endsV]
theorem endsV_succ (ls : List (List UInt8)) (k : Nat) : endsV ls (k + 1) = endsV ls k ++ [((endsL ls (k + 1) : Nat) : Int)] := by simp [endsV, List.range_succ]
theorem endsV_get {ls : List (List UInt8)} {k j : Nat} (hj : j < k) : (endsV ls k).getD j 0 = ((endsL ls (j + 1) : Nat) : Int) := by
  unfold endsV
  rw [List.getD_eq_getElem?_getD, List.getElem?_map, List.getElem?_range hj]
  rfl
theorem ints_of_row {w : World} {base : Nat} {v : Value} {l : List Int} (h : w.ownsRow base 3 1 v l.length (intC l)) :
    ∃ A c, v = .slice A l.length c ∧ IntsAt w.heap.size w A l := by
  rcases h.2 with ⟨rfl, h0⟩ | ⟨g, cap, cur, rfl, hb, hg, hn, _, hsz, htk⟩
  · rw [h0]; exact ⟨none, 0, rfl, (fun j hj => by omega)⟩
  · refine ⟨some ⟨g, 0, none⟩, cap, rfl, fun j hj => ⟨g, 0, rfl, (Array.getElem?_eq_some_iff.1 hg).1, ?_⟩⟩
    rw [Nat.zero_add, Lib.cell_of_heap hg]
    have hc : (intC l)[j]? = some (.int .i64 (l.getD j 0)) := by
      unfold intC
      rw [List.getElem?_map, List.getElem?_eq_getElem hj, List.getD_eq_getElem?_getD, List.getElem?_eq_getElem hj]
      rfl
    rw [← htk, List.getElem?_take_of_lt (by omega)] at hc
    simpa using hc
/-- Where a row lies. -/
theorem row_addr {w : World} {base n c : Nat} {e : TypeId} {A : Option Addr} {xs : List Value} (h : w.ownsRow base e 1 (.slice A n c) n xs) : (∀ a, A = some a → a = ⟨a.block, 0, none⟩) ∧ (A = none → n = 0 ∧ c = 0) := by
  rcases h.2 with ⟨h1, h0⟩ | ⟨g, cap, cur, h1, hb, hg, hn, _, hsz, htk⟩
  · injection h1 with h1 h2 h3
    subst h1
    exact ⟨(fun a e => by cases e), fun _ => ⟨h0, h3⟩⟩
  · injection h1 with h1 h2 h3
    subst h1
    exact ⟨(fun a e => by injection e with e; rw [← e]), fun e => by cases e⟩
/-- Byte slices that come in. -/
def dH : BH := ⟨none, 0, []⟩
def HeadsAt (B : Nat) (w : World) (A : Option Addr) (hs : List BH) : Prop :=
  ∀ j, j < hs.length → ∃ b off, A = some ⟨b, off, none⟩ ∧ b < B ∧ w.cell? ⟨b, off + j, none⟩ = some (hdr (hs.getD j dH)) ∧ BytesAt B w (hs.getD j dH).A (hs.getD j dH).l
theorem HeadsAt.below {B : Nat} {w w' : World} {A : Option Addr} {hs : List BH} (h : HeadsAt B w A hs) (hb : Below B w w') : HeadsAt B w' A hs := fun j hj => by
  obtain ⟨b, off, e, hlt, h0, h1⟩ := h j hj
  exact ⟨b, off, e, hlt, (hb.cell (p := ⟨b, off + j, none⟩) hlt).trans h0, h1.below hb⟩
structure WfH (h : BH) : Prop where
  l : h.l.length ≤ maxLen
  n : h.A = none → h.c = 0
def WfHs (hs : List BH) : Prop := hs.length ≤ maxLen ∧ ∀ j, j < hs.length → WfH (hs.getD j dH)
theorem lsOf_get {hs : List BH} {j : Nat} (hj : j < hs.length) : (lsOf hs).getD j [] = (hs.getD j dH).l := by
  unfold lsOf
  rw [List.getD_eq_getElem?_getD, List.getD_eq_getElem?_getD, List.getElem?_map, List.getElem?_eq_getElem hj]
  rfl
theorem HeadsAt.get {B : Nat} {w : World} {A : Option Addr} {hs : List BH} (h : HeadsAt B w A hs) (hw : WfHs hs) {k : Nat} (hk : k < hs.length) :
    ∃ b off A0 c0 l0, A = some ⟨b, off, none⟩ ∧ b < B ∧ w.cell? ⟨b, off + k, none⟩ = some (.slice A0 l0.length c0) ∧ BytesAt B w A0 l0 ∧ (lsOf hs).getD k [] = l0 ∧ l0.length ≤ maxLen ∧ (A0 = none → c0 = 0) := by
  obtain ⟨b, off, e, hlt, h0, h1⟩ := h k hk
  exact ⟨b, off, _, _, _, e, hlt, h0, h1, lsOf_get hk, (hw.2 k hk).l, (hw.2 k hk).n⟩
theorem HeadsAt.got {B : Nat} {w : World} {A : Option Addr} {hs : List BH} (h : HeadsAt B w A hs) {k : Nat} (hk : k < hs.length) :
    ∃ b off A0 c0 l0, A = some ⟨b, off, none⟩ ∧ b < B ∧ w.cell? ⟨b, off + k, none⟩ = some (.slice A0 l0.length c0) ∧ BytesAt B w A0 l0 ∧ (lsOf hs).getD k [] = l0 := by
  obtain ⟨b, off, e, hlt, h0, h1⟩ := h k hk
  exact ⟨b, off, _, _, _, e, hlt, h0, h1, lsOf_get hk⟩
theorem heads_len {w : World} {base : Nat} {v : Value} {hs : List BH} (h : HeadsOwn base w v hs) : hs.length ≤ maxLen := by
  obtain ⟨_, _, _, h1, h2⟩ := row_slice h.row
  omega
theorem heads_at {w : World} {base : Nat} {v : Value} {hs : List BH} (h : HeadsOwn base w v hs) :
    ∃ A c, v = .slice A hs.length c ∧ HeadsAt w.heap.size w A hs := by
  have hr := h.row
  rcases hr.2 with ⟨rfl, h0⟩ | ⟨g, cap, cur, rfl, hb, hg, hn, _, hsz, htk⟩
  · rw [h0]; exact ⟨none, 0, rfl, (fun j hj => by omega)⟩
  · refine ⟨some ⟨g, 0, none⟩, cap, rfl, fun j hj => ⟨g, 0, rfl, (Array.getElem?_eq_some_iff.1 hg).1, ?_, ?_⟩⟩
    · rw [Nat.zero_add, Lib.cell_of_heap hg]
      have hc : (hs.map hdr)[j]? = some (hdr (hs.getD j dH)) := by
        rw [List.getElem?_map, List.getElem?_eq_getElem hj, List.getD_eq_getElem?_getD, List.getElem?_eq_getElem hj]
        rfl
      rw [← htk, List.getElem?_take_of_lt (by omega)] at hc
      simpa using hc
    · refine (h.lies _ ?_).bytes
      rw [List.getD_eq_getElem?_getD, List.getElem?_eq_getElem hj]
      exact List.getElem_mem hj
end Go.Proofs.YtkdihekhdnnheaaDoor
