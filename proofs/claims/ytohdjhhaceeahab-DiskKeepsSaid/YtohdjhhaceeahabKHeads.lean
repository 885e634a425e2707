/-
  Lists of byte slices in memory.
-/
import Derived.Test.YtohdjhhaceeahabKOps
namespace Go.Proofs.Ytohdjhhaceeahab
open Go.RowKit

/-- A byte slice, with what it holds. -/
structure BH where
  A : Option Addr
  c : Nat
  l : List UInt8
def dH : BH := ⟨none, 0, []⟩
def hdr (h : BH) : Value := .slice h.A h.l.length h.c
def HeadsAt (B : Nat) (w : World) (A : Option Addr) (hs : List BH) : Prop :=
  ∀ j, j < hs.length → ∃ b off, A = some ⟨b, off, none⟩ ∧ b < B ∧ w.cell? ⟨b, off + j, none⟩ = some (hdr (hs.getD j dH)) ∧ BytesAt B w (hs.getD j dH).A (hs.getD j dH).l
theorem HeadsAt.below {B : Nat} {w w' : World} {A : Option Addr} {hs : List BH} (h : HeadsAt B w A hs) (hb : Below B w w') : HeadsAt B w' A hs := fun j hj => by
  obtain ⟨b, off, e, hlt, h0, h1⟩ := h j hj
  exact ⟨b, off, e, hlt, (hb.cell (p := ⟨b, off + j, none⟩) hlt).trans h0, h1.below hb⟩
structure WfH (h : BH) : Prop where
  l : h.l.length ≤ maxLen
  n : h.A = none → h.c = 0
def WfHs (hs : List BH) : Prop := hs.length ≤ maxLen ∧ ∀ j, j < hs.length → WfH (hs.getD j dH)
theorem hdrs_at {hs : List BH} {j : Nat} (hj : j < hs.length) : (hs.map hdr)[j]? = some (hdr (hs.getD j dH)) := by
  rw [List.getElem?_map, List.getElem?_eq_getElem hj, List.getD_eq_getElem?_getD, List.getElem?_eq_getElem hj]
  rfl
theorem head_info : (Try.prog.info? 28).map (fun i => (i.zero, i.size, i.bytes)) = some (some (.slice none 0 0), 1, 24) := by kernel_rfl
set_option maxRecDepth 100000 in
/-- append of byte slices to a row of the call's own. -/
theorem append_heads {w : World} {ops : Array Oper} {rest : List Oper} {o : Oper} {a : Act} {Q : Exit → Act → World → Prop} (hgd : o.guard = none) (s x : Operand)
    (ho : o.op = .call { callee := .builtin .append, args := #[s, x], argTypes := #[43, 43] })
    (base : Nat) (v : Value) (xs ys : List BH) (n : Nat) (hs : a.eval s = v) (hown : w.ownsRow base 28 1 v n (xs.map hdr)) (B : Nat)
    (A : Option Addr) (c : Nat) (hx : a.eval x = .slice A ys.length c) (hC : HeadsAt B w A ys) (hnil : A = none → c = 0) (hlen : n + ys.length ≤ 65536) (hbase : base ≤ w.heap.size)
    (h : ∀ v' w', w'.ownsRow base 28 1 v' (n + ys.length) ((xs ++ ys).map hdr) → w.grownBy w' v.ownBlock → wpList Try.prog ops Q rest (a.put o.dst v') w') : wpList Try.prog ops Q (o :: rest) a w := by
  obtain ⟨i0, hi, hz0, hz1, hz2⟩ := info_parts head_info
  have hcat : (xs ++ ys).map hdr = xs.map hdr ++ ys.map hdr := List.map_append
  cases A with
  | none =>
    have hy : ys = [] := by
      rcases ys with _ | ⟨y, r⟩
      · rfl
      · obtain ⟨_, _, e, _⟩ := hC 0 (by simp); cases e
    subst hy
    have hc0 := hnil rfl
    subst hc0
    exact wpList_append_own_none hgd s x _ ho base _ i0 1 Try.underlying43 hi v n _ hs hown hx (h v w (by simpa using hown) ⟨rfl, rfl, rfl, Nat.le_refl _, fun _ _ _ => rfl⟩)
  | some ad =>
    refine wpList_append_own w hgd s x _ ho base 28 i0 (.slice none 0 0) 1 24 Try.underlying43 hi hz0 hz1 hz2 rfl (by decide) v n _ hs hown ad ys.length c (ys.map hdr) hx (by simp) ?_ ?_ (by unfold maxLen; omega) (by omega) hbase ?_
    · intro j u hu
      have hj : j < ys.length := by simpa using (List.getElem?_eq_some_iff.1 hu).1
      obtain ⟨b, off, e, _, c0, _⟩ := hC j hj
      injection e with e
      subst e
      rw [show (⟨b, off, none⟩ : Addr).add j = ⟨b, off + j, none⟩ by unfold Addr.add; split <;> simp_all]
      rw [hdrs_at hj] at hu
      injection hu with hu
      subst hu
      exact c0
    · intro u hu
      obtain ⟨c, _, rfl⟩ := List.mem_map.1 hu
      rfl
    · intro v' w' h1 h2 _
      rw [← hcat] at h1
      exact h v' w' h1 h2
end Go.Proofs.Ytohdjhhaceeahab
