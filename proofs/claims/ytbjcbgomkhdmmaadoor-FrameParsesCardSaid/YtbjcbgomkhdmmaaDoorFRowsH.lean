/-
  Slices of rows that grow: where each row lies.
-/
import Derived.Test.YtbjcbgomkhdmmaaDoorTRows
import Derived.Test.YtbjcbgomkhdmmaaDoorFBase
import Derived.Maps.AppendAt
namespace Go.Proofs.YtbjcbgomkhdmmaaDoor
open Go.RowKit

/-- No row lies in the block that v owns. -/
def ApH (v : Value) (h : RH) : Prop := ∀ a, h.1 = some a → v.ownBlock = some a.block → h.2.2 = []
theorem hdr_grown {w w' : World} {row : Option Nat} {h : RH} (k : HdrOk w.heap.size w h) (hg : w.grownBy w' row) (ha : ∀ a, h.1 = some a → row = some a.block → h.2.2 = []) : HdrOk w'.heap.size w' h := ⟨fun j hj => by
  obtain ⟨b, o, e, hlt, c0, c1, c2⟩ := k.1 j hj
  have hne : row ≠ some b := fun hb => by
    have := ha _ e hb
    rw [this] at hj; simp at hj
  have hc : ∀ i, w'.cell? ⟨b, i, none⟩ = w.cell? ⟨b, i, none⟩ := fun i => World.cell?_of_block (hg.block b hlt (fun e => hne e.symm))
  exact ⟨b, o, e, Nat.lt_of_lt_of_le hlt hg.size, (hc _).trans c0, (hc _).trans c1, (hc _).trans c2⟩, k.2⟩
theorem apH_step {v v' : Value} {h : RH} {w : World} {H : Nat} (hap : ApH v h) (k : HdrOk w.heap.size w h) (hH : w.heap.size ≤ H) (hat : v'.ownBlock = v.ownBlock ∨ v'.ownBlock = some H) : ApH v' h := fun a h1 h2 => by
  rcases hat with e | e
  · exact hap a h1 (e ▸ h2)
  · rw [e] at h2
    injection h2 with h2
    rcases hl : h.2.2 with _ | ⟨y, r⟩
    · rfl
    · obtain ⟨b, o, e', hlt, _⟩ := k.1 0 (by rw [hl]; simp)
      rw [h1] at e'
      injection e' with e'
      rw [e'] at h2
      simp only at h2
      omega
/-- A growing slice of rows, all of the call's own, none in the slice's block. -/
structure RowsG (base : Nat) (e : TypeId) (w : World) (v : Value) (ns : List RH) : Prop where
  row : w.ownsRow base e 1 v ns.length (ns.map hdr)
  ok : ∀ h ∈ ns, HdrOk w.heap.size w h ∧ ApH v h
  new : ∀ h ∈ ns, ∀ a, h.1 = some a → base ≤ a.block
theorem RowsG.nil (base : Nat) (e : TypeId) (w : World) : RowsG base e w (.slice none 0 0) [] := ⟨World.ownsRow_nil _ _ _ _, fun h hh => by simp at hh, fun h hh => by simp at hh⟩
theorem hdr_kept {base : Nat} {w w' : World} {h : RH} (k : HdrOk w.heap.size w h) (hn : ∀ a, h.1 = some a → base ≤ a.block) (hs : w.heap.size ≤ w'.heap.size) (hb : ∀ b, base ≤ b → b < w.heap.size → w'.heap[b]? = w.heap[b]?) : HdrOk w'.heap.size w' h := ⟨fun j hj => by
  obtain ⟨b, o, e, hlt, c0, c1, c2⟩ := k.1 j hj
  have hc : ∀ i, w'.cell? ⟨b, i, none⟩ = w.cell? ⟨b, i, none⟩ := fun i => World.cell?_of_block (hb b (hn _ e) hlt)
  exact ⟨b, o, e, Nat.lt_of_lt_of_le hlt hs, (hc _).trans c0, (hc _).trans c1, (hc _).trans c2⟩, k.2⟩
theorem RowsG.keep {base : Nat} {e : TypeId} {w w' : World} {v : Value} {ns : List RH} (h : RowsG base e w v ns) (hs : w.heap.size ≤ w'.heap.size) (hb : ∀ b, base ≤ b → b < w.heap.size → w'.heap[b]? = w.heap[b]?) : RowsG base e w' v ns :=
  ⟨row_keep h.row fun b e => hb b (h.row.lt b e).1 (h.row.lt b e).2, fun k hk => ⟨hdr_kept (h.ok k hk).1 (h.new k hk) hs hb, (h.ok k hk).2⟩, h.new⟩
theorem RowsG.below {base : Nat} {e : TypeId} {w w' : World} {v : Value} {ns : List RH} (h : RowsG base e w v ns) (hb : Below w.heap.size w w') : RowsG base e w' v ns := h.keep hb.size fun b _ hlt => hb.block b hlt
theorem RowsG.rows {base : Nat} {e : TypeId} {w : World} {v : Value} {ns : List RH} (h : RowsG base e w v ns) : ∃ A cap, v = .slice A ns.length cap ∧ RowsAt w.heap.size w A ns ∧ (A = none → cap = 0) := rows_of_row h.row (fun k hk => (h.ok k hk).1) (Nat.le_refl _)

theorem rowsV_info : (Tryd.prog.info? 22).map (fun i => (i.zero, i.size, i.bytes)) = some (some (.slice none 0 0), 1, 24) := by kernel_rfl
set_option maxRecDepth 100000 in
/-- append of one row. -/
theorem rowsV_append {w : World} {ops : Array Oper} {rest : List Oper} {o : Oper} {a : Act} {Q : Exit → Act → World → Prop} (hgd : o.guard = none) (s x : Operand)
    (ho : o.op = .call { callee := .builtin .append, args := #[s, x], argTypes := #[25, 25] })
    (base : Nat) (v : Value) (ns : List RH) (n : Nat) (hn : n = ns.length) (he : a.eval s = v) (hown : RowsG base 22 w v ns) (h : RH) (bl : Nat) (hx : a.eval x = .slice (some ⟨bl, 0, none⟩) 1 1) (hc : w.cell? ⟨bl, 0, none⟩ = some (hdr h))
    (hh : HdrOk w.heap.size w h) (hap : ApH v h) (hnew : ∀ a, h.1 = some a → base ≤ a.block) (hlen : n ≤ 1073741824) (hbase : base ≤ w.heap.size)
    (hk : ∀ v' w', RowsG base 22 w' v' (ns ++ [h]) → w'.ownsRow base 22 1 v' (n + 1) ((ns ++ [h]).map hdr) → w.grownBy w' v.ownBlock → wpList Tryd.prog ops Q rest (a.put o.dst v') w') : wpList Tryd.prog ops Q (o :: rest) a w := by
  subst hn
  obtain ⟨i0, hi, hz0, hz1, hz2⟩ := info_parts rowsV_info
  have hcat : (ns ++ [h]).map hdr = ns.map hdr ++ [hdr h] := by simp
  refine wpList_append_own_at w hgd s x _ ho base 22 i0 (.slice none 0 0) 1 24 Tryd.underlying25 hi hz0 hz1 hz2 rfl (by decide) v ns.length _ he hown.row ⟨bl, 0, none⟩ 1 1 [hdr h] hx rfl ?_ (hdr_one h) (by unfold maxLen; omega) (by omega) hbase ?_
  · intro j u hu
    match j, hu with
    | 0, hu =>
      simp at hu
      subst hu
      exact hc
  · intro v' w' h1 h2 _ h4
    rw [← hcat] at h1
    have h1' : w'.ownsRow base 22 1 v' (ns ++ [h]).length ((ns ++ [h]).map hdr) := by rw [List.length_append]; exact h1
    refine hk v' w' ⟨h1', fun k hm => ?_, fun k hm => ?_⟩ h1 h2
    · have hk2 : HdrOk w.heap.size w k ∧ ApH v k := by
        rcases List.mem_append.1 hm with hm | hm
        · exact hown.ok k hm
        · rw [List.mem_singleton] at hm; subst hm; exact ⟨hh, hap⟩
      exact ⟨hdr_grown hk2.1 h2 (fun a e1 e2 => hk2.2 a e1 e2), apH_step hk2.2 hk2.1 (Nat.le_refl _) h4⟩
    · rcases List.mem_append.1 hm with hm | hm
      · exact hown.new k hm
      · rw [List.mem_singleton] at hm; subst hm; exact hnew

theorem rowsR_info : (Tryd.prog.info? 69).map (fun i => (i.zero, i.size, i.bytes)) = some (some (.slice none 0 0), 1, 24) := by kernel_rfl
set_option maxRecDepth 100000 in
/-- append of one row. -/
theorem rowsR_append {w : World} {ops : Array Oper} {rest : List Oper} {o : Oper} {a : Act} {Q : Exit → Act → World → Prop} (hgd : o.guard = none) (s x : Operand)
    (ho : o.op = .call { callee := .builtin .append, args := #[s, x], argTypes := #[67, 67] })
    (base : Nat) (v : Value) (ns : List RH) (n : Nat) (hn : n = ns.length) (he : a.eval s = v) (hown : RowsG base 69 w v ns) (h : RH) (bl : Nat) (hx : a.eval x = .slice (some ⟨bl, 0, none⟩) 1 1) (hc : w.cell? ⟨bl, 0, none⟩ = some (hdr h))
    (hh : HdrOk w.heap.size w h) (hap : ApH v h) (hnew : ∀ a, h.1 = some a → base ≤ a.block) (hlen : n ≤ 1073741824) (hbase : base ≤ w.heap.size)
    (hk : ∀ v' w', RowsG base 69 w' v' (ns ++ [h]) → w'.ownsRow base 69 1 v' (n + 1) ((ns ++ [h]).map hdr) → w.grownBy w' v.ownBlock → wpList Tryd.prog ops Q rest (a.put o.dst v') w') : wpList Tryd.prog ops Q (o :: rest) a w := by
  subst hn
  obtain ⟨i0, hi, hz0, hz1, hz2⟩ := info_parts rowsR_info
  have hcat : (ns ++ [h]).map hdr = ns.map hdr ++ [hdr h] := by simp
  refine wpList_append_own_at w hgd s x _ ho base 69 i0 (.slice none 0 0) 1 24 Tryd.underlying67 hi hz0 hz1 hz2 rfl (by decide) v ns.length _ he hown.row ⟨bl, 0, none⟩ 1 1 [hdr h] hx rfl ?_ (hdr_one h) (by unfold maxLen; omega) (by omega) hbase ?_
  · intro j u hu
    match j, hu with
    | 0, hu =>
      simp at hu
      subst hu
      exact hc
  · intro v' w' h1 h2 _ h4
    rw [← hcat] at h1
    have h1' : w'.ownsRow base 69 1 v' (ns ++ [h]).length ((ns ++ [h]).map hdr) := by rw [List.length_append]; exact h1
    refine hk v' w' ⟨h1', fun k hm => ?_, fun k hm => ?_⟩ h1 h2
    · have hk2 : HdrOk w.heap.size w k ∧ ApH v k := by
        rcases List.mem_append.1 hm with hm | hm
        · exact hown.ok k hm
        · rw [List.mem_singleton] at hm; subst hm; exact ⟨hh, hap⟩
      exact ⟨hdr_grown hk2.1 h2 (fun a e1 e2 => hk2.2 a e1 e2), apH_step hk2.2 hk2.1 (Nat.le_refl _) h4⟩
    · rcases List.mem_append.1 hm with hm | hm
      · exact hown.new k hm
      · rw [List.mem_singleton] at hm; subst hm; exact hnew
end Go.Proofs.YtbjcbgomkhdmmaaDoor
