/-
  What the walk of TableOrder wants of its own: append of headers as a step of a drawn region; Make's result in one form; the capacity of a table's rows that come in.
-/
import Derived.Test.YtfjhdfpdgjjcgaaGreatDoorTBox
import Derived.RegionTactic
import Derived.OwnWalk
namespace Go.Proofs.YtfjhdfpdgjjcgaaGreatDoor
open Go.RowKit

set_option maxRecDepth 100000 in
/-- append of headers that lie in a block, to a row of the call's own. -/
theorem step_rows {w : World} {ops : Array Oper} {o : Oper} {a : Act} {K : Act → World → Prop} {Q : Exit → Act → World → Prop} {E : Prop} (hgd : o.guard = none) (s x : Operand)
    (ho : o.op = .call { callee := .builtin .append, args := #[s, x], argTypes := #[24, 24] })
    (base : Nat) (v : Value) (n : Nat) (xs ys : List RH) (hs : a.eval s = v) (hown : w.ownsRow base 27 1 v n (xs.map hdr)) (b off c : Nat) (hx : a.eval x = .slice (some ⟨b, off, none⟩) ys.length c)
    (hC : ∀ j, j < ys.length → w.cell? ⟨b, off + j, none⟩ = some (hdr (ys.getD j dH))) (hlen : n + ys.length ≤ 65536) (hbase : base ≤ w.heap.size)
    (h : ∀ v' w', w'.ownsRow base 27 1 v' (n + ys.length) ((xs ++ ys).map hdr) → Below base w w' → K (a.put o.dst v') w') :
    if Region.wanted o (yielded ops a.tmps) = true then Oper.wp Tryz.prog o a w K Q else E := by
  obtain ⟨i0, hi, hz0, hz1, hz2⟩ := info_parts row_info
  have hw : Region.wanted o (yielded ops a.tmps) = true := by simp [Region.wanted, hgd]
  rw [if_pos hw]
  have hl : (ys.map hdr).length = ys.length * 1 := by simp
  have hc : ∀ j u, (ys.map hdr)[j]? = some u → w.cell? ((⟨b, off, none⟩ : Addr).add j) = some u := fun j u hu => by
    have hj : j < ys.length := by rw [← List.length_map (f := hdr)]; exact (List.getElem?_eq_some_iff.1 hu).1
    rw [show (⟨b, off, none⟩ : Addr).add j = ⟨b, off + j, none⟩ by unfold Addr.add; split <;> simp_all, hC j hj, ← hu, List.getElem?_map, List.getElem?_eq_getElem hj, List.getD_eq_getElem?_getD, List.getElem?_eq_getElem hj]
    rfl
  obtain ⟨v', w', hrun, r1, r2, _⟩ := run_append_own (P := Tryz.prog) w base 24 o.type 27 i0 (.slice none 0 0) 1 24 Tryz.underlying24 hi hz0 hz1 hz2 rfl (by decide) v n (xs.map hdr) hown ⟨b, off, none⟩ ys.length c (ys.map hdr) hl hc
    (fun u hu => by obtain ⟨h, _, rfl⟩ := List.mem_map.1 hu; rfl) (by unfold maxLen; omega) (by omega) hbase
  unfold Oper.wp
  simp [execOp, ho, resolve, invoke, builtin, hs, hx, hrun, Result.andThen]
  rw [← List.map_append] at r1
  refine h v' w' r1 ((Below.refl _ _).grown r2 hbase fun g hg => ?_)
  rcases hown.2 with ⟨rfl, _⟩ | ⟨g', cap, cur, rfl, hb, _⟩
  · simp [Value.ownBlock] at hg
  · have : g' = g := by simpa [Value.ownBlock] using hg
    omega
/-- An empty slice of rows that was just made. -/
theorem own_rows0 (w : World) (base : Nat) (h : base ≤ w.heap.size) : (w.alloc (.cells #[] 27)).ownsRow base 27 1 (.slice (some ⟨w.heap.size, 0, none⟩) 0 0) 0 (([] : List RH).map hdr) :=
  ⟨rfl, .inr ⟨w.heap.size, 0, #[], rfl, h, heap_alloc_new w _, Nat.le_refl _, Nat.zero_le _, rfl, rfl⟩⟩

/-- What Make makes of columns and rows. -/
def madeAs (cs : List (ByteArray × Int)) (rs : R3) : List (ByteArray × Int) × R3 := if checkT cs rs = 0 then (cs, sortR rs) else ([], [])
theorem madeAs_perm {cs : List (ByteArray × Int)} {rs ss : R3} (h : rs.Perm ss) : madeAs cs rs = madeAs cs ss := by unfold madeAs; rw [checkT_perm h, sortR_congr h]
theorem madeAs_wft {cs : List (ByteArray × Int)} {rs : R3} (h : WfT rs) : WfT (madeAs cs rs).2 := by
  unfold madeAs
  split
  · exact ⟨by rw [sortR_len]; exact h.1, fun r hr => h.2 r ((sortR_perm rs).mem_iff.1 hr)⟩
  · exact ⟨Nat.zero_le _, fun r hr => by simp at hr⟩
def Made (cs : List (ByteArray × Int)) (rs : R3) (w : World) (e : Ending) (w' : World) : Prop :=
  (∃ S c A d ns ds, e = .returned (.tuple #[vTab S (List.length ds) c A (List.length ns) d, .int .i64 (checkT cs rs)]) ∧ ColsAt w'.heap.size w' S ds ∧ RowsAt w'.heap.size w' A ns ∧ (ds, rowsOf ns) = madeAs cs rs) ∧ Below w.heap.size w w'
theorem made_of {cs : List (ByteArray × Int)} {rs : R3} {w : World} {e : Ending} {w' : World} (h : MakeV cs rs w e w') : Made cs rs w e w' := by
  obtain ⟨h1, hb⟩ := h
  refine ⟨?_, hb⟩
  unfold madeAs
  by_cases hz : checkT cs rs = 0
  · rw [if_pos hz] at h1
    obtain ⟨v, he, S, c, g, cap, ns, rfl, a1, a2, a3, a4⟩ := h1
    rw [if_pos hz, hz]
    exact ⟨S, c, some ⟨g, 0, none⟩, cap, ns, cs, he, a1, a4, by rw [a3]⟩
  · rw [if_neg hz] at h1
    rw [if_neg hz]
    exact ⟨none, 0, none, 0, [], [], h1, ColsAt.nil _ _ _, RowsAt.nil _ _ _, rfl⟩
end Go.Proofs.YtfjhdfpdgjjcgaaGreatDoor
