/-
  append of the reference's rows at a step of a drawn region: onto an empty slice that has no room, and onto a row of the call's own.
-/
import Derived.Test.YtfjhdfpdgjjcgaaGreatDoorTUnion
import Derived.Test.YtfjhdfpdgjjcgaaGreatDoorTSortW
import Derived.RegionTactic
import Derived.OwnWalk
namespace Go.Proofs.YtfjhdfpdgjjcgaaGreatDoor
open Go.RowKit

theorem run_append_zero0 {P : Program} (w : World) (t ty e : TypeId) (i : TypeInfo) (ht : P.underlying t = some (.slice e)) (hi : P.info? e = some i) (p A : Option Addr) (c : Nat) :
    (Builtin.append_ #[t, t] ty #[.slice p 0 0, .slice A 0 c]).run P w = .ok (.slice p 0 0) w := by
  cases p <;> cases A <;> simp [Builtin.append_, run_underlying ht, sizeOf, typeInfo, hi, Builtin.lenOf, Builtin.firstCells, storeCells, loadCells, loadCellsFrom]

set_option maxRecDepth 100000 in
/-- Nothing is appended to an empty slice that has no room. -/
theorem step_rr_nil {w : World} {ops : Array Oper} {o : Oper} {a : Act} {K : Act → World → Prop} {Q : Exit → Act → World → Prop} {E : Prop} (hgd : o.guard = none) (s x : Operand)
    (ho : o.op = .call { callee := .builtin .append, args := #[s, x], argTypes := #[35, 35] })
    (p : Option Addr) (hs : a.eval s = .slice p 0 0) (A : Option Addr) (c : Nat) (hx : a.eval x = .slice A 0 c) (h : K (a.put o.dst (.slice p 0 0)) w) :
    if Region.wanted o (yielded ops a.tmps) = true then Oper.wp Tryz.prog o a w K Q else E := by
  obtain ⟨i0, hi, hz0, hz1, hz2⟩ := info_parts rrow_info
  have hw : Region.wanted o (yielded ops a.tmps) = true := by simp [Region.wanted, hgd]
  rw [if_pos hw]
  have hrun := run_append_zero0 (P := Tryz.prog) w 35 o.type 64 i0 Tryz.underlying35 hi p A c
  unfold Oper.wp
  simp [execOp, ho, resolve, invoke, builtin, hs, hx, hrun, Result.andThen]
  exact h

theorem rr_cells {w : World} {B : Nat} {b off : Nat} {ys : List RH} (hC : RowsAt B w (some ⟨b, off, none⟩) ys) : ∀ j u, (ys.map hdr)[j]? = some u → w.cell? ((⟨b, off, none⟩ : Addr).add j) = some u := fun j u hu => by
  have hj : j < ys.length := by rw [← List.length_map (f := hdr)]; exact (List.getElem?_eq_some_iff.1 hu).1
  obtain ⟨b', off', e, _, c0⟩ := hC.1 j hj
  obtain ⟨rfl, rfl⟩ : b = b' ∧ off = off' := by simpa using e
  rw [show (⟨b, off, none⟩ : Addr).add j = ⟨b, off + j, none⟩ by unfold Addr.add; split <;> simp_all, c0, ← hu, List.getElem?_map, List.getElem?_eq_getElem hj, List.getD_eq_getElem?_getD, List.getElem?_eq_getElem hj]
  rfl

set_option maxRecDepth 100000 in
/-- Rows appended to an empty slice that has no room: a new row. -/
theorem step_rr_new {w : World} {ops : Array Oper} {o : Oper} {a : Act} {K : Act → World → Prop} {Q : Exit → Act → World → Prop} {E : Prop} (hgd : o.guard = none) (s x : Operand)
    (ho : o.op = .call { callee := .builtin .append, args := #[s, x], argTypes := #[35, 35] })
    (p : Addr) (hs : a.eval s = .slice (some p) 0 0) (ys : List RH) (hne : 0 < ys.length) (A : Option Addr) (c : Nat) (hx : a.eval x = .slice A ys.length c) (B : Nat) (hC : RowsAt B w A ys) (hlen : ys.length ≤ 65536)
    (h : ∀ v' w', w'.ownsRow w.heap.size 64 1 v' ys.length (ys.map hdr) → Below w.heap.size w w' → K (a.put o.dst v') w') :
    if Region.wanted o (yielded ops a.tmps) = true then Oper.wp Tryz.prog o a w K Q else E := by
  obtain ⟨i0, hi, hz0, hz1, hz2⟩ := info_parts rrow_info
  have hw : Region.wanted o (yielded ops a.tmps) = true := by simp [Region.wanted, hgd]
  rw [if_pos hw]
  obtain ⟨b, off, rfl, _, _⟩ := hC.1 0 hne
  obtain ⟨v', w', hrun, r1, r2⟩ := run_append_arg_grows (P := Tryz.prog) w 35 o.type 64 i0 (.slice none 0 0) 1 24 Tryz.underlying35 hi hz0 hz1 hz2 rfl (by decide) p 0 0 (olds := []) rfl (fun j u hu => by simp at hu) ⟨b, off, none⟩ ys.length c (news := ys.map hdr) (by simp) (rr_cells hC) (by omega) (by unfold maxLen; omega) (by omega)
  unfold Oper.wp
  simp [execOp, ho, resolve, invoke, builtin, hs, hx, hrun, Result.andThen]
  rw [Nat.zero_add, List.nil_append] at r1
  exact h v' w' r1 ((Below.refl _ _).grown r2 (Nat.le_refl _) (fun g hg => by cases hg))

set_option maxRecDepth 100000 in
/-- Rows appended to a row of the call's own. -/
theorem step_rr_own {w : World} {ops : Array Oper} {o : Oper} {a : Act} {K : Act → World → Prop} {Q : Exit → Act → World → Prop} {E : Prop} (hgd : o.guard = none) (s x : Operand)
    (ho : o.op = .call { callee := .builtin .append, args := #[s, x], argTypes := #[35, 35] })
    (base : Nat) (v : Value) (xs ys : List RH) (hs : a.eval s = v) (hown : w.ownsRow base 64 1 v xs.length (xs.map hdr)) (A : Option Addr) (c : Nat) (hx : a.eval x = .slice A ys.length c) (B : Nat) (hC : RowsAt B w A ys) (hnil : A = none → c = 0)
    (hlen : xs.length + ys.length ≤ 65536) (hbase : base ≤ w.heap.size)
    (h : ∀ v' w', w'.ownsRow base 64 1 v' (xs.length + ys.length) ((xs ++ ys).map hdr) → w.grownBy w' v.ownBlock → K (a.put o.dst v') w') :
    if Region.wanted o (yielded ops a.tmps) = true then Oper.wp Tryz.prog o a w K Q else E := by
  obtain ⟨i0, hi, hz0, hz1, hz2⟩ := info_parts rrow_info
  have hw : Region.wanted o (yielded ops a.tmps) = true := by simp [Region.wanted, hgd]
  rw [if_pos hw]
  cases A with
  | none =>
    have hy : ys = [] := by
      rcases ys with _ | ⟨y, r⟩
      · rfl
      · obtain ⟨_, _, e, _⟩ := hC.1 0 (by simp); cases e
    subst hy
    obtain rfl := hnil rfl
    have hrun := run_append_owned_none (P := Tryz.prog) (w := w) base 35 o.type 64 i0 1 Tryz.underlying35 hi v xs.length (xs.map hdr) hown
    have hx' : a.eval x = .slice none 0 0 := hx
    unfold Oper.wp
    simp [execOp, ho, resolve, invoke, builtin, hs, hx', hrun, Result.andThen]
    exact h v w (by simpa using hown) ⟨rfl, rfl, rfl, Nat.le_refl _, fun _ _ _ => rfl⟩
  | some ad =>
    have hC' : ∀ j u, (ys.map hdr)[j]? = some u → w.cell? (ad.add j) = some u := by
      rcases ys with _ | ⟨y, r⟩
      · intro j u hu; simp at hu
      · obtain ⟨b, off, e, _, _⟩ := hC.1 0 (by simp)
        injection e with e
        subst e
        exact rr_cells hC
    obtain ⟨v', w', hrun, r1, r2, _⟩ := run_append_own (P := Tryz.prog) w base 35 o.type 64 i0 (.slice none 0 0) 1 24 Tryz.underlying35 hi hz0 hz1 hz2 rfl (by decide) v xs.length (xs.map hdr) hown ad ys.length c (ys.map hdr) (by simp) hC'
      (fun u hu => by obtain ⟨h, _, rfl⟩ := List.mem_map.1 hu; rfl) (by unfold maxLen; omega) (by omega) hbase
    unfold Oper.wp
    simp [execOp, ho, resolve, invoke, builtin, hs, hx, hrun, Result.andThen]
    rw [← List.map_append] at r1
    exact h v' w' r1 r2
/-- What the first append gives: an empty slice that has no room, or a row of the call's own. -/
def FstAt (base : Nat) (w : World) (v : Value) (xs : List RH) : Prop :=
  (xs = [] ∧ ∃ p, v = .slice (some p) 0 0) ∨ (0 < xs.length ∧ w.ownsRow base 64 1 v xs.length (xs.map hdr))
theorem FstAt.kept {base : Nat} {w w' : World} {v : Value} {xs : List RH} (h : FstAt base w v xs) (hb : Below w.heap.size w w') : FstAt base w' v xs := by
  rcases h with h | ⟨h0, h⟩
  · exact .inl h
  · exact .inr ⟨h0, h.kept (only_of_below hb none) (by cases hv : v.ownBlock <;> simp)⟩
theorem FstAt.low {base : Nat} {w : World} {v : Value} {xs : List RH} (h : FstAt base w v xs) (h0 : 0 < xs.length) : ∀ g, v.ownBlock = some g → base ≤ g ∧ g < w.heap.size := fun g hg => by
  rcases h with ⟨rfl, _⟩ | ⟨_, h⟩
  · simp at h0
  · exact h.lt g hg
theorem hdrs_on {w w' : World} (hb : Below w.heap.size w w') {A : Option Addr} {ys : List RH} (h : RowsAt w.heap.size w A ys) : ∀ x ∈ ys, HdrOk w.heap.size w' x := fun x hx => (h.2 x hx).below hb
theorem apH_low {base : Nat} {w : World} {v : Value} {h : RH} (k : HdrOk base w h) (hv : ∀ g, v.ownBlock = some g → base ≤ g) : ApH v h := fun a h1 h2 => by
  rcases hl : h.2.2 with _ | ⟨y, r⟩
  · rfl
  · obtain ⟨b, o, e', hlt, _⟩ := k.1 0 (by rw [hl]; simp)
    rw [h1] at e'
    injection e' with e'
    subst e'
    have := hv _ h2
    simp only at this
    omega
/-- The first append: onto an empty slice that has no room. -/
theorem step_rr_fst {w : World} {ops : Array Oper} {o : Oper} {a : Act} {K : Act → World → Prop} {Q : Exit → Act → World → Prop} {E : Prop} (hgd : o.guard = none) (s x : Operand)
    (ho : o.op = .call { callee := .builtin .append, args := #[s, x], argTypes := #[35, 35] })
    (p : Addr) (hs : a.eval s = .slice (some p) 0 0) (ys : List RH) (A : Option Addr) (c : Nat) (hx : a.eval x = .slice A ys.length c) (hC : RowsAt w.heap.size w A ys) (hlen : ys.length ≤ 65536)
    (h : ∀ v' w', FstAt w.heap.size w' v' ys → (∀ h ∈ ys, HdrOk w.heap.size w' h) → Below w.heap.size w w' → K (a.put o.dst v') w') :
    if Region.wanted o (yielded ops a.tmps) = true then Oper.wp Tryz.prog o a w K Q else E := by
  rcases ys with _ | ⟨y, r⟩
  · exact step_rr_nil hgd s x ho (some p) hs A c hx (h _ _ (.inl ⟨rfl, p, rfl⟩) (by simp) (Below.refl _ _))
  · exact step_rr_new hgd s x ho p hs (y :: r) (by simp) A c hx _ hC hlen (fun v' w' h1 h2 => h v' w' (.inr ⟨by simp, h1⟩) (fun x hx => (hC.2 x hx).below h2) h2)
/-- The first append, other rows standing ahead of it. -/
theorem step_rr_fst2 {w : World} {ops : Array Oper} {o : Oper} {a : Act} {K : Act → World → Prop} {Q : Exit → Act → World → Prop} {E : Prop} (hgd : o.guard = none) (s x : Operand)
    (ho : o.op = .call { callee := .builtin .append, args := #[s, x], argTypes := #[35, 35] })
    (p : Addr) (hs : a.eval s = .slice (some p) 0 0) (ys : List RH) (A : Option Addr) (c : Nat) (hx : a.eval x = .slice A ys.length c) (hC : RowsAt w.heap.size w A ys) (hlen : ys.length ≤ 65536)
    (zs : List RH) (A' : Option Addr) (hC' : RowsAt w.heap.size w A' zs)
    (h : ∀ v' w', FstAt w.heap.size w' v' ys → (∀ h ∈ ys, HdrOk w.heap.size w' h) → Below w.heap.size w w' → RowsAt w'.heap.size w' A' zs → (∀ h ∈ zs, HdrOk w.heap.size w' h) → K (a.put o.dst v') w') :
    if Region.wanted o (yielded ops a.tmps) = true then Oper.wp Tryz.prog o a w K Q else E :=
  step_rr_fst hgd s x ho p hs ys A c hx hC hlen fun v' w' h1 h2 h3 => h v' w' h1 h2 h3 (hC'.on h3) (hdrs_on h3 hC')
/-- The second append: onto what the first one gave. -/
theorem step_rr_snd {w : World} {ops : Array Oper} {o : Oper} {a : Act} {K : Act → World → Prop} {Q : Exit → Act → World → Prop} {E : Prop} (hgd : o.guard = none) (s x : Operand)
    (ho : o.op = .call { callee := .builtin .append, args := #[s, x], argTypes := #[35, 35] })
    (base : Nat) (v : Value) (xs ys : List RH) (hs : a.eval s = v) (hF : FstAt base w v xs) (A : Option Addr) (c : Nat) (hx : a.eval x = .slice A ys.length c) (hC : RowsAt w.heap.size w A ys) (hnil : A = none → c = 0)
    (hlen : xs.length + ys.length ≤ 65536) (hbase : base ≤ w.heap.size) (hX : ∀ h ∈ xs, HdrOk base w h) (hY : 0 < xs.length → ∀ h ∈ ys, ApH v h)
    (h : ∀ A' c' w', RowsAt w'.heap.size w' A' (xs ++ ys) → Below base w w' → K (a.put o.dst (.slice A' (xs.length + ys.length) c')) w') :
    if Region.wanted o (yielded ops a.tmps) = true then Oper.wp Tryz.prog o a w K Q else E := by
  rcases hF with ⟨rfl, p, rfl⟩ | ⟨h0, hown⟩
  · rcases ys with _ | ⟨y, r⟩
    · exact step_rr_nil hgd s x ho (some p) hs A c hx (h (some p) 0 w (RowsAt.nil _ _ _) (Below.refl _ _))
    · refine step_rr_new hgd s x ho p hs (y :: r) (by simp) A c hx _ hC (by omega) (fun v' w' h1 h2 => ?_)
      obtain ⟨A1, c1, e1, hA1, -⟩ := rows_of_row h1 (fun x hx => (hC.2 x hx).below h2) h2.size
      subst e1
      have hh := h A1 c1 w' hA1 (h2.mono hbase)
      rw [List.length_nil, Nat.zero_add] at hh
      exact hh
  · refine step_rr_own hgd s x ho base v xs ys hs hown A c hx _ hC hnil hlen hbase (fun v' w' h1 h2 => ?_)
    rw [← List.length_append] at h1
    have hok : ∀ h ∈ xs ++ ys, HdrOk w'.heap.size w' h := fun y hy => by
      rcases List.mem_append.1 hy with hy | hy
      · exact hdr_grown ((hX y hy).mono hbase) h2 (apH_low (hX y hy) (fun g hg => (hown.lt g hg).1))
      · exact hdr_grown (hC.2 y hy) h2 (hY h0 y hy)
    obtain ⟨A1, c1, e1, hA1, -⟩ := rows_of_row h1 hok (Nat.le_refl _)
    subst e1
    have hh := h A1 c1 w' hA1 ((Below.refl _ _).grown h2 hbase (fun k hk => (hown.lt k hk).1))
    rw [← List.length_append] at hh
    exact hh
theorem wft_sort {rs : R3} (h : WfT rs) : WfT (sortR rs) := ⟨by rw [sortR_len]; exact h.1, fun r hr => h.2 r ((sortR_perm rs).mem_iff.1 hr)⟩
/-- A slice of one row that was just made. -/
theorem own_rows1 (w : World) (h : RH) : (w.alloc (.cells #[hdr h] 27)).ownsRow w.heap.size 27 1 (.slice (some ⟨w.heap.size, 0, none⟩) 1 1) 1 ([h].map hdr) :=
  ⟨rfl, .inr ⟨w.heap.size, 1, #[hdr h], rfl, Nat.le_refl _, heap_alloc_new w _, Nat.le_refl _, by decide, rfl, rfl⟩⟩
theorem len_of {ns hs : List RH} (h : rowsOf ns = rowsOf hs) {m : Nat} (hm : hs.length ≤ m) : ns.length ≤ m := by
  have := congrArg List.length h
  rw [rowsOf_len, rowsOf_len] at this
  omega
theorem len_two {ns ms hs gs : List RH} (h : rowsOf ns = rowsOf hs) (k : rowsOf ms = rowsOf gs) (hm : hs.length ≤ 60) (km : gs.length ≤ 60) : ns.length + ms.length ≤ 65536 := by
  have := len_of h hm
  have := len_of k km
  omega
theorem rows_app {ns ms hs gs : List RH} (h : rowsOf ns = rowsOf hs) (k : rowsOf ms = rowsOf gs) : rowsOf (ns ++ ms) = rowsOf hs ++ rowsOf gs := by
  rw [← h, ← k]; unfold rowsOf; exact List.map_append
theorem chain_size {a b c : World} (_k : Below b.heap.size b c) (h : Below a.heap.size a b) : a.heap.size ≤ b.heap.size := h.size
theorem rows_chain {a b : World} (k : Below a.heap.size a b) {A : Option Addr} {ns : List RH} (h : RowsAt a.heap.size a A ns) : RowsAt b.heap.size b A ns ∧ ∀ x ∈ ns, HdrOk a.heap.size b x := ⟨h.on k, hdrs_on k h⟩
theorem wft_app {rs ss : R3} (h : WfT rs) (k : WfT ss) (hl : rs.length + ss.length ≤ maxLen) : WfT (rs ++ ss) := ⟨by rw [List.length_append]; exact hl, fun r hr => by
  rcases List.mem_append.1 hr with hr | hr
  · exact h.2 r hr
  · exact k.2 r hr⟩
end Go.Proofs.YtfjhdfpdgjjcgaaGreatDoor
