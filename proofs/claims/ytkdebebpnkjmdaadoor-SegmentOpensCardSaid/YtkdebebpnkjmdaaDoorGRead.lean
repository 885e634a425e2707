/-
  Read, with the row that it makes; one segment's row of groups.
-/
import Derived.Test.YtkdebebpnkjmdaaDoorGGroup
namespace Go.Proofs.YtkdebebpnkjmdaaDoor
open Go.RowKit

def ReadV (w : World) (p : PD) (f : Nat) (e : Ending) (w' : World) : Prop :=
  ∃ v', e = .returned (.tuple #[v', .int .i64 (checkE p f)]) ∧ w'.ownsRow w.heap.size 5 1 v' (rdL p f).length (byC (rdL p f)) ∧ Below w.heap.size w w'
set_option maxHeartbeats 3200000 in
set_option maxRecDepth 100000 in
theorem read_own {base g : Nat} {D : DS} (f : Nat) (w : World) (hD : DiskAt base g w D) (hO : D.p.Ok) (hf2 : f < 2) :
    Calls Tryd.prog 13 #[vD g, .int .i64 f] w (ReadV w D.p f) := by
  unfold ReadV
  have HC := hide (check_any f w hD)
  have HD := hide hD
  by_cases h0 : checkE D.p f = 0
  · have hlen := hO.len (i := f) (by omega)
    have HL := hide (show rdL D.p f = D.p.xs f from if_pos h0)
    rw [h0] at HC
    rw [h0]
    generalize rdL D.p f = l at *
    clear h0
    rcases (by omega : f = 0 ∨ f = 1) with rfl | rfl
    · have HL2 := hide (show l = D.p.xs 0 from HL.out)
      have hlen' : (D.p.xs 0).length ≤ 1073741824 := hlen
      rw [← HL2.out] at hlen'
      have HRow := hide (fun w' (h : Below w.heap.size w w') => bytes_of_row ((HD.out.below h).row 0 (by decide)))
      rw [← HL2.out] at HRow
      clear hD hO hlen HL
      go_enter Tryd.func13, Tryd.ntmps13
      go_wp2_with fail
      refine HC.out.mono ?_
      rintro e w1 ⟨rfl, hb1⟩
      have HB1 := hide hb1
      obtain ⟨A, c, hA, hBy, -, hnl, -⟩ := HRow.out w1 hb1
      obtain ⟨c0, c1, c2, c3, c4, c5, c6, c7, c8, c9, c10, c11⟩ := (HD.out.below hb1).cells
      rw [hA] at c0
      have HCl := hide (clone_any A c l w1 hBy (by omega))
      have hlt := (HD.out.below hb1).lt
      clear hb1 hA hBy hnl HRow
      go_wp2_with fail
      refine HCl.out.mono ?_
      rintro e w2 ⟨v2, rfl, hr2, hb2⟩
      have HF := hide (own_mono hr2 HB1.out.size)
      have HB2 := hide (then_below HB1.out hb2)
      obtain ⟨A2, c2, rfl, -⟩ := row_slice hr2
      clear hr2 hb2
      go_wp2_with fail
      go_ret2
      exact ⟨_, rfl, HF.out, HB2.out⟩
    · have HL2 := hide (show l = D.p.xs 1 from HL.out)
      have hlen' : (D.p.xs 1).length ≤ 1073741824 := hlen
      rw [← HL2.out] at hlen'
      have HRow := hide (fun w' (h : Below w.heap.size w w') => bytes_of_row ((HD.out.below h).row 1 (by decide)))
      rw [← HL2.out] at HRow
      clear hD hO hlen HL
      go_enter Tryd.func13, Tryd.ntmps13
      go_wp2_with fail
      refine HC.out.mono ?_
      rintro e w1 ⟨rfl, hb1⟩
      have HB1 := hide hb1
      obtain ⟨A, c, hA, hBy, -, hnl, -⟩ := HRow.out w1 hb1
      obtain ⟨c0, c1, c2, c3, c4, c5, c6, c7, c8, c9, c10, c11⟩ := (HD.out.below hb1).cells
      rw [hA] at c2
      have HCl := hide (clone_any A c l w1 hBy (by omega))
      have hlt := (HD.out.below hb1).lt
      clear hb1 hA hBy hnl HRow
      go_wp2_with fail
      refine HCl.out.mono ?_
      rintro e w2 ⟨v2, rfl, hr2, hb2⟩
      have HF := hide (own_mono hr2 HB1.out.size)
      have HB2 := hide (then_below HB1.out hb2)
      obtain ⟨A2, c2, rfl, -⟩ := row_slice hr2
      clear hr2 hb2
      go_wp2_with fail
      go_ret2
      exact ⟨_, rfl, HF.out, HB2.out⟩
  · have HL := hide (show rdL D.p f = [] from if_neg h0)
    have hb := ne_b h0
    rw [HL.out]
    generalize checkE D.p f = ce at *
    clear hD hO h0 HL
    go_enter Tryd.func13, Tryd.ntmps13
    go_wp2_with fail
    refine HC.out.mono ?_
    rintro e w1 ⟨rfl, hb1⟩
    have HB1 := hide hb1
    clear hb1
    go_wp2_with fail
    go_ret2
    exact ⟨_, rfl, World.ownsRow_nil _ _ _ _, HB1.out⟩
/-- A row of groups of the call's own. -/
structure GrpsOwn (base : Nat) (w : World) (v : Value) (gs : List GH) : Prop where
  row : w.ownsRow base 46 1 v gs.length (gs.map ghd)
  lies : ∀ h, h ∈ gs → RecsIn (fun b => base ≤ b ∧ v.ownBlock ≠ some b) w h.A h.rs ∧ WfG h
theorem GrpsOwn.keep {base : Nat} {w w' : World} {v : Value} {gs : List GH} (k : GrpsOwn base w v gs) (hs : w.heap.size ≤ w'.heap.size) (hb : ∀ b, base ≤ b → b < w.heap.size → w'.heap[b]? = w.heap[b]?) : GrpsOwn base w' v gs :=
  ⟨row_keep k.row fun b e => hb b (k.row.lt b e).1 (k.row.lt b e).2, fun h hm => ⟨(k.lies h hm).1.keep hs fun b e1 e2 => ⟨e1, hb b e1.1 e2⟩, (k.lies h hm).2⟩⟩
theorem GrpsOwn.below {base : Nat} {w w' : World} {v : Value} {gs : List GH} (k : GrpsOwn base w v gs) (hb : Below w.heap.size w w') : GrpsOwn base w' v gs := k.keep hb.size fun b _ h => hb.block b h
theorem GrpsOwn.nil (base : Nat) (w : World) : GrpsOwn base w (.slice none 0 0) [] := ⟨World.ownsRow_nil _ _ _ _, fun h hm => by simp at hm⟩
theorem grp_info : (Tryd.prog.info? 46).map (fun i => (i.zero, i.size, i.bytes)) = some (some (.slice none 0 0), 1, 24) := by kernel_rfl
set_option maxRecDepth 100000 in
/-- append of one group. -/
theorem append_grp {w : World} {ops : Array Oper} {rest : List Oper} {o : Oper} {a : Act} {Q : Exit → Act → World → Prop} (hgd : o.guard = none) (s x : Operand)
    (ho : o.op = .call { callee := .builtin .append, args := #[s, x], argTypes := #[28, 28] })
    (base : Nat) (v : Value) (gs : List GH) (n : Nat) (hn : n = gs.length) (he : a.eval s = v) (hown : GrpsOwn base w v gs) (h : GH) (bl : Nat) (hx : a.eval x = .slice (some ⟨bl, 0, none⟩) 1 1) (hc : w.cell? ⟨bl, 0, none⟩ = some (ghd h))
    (hh : RecsIn (fun b => base ≤ b ∧ v.ownBlock ≠ some b) w h.A h.rs) (hw : WfG h) (hlen : n ≤ 1073741824) (hbase : base ≤ w.heap.size)
    (hk : ∀ v' w', GrpsOwn base w' v' (gs ++ [h]) → w'.ownsRow base 46 1 v' (n + 1) ((gs ++ [h]).map ghd) → w.grownBy w' v.ownBlock → (v'.ownBlock = v.ownBlock ∨ v'.ownBlock = some w.heap.size) → wpList Tryd.prog ops Q rest (a.put o.dst v') w') : wpList Tryd.prog ops Q (o :: rest) a w := by
  subst hn
  obtain ⟨i0, hi, hz0, hz1, hz2⟩ := info_parts grp_info
  have hcat : (gs ++ [h]).map ghd = gs.map ghd ++ [ghd h] := by simp
  refine wpList_append_own_at w hgd s x _ ho base 46 i0 (.slice none 0 0) 1 24 Tryd.underlying28 hi hz0 hz1 hz2 rfl (by decide) v gs.length _ he hown.row ⟨bl, 0, none⟩ 1 1 [ghd h] hx rfl ?_ ?_ (by unfold maxLen; omega) (by omega) hbase ?_
  · intro j u hu
    match j, hu with
    | 0, hu =>
      simp at hu
      subst hu
      exact hc
  · intro u hu
    simp at hu
    subst hu
    rfl
  · intro v' w' h1 h2 _ h4
    rw [← hcat] at h1
    have hap : ∀ b, b < w.heap.size → v.ownBlock ≠ some b → v'.ownBlock ≠ some b := fun b hb hv e => by
      rcases h4 with h5 | h5
      · exact hv (h5.symm.trans e)
      · rw [e] at h5; injection h5 with h5; omega
    have hkeep : ∀ b, (base ≤ b ∧ v.ownBlock ≠ some b) → b < w.heap.size → (base ≤ b ∧ v'.ownBlock ≠ some b) ∧ w'.heap[b]? = w.heap[b]? := fun b hb hlt => ⟨⟨hb.1, hap b hlt hb.2⟩, h2.block b hlt (fun q => hb.2 q.symm)⟩
    refine hk v' w' ⟨by rw [List.length_append]; exact h1, fun k hm => ?_⟩ h1 h2 h4
    rcases List.mem_append.1 hm with hm | hm
    · exact ⟨(hown.lies k hm).1.keep h2.size hkeep, (hown.lies k hm).2⟩
    · simp at hm; subst hm; exact ⟨hh.keep h2.size hkeep, hw⟩
theorem GrpsOwn.grps {base : Nat} {w : World} {v : Value} {gs : List GH} (h : GrpsOwn base w v gs) :
    ∃ A c, v = .slice A gs.length c ∧ GrpsIn (fun b => base ≤ b) w A gs ∧ (A = none → c = 0) ∧ (gs.length ≤ c ∧ c ≤ maxLen) := by
  obtain ⟨A, c, rfl, hnc, hcm⟩ := row_slice h.row
  refine ⟨A, c, rfl, fun j hj => ?_, ?_, hnc, hcm⟩
  · rcases h.row.2 with ⟨_, h0⟩ | ⟨g, cap, cur, e, hb, hg, hn', _, hsz, htk⟩
    · omega
    · injection e with e1 e2 e3
      subst e1
      have hm : gs.getD j dG ∈ gs := by
        rw [List.getD_eq_getElem?_getD, List.getElem?_eq_getElem hj]; exact List.getElem_mem hj
      refine ⟨g, 0, rfl, hb, (Array.getElem?_eq_some_iff.1 hg).1, ?_, (h.lies _ hm).1.mono fun b h1 _ => h1.1, (h.lies _ hm).2⟩
      rw [Nat.zero_add, Lib.cell_of_heap hg]
      have hc : (gs.map ghd)[j]? = some (ghd (gs.getD j dG)) := by
        rw [List.getElem?_map, List.getElem?_eq_getElem hj, List.getD_eq_getElem?_getD, List.getElem?_eq_getElem hj]
        rfl
      rw [← htk, List.getElem?_take_of_lt (by omega)] at hc
      simpa using hc
  · rintro rfl
    rcases h.row.2 with ⟨e, _⟩ | ⟨g, c', cur, e, _⟩
    · injection e
    · injection e with e1; cases e1
end Go.Proofs.YtkdebebpnkjmdaaDoor
