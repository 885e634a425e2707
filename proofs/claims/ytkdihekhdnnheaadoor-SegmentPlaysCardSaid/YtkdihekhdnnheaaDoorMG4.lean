/-
  Both files' segments are read; the newer one.
  Open.
-/
import Derived.Test.YtkdihekhdnnheaaDoorGSeg
namespace Go.Proofs.YtkdihekhdnnheaaDoor
open Go.RowKit

abbrev cells8 (c : Nat → Value) : Array Value := #[c 0, c 1, c 2, c 3, c 4, c 5, c 6, c 7]
def zeros8 : Nat → Value := fun i => if i % 4 < 2 then .int .i64 0 else .slice none 0 0
theorem seg8_cells {wk : World} {R : Nat} {c : Nat → Value} (h : wk.heap[R]? = some (.cells (cells8 c) 61 (0, 0))) :
    (wk.cell? ⟨R, 0, none⟩ = some (c 0) ∧ wk.cell? ⟨R, 1, none⟩ = some (c 1) ∧ wk.cell? ⟨R, 2, none⟩ = some (c 2) ∧ wk.cell? ⟨R, 3, none⟩ = some (c 3) ∧ wk.cell? ⟨R, 4, none⟩ = some (c 4) ∧ wk.cell? ⟨R, 5, none⟩ = some (c 5) ∧ wk.cell? ⟨R, 6, none⟩ = some (c 6) ∧ wk.cell? ⟨R, 7, none⟩ = some (c 7)) ∧ (∀ i, wk.frozen? ⟨R, i, none⟩ = false) ∧ R < wk.heap.size :=
  ⟨⟨Lib.cell_of_heap h 0, Lib.cell_of_heap h 1, Lib.cell_of_heap h 2, Lib.cell_of_heap h 3, Lib.cell_of_heap h 4, Lib.cell_of_heap h 5, Lib.cell_of_heap h 6, Lib.cell_of_heap h 7⟩, fun i => Lib.frozen_of_heap h i, block_lt h⟩
set_option maxHeartbeats 1600000 in
set_option maxRecDepth 100000 in
theorem newest_any (c1 c2 c3 c5 c6 c7 : Value) (g0 g1 : Int) (w : World) : Calls Tryd.prog 26 #[.agg #[.int .i64 g0, c1, c2, c3, .int .i64 g1, c5, c6, c7]] w fun e w' => e = .returned (.int .i64 (if g0 < g1 then 1 else 0 : Nat)) ∧ Below w.heap.size w w' := by
  have HB := hide ((Below.refl w.heap.size w).alloc (Nat.le_refl _) (.cells #[.int .i64 g0, c1, c2, c3, .int .i64 g1, c5, c6, c7] 61))
  by_cases h : g0 < g1
  · rw [if_pos h]
    go_enter Tryd.func26, Tryd.ntmps26
    go_wp2_with fail
    go_ret
    exact ⟨rfl, HB.out⟩
  · rw [if_neg h]
    go_enter Tryd.func26, Tryd.ntmps26
    go_wp2_with fail
    go_ret
    exact ⟨rfl, HB.out⟩
/-- One file's bytes have been read. -/
def SegsRes (w : World) (p : PD) (e : Ending) (w' : World) : Prop :=
  ((p.down = true ∧ e = .returned (.tuple #[.agg #[.int .i64 0, .int .i64 0, .slice none 0 0, .slice none 0 0, .int .i64 0, .int .i64 0, .slice none 0 0, .slice none 0 0], .int .i64 40])) ∨ (p.down = false ∧ ∃ c : Nat → Value, e = .returned (.tuple #[.agg (cells8 c), .int .i64 0]) ∧ SegMem w.heap.size w' (segM (p.xs 0)) (.agg #[c 0, c 1, c 2, c 3]) ∧ SegMem w.heap.size w' (segM (p.xs 1)) (.agg #[c 4, c 5, c 6, c 7]) ∧ (∃ fs, Scanned (p.xs 0) fs) ∧ ∃ fs, Scanned (p.xs 1) fs)) ∧ Below w.heap.size w w'
def upd4 (c : Nat → Value) (k : Nat) (v0 v1 v2 v3 : Value) : Nat → Value := fun i => if i = 4 * k then v0 else if i = 4 * k + 1 then v1 else if i = 4 * k + 2 then v2 else if i = 4 * k + 3 then v3 else c i
theorem segMem_vals {B : Nat} {w : World} {S : SegV} {v0 v1 v2 v3 : Value} (h : SegMem B w S (.agg #[v0, v1, v2, v3])) : v0 = .int .i64 S.gen ∧ v1 = .int .i64 (S.size : Nat) ∧ (∃ A n c, v2 = .slice A n c) ∧ ∃ A n c, v3 = .slice A n c := by
  obtain ⟨A, c, A2, c2, gs, e, -⟩ := h
  simp at e
  exact ⟨e.1, e.2.1, ⟨_, _, _, e.2.2.1⟩, ⟨_, _, _, e.2.2.2⟩⟩
theorem set4o_but (w : World) (R i j k l : Nat) (a b c d : Value) : (∀ x, x ≠ R → ((((w.setCell ⟨R, i, none⟩ a).setCell ⟨R, j, none⟩ b).setCell ⟨R, k, none⟩ c).setCell ⟨R, l, none⟩ d).heap[x]? = w.heap[x]?) ∧ ((((w.setCell ⟨R, i, none⟩ a).setCell ⟨R, j, none⟩ b).setCell ⟨R, k, none⟩ c).setCell ⟨R, l, none⟩ d).heap.size = w.heap.size :=
  ⟨fun x hx => by rw [Below.heap_setCell _ _ _ _ hx, Below.heap_setCell _ _ _ _ hx, Below.heap_setCell _ _ _ _ hx, Below.heap_setCell _ _ _ _ hx], by simp⟩
set_option maxHeartbeats 6400000 in
set_option maxRecDepth 100000 in
theorem readSegments_any {base g : Nat} {D : DS} (w : World) (hD : DiskAt base g w D) (hO : D.p.Ok) (hT : Tab w) :
    Calls Tryd.prog 25 #[vD g] w (SegsRes w D.p) := by
  obtain ⟨W0, hW0⟩ : ∃ W0, W0 = (w.alloc (.cells (cells8 zeros8) 61)).alloc (.cells (cells8 zeros8) 61) := ⟨_, rfl⟩
  have hb0 : Below w.heap.size w W0 := by rw [hW0]; exact Joins.below_alloc2 w _ _
  have hs0 : W0.heap.size = w.heap.size + 2 := by rw [hW0]; simp
  have hr0 : W0.heap[w.heap.size]? = some (.cells (cells8 zeros8) 61 (0, 0)) := by rw [hW0, Below.heap_alloc _ _ _ (by simp)]; exact heap_alloc_new w _
  have hx0 : W0.heap[w.heap.size + 1]? = some (.cells (cells8 zeros8) 61 (0, 0)) := by
    rw [hW0]
    have h := heap_alloc_new (w.alloc (.cells (cells8 zeros8) 61)) (.cells (cells8 zeros8) 61)
    simpa using h
  have HWE := hide (show W0 = (w.alloc (.cells #[.int .i64 0, .int .i64 0, .slice none 0 0, .slice none 0 0, .int .i64 0, .int .i64 0, .slice none 0 0, .slice none 0 0] 61)).alloc (.cells #[.int .i64 0, .int .i64 0, .slice none 0 0, .slice none 0 0, .int .i64 0, .int .i64 0, .slice none 0 0, .slice none 0 0] 61) from hW0)
  have HB0 := hide hb0
  have HS0 := hide hs0
  have HR0 := hide hr0
  have HX0 := hide hx0
  have HD := hide hD
  have HO := hide hO
  have HT := hide hT
  clear hD hO hT hW0 hb0 hs0 hr0 hx0
  unfold SegsRes
  cases hdn : D.p.down
  · have HC0 := hide (show checkE D.p (0 : Nat) = 0 by unfold checkE; rw [hdn]; rfl)
    have HC1 := hide (show checkE D.p (1 : Nat) = 0 by unfold checkE; rw [hdn]; rfl)
    go_enter Tryd.func25, Tryd.ntmps25
    go_wp2_with fail
    go_loopw [8] (fun i wr => ∃ (k : Nat) (c : Nat → Value), k ≤ 2 ∧ i = .int .i64 k ∧ wr.heap[w.heap.size + 1]? = some (.cells (cells8 c) 61 (0, 0)) ∧ wr.heap[w.heap.size]? = some (.cells (cells8 zeros8) 61 (0, 0)) ∧ Below w.heap.size w wr ∧ (1 ≤ k → SegMem (w.heap.size + 2) wr (segM (D.p.xs 0)) (.agg #[c 0, c 1, c 2, c 3]) ∧ ∃ fs, Scanned (D.p.xs 0) fs) ∧ (2 ≤ k → SegMem (w.heap.size + 2) wr (segM (D.p.xs 1)) (.agg #[c 4, c 5, c 6, c 7]) ∧ ∃ fs, Scanned (D.p.xs 1) fs)) (fun i _ => 2 - (intOf i).toNat)
    case atStart => rw [← HWE.out]; exact ⟨0, zeros8, by omega, rfl, HX0.out, HR0.out, HB0.out, fun h => by omega, fun h => by omega⟩
    case round =>
      obtain ⟨k, c, hk, rfl, hbx, hrs, hbw, hm1, hm2⟩ := hrel
      have HBx := hide hbx
      have HRs := hide hrs
      have HBw := hide hbw
      have HMem := hide (And.intro hm1 hm2)
      have hsz : w.heap.size + 2 ≤ wr.heap.size := block_lt hbx
      clear hbx hrs hbw hm1 hm2 HX0 HR0 HB0 HS0 HWE
      rcases (by omega : k = 0 ∨ k = 1 ∨ k = 2) with rfl | rfl | rfl
      · have HRd := hide (read_own 0 wr (HD.out.below HBw.out) HO.out (by omega))
        unfold ReadV at HRd
        rw [show rdL D.p (0 : Nat) = D.p.xs 0 from if_pos HC0.out, HC0.out] at HRd
        obtain ⟨⟨s0, s1, s2, s3, s4, s5, s6, s7⟩, hfz, hltB⟩ := seg8_cells HBx.out
        have z0 := hfz 0
        have z1 := hfz 1
        have z2 := hfz 2
        have z3 := hfz 3
        have hlen := HO.out.len (i := 0) (by omega)
        have HXl := hide hlen
        clear hfz hlen
        go_wp2_with fail
        refine HRd.out.mono ?_
        rintro e w2 ⟨v2, rfl, hr2, hb2⟩
        obtain ⟨A2, c2, rfl, hy2, ha2, hn2, hc2⟩ := bytes_of_row hr2
        obtain ⟨-, -, _, -, hcm⟩ := row_slice hr2
        have hcm : c2 ≤ 9223372036854775807 := by
          obtain ⟨_, _, e, _, h⟩ := row_slice hr2
          injection e with e1 e2 e3
          unfold maxLen at h; omega
        have hpa : ∀ a, A2 = some a → a = ⟨a.block, a.off, none⟩ := fun a e => by
          rcases hr2.2 with ⟨e1, _⟩ | ⟨g', cap, cur, e1, _⟩
          · injection e1 with e1; rw [e] at e1; cases e1
          · injection e1 with e1; rw [e] at e1; injection e1 with e1; rw [e1]
        have HSg := hide (segmentOf_any A2 c2 (D.p.xs 0) w2 hy2 ((HT.out.on HBw.out).on hb2) HXl.out hn2 hc2 hcm hpa)
        unfold SegRes at HSg
        have HB2 := hide (HBw.out.trans (hb2.mono HBw.out.size))
        have HB2r := hide hb2
        have HSr := hide (show w.heap.size + 2 ≤ w2.heap.size from Nat.le_trans hsz hb2.size)
        clear hr2 hy2 ha2 hn2 hc2 hcm hpa hb2 HRd
        go_wp2_with fail
        refine HSg.out.mono ?_
        rintro e w3 ⟨fs, v3, hsc, rfl, hm, hb3⟩
        have HB3 := hide (HB2.out.trans (hb3.mono HB2.out.size))
        have HB3r := hide (HB2r.out.trans (hb3.mono HB2r.out.size))
        have hm0 := hm
        obtain ⟨A4, c4, A5, c5, gs, rfl, -⟩ := hm0
        have HM := hide hm
        have HSc := hide hsc
        have hbx3 := (HB3r.out.block _ hltB).trans HBx.out
        have hrs3 := (HB3r.out.block _ (block_lt HRs.out)).trans HRs.out
        have HRs3 := hide hrs3
        have HBx3 := hide hbx3
        clear hm hsc hb3 hrs3 s0 s1 s2 s3 s4 s5 s6 s7 z0 z1 z2 z3
        obtain ⟨⟨s0, s1, s2, s3, s4, s5, s6, s7⟩, hfz, hltB3⟩ := seg8_cells hbx3
        have z0 := hfz 0
        have z1 := hfz 1
        have z2 := hfz 2
        have z3 := hfz 3
        clear hfz hbx3
        have hnx := Joins.block_setCell (i := 3) (Joins.block_setCell (i := 2) (Joins.block_setCell (i := 1) (Joins.block_setCell (i := 0) HBx3.out (.int .i64 (segM (D.p.xs 0)).gen)) (.int .i64 ((segM (D.p.xs 0)).size : Nat))) (.slice A4 (segM (D.p.xs 0)).cp.length c4)) (.slice A5 gs.length c5)
        have HNx := hide hnx
        clear hnx
        go_wp2_with fail
        go_roundw
        case rel =>
          refine ⟨1, upd4 c 0 (.int .i64 (segM (D.p.xs 0)).gen) (.int .i64 ((segM (D.p.xs 0)).size : Nat)) (.slice A4 (segM (D.p.xs 0)).cp.length c4) (.slice A5 gs.length c5), by omega, by go_num, ?_, ?_, ?_, ?_, ?_⟩
          · rw [HNx.out]; simp [cells8, upd4]
          · exact ((set4o_but w3 (w.heap.size + 1) 0 1 2 3 _ _ _ _).1 _ (by omega)).trans HRs3.out
          · exact (((HB3.out.setCell (p := ⟨w.heap.size + 1, 0, none⟩) (Nat.le_succ _) _).setCell (p := ⟨w.heap.size + 1, 1, none⟩) (Nat.le_succ _) _).setCell (p := ⟨w.heap.size + 1, 2, none⟩) (Nat.le_succ _) _).setCell (p := ⟨w.heap.size + 1, 3, none⟩) (Nat.le_succ _) _
          · intro _
            exact ⟨HM.out.keep (by rw [(set4o_but w3 (w.heap.size + 1) 0 1 2 3 _ _ _ _).2]; exact Nat.le_refl _) fun b h1 _ => ⟨by have := HSr.out; omega, (set4o_but w3 (w.heap.size + 1) 0 1 2 3 _ _ _ _).1 b (by have := HSr.out; omega)⟩, fs, HSc.out⟩
          · intro h
            omega
        case measure => simp [intOf]
      · have HRd := hide (read_own 1 wr (HD.out.below HBw.out) HO.out (by omega))
        unfold ReadV at HRd
        rw [show rdL D.p (1 : Nat) = D.p.xs 1 from if_pos HC1.out, HC1.out] at HRd
        obtain ⟨⟨s0, s1, s2, s3, s4, s5, s6, s7⟩, hfz, hltB⟩ := seg8_cells HBx.out
        have z4 := hfz 4
        have z5 := hfz 5
        have z6 := hfz 6
        have z7 := hfz 7
        have hlen := HO.out.len (i := 1) (by omega)
        have HXl := hide hlen
        clear hfz hlen
        go_wp2_with fail
        refine HRd.out.mono ?_
        rintro e w2 ⟨v2, rfl, hr2, hb2⟩
        obtain ⟨A2, c2, rfl, hy2, ha2, hn2, hc2⟩ := bytes_of_row hr2
        obtain ⟨-, -, _, -, hcm⟩ := row_slice hr2
        have hcm : c2 ≤ 9223372036854775807 := by
          obtain ⟨_, _, e, _, h⟩ := row_slice hr2
          injection e with e1 e2 e3
          unfold maxLen at h; omega
        have hpa : ∀ a, A2 = some a → a = ⟨a.block, a.off, none⟩ := fun a e => by
          rcases hr2.2 with ⟨e1, _⟩ | ⟨g', cap, cur, e1, _⟩
          · injection e1 with e1; rw [e] at e1; cases e1
          · injection e1 with e1; rw [e] at e1; injection e1 with e1; rw [e1]
        have HSg := hide (segmentOf_any A2 c2 (D.p.xs 1) w2 hy2 ((HT.out.on HBw.out).on hb2) HXl.out hn2 hc2 hcm hpa)
        unfold SegRes at HSg
        have HB2 := hide (HBw.out.trans (hb2.mono HBw.out.size))
        have HB2r := hide hb2
        have HSr := hide (show w.heap.size + 2 ≤ w2.heap.size from Nat.le_trans hsz hb2.size)
        clear hr2 hy2 ha2 hn2 hc2 hcm hpa hb2 HRd
        go_wp2_with fail
        refine HSg.out.mono ?_
        rintro e w3 ⟨fs, v3, hsc, rfl, hm, hb3⟩
        have HB3 := hide (HB2.out.trans (hb3.mono HB2.out.size))
        have HB3r := hide (HB2r.out.trans (hb3.mono HB2r.out.size))
        have hm0 := hm
        obtain ⟨A4, c4, A5, c5, gs, rfl, -⟩ := hm0
        have HM := hide hm
        have HSc := hide hsc
        have hbx3 := (HB3r.out.block _ hltB).trans HBx.out
        have hrs3 := (HB3r.out.block _ (block_lt HRs.out)).trans HRs.out
        have HRs3 := hide hrs3
        have HBx3 := hide hbx3
        clear hm hsc hb3 hrs3 s0 s1 s2 s3 s4 s5 s6 s7 z4 z5 z6 z7
        obtain ⟨⟨s0, s1, s2, s3, s4, s5, s6, s7⟩, hfz, hltB3⟩ := seg8_cells hbx3
        have z4 := hfz 4
        have z5 := hfz 5
        have z6 := hfz 6
        have z7 := hfz 7
        clear hfz hbx3
        have hnx := Joins.block_setCell (i := 7) (Joins.block_setCell (i := 6) (Joins.block_setCell (i := 5) (Joins.block_setCell (i := 4) HBx3.out (.int .i64 (segM (D.p.xs 1)).gen)) (.int .i64 ((segM (D.p.xs 1)).size : Nat))) (.slice A4 (segM (D.p.xs 1)).cp.length c4)) (.slice A5 gs.length c5)
        have HNx := hide hnx
        clear hnx
        go_wp2_with fail
        go_roundw
        case rel =>
          refine ⟨2, upd4 c 1 (.int .i64 (segM (D.p.xs 1)).gen) (.int .i64 ((segM (D.p.xs 1)).size : Nat)) (.slice A4 (segM (D.p.xs 1)).cp.length c4) (.slice A5 gs.length c5), by omega, by go_num, ?_, ?_, ?_, ?_, ?_⟩
          · rw [HNx.out]; simp [cells8, upd4]
          · exact ((set4o_but w3 (w.heap.size + 1) 4 5 6 7 _ _ _ _).1 _ (by omega)).trans HRs3.out
          · exact (((HB3.out.setCell (p := ⟨w.heap.size + 1, 4, none⟩) (Nat.le_succ _) _).setCell (p := ⟨w.heap.size + 1, 5, none⟩) (Nat.le_succ _) _).setCell (p := ⟨w.heap.size + 1, 6, none⟩) (Nat.le_succ _) _).setCell (p := ⟨w.heap.size + 1, 7, none⟩) (Nat.le_succ _) _
          · intro _
            exact ⟨(HMem.out.1 (by omega)).1.keep (by rw [(set4o_but w3 (w.heap.size + 1) 4 5 6 7 _ _ _ _).2]; exact HB3r.out.size) fun b h1 h2 => ⟨h1, ((set4o_but w3 (w.heap.size + 1) 4 5 6 7 _ _ _ _).1 b (by omega)).trans (HB3r.out.block b h2)⟩, (HMem.out.1 (by omega)).2⟩
          · intro h
            exact ⟨HM.out.keep (by rw [(set4o_but w3 (w.heap.size + 1) 4 5 6 7 _ _ _ _).2]; exact Nat.le_refl _) fun b h1 _ => ⟨by have := HSr.out; omega, (set4o_but w3 (w.heap.size + 1) 4 5 6 7 _ _ _ _).1 b (by have := HSr.out; omega)⟩, fs, HSc.out⟩
        case measure => simp [intOf]
      · obtain ⟨⟨s0, s1, s2, s3, s4, s5, s6, s7⟩, -, hltB⟩ := seg8_cells HBx.out
        obtain ⟨⟨r0, r1, r2, r3, r4, r5, r6, r7⟩, hfz, hltR⟩ := seg8_cells HRs.out
        obtain ⟨hm1, hf1⟩ := HMem.out.1 (by omega)
        obtain ⟨hm2, hf2⟩ := HMem.out.2 (by omega)
        obtain ⟨e0, e1, e2, e3⟩ := segMem_vals hm1
        obtain ⟨e4, e5, e6, e7⟩ := segMem_vals hm2
        obtain ⟨A0, n0, k0, e2⟩ := e2
        obtain ⟨A1, n1, k1, e3⟩ := e3
        obtain ⟨A2, n2, k2, e6⟩ := e6
        obtain ⟨A3, n3, k3, e7⟩ := e7
        have HV := hide (show (.agg #[.int .i64 (segM (D.p.xs 0)).gen, .int .i64 ((segM (D.p.xs 0)).size : Nat), .slice A0 n0 k0, .slice A1 n1 k1, .int .i64 (segM (D.p.xs 1)).gen, .int .i64 ((segM (D.p.xs 1)).size : Nat), .slice A2 n2 k2, .slice A3 n3 k3] : Value) = .agg (cells8 c) by show _ = Value.agg #[c 0, c 1, c 2, c 3, c 4, c 5, c 6, c 7]; rw [e0, e1, e2, e3, e4, e5, e6, e7])
        rw [e0] at s0
        rw [e1] at s1
        rw [e2] at s2
        rw [e3] at s3
        rw [e4] at s4
        rw [e5] at s5
        rw [e6] at s6
        rw [e7] at s7
        have HMm := hide (And.intro hm1 hm2)
        have HFf := hide (And.intro hf1 hf2)
        have z0 := hfz 0
        have z1 := hfz 1
        have z2 := hfz 2
        have z3 := hfz 3
        have z4 := hfz 4
        have z5 := hfz 5
        have z6 := hfz 6
        have z7 := hfz 7
        clear hfz e0 e1 e2 e3 e4 e5 e6 e7 hm1 hm2 hf1 hf2
        go_wp2_with fail
        refine bodyPost_ret (v := .tuple #[.agg #[.int .i64 (segM (D.p.xs 0)).gen, .int .i64 ((segM (D.p.xs 0)).size : Nat), .slice A0 n0 k0, .slice A1 n1 k1, .int .i64 (segM (D.p.xs 1)).gen, .int .i64 ((segM (D.p.xs 1)).size : Nat), .slice A2 n2 k2, .slice A3 n3 k3], .int .i64 0]) (by simp [results, Tryd.results25, go_sem, r0, r1, r2, r3, r4, r5, r6, r7]) rfl ?_
        have HB4 := HBw.out
        refine ⟨.inr ⟨by first | trivial | exact hdn, c, by rw [HV.out], HMm.out.1.keep (by simp) fun b h1 _ => ⟨by omega, ?_⟩, HMm.out.2.keep (by simp) fun b h1 _ => ⟨by omega, ?_⟩, HFf.out.1, HFf.out.2⟩, ?_⟩
        · repeat rw [Below.heap_setCell _ _ _ _ (show b ≠ w.heap.size by omega)]
        · repeat rw [Below.heap_setCell _ _ _ _ (show b ≠ w.heap.size by omega)]
        · exact (((((((HB4.setCell (p := ⟨w.heap.size, 0, none⟩) (Nat.le_refl _) _).setCell (p := ⟨w.heap.size, 1, none⟩) (Nat.le_refl _) _).setCell (p := ⟨w.heap.size, 2, none⟩) (Nat.le_refl _) _).setCell (p := ⟨w.heap.size, 3, none⟩) (Nat.le_refl _) _).setCell (p := ⟨w.heap.size, 4, none⟩) (Nat.le_refl _) _).setCell (p := ⟨w.heap.size, 5, none⟩) (Nat.le_refl _) _).setCell (p := ⟨w.heap.size, 6, none⟩) (Nat.le_refl _) _).setCell (p := ⟨w.heap.size, 7, none⟩) (Nat.le_refl _) _
  · have HRd := hide (read_own 0 W0 (HD.out.below HB0.out) HO.out (by omega))
    unfold ReadV at HRd
    rw [show checkE D.p (0 : Nat) = 40 by unfold checkE; rw [hdn]; rfl] at HRd
    have HS := HS0.out
    have HL0 := HR0.out
    go_enter Tryd.func25, Tryd.ntmps25
    go_wp2_with fail
    go_loopw [8] (fun i wr => i = .int .i64 0 ∧ wr = W0) (fun _ _ => 0)
    case atStart => rw [← HWE.out]; exact ⟨rfl, rfl⟩
    case round =>
      obtain ⟨rfl, rfl⟩ := hrel
      clear HL0
      go_wp2_with fail
      refine HRd.out.mono ?_
      rintro e w2 ⟨v2, rfl, hr2, hb2⟩
      obtain ⟨A2, c2, rfl, -⟩ := row_slice hr2
      have hrs2 := (hb2.block _ (block_lt HR0.out)).trans HR0.out
      have HB2 := hide (HB0.out.trans (hb2.mono HB0.out.size))
      clear hr2 hb2
      obtain ⟨⟨r0, r1, r2, r3, r4, r5, r6, r7⟩, hfz, hltR⟩ := seg8_cells hrs2
      have z0 := hfz 0
      have z1 := hfz 1
      have z2 := hfz 2
      have z3 := hfz 3
      have z4 := hfz 4
      have z5 := hfz 5
      have z6 := hfz 6
      have z7 := hfz 7
      clear hfz hrs2
      go_wp2_with fail
      refine bodyPost_ret (v := .tuple #[.agg #[.int .i64 0, .int .i64 0, .slice none 0 0, .slice none 0 0, .int .i64 0, .int .i64 0, .slice none 0 0, .slice none 0 0], .int .i64 40]) (by simp [results, Tryd.results25, go_sem, r0, r1, r2, r3, r4, r5, r6, r7]) rfl ?_
      refine ⟨.inl (by first | rfl | exact ⟨hdn, rfl⟩ | exact ⟨trivial, rfl⟩), ?_⟩
      exact (((((((HB2.out.setCell (p := ⟨w.heap.size, 0, none⟩) (Nat.le_refl _) _).setCell (p := ⟨w.heap.size, 1, none⟩) (Nat.le_refl _) _).setCell (p := ⟨w.heap.size, 2, none⟩) (Nat.le_refl _) _).setCell (p := ⟨w.heap.size, 3, none⟩) (Nat.le_refl _) _).setCell (p := ⟨w.heap.size, 4, none⟩) (Nat.le_refl _) _).setCell (p := ⟨w.heap.size, 5, none⟩) (Nat.le_refl _) _).setCell (p := ⟨w.heap.size, 6, none⟩) (Nat.le_refl _) _).setCell (p := ⟨w.heap.size, 7, none⟩) (Nat.le_refl _) _
end Go.Proofs.YtkdihekhdnnheaaDoor
namespace Go.Proofs.YtkdihekhdnnheaaDoor
open Go.RowKit

noncomputable def openF (p : PD) : Nat := if (segM (p.xs 0)).gen < (segM (p.xs 1)).gen then 1 else 0
noncomputable def openS (p : PD) : SegV := segM (p.xs (openF p))
noncomputable def openL (p : PD) : LV := ⟨openF p, (openS p).gen, (openS p).size, false, false⟩
noncomputable def openR (p : PD) : Int × PD × LV := prepR p (openL p)
theorem LogAt.keepR {base h g R : Nat} {w w' : World} {L : LV} {D : DS} (H : LogAt base h g w L D) (hs : ∀ b, b ≠ R → w'.heap[b]? = w.heap[b]?) (hR : Off h g D R) : LogAt base h g w' L D := by
  refine ⟨H.hh, (hs h fun e => hR.1 e.symm).trans H.box, H.disk.keep fun b _ hb => hs b ?_, H.ne, H.off⟩
  rcases hb with hb | ⟨j, hj, e⟩
  · exact fun x => hR.2.1 (x.symm.trans hb)
  · exact fun x => hR.2.2 j hj (by rw [e, x])
theorem segMem_end {base g h : Nat} {D D' : DS} {w w0 w1 w4 w6 : World} {S : SegV} {v0 v1 : Value} {A A2 : Option Addr} {n n2 k k2 : Nat} (hm : SegMem w0.heap.size w1 S (.agg #[v0, v1, .slice A n k, .slice A2 n2 k2])) (hb : Below w1.heap.size w1 w4) (ht : LTurn h g D D' w4 w6) (hD : DiskAt base g w D) (hh : w1.heap.size ≤ h) (h0 : w.heap.size < w0.heap.size) :
    n = S.cp.length ∧ ∃ gs : List GH, n2 = gs.length ∧ gsOf gs = S.gs ∧ BytesIn (fun b => Off h g D' b ∧ w.heap.size < b) w6 A S.cp ∧ GrpsIn (fun b => Off h g D' b ∧ w.heap.size < b) w6 A2 gs ∧ (A = none → k = 0) ∧ (A2 = none → k2 = 0) ∧ (gs.length ≤ k2 ∧ k2 ≤ maxLen) := by
  obtain ⟨B, c, B2, c2, gs, e, h1, h2, h3, h4, h5, h6⟩ := hm
  simp at e
  obtain ⟨-, -, ⟨e1, e2, e3⟩, e4, e5, e6⟩ := e
  subst e1; subst e2; subst e3; subst e4; subst e5; subst e6
  have hk : ∀ b, w0.heap.size ≤ b → b < w1.heap.size → (Off h g D' b ∧ w.heap.size < b) ∧ w6.heap[b]? = w1.heap[b]? := fun b hb1 hb2 => by
    have ho : Off h g D b := ⟨by omega, by have := hD.lt; omega, fun i hi e => by have := ((hD.row i hi).lt _ e).2; omega⟩
    obtain ⟨ha, hc⟩ := ht.off b ho (Nat.lt_of_lt_of_le hb2 hb.size)
    exact ⟨⟨ha, by omega⟩, hc.trans (hb.block b hb2)⟩
  have hs : w1.heap.size ≤ w6.heap.size := Nat.le_trans hb.size ht.size
  exact ⟨rfl, gs, rfl, h1, h2.keep hs hk, h4.keep hs hk, h3, h5, h6⟩
def OpenBad (base g : Nat) (D : DS) (w : World) (er : Int) (p : PD) (e : Ending) (w' : World) : Prop :=
  e = .returned (.tuple #[.pointer none, .agg #[.slice none 0 0, .slice none 0 0], .int .i64 er]) ∧ ∃ D' : DS, D'.p = p ∧ DiskAt base g w' D' ∧ Turned g D D' w w'
def OpenOk (base g : Nat) (D : DS) (w : World) (S : SegV) (p : PD) (L : LV) (e : Ending) (w' : World) : Prop :=
  ∃ (h : Nat) (A : Option Addr) (c : Nat) (A2 : Option Addr) (c2 : Nat) (gs : List GH) (D' : DS), e = .returned (.tuple #[vD h, .agg #[.slice A S.cp.length c, .slice A2 gs.length c2], .int .i64 0]) ∧ w.heap.size ≤ h ∧ D'.p = p ∧ LogAt base h g w' L D' ∧ Turned g D D' w w' ∧
    gsOf gs = S.gs ∧ BytesIn (fun b => Off h g D' b ∧ w.heap.size < b) w' A S.cp ∧ GrpsIn (fun b => Off h g D' b ∧ w.heap.size < b) w' A2 gs ∧ (A = none → c = 0) ∧ (A2 = none → c2 = 0) ∧ (gs.length ≤ c2 ∧ c2 ≤ maxLen)
def OpenRes (base g : Nat) (D : DS) (w : World) (e : Ending) (w' : World) : Prop :=
  (D.p.down = true ∧ OpenBad base g D w 40 D.p e w') ∨
  (D.p.down = false ∧ ((∃ fs, Scanned (D.p.xs 0) fs) ∧ ∃ fs, Scanned (D.p.xs 1) fs) ∧ (((openR D.p).1 ≠ 0 ∧ OpenBad base g D w (openR D.p).1 (openR D.p).2.1 e w') ∨ ((openR D.p).1 = 0 ∧ OpenOk base g D w (openS D.p) (openR D.p).2.1 (openR D.p).2.2 e w')))
theorem found_cells {wk : World} {R : Nat} {a b : Value} (h : wk.heap[R]? = some (.cells #[a, b] 31 (0, 0))) :
    (wk.cell? ⟨R, 0, none⟩ = some a ∧ wk.cell? ⟨R, 1, none⟩ = some b) ∧ (wk.frozen? ⟨R, 0, none⟩ = false ∧ wk.frozen? ⟨R, 1, none⟩ = false) ∧ R < wk.heap.size :=
  ⟨⟨Lib.cell_of_heap h 0, Lib.cell_of_heap h 1⟩, ⟨Lib.frozen_of_heap h 0, Lib.frozen_of_heap h 1⟩, block_lt h⟩
theorem set2_but (w : World) (R : Nat) (a b : Value) : ∀ x, x ≠ R → ((w.setCell ⟨R, 0, none⟩ a).setCell ⟨R, 1, none⟩ b).heap[x]? = w.heap[x]? := fun x hx => by rw [Below.heap_setCell _ _ _ _ hx, Below.heap_setCell _ _ _ _ hx]
theorem set2_turn {g : Nat} {D D' : DS} {w w' : World} (t : Turned g D D' w w') (a b : Value) : Turned g D D' w ((w'.setCell ⟨w.heap.size, 0, none⟩ a).setCell ⟨w.heap.size, 1, none⟩ b) :=
  ⟨t.os, t.tape, t.output, by have := t.size; simpa using this, fun x hx h1 h2 => (set2_but _ _ _ _ x (by omega)).trans (t.block x hx h1 h2), t.own⟩
theorem turned_of_l {h g : Nat} {D D' : DS} {w w5 w6 : World} (hb : Below w.heap.size w w5) (t : LTurn h g D D' w5 w6) (hh : w.heap.size ≤ h) : Turned g D D' w w6 :=
  ⟨t.os.trans hb.os, t.tape.trans hb.tape, t.output.trans hb.output, Nat.le_trans hb.size t.size, fun x hx h1 h2 => (t.block x (Nat.lt_of_lt_of_le hx hb.size) (by omega) h1 h2).trans (hb.block x hx), fun i hi b e => by
    rcases t.own i hi b e with h1 | h1
    · exact .inl h1
    · exact .inr (Nat.le_trans hb.size h1)⟩
set_option maxHeartbeats 12800000 in
set_option maxRecDepth 100000 in
theorem open_any {base g : Nat} {D : DS} (w : World) (hD : DiskAt base g w D) (hO : D.p.Ok) (hd : D.p.done ≤ 999999990000) (hT : Tab w) (hgt : 0 < base) :
    Calls Tryd.prog 7 #[vD g] w (OpenRes base g D w) := by
  have hal := (Below.refl w.heap.size w).alloc (Nat.le_refl _) (.cells #[.slice none 0 0, .slice none 0 0] 31)
  have hr0 := heap_alloc_new w (.cells #[.slice none 0 0, .slice none 0 0] 31)
  have HRs := hide (readSegments_any _ (hD.below hal) hO (hT.on hal))
  unfold SegsRes at HRs
  have HD := hide hD
  have HO := hide hO
  have HDn := hide hd
  have HT := hide hT
  have HL0 := hide hal
  have HR0 := hide hr0
  have HSz := hide (show (w.alloc (.cells #[.slice none 0 0, .slice none 0 0] 31)).heap.size = w.heap.size + 1 by simp)
  have HB1 := hide (fun (w' : World) o => (Below.refl w'.heap.size w').alloc (Nat.le_refl _) o)
  unfold OpenRes
  clear hD hO hd hT hal hr0
  go_enter Tryd.func7, Tryd.ntmps7
  go_wp2_with fail
  refine HRs.out.mono ?_
  rintro e w1 ⟨hcase, hb1⟩
  have HRes1 := hide ((hb1.block w.heap.size (by rw [HSz.out]; omega)).trans HR0.out)
  have HW1 := hide (HL0.out.trans (hb1.mono HL0.out.size))
  have hs1 := hb1.size
  rw [HSz.out] at hs1
  clear hb1
  rcases hcase with ⟨hdn, rfl⟩ | ⟨hdn, c, he, hm0, hm1, hf0, hf1⟩
  · obtain ⟨w2, hw2⟩ : ∃ w2, w2 = w1.alloc (.cells #[.int .i64 0, .int .i64 0, .slice none 0 0, .slice none 0 0, .int .i64 0, .int .i64 0, .slice none 0 0, .slice none 0 0] 61) := ⟨_, rfl⟩
    have hb2 : Below w1.heap.size w1 w2 := by rw [hw2]; exact HB1.out w1 _
    have HRes2 := hide ((hb2.block _ (block_lt HRes1.out)).trans HRes1.out)
    have HW2 := hide (HW1.out.trans (hb2.mono HW1.out.size))
    have HWE := hide hw2
    clear hw2 hb2
    obtain ⟨⟨r0, r1⟩, ⟨f0, f1⟩, hltR⟩ := found_cells HRes2.out
    go_wp2_with (guard_target =~ wpList _ _ _ (Oper.mk _ (Op.store 31 _ _) _ _ _ _ :: _) _ _; rw [← HWE.out])
    refine bodyPost_ret (v := .tuple #[.pointer none, .agg #[.slice none 0 0, .slice none 0 0], .int .i64 40]) (by simp [results, Tryd.results7, go_sem, r0, r1]) rfl ?_
    have hoff : Off w2.heap.size g D w.heap.size := ⟨by have := HW2.out.size; omega, by have := HD.out.lt; omega, fun i hi e => by have := ((HD.out.row i hi).lt _ e).2; omega⟩
    refine .inl ⟨hdn, rfl, D, rfl, (HD.out.below HW2.out).keep fun b _ hb => set2_but _ _ _ _ b ?_, set2_turn (Turned.of_below HW2.out) _ _⟩
    rcases hb with hb | ⟨j, hj, e⟩
    · exact fun x => hoff.2.1 (x.symm.trans hb)
    · exact fun x => hoff.2.2 j hj (by rw [e, x])
  · obtain ⟨e0, e1, e2, e3⟩ := segMem_vals hm0
    obtain ⟨e4, e5, e6, e7⟩ := segMem_vals hm1
    obtain ⟨A0, n0, k0, e2⟩ := e2
    obtain ⟨A1, n1, k1, e3⟩ := e3
    obtain ⟨A2, n2, k2, e6⟩ := e6
    obtain ⟨A3, n3, k3, e7⟩ := e7
    have HS0 := hide (show segM (D.p.xs 0) = segM (D.p.xs 0) from rfl)
    have HS1 := hide (show segM (D.p.xs 1) = segM (D.p.xs 1) from rfl)
    rw [e0, e1, e2, e3] at hm0
    rw [e4, e5, e6, e7] at hm1
    have he2 : e = .returned (.tuple #[.agg #[.int .i64 (segM (D.p.xs 0)).gen, .int .i64 ((segM (D.p.xs 0)).size : Nat), .slice A0 n0 k0, .slice A1 n1 k1, .int .i64 (segM (D.p.xs 1)).gen, .int .i64 ((segM (D.p.xs 1)).size : Nat), .slice A2 n2 k2, .slice A3 n3 k3], .int .i64 0]) := by
      rw [he]; show Ending.returned (.tuple #[.agg #[c 0, c 1, c 2, c 3, c 4, c 5, c 6, c 7], .int .i64 0]) = _; rw [e0, e1, e2, e3, e4, e5, e6, e7]
    subst he2
    clear he e0 e1 e2 e3 e4 e5 e6 e7
    obtain ⟨S0, hS0⟩ : ∃ S, S = segM (D.p.xs 0) := ⟨_, rfl⟩
    obtain ⟨S1, hS1⟩ : ∃ S, S = segM (D.p.xs 1) := ⟨_, rfl⟩
    have HS0 := hide hS0.symm
    have HS1 := hide hS1.symm
    rw [← hS0, ← hS1]
    rw [← hS0] at hm0
    rw [← hS1] at hm1
    have HNw := hide (fun w' => newest_any (.int .i64 (S0.size : Nat)) (.slice A0 n0 k0) (.slice A1 n1 k1) (.int .i64 (S1.size : Nat)) (.slice A2 n2 k2) (.slice A3 n3 k3) S0.gen S1.gen w')
    have HFf := hide (And.intro hf0 hf1)
    clear hS0 hS1 hf0 hf1
    have hbx2 := (Below.refl w1.heap.size w1).alloc (Nat.le_refl _) (.cells #[.int .i64 S0.gen, .int .i64 (S0.size : Nat), .slice A0 n0 k0, .slice A1 n1 k1, .int .i64 S1.gen, .int .i64 (S1.size : Nat), .slice A2 n2 k2, .slice A3 n3 k3] 61)
    have hx2 := heap_alloc_new w1 (.cells #[.int .i64 S0.gen, .int .i64 (S0.size : Nat), .slice A0 n0 k0, .slice A1 n1 k1, .int .i64 S1.gen, .int .i64 (S1.size : Nat), .slice A2 n2 k2, .slice A3 n3 k3] 61)
    by_cases hg : S0.gen < S1.gen
    · have HQ := hide (show openR D.p = prepR D.p (⟨1, S1.gen, S1.size, false, false⟩ : LV) ∧ openS D.p = S1 by
        have e : openF D.p = 1 := by unfold openF; rw [HS0.out, HS1.out]; exact if_pos hg
        unfold openR openL openS
        rw [e, HS1.out]
        exact ⟨rfl, rfl⟩)
      rw [if_pos hg] at HNw
      have HMf := hide hm1
      clear hm0 hm1 HS0 HS1
      go_wp2_with fail
      refine (HNw.out _).mono ?_
      rintro e w3 ⟨rfl, hb3⟩
      have HB3 := hide (hbx2.trans (hb3.mono hbx2.size))
      have HBx3 := hide ((hb3.block _ (block_lt hx2)).trans hx2)
      obtain ⟨⟨s0, s1, s2, s3, s4, s5, s6, s7⟩, -, hltB⟩ := seg8_cells (c := fun i => (#[.int .i64 S0.gen, .int .i64 (S0.size : Nat), .slice A0 n0 k0, .slice A1 n1 k1, .int .i64 S1.gen, .int .i64 (S1.size : Nat), .slice A2 n2 k2, .slice A3 n3 k3] : Array Value).getD i undef) HBx3.out
      have hs3 := HB3.out.size
      obtain ⟨w4, hw4⟩ : ∃ w4, w4 = (w3.alloc (.cells #[.int .i64 S1.gen, .int .i64 (S1.size : Nat), .slice A2 n2 k2, .slice A3 n3 k3] 60)).alloc (.cells (lCells g (⟨1, S1.gen, S1.size, false, false⟩ : LV)) 66) := ⟨_, rfl⟩
      have hb4 : Below w3.heap.size w3 w4 := by rw [hw4]; exact Joins.below_alloc2 w3 _ _
      have hs4 : w4.heap.size = w3.heap.size + 2 := by rw [hw4]; simp
      have hsg4 : w4.heap[w3.heap.size]? = some (.cells #[.int .i64 S1.gen, .int .i64 (S1.size : Nat), .slice A2 n2 k2, .slice A3 n3 k3] 60 (0, 0)) := by rw [hw4, Below.heap_alloc _ _ _ (by simp)]; exact heap_alloc_new w3 _
      have hlg4 : w4.heap[w3.heap.size + 1]? = some (.cells (lCells g (⟨1, S1.gen, S1.size, false, false⟩ : LV)) 66 (0, 0)) := by
        rw [hw4]
        have h := heap_alloc_new (w3.alloc (.cells #[.int .i64 S1.gen, .int .i64 (S1.size : Nat), .slice A2 n2 k2, .slice A3 n3 k3] 60)) (.cells (lCells g (⟨1, S1.gen, S1.size, false, false⟩ : LV)) 66)
        simpa using h
      have HWE := hide (show w4 = (w3.alloc (.cells #[.int .i64 S1.gen, .int .i64 (S1.size : Nat), .slice A2 n2 k2, .slice A3 n3 k3] 60)).alloc (.cells #[.pointer (some ⟨g, 0, none⟩), .int .i64 1, .int .i64 S1.gen, .int .i64 (S1.size : Nat), .bool false, .bool false] 66) from hw4)
      have HB4 := hide (HB3.out.trans (hb4.mono HB3.out.size))
      have HWB := hide (HW1.out.trans (HB4.out.mono HW1.out.size))
      have HD4 := hide (HD.out.below HWB.out)
      have hDlt := HD.out.lt
      have HLg := hide (show LogAt base (w3.heap.size + 1) g w4 (⟨1, S1.gen, S1.size, false, false⟩ : LV) D from ⟨by have := HD.out.hg; have := HWB.out.size; omega, hlg4, HD4.out, by omega, fun i hi e => by have := ((HD.out.row i hi).lt _ e).2; omega⟩)
      have HPr := hide (prepare_any w4 HLg.out HO.out (by have := HDn.out; omega) (by show 1 < 2; omega) (HT.out.on HWB.out) (HLg.out.off_old hgt))
      unfold LRes at HPr
      have HSg4 := hide hsg4
      have HR4 := hide ((HB4.out.block _ (block_lt HRes1.out)).trans HRes1.out)
      have HOffR := hide (show Off (w3.heap.size + 1) g D w.heap.size from ⟨by omega, by omega, fun i hi e => by have := ((HD.out.row i hi).lt _ e).2; omega⟩)
      have HOffS := hide (show Off (w3.heap.size + 1) g D w3.heap.size from ⟨by omega, by omega, fun i hi e => by have := ((HD.out.row i hi).lt _ e).2; omega⟩)
      have HS3 := hide (show w.heap.size + 1 ≤ w3.heap.size by omega)
      have HWl := hide (show w1.heap.size ≤ w3.heap.size ∧ w.heap.size + 1 ≤ w1.heap.size from ⟨hs3, hs1⟩)
      generalize prepR D.p (⟨1, S1.gen, S1.size, false, false⟩ : LV) = r at *
      obtain ⟨er, pr, Lr⟩ := r
      clear hw4 hb4 hs4 hsg4 hlg4 hb3 hx2 hbx2
      go_wp2_with fail
      rw [← HWE.out]
      refine HPr.out.mono ?_
      rintro e w6 ⟨rfl, D6, rfl, hL6, ht6⟩
      have HL6 := hide hL6
      have HT6 := hide ht6
      have hr6 := (ht6.off _ HOffR.out (block_lt HR4.out)).2.trans HR4.out
      have hsg6 := (ht6.off _ HOffS.out (block_lt HSg4.out)).2.trans HSg4.out
      have HOff6 := hide (ht6.off _ HOffR.out (block_lt HR4.out)).1
      have HTu := hide (turned_of_l HWB.out ht6 (by have := HS3.out; omega))
      clear hL6 ht6 HPr s0 s1 s2 s3 s4 s5 s6 s7 hltB
      obtain ⟨⟨r0, r1⟩, ⟨f0, f1⟩, hltR⟩ := found_cells hr6
      obtain ⟨⟨s0, s1, s2, s3⟩, -, hltB⟩ := seg_cells hsg6
      clear hr6 hsg6
      by_cases he : er = 0
      · subst he
        have HFm := hide (segMem_end HMf.out HB4.out HT6.out HD.out (by have := HWl.out.1; omega) (by rw [HSz.out]; omega))
        go_wp2_with fail
        go_region
        all_goals
          go_wp2_with fail
          refine bodyPost_ret (v := .tuple #[vD (w3.heap.size + 1), .agg #[.slice A2 n2 k2, .slice A3 n3 k3], .int .i64 0]) (by simp [results, Tryd.results7, go_sem, r0, r1]) rfl ?_
          obtain ⟨q1, gs, q2, q3, q4, q5, q6, q7, q8⟩ := HFm.out
          have hbut := set2_but w6 w.heap.size (.slice A2 n2 k2) (.slice A3 n3 k3)
          subst q1; subst q2
          refine .inr ⟨hdn, HFf.out, .inr ⟨by rw [HQ.out.1], ?_⟩⟩
          rw [HQ.out.1, HQ.out.2]
          refine ⟨w3.heap.size + 1, _, _, _, _, gs, D6, rfl, by have := HS3.out; omega, rfl, (HL6.out.keepR (R := w.heap.size) hbut HOff6.out).below (Below.refl _ _).drew, (set2_turn HTu.out _ _).trans (Turned.of_below (Below.refl _ _).drew), q3, ?_, ?_, q6, q7, q8⟩
          · exact (q4.keep (Q := fun b => Off (w3.heap.size + 1) g D6 b ∧ w.heap.size < b) (by simp) fun b h1 _ => ⟨h1, hbut b (by omega)⟩).below (Below.refl _ _).drew
          · exact (q5.keep (Q := fun b => Off (w3.heap.size + 1) g D6 b ∧ w.heap.size < b) (by simp) fun b h1 _ => ⟨h1, hbut b (by omega)⟩).below (Below.refl _ _).drew
      · have hb := ne_b he
        have HE := hide he
        clear he
        go_wp2_with fail
        refine bodyPost_ret (v := .tuple #[.pointer none, .agg #[.slice none 0 0, .slice none 0 0], .int .i64 er]) (by simp [results, Tryd.results7, go_sem, r0, r1]) rfl ?_
        refine .inr ⟨hdn, HFf.out, .inl ⟨by rw [HQ.out.1]; exact HE.out, ?_⟩⟩
        rw [HQ.out.1]
        exact ⟨rfl, D6, rfl, (HL6.out.keepR (R := w.heap.size) (set2_but _ _ _ _) HOff6.out).disk, set2_turn HTu.out _ _⟩
    · have HQ := hide (show openR D.p = prepR D.p (⟨0, S0.gen, S0.size, false, false⟩ : LV) ∧ openS D.p = S0 by
        have e : openF D.p = 0 := by unfold openF; rw [HS0.out, HS1.out]; exact if_neg hg
        unfold openR openL openS
        rw [e, HS0.out]
        exact ⟨rfl, rfl⟩)
      rw [if_neg hg] at HNw
      have HMf := hide hm0
      clear hm0 hm1 HS0 HS1
      go_wp2_with fail
      refine (HNw.out _).mono ?_
      rintro e w3 ⟨rfl, hb3⟩
      have HB3 := hide (hbx2.trans (hb3.mono hbx2.size))
      have HBx3 := hide ((hb3.block _ (block_lt hx2)).trans hx2)
      obtain ⟨⟨s0, s1, s2, s3, s4, s5, s6, s7⟩, -, hltB⟩ := seg8_cells (c := fun i => (#[.int .i64 S0.gen, .int .i64 (S0.size : Nat), .slice A0 n0 k0, .slice A1 n1 k1, .int .i64 S1.gen, .int .i64 (S1.size : Nat), .slice A2 n2 k2, .slice A3 n3 k3] : Array Value).getD i undef) HBx3.out
      have hs3 := HB3.out.size
      obtain ⟨w4, hw4⟩ : ∃ w4, w4 = (w3.alloc (.cells #[.int .i64 S0.gen, .int .i64 (S0.size : Nat), .slice A0 n0 k0, .slice A1 n1 k1] 60)).alloc (.cells (lCells g (⟨0, S0.gen, S0.size, false, false⟩ : LV)) 66) := ⟨_, rfl⟩
      have hb4 : Below w3.heap.size w3 w4 := by rw [hw4]; exact Joins.below_alloc2 w3 _ _
      have hs4 : w4.heap.size = w3.heap.size + 2 := by rw [hw4]; simp
      have hsg4 : w4.heap[w3.heap.size]? = some (.cells #[.int .i64 S0.gen, .int .i64 (S0.size : Nat), .slice A0 n0 k0, .slice A1 n1 k1] 60 (0, 0)) := by rw [hw4, Below.heap_alloc _ _ _ (by simp)]; exact heap_alloc_new w3 _
      have hlg4 : w4.heap[w3.heap.size + 1]? = some (.cells (lCells g (⟨0, S0.gen, S0.size, false, false⟩ : LV)) 66 (0, 0)) := by
        rw [hw4]
        have h := heap_alloc_new (w3.alloc (.cells #[.int .i64 S0.gen, .int .i64 (S0.size : Nat), .slice A0 n0 k0, .slice A1 n1 k1] 60)) (.cells (lCells g (⟨0, S0.gen, S0.size, false, false⟩ : LV)) 66)
        simpa using h
      have HWE := hide (show w4 = (w3.alloc (.cells #[.int .i64 S0.gen, .int .i64 (S0.size : Nat), .slice A0 n0 k0, .slice A1 n1 k1] 60)).alloc (.cells #[.pointer (some ⟨g, 0, none⟩), .int .i64 0, .int .i64 S0.gen, .int .i64 (S0.size : Nat), .bool false, .bool false] 66) from hw4)
      have HB4 := hide (HB3.out.trans (hb4.mono HB3.out.size))
      have HWB := hide (HW1.out.trans (HB4.out.mono HW1.out.size))
      have HD4 := hide (HD.out.below HWB.out)
      have hDlt := HD.out.lt
      have HLg := hide (show LogAt base (w3.heap.size + 1) g w4 (⟨0, S0.gen, S0.size, false, false⟩ : LV) D from ⟨by have := HD.out.hg; have := HWB.out.size; omega, hlg4, HD4.out, by omega, fun i hi e => by have := ((HD.out.row i hi).lt _ e).2; omega⟩)
      have HPr := hide (prepare_any w4 HLg.out HO.out (by have := HDn.out; omega) (by show 0 < 2; omega) (HT.out.on HWB.out) (HLg.out.off_old hgt))
      unfold LRes at HPr
      have HSg4 := hide hsg4
      have HR4 := hide ((HB4.out.block _ (block_lt HRes1.out)).trans HRes1.out)
      have HOffR := hide (show Off (w3.heap.size + 1) g D w.heap.size from ⟨by omega, by omega, fun i hi e => by have := ((HD.out.row i hi).lt _ e).2; omega⟩)
      have HOffS := hide (show Off (w3.heap.size + 1) g D w3.heap.size from ⟨by omega, by omega, fun i hi e => by have := ((HD.out.row i hi).lt _ e).2; omega⟩)
      have HS3 := hide (show w.heap.size + 1 ≤ w3.heap.size by omega)
      have HWl := hide (show w1.heap.size ≤ w3.heap.size ∧ w.heap.size + 1 ≤ w1.heap.size from ⟨hs3, hs1⟩)
      generalize prepR D.p (⟨0, S0.gen, S0.size, false, false⟩ : LV) = r at *
      obtain ⟨er, pr, Lr⟩ := r
      clear hw4 hb4 hs4 hsg4 hlg4 hb3 hx2 hbx2
      go_wp2_with fail
      rw [← HWE.out]
      refine HPr.out.mono ?_
      rintro e w6 ⟨rfl, D6, rfl, hL6, ht6⟩
      have HL6 := hide hL6
      have HT6 := hide ht6
      have hr6 := (ht6.off _ HOffR.out (block_lt HR4.out)).2.trans HR4.out
      have hsg6 := (ht6.off _ HOffS.out (block_lt HSg4.out)).2.trans HSg4.out
      have HOff6 := hide (ht6.off _ HOffR.out (block_lt HR4.out)).1
      have HTu := hide (turned_of_l HWB.out ht6 (by have := HS3.out; omega))
      clear hL6 ht6 HPr s0 s1 s2 s3 s4 s5 s6 s7 hltB
      obtain ⟨⟨r0, r1⟩, ⟨f0, f1⟩, hltR⟩ := found_cells hr6
      obtain ⟨⟨s0, s1, s2, s3⟩, -, hltB⟩ := seg_cells hsg6
      clear hr6 hsg6
      by_cases he : er = 0
      · subst he
        have HFm := hide (segMem_end HMf.out HB4.out HT6.out HD.out (by have := HWl.out.1; omega) (by rw [HSz.out]; omega))
        go_wp2_with fail
        go_region
        all_goals
          go_wp2_with fail
          refine bodyPost_ret (v := .tuple #[vD (w3.heap.size + 1), .agg #[.slice A0 n0 k0, .slice A1 n1 k1], .int .i64 0]) (by simp [results, Tryd.results7, go_sem, r0, r1]) rfl ?_
          obtain ⟨q1, gs, q2, q3, q4, q5, q6, q7, q8⟩ := HFm.out
          have hbut := set2_but w6 w.heap.size (.slice A0 n0 k0) (.slice A1 n1 k1)
          subst q1; subst q2
          refine .inr ⟨hdn, HFf.out, .inr ⟨by rw [HQ.out.1], ?_⟩⟩
          rw [HQ.out.1, HQ.out.2]
          refine ⟨w3.heap.size + 1, _, _, _, _, gs, D6, rfl, by have := HS3.out; omega, rfl, (HL6.out.keepR (R := w.heap.size) hbut HOff6.out).below (Below.refl _ _).drew, (set2_turn HTu.out _ _).trans (Turned.of_below (Below.refl _ _).drew), q3, ?_, ?_, q6, q7, q8⟩
          · exact (q4.keep (Q := fun b => Off (w3.heap.size + 1) g D6 b ∧ w.heap.size < b) (by simp) fun b h1 _ => ⟨h1, hbut b (by omega)⟩).below (Below.refl _ _).drew
          · exact (q5.keep (Q := fun b => Off (w3.heap.size + 1) g D6 b ∧ w.heap.size < b) (by simp) fun b h1 _ => ⟨h1, hbut b (by omega)⟩).below (Below.refl _ _).drew
      · have hb := ne_b he
        have HE := hide he
        clear he
        go_wp2_with fail
        refine bodyPost_ret (v := .tuple #[.pointer none, .agg #[.slice none 0 0, .slice none 0 0], .int .i64 er]) (by simp [results, Tryd.results7, go_sem, r0, r1]) rfl ?_
        refine .inr ⟨hdn, HFf.out, .inl ⟨by rw [HQ.out.1]; exact HE.out, ?_⟩⟩
        rw [HQ.out.1]
        exact ⟨rfl, D6, rfl, (HL6.out.keepR (R := w.heap.size) (set2_but _ _ _ _) HOff6.out).disk, set2_turn HTu.out _ _⟩
end Go.Proofs.YtkdihekhdnnheaaDoor
