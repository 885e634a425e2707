/-
  The reference's Parse.
-/
import Derived.Test.YtldbmkmicaihhaaDoorHRParM
import Derived.Test.YtldbmkmicaihhaaDoorHRef
namespace Go.Proofs.YtldbmkmicaihhaaDoor
open Go.RowKit CM HM

/-- Texts in a block. -/
def StrAt (w : World) (g : Nat) (ts : List ByteArray) : Prop := ∀ j, j < ts.length → w.cell? ⟨g, j, none⟩ = some (.string (ts.getD j ⟨#[]⟩))
theorem StrAt.same {w w' : World} {g : Nat} {ts : List ByteArray} (h : StrAt w g ts) (hb : w'.heap[g]? = w.heap[g]?) : StrAt w' g ts := fun j hj => (World.cell?_of_block (a := ⟨g, j, none⟩) hb).trans (h j hj)
theorem row_at {w : World} {base : Nat} {v : Value} {ts : List ByteArray} (h : w.ownsRow base 9 1 v ts.length (strCells ts)) (hn : ts ≠ []) :
    ∃ g cap, v = .slice (some ⟨g, 0, none⟩) ts.length cap ∧ base ≤ g ∧ g < w.heap.size ∧ StrAt w g ts := by
  rcases h.2 with ⟨rfl, h0⟩ | ⟨g, cap, cur, rfl, hb, hg, -⟩
  · exact absurd (List.length_eq_zero_iff.1 h0) hn
  · refine ⟨g, cap, rfl, hb, (Array.getElem?_eq_some_iff.1 hg).1, fun j hj => ?_⟩
    rw [h.cellAt j (by omega)]
    unfold strCells
    rw [List.getElem?_map, List.getD_eq_getElem?_getD, List.getElem?_eq_getElem hj]; rfl
theorem zRow (w : World) (b : Nat) (hb : w.heap[b]? = some (.cells zCells tF (0, 0))) : RowB w b (fun _ => false) :=
  ⟨zCells, zCells_size, hb, fun i hi => by unfold zCells; rw [Array.getElem?_replicate, if_pos hi]⟩
/-- What Parse tells. -/
def rCells (l : List UInt8) : Array Value := if parseE l = 0 then fCells (parseC l) else zCells
theorem rCells_no {l : List UInt8} {e : Int} (h : parseE l = e) (he : e ≠ 0) : rCells l = zCells := by unfold rCells; rw [h, if_neg he]
theorem parts_take {l : List (List UInt8)} {k : Nat} (h : k < l.length) : partsL (l.take (k + 1)) = partsL (l.take k) ++ (if l.getD k [] = [] then [] else [l.getD k []]) := by
  rw [List.take_succ_eq_append_getElem h, parts_app, List.getD_eq_getElem?_getD, List.getElem?_eq_getElem h]
  simp only [Option.getD_some]
  unfold partsL
  by_cases e : l[k] = []
  · rw [if_pos e, e]; rfl
  · rw [if_neg e]
    have : l[k].isEmpty = false := by cases hq : l[k] with
      | nil => exact absurd hq e
      | cons => rfl
    simp [this]
theorem perr {l : List UInt8} {k : Nat} {e : Int} (hk : k < 5) (h : ∀ i, i < k → (fieldM i (txtF l i)).1 = 0) (he : (fieldM k (txtF l k)).1 = e) (hne : e ≠ 0) (hs : splitB l = true) : parseE l = e := by
  unfold parseE
  rw [if_neg (by rw [hs]; simp), show (5 : Nat) = k + ((4 - k) + 1) by omega, err_skip l k ((4 - k) + 1) 0 (fun i _ h2 => h i (by omega)), Nat.zero_add]
  show (if (fieldM k (txtF l k)).1 = 0 then _ else _) = _
  rw [he, if_neg hne]
theorem pok {l : List UInt8} (h : ∀ i, i < 5 → (fieldM i (txtF l i)).1 = 0) (hs : splitB l = true) : parseE l = 0 := by
  unfold parseE
  rw [if_neg (by rw [hs]; simp), show (5 : Nat) = 5 + 0 by omega, err_skip l 5 0 0 (fun i _ h2 => h i (by omega))]
  rfl
theorem cut_all (c : Sp) {i : Nat} (hi : i < 325) : gOf (cutC c 5) i = gOf c i := by
  have h5 : i / 65 < 5 := by omega
  unfold gOf cutC
  simp only [h5, if_true]
theorem rCells_yes {l : List UInt8} (h : parseE l = 0) : rCells l = fCells (parseC l) := by unfold rCells; rw [if_pos h]
theorem zz {w w2 w6 : World} (hb : Below w.heap.size w w2) (h5 : w2.heap[w.heap.size + 1 + 1]? = some (.cells zCells tF (0, 0))) (hr : w2.heap[w.heap.size]? = some (.cells zCells tF (0, 0))) (hg : w2.grownBy w6 (some (w.heap.size + 1))) :
    w6.heap[w.heap.size + 1 + 1]? = some (.cells zCells tF (0, 0)) ∧ w6.heap[w.heap.size]? = some (.cells zCells tF (0, 0)) ∧ Below w.heap.size w w6 := by
  have z5 := (Array.getElem?_eq_some_iff.1 h5).1
  have zr := (Array.getElem?_eq_some_iff.1 hr).1
  refine ⟨(hg.block _ z5 (by intro e; injection e; omega)).trans h5, (hg.block _ zr (by intro e; injection e; omega)).trans hr, hg.os.trans hb.os, hg.tape.trans hb.tape, hg.output.trans hb.output, Nat.le_trans hb.size hg.size, fun i hi => (hg.block i (by omega) (by intro e; injection e; omega)).trans (hb.block i hi)⟩
def h3 (c : Sp) (k n i : Nat) : Bool := gOf (cutC c k) i || (decide (i = 65 * k + 64) || (decide (65 * k ≤ i) && (decide (i < 65 * k + 64) && (inF k (i - 65 * k) && decide (i - 65 * k < n)))))
theorem h3_start (c : Sp) (k i : Nat) : (if i = k * 65 + 64 then true else gOf (cutC c k) i) = h3 c k (loN k) i := by
  unfold h3
  by_cases e : i = k * 65 + 64
  · rw [if_pos e, decide_eq_true (show i = 65 * k + 64 by omega)]; simp
  · rw [if_neg e, decide_eq_false (show ¬ i = 65 * k + 64 by omega)]
    have : (inF k (i - 65 * k) && decide (i - 65 * k < loN k)) = false := by
      unfold inF
      by_cases h : loN k ≤ i - 65 * k
      · rw [decide_eq_false (show ¬ i - 65 * k < loN k by omega)]; simp
      · rw [decide_eq_false h]; rfl
    rw [this]; simp
theorem h3_hit (c : Sp) {k n : Nat} (i : Nat) (h0 : loN k ≤ n) (h1 : n ≤ hiN k) : (if i = k * 65 + n then true else h3 c k n i) = h3 c k (n + 1) i := by
  have h59 := (lohi k).2.2
  unfold h3
  by_cases e : i = k * 65 + n
  · rw [if_pos e, decide_eq_true (show 65 * k ≤ i by omega), decide_eq_true (show i < 65 * k + 64 by omega), decide_eq_true (show i - 65 * k < n + 1 by omega)]
    have : inF k (i - 65 * k) = true := by unfold inF; rw [decide_eq_true (show loN k ≤ i - 65 * k by omega), decide_eq_true (show i - 65 * k ≤ hiN k by omega)]; rfl
    rw [this]; simp
  · rw [if_neg e]
    by_cases h : 65 * k ≤ i
    · have : decide (i - 65 * k < n) = decide (i - 65 * k < n + 1) := by congr 1; exact propext ⟨fun h => by omega, fun h => by omega⟩
      rw [this]
    · rw [decide_eq_false h]; simp
theorem rowB_all {w : World} {b : Nat} {c : Sp} (h : RowB w b (gOf c)) : w.heap[b]? = some (.cells (fCells c) tF (0, 0)) := by
  obtain ⟨arr, a1, a2, a3⟩ := h
  exact Row.all ⟨arr, a1, a2, fun i hi _ => a3 i hi⟩
theorem parts_le {l : List UInt8} {j : Nat} : (txtF l j).length ≤ l.length := by
  unfold txtF
  rw [List.getD_eq_getElem?_getD]
  cases hq : (partsL (pieces 32 l))[j]? with
  | none => simp
  | some p =>
    have h1 := List.mem_of_getElem? hq
    unfold partsL at h1
    exact piece_le 32 l p (List.mem_filter.1 h1).1
theorem pieces_cnt (c : UInt8) : ∀ l : List UInt8, (pieces c l).length ≤ l.length + 1
  | [] => by simp [pieces]
  | b :: l => by
    have := pieces_cnt c l
    unfold pieces
    split
    · simp; omega
    · split
      · simp
      · rename_i hp
        rw [hp] at this
        simp at this ⊢; omega
theorem row_v {w : World} {base : Nat} {v : Value} {n : Nat} {cs : List Value} (h : w.ownsRow base 9 1 v n cs) : ∃ A cap, v = .slice A n cap := by
  rcases h.2 with ⟨rfl, h0⟩ | ⟨g, cap, cur, rfl, -⟩
  · exact ⟨none, 0, by rw [h0]⟩
  · exact ⟨_, _, rfl⟩
set_option maxRecDepth 100000 in
set_option maxHeartbeats 8000000 in
theorem rparse_any (s : ByteArray) (w : World) (hs : s.size ≤ 300) : Calls Tryd.prog 16 #[.string s] w fun e w' => e = .returned (.tuple #[.agg (rCells s.data.toList), .int .i64 (parseE s.data.toList)]) ∧ Below w.heap.size w w' := by
  obtain ⟨i0, hi, hz0, hz1, hz2⟩ := info_parts str_info
  have hz := row_zero
  have HSp := hide (fun w => rsplit_any s 32 w (by omega))
  go_enter Tryd.func16, Tryd.ntmps16
  go_wp2_with fail
  obtain ⟨W, hW⟩ : ∃ W, W = ((w.alloc (.cells zCells tF)).alloc (.cells zCells tF)).alloc (.cells zCells tF) := ⟨_, rfl⟩
  have HB0 : Hid (Below w.heap.size w W) := hide (by rw [hW]; exact ((((Below.refl _ _).alloc (Nat.le_refl _) _).alloc (by simp) _).alloc (by simp; omega) _))
  have HN : Hid (W.heap.size = w.heap.size + 1 + 1 + 1) := hide (by rw [hW]; simp)
  have HZ0 : Hid (W.heap[w.heap.size]? = some (.cells zCells tF (0, 0))) := hide (by
    rw [hW, ← heap_alloc_last w (.cells zCells tF)]
    exact (((Below.refl (w.heap.size + 1) _).alloc (by simp) _).alloc (by simp) _).block _ (by omega))
  have HZ1 : Hid (W.heap[w.heap.size + 1]? = some (.cells zCells tF (0, 0))) := hide (by
    have h1 := heap_alloc_last (w.alloc (.cells zCells tF)) (.cells zCells tF)
    rw [World.size_alloc] at h1
    rw [hW, ← h1]
    exact ((Below.refl (w.heap.size + 1 + 1) _).alloc (by simp) _).block _ (by omega))
  have HZ2 : Hid (W.heap[w.heap.size + 1 + 1]? = some (.cells zCells tF (0, 0))) := hide (by
    have h1 := heap_alloc_last ((w.alloc (.cells zCells tF)).alloc (.cells zCells tF)) (.cells zCells tF)
    rw [World.size_alloc, World.size_alloc] at h1
    rw [hW, ← h1])
  rw [show (((w.alloc _).alloc _).alloc _) = W from hW.symm]
  clear hW hz
  refine (HSp.out W).mono ?_
  rintro e w1 ⟨⟨v, ts, rfl, hts, hown⟩, hb1⟩
  have HB1 := hide hb1
  have HTS := hide hts
  have hne : ts ≠ [] := fun e => by rw [e] at hts; exact pieces_ne 32 _ hts.symm
  obtain ⟨g, cap, rfl, hg0, hg1, hst⟩ := row_at hown hne
  have HST := hide hst
  have HLT : Hid (ts.length = (pieces 32 s.data.toList).length) := hide (by rw [← hts]; simp [bytesL])
  have HTL : Hid (ts.length ≤ 301) := hide (by
    rw [HLT.out]
    have h1 := pieces_cnt 32 s.data.toList
    have h2 : s.data.toList.length = s.size := by simp
    omega)
  have HTJ : Hid (∀ j, j < ts.length → (ts.getD j ⟨#[]⟩).data.toList = (pieces 32 s.data.toList).getD j []) := hide (fun j hj => by
    rw [← hts]; unfold bytesL
    rw [List.getD_eq_getElem?_getD, List.getD_eq_getElem?_getD, List.getElem?_map, List.getElem?_eq_getElem hj]; rfl)
  have HT0 : Hid (0 < ts.length) := hide (List.length_pos_iff.2 hne)
  clear hb1 hts hown hst hne
  go_wp2_with fail
  go_loopw [7, 8] (fun v i wr => ∃ (ps : List ByteArray) (k : Nat), k ≤ ts.length ∧ i = .int .i64 (k : Nat) ∧ ps.length ≤ k ∧ bytesL ps = partsL ((pieces 32 s.data.toList).take k) ∧ (∀ j, j < k → (pieces 32 s.data.toList).getD j [] = [] → j ≠ 0 ∧ j + 1 ≠ ts.length) ∧ wr.ownsRow w1.heap.size 9 1 v ps.length (strCells ps) ∧ Below w1.heap.size w1 wr) (fun _ i _ => ts.length - (intOf i).toNat)
  case atStart => exact ⟨[], 0, by omega, rfl, by simp, by simp [bytesL, partsL], fun j h => by omega, World.ownsRow_nil _ _ _ _, Below.refl _ _⟩
  case round =>
    obtain ⟨ps, k, hk, rfl, hpl, hpp, hed, hrow, hb⟩ := hrel
    have HPP := hide hpp
    have HED := hide hed
    have HB := hide hb
    have hst := HST.out.same (hb.block g hg1)
    clear hpp hed hb
    by_cases hlt : k < ts.length
    · have hltI : (k : Int) < (ts.length : Int) := by omega
      have hc := hst k hlt
      have HTj := hide (HTJ.out k hlt)
      have HPT := hide (parts_take (l := pieces 32 s.data.toList) (k := k) (by rw [← HLT.out]; exact hlt))
      rw [← HTj.out] at HPT
      obtain ⟨t, ht⟩ : ∃ t, ts.getD k ⟨#[]⟩ = t := ⟨_, rfl⟩
      rw [ht] at hc HTj HPT
      clear hst ht
      have hTI : (ts.length : Int) ≤ 301 := by have := HTL.out; omega
      have hT1 : (1 : Int) ≤ (ts.length : Int) := by have := HT0.out; omega
      have hkI : (k : Int) + 1 ≤ 301 := by omega
      have hk0 : (0 : Int) ≤ (k : Int) := by omega
      by_cases hte : t.data.toList = []
      · have hem : t.toList.isEmpty = true := by rw [Lib.toList_data, hte]; rfl
        rw [hte, if_pos rfl, List.append_nil] at HPT
        rw [hte] at HTj
        clear hte
        have hn5 : wr.heap[w.heap.size + 1 + 1]? = some (.cells zCells tF (0, 0)) := (HB.out.block _ (by have := HB1.out.size; have := HN.out; omega)).trans ((HB1.out.block _ (by have := HN.out; omega)).trans HZ2.out)
        have hn2 : wr.heap[w.heap.size]? = some (.cells zCells tF (0, 0)) := (HB.out.block _ (by have := HB1.out.size; have := HN.out; omega)).trans ((HB1.out.block _ (by have := HN.out; omega)).trans HZ0.out)
        have hu := row_under
        have hiz : (Tryd.prog.info? tF).map (·.size) = some zCells.size := by rw [zCells_size]; exact row_size
        have hzo := zCells_one
        have HBA : Hid (Below w.heap.size w (wr.setRow w.heap.size zCells)) := hide (by
          have h1 := (HB0.out.trans (Below.mono HB1.out HB0.out.size)).trans (Below.mono HB.out (by have := HB0.out.size; have := HB1.out.size; omega))
          exact ⟨h1.os, h1.tape, h1.output, by rw [setRow_size]; exact h1.size, fun i hi => (setRow_other wr w.heap.size i _ (by omega)).trans (h1.block i hi)⟩)
        have HLD : Hid ((loadVar tF ⟨w.heap.size, 0, none⟩).run Tryd.prog (wr.setRow w.heap.size zCells) = .ok (.agg zCells) (wr.setRow w.heap.size zCells)) := hide (run_loadVar_row _ _ tF tF zCells (0, 0) _ (setRow_heap wr w.heap.size zCells zCells tF (0, 0) hn2) hu rfl hiz)
        by_cases hk00 : k = 0
        · have HPE : Hid (parseE s.data.toList = 20) := hide (err_split (by
            obtain ⟨r, hr⟩ : ∃ r, pieces 32 s.data.toList = [] :: r := by
              have h1 := HTj.out
              rw [hk00] at h1
              have h2 := HT0.out
              rw [HLT.out] at h2
              cases hq : pieces 32 s.data.toList with
              | nil => rw [hq] at h2; simp at h2
              | cons x r => rw [hq] at h1; exact ⟨r, by rw [show x = [] from h1.symm]⟩
            exact edge_first hr))
          have hke : ((k : Int) == 0) = true := by rw [hk00]; rfl
          clear hk00
          go_wp2_with (first | (refine wpList_load_row rfl tF (.tmp 5) rfl (w.heap.size + 1 + 1) rfl tF zCells (0, 0) _ hn5 hu rfl hiz ?_) | (refine wpList_store_row rfl tF (.tmp 2) (.tmp 43) rfl w.heap.size zCells (by rfl) (by rfl) tF zCells hn2 hiz rfl hzo ?_))
          refine bodyPost_ret (v := .tuple #[.agg zCells, .int .i64 20]) (by have hld := HLD.out; simp [results, Tryd.results16, asAddr, hld]) rfl ⟨by rw [HPE.out, rCells_no HPE.out (by decide)], HBA.out⟩
        · have hke : ((k : Int) == 0) = false := by rw [beq_eq_false_iff_ne]; omega
          by_cases hkl : k + 1 = ts.length
          · have HPE : Hid (parseE s.data.toList = 20) := hide (err_split (by
              obtain ⟨r, hr⟩ : ∃ r, pieces 32 s.data.toList = r ++ [[]] := by
                have h1 := HTj.out
                have hl := HLT.out
                have hnil := pieces_ne 32 s.data.toList
                refine ⟨(pieces 32 s.data.toList).dropLast, ?_⟩
                have h3 := List.dropLast_concat_getLast hnil
                have h4 : (pieces 32 s.data.toList).getLast hnil = [] := by
                  rw [List.getLast_eq_getElem]
                  rw [List.getD_eq_getElem?_getD, List.getElem?_eq_getElem (by omega)] at h1
                  have : (pieces 32 s.data.toList).length - 1 = k := by omega
                  simp only [this]
                  exact h1.symm
                rw [h4] at h3
                exact h3.symm
              exact edge_last hr))
            have hke2 : ((k : Int) == (ts.length : Int) - 1) = true := by rw [beq_iff_eq]; omega
            clear hkl hk00
            go_wp2_with (first | (refine wpList_load_row rfl tF (.tmp 5) rfl (w.heap.size + 1 + 1) rfl tF zCells (0, 0) _ hn5 hu rfl hiz ?_) | (refine wpList_store_row rfl tF (.tmp 2) (.tmp 43) rfl w.heap.size zCells (by rfl) (by rfl) tF zCells hn2 hiz rfl hzo ?_))
            refine bodyPost_ret (v := .tuple #[.agg zCells, .int .i64 20]) (by have hld := HLD.out; simp [results, Tryd.results16, asAddr, hld]) rfl ⟨by rw [HPE.out, rCells_no HPE.out (by decide)], HBA.out⟩
          · have hke2 : ((k : Int) == (ts.length : Int) - 1) = false := by rw [beq_eq_false_iff_ne]; omega
            have HED2 : Hid (∀ j, j < k + 1 → (pieces 32 s.data.toList).getD j [] = [] → j ≠ 0 ∧ j + 1 ≠ ts.length) := hide (fun j hj he => by
              by_cases e : j = k
              · rw [e]; exact ⟨hk00, hkl⟩
              · exact HED.out j (by omega) he)
            have HPP2 : Hid (bytesL ps = partsL ((pieces 32 s.data.toList).take (k + 1))) := hide (by rw [HPT.out]; exact HPP.out)
            have HRW := hide hrow
            clear hkl hk00 hrow
            go_wp2_with fail
            go_round
            case rel => exact ⟨ps, k + 1, by omega, by first | rfl | simp, by omega, HPP2.out, HED2.out, HRW.out, HB.out⟩
            case measure => simp [intOf]; omega
      · have hem : t.toList.isEmpty = false := by
          rw [Lib.toList_data]
          cases hq : t.data.toList with
          | nil => exact absurd hq hte
          | cons => rfl
        rw [if_neg hte] at HPT
        have HED2 : Hid (∀ j, j < k + 1 → (pieces 32 s.data.toList).getD j [] = [] → j ≠ 0 ∧ j + 1 ≠ ts.length) := hide (fun j hj he => by
          by_cases e : j = k
          · rw [e, ← HTj.out] at he; exact absurd he hte
          · exact HED.out j (by omega) he)
        have hzr := HB.out.size
        clear hte
        go_wp2_with (at_builtin; go_must (refine wpList_append_own_at _ rfl _ _ 55 rfl w1.heap.size 9 i0 (.string ⟨#[]⟩) 1 16 Tryd.underlying55 hi hz0 hz1 hz2 rfl (by decide) _ _ _ rfl (hrow.alloc _) ⟨wr.heap.size, 0, none⟩ 1 1 [.string t] rfl rfl (str_new _ _ _ _ rfl) (str_one' _) (by unfold maxLen; omega) (by omega) (by simp; omega) ?_))
        intro v1 w3 hown3 hgrow3 _ hat3
        have HO3 : Hid (w3.ownsRow w1.heap.size 9 1 v1 (ps ++ [t]).length (strCells (ps ++ [t]))) := hide (by
          have e1 : (ps ++ [t]).length = ps.length + 1 := by simp
          have e2 : strCells (ps ++ [t]) = strCells ps ++ [.string t] := by simp [strCells]
          rw [e1, e2]; exact hown3)
        have HB3 : Hid (Below w1.heap.size w1 w3) := hide ((HB.out.alloc HB.out.size _).grown hgrow3 (by simp; omega) (fun j hj => (hrow.lt j hj).1))
        have HPP2 : Hid (bytesL (ps ++ [t]) = partsL ((pieces 32 s.data.toList).take (k + 1))) := hide (by rw [HPT.out, ← HPP.out]; simp [bytesL])
        have HL3 : Hid ((ps ++ [t]).length ≤ k + 1) := hide (by simp; omega)
        clear hown3 hgrow3 hat3 hrow hpl
        go_wp2_with fail
        go_round
        case rel => exact ⟨ps ++ [t], k + 1, by omega, by first | rfl | simp, HL3.out, HPP2.out, HED2.out, HO3.out, HB3.out⟩
        case measure => simp [intOf]; omega
    · obtain rfl : k = ts.length := by omega
      have HPA : Hid (bytesL ps = partsL (pieces 32 s.data.toList)) := hide (by rw [HPP.out, HLT.out, List.take_length])
      have HSB : Hid (splitB s.data.toList = decide (ps.length = 5)) := hide (by
        have h1 : ps.length = (partsL (pieces 32 s.data.toList)).length := by rw [← HPA.out]; simp [bytesL]
        rw [h1]
        refine edge_none (fun r hr => ?_) (fun r hr => ?_)
        · exact (HED.out 0 HT0.out (by rw [hr]; rfl)).1 rfl
        · have h2 : ts.length = r.length + 1 := by rw [HLT.out, hr]; simp
          refine (HED.out r.length (by omega) (by rw [hr, List.getD_eq_getElem?_getD, List.getElem?_append_right (Nat.le_refl _), Nat.sub_self]; rfl)).2 h2.symm)
      have hBW : Below w.heap.size w wr := (HB0.out.trans (Below.mono HB1.out HB0.out.size)).trans (Below.mono HB.out (by have := HB0.out.size; have := HB1.out.size; omega))
      have HBW := hide hBW
      have hold : ∀ j, j < W.heap.size → wr.heap[j]? = W.heap[j]? := fun j hj => (HB.out.block _ (by have := HB1.out.size; omega)).trans (HB1.out.block _ hj)
      have HZ5 : Hid (wr.heap[w.heap.size + 1 + 1]? = some (.cells zCells tF (0, 0))) := hide ((hold _ (by have := HN.out; omega)).trans HZ2.out)
      have HZR : Hid (wr.heap[w.heap.size]? = some (.cells zCells tF (0, 0))) := hide ((hold _ (by have := HN.out; omega)).trans HZ0.out)
      have HZC : Hid (RowB wr (w.heap.size + 1) (fun _ => false)) := hide (zRow _ _ ((hold _ (by have := HN.out; omega)).trans HZ1.out))
      have HSz : Hid (W.heap.size ≤ w1.heap.size ∧ w1.heap.size ≤ wr.heap.size) := hide ⟨HB1.out.size, HB.out.size⟩
      have hu := row_under
      have hiz : (Tryd.prog.info? tF).map (·.size) = some zCells.size := by rw [zCells_size]; exact row_size
      have hzo := zCells_one
      clear hst hBW hold
      by_cases h5 : ps.length = 5
      · have hne : ps ≠ [] := fun e => by rw [e] at h5; cases h5
        obtain ⟨g2, cap2, rfl, hg2, hg3, hst⟩ := row_at hrow hne
        have HST2 := hide hst
        have HPJ : Hid (∀ j, j < 5 → (ps.getD j ⟨#[]⟩).data.toList = txtF s.data.toList j) := hide (fun j hj => by
          unfold txtF
          rw [← HPA.out]; unfold bytesL
          rw [List.getD_eq_getElem?_getD, List.getD_eq_getElem?_getD, List.getElem?_map, List.getElem?_eq_getElem (by omega)]; rfl)
        have HPL : Hid (∀ j, j < 5 → (ps.getD j ⟨#[]⟩).size ≤ 300) := hide (fun j hj => by
          have h1 := HPJ.out j hj
          have h2 := parts_le (l := s.data.toList) (j := j)
          rw [← h1] at h2
          have h3 : s.data.toList.length = s.size := by simp
          have h4 : (ps.getD j ⟨#[]⟩).data.toList.length = (ps.getD j ⟨#[]⟩).size := by simp
          omega)
        have HSP : Hid (splitB s.data.toList = true) := hide (by rw [HSB.out, h5]; rfl)
        have HG2 : Hid (w1.heap.size ≤ g2 ∧ g2 < wr.heap.size) := hide ⟨hg2, hg3⟩
        have HNN := HN
        rw [h5]
        clear hrow hst hne hpl
        go_wp2_with fail
        have HZ5' := HZ5
        go_loopw [9] (fun u wx => ∃ k : Nat, k ≤ 5 ∧ u = .int .i64 (k : Nat) ∧ (∀ i, i < k → (fieldM i (txtF s.data.toList i)).1 = 0) ∧ RowB wx (w.heap.size + 1) (gOf (cutC (parseC s.data.toList) k)) ∧ wr.grownBy wx (some (w.heap.size + 1))) (fun u _ => 5 - (intOf u).toNat)
        case atStart => exact ⟨0, by omega, rfl, fun i h => by omega, HZC.out.ext (fun i _ => (gOf_zero _ i).symm), grown_below (Below.refl _ _)⟩
        case round =>
          obtain ⟨k, hk5, rfl, hok, hrb, hgr⟩ := hrel
          have HOK := hide hok
          have HRB := hide hrb
          have HGR := hide hgr
          have hst := HST2.out.same (hgr.block g2 HG2.out.2 (by have := HG2.out.1; have := HSz.out; have := HN.out; intro e; injection e; omega))
          clear hok hrb hgr
          by_cases hlt : k < 5
          · have hc := hst k (by omega)
            have HTx := hide (HPJ.out k hlt)
            have HTs := hide (HPL.out k hlt)
            obtain ⟨t, ht⟩ : ∃ t, ps.getD k ⟨#[]⟩ = t := ⟨_, rfl⟩
            rw [ht] at hc HTx HTs
            have hltI : (k : Int) < 5 := by omega
            clear hst ht
            have HLk := hide (fun w => (rlow_any k w hlt).mono fun _ _ h => (⟨h.1, h.2.symm⟩ : _ ∧ _))
            have HHk := hide (fun w => rhigh_any k w hlt)
            have HW2 := HGR
            by_cases hstar : t.data.toList = [42]
            · have hem : (t.toList == [42]) = true := by rw [Lib.toList_data, hstar]; rfl
              have HTX : Hid (txtF s.data.toList k = [42]) := hide (by rw [← HTx.out]; exact hstar)
              have HFM : Hid (fieldM k (txtF s.data.toList k) = (0, maskN k)) := hide (by unfold fieldM; rw [if_pos HTX.out])
              have HCA : Hid ((parseC s.data.toList).A k = true) := hide (by show (txtF s.data.toList k == [42]) = true; rw [HTX.out]; rfl)
              have HCS : Hid ((parseC s.data.toList).S k = maskN k) := hide (by show (fieldM k (txtF s.data.toList k)).2 = maskN k; rw [HFM.out])
              obtain ⟨r1, r2⟩ := HRB.out.cell (i := k * 65 + 64) (by omega)
              have HR1 : Hid (RowB (wr.setCell ⟨w.heap.size + 1, k * 65 + 64, none⟩ (.bool true)) (w.heap.size + 1) (h3 (parseC s.data.toList) k (loN k))) := hide ((HRB.out.set (k * 65 + 64) true).ext (fun i _ => h3_start _ _ _))
              have HG1 := hide (grown_trans HGR.out (grown_set wr (w.heap.size + 1) (k * 65 + 64) (.bool true)))
              clear hstar
              go_wp2_with (go_at_call 29; refine (HLk.out _).mono ?_; rintro e w' ⟨rfl, rfl⟩)
              obtain ⟨w5, hw5⟩ : ∃ w5, w5 = wr.setCell ⟨w.heap.size + 1, k * 65 + 64, none⟩ (.bool true) := ⟨_, rfl⟩
              rw [← hw5] at HR1 HG1
              rw [← hw5]
              clear hw5 r1 r2 hc
              have hh59 := (lohi k).2.2
              have HLH : Hid (loN k ≤ hiN k + 1) := hide (by have := lohi k; omega)
              go_loopw [10] (fun u wy => ∃ n : Nat, loN k ≤ n ∧ n ≤ hiN k + 1 ∧ u = .int .i64 (n : Nat) ∧ RowB wy (w.heap.size + 1) (h3 (parseC s.data.toList) k n) ∧ w5.grownBy wy (some (w.heap.size + 1))) (fun u _ => hiN k + 1 - (intOf u).toNat)
              case atStart => exact ⟨loN k, Nat.le_refl _, HLH.out, rfl, HR1.out, grown_below (Below.refl _ _)⟩
              case round =>
                obtain ⟨n, hn0, hn1, rfl, hrb3, hgr3⟩ := hrel
                have HR3 := hide hrb3
                have HG3 := hide hgr3
                clear hrb3 hgr3
                go_wp2_with fail
                refine (HHk.out _).mono ?_
                rintro e w6 ⟨rfl, hb6⟩
                have HR6 := hide (HR3.out.on hb6)
                have HG6 := hide (grown_trans HG3.out (grown_below hb6))
                clear hb6
                by_cases hn : n ≤ hiN k
                · have hnI : (n : Int) ≤ (hiN k : Int) := by omega
                  have hn64 : n < 64 := by omega
                  obtain ⟨r1, r2⟩ := HR6.out.cell (i := k * 65 + n) (by omega)
                  have HR7 : Hid (RowB (w6.setCell ⟨w.heap.size + 1, k * 65 + n, none⟩ (.bool true)) (w.heap.size + 1) (h3 (parseC s.data.toList) k (n + 1))) := hide ((HR6.out.set (k * 65 + n) true).ext (fun i _ => h3_hit _ i hn0 hn))
                  have HG7 := hide (grown_trans HG6.out (grown_set w6 (w.heap.size + 1) (k * 65 + n) (.bool true)))
                  go_wp2_with fail
                  go_round
                  case rel => exact ⟨n + 1, by omega, by omega, by first | rfl | simp, HR7.out, HG7.out⟩
                  case measure => simp [intOf]; omega
                · have hnI : ¬ ((n : Int) ≤ (hiN k : Int)) := by omega
                  have HRN : Hid (RowB w6 (w.heap.size + 1) (gOf (cutC (parseC s.data.toList) (k + 1)))) := hide (HR6.out.ext (fun i _ => cut_star HCA.out HCS.out (by omega)))
                  have HGN := hide (grown_trans HG1.out HG6.out)
                  have HOKN : Hid (∀ i, i < k + 1 → (fieldM i (txtF s.data.toList i)).1 = 0) := hide (fun i hi => by
                    by_cases e : i = k
                    · rw [e, HFM.out]
                    · exact HOK.out i (by omega))
                  go_wp2_with fail
                  go_round
                  case rel => exact ⟨k + 1, by omega, by first | rfl | simp, HOKN.out, HRN.out, HGN.out⟩
                  case measure => simp [intOf]; omega
            · have hem : (t.toList == [42]) = false := by rw [Lib.toList_data, beq_eq_false_iff_ne]; exact hstar
              have HTX : Hid (¬ txtF s.data.toList k = [42]) := hide (by rw [← HTx.out]; exact hstar)
              have HFM : Hid (fieldM k (txtF s.data.toList k) = fieldF k (pieces 44 t.data.toList) 0) := hide (by unfold fieldM; rw [if_neg HTX.out, HTx.out])
              have HCA : Hid ((parseC s.data.toList).A k = false) := hide (by show (txtF s.data.toList k == [42]) = false; rw [beq_eq_false_iff_ne]; exact HTX.out)
              have HCS : Hid ((parseC s.data.toList).S k = (fieldM k (txtF s.data.toList k)).2) := hide rfl
              have HSpt := hide (fun w => rsplit_any t 44 w (by have := HTs.out; omega))
              have HIt := hide (fun p b h w (hp : p.size ≤ 1000000) hr => ritem_any k p b h w hlt hp hr)
              clear hstar
              go_wp2_with fail
              refine (HSpt.out wr).mono ?_
              rintro e w5 ⟨⟨v, ls, rfl, hls, hown⟩, hb5⟩
              have hne : ls ≠ [] := fun e => by rw [e] at hls; exact pieces_ne 44 _ hls.symm
              obtain ⟨g3, cap3, rfl, hg30, hg31, hst3⟩ := row_at hown hne
              have HST3 := hide hst3
              have HLS := hide hls
              have HG5 := hide (grown_trans HGR.out (grown_below hb5))
              have HR5 := hide (HRB.out.on hb5)
              have HLL : Hid (ls.length = (pieces 44 t.data.toList).length) := hide (by rw [← hls]; simp [bytesL])
              have HLJ : Hid (∀ j, j < ls.length → (ls.getD j ⟨#[]⟩).data.toList = (pieces 44 t.data.toList).getD j []) := hide (fun j hj => by
                rw [← hls]; unfold bytesL
                rw [List.getD_eq_getElem?_getD, List.getD_eq_getElem?_getD, List.getElem?_map, List.getElem?_eq_getElem hj]; rfl)
              have HLs : Hid (∀ j, j < ls.length → (ls.getD j ⟨#[]⟩).size ≤ 1000000) := hide (fun j hj => by
                have h1 := HLJ.out j hj
                have h2 : ((pieces 44 t.data.toList).getD j []).length ≤ t.data.toList.length := by
                  rw [List.getD_eq_getElem?_getD, List.getElem?_eq_getElem (by have := HLL.out; omega)]
                  exact piece_le 44 _ _ (List.getElem_mem _)
                rw [← h1] at h2
                have h4 : (ls.getD j ⟨#[]⟩).data.toList.length = (ls.getD j ⟨#[]⟩).size := by simp
                have h5 : t.data.toList.length = t.size := by simp
                have := HTs.out
                omega)
              have HLN : Hid (ls.length ≤ 301) := hide (by
                rw [HLL.out]
                have h1 := pieces_cnt 44 t.data.toList
                have h5 : t.data.toList.length = t.size := by simp
                have := HTs.out
                omega)
              have HG3 : Hid (g3 ≠ w.heap.size + 1 ∧ g3 < w5.heap.size) := hide ⟨fun e => by have := HRB.out.lt; omega, hg31⟩
              have HDr : Hid (∀ j, j < ls.length → (pieces 44 t.data.toList).drop j = (ls.getD j ⟨#[]⟩).data.toList :: (pieces 44 t.data.toList).drop (j + 1)) := hide (fun j hj => by
                rw [HLJ.out j hj, List.drop_eq_getElem_cons (by have := HLL.out; omega), List.getD_eq_getElem?_getD, List.getElem?_eq_getElem (by have := HLL.out; omega)]; rfl)
              clear hb5 hls hown hst3 hne hc hg30 hg31
              go_wp2_with fail
              go_loopw [12] (fun u wy => ∃ j acc : Nat, j ≤ ls.length ∧ u = .int .i64 (j : Nat) ∧ fieldF k (pieces 44 t.data.toList) 0 = fieldF k ((pieces 44 t.data.toList).drop j) acc ∧ RowB wy (w.heap.size + 1) (hAcc (gOf (cutC (parseC s.data.toList) k)) k acc) ∧ w5.grownBy wy (some (w.heap.size + 1))) (fun u _ => ls.length - (intOf u).toNat)
              case atStart => exact ⟨0, 0, Nat.zero_le _, rfl, rfl, HR5.out.ext (fun i _ => acc_zero _ _ _), grown_below (Below.refl _ _)⟩
              case round =>
                obtain ⟨j, acc, hj, rfl, hfe, hrb4, hgr4⟩ := hrel
                have HFE := hide hfe
                have HR4 := hide hrb4
                have HG4 := hide hgr4
                have hst4 := HST3.out.same (hgr4.block g3 HG3.out.2 (by intro e; injection e with e; exact HG3.out.1 e))
                clear hfe hrb4 hgr4
                by_cases hjl : j < ls.length
                · have hjI : (j : Int) < (ls.length : Int) := by omega
                  have hj1 : (j : Int) + 1 ≤ 301 := by have := HLN.out; omega
                  have hj0 : (0 : Int) ≤ (j : Int) := by omega
                  have hcj := hst4 j hjl
                  have HDj := hide (HDr.out j hjl)
                  have HSj := hide (HLs.out j hjl)
                  obtain ⟨p, hp⟩ : ∃ p, ls.getD j ⟨#[]⟩ = p := ⟨_, rfl⟩
                  rw [hp] at hcj HDj HSj
                  have hk0 : (0 : Int) ≤ (k : Int) := by omega
                  clear hst4 hp
                  go_wp2_with fail
                  go_region_with (go_at_call 31; refine (HIt.out p (w.heap.size + 1) _ wr.drew HSj.out (HR4.out.same rfl)).mono ?_; rintro e w6 ⟨rfl, hg6, hr6⟩)
                  have HG6 := hide (grown_trans HG4.out (grown_trans (grown_below ((Below.refl _ _).drew)) hg6))
                  have HR6 := hide hr6
                  clear hg6 hr6 hcj
                  by_cases hie : iE k p.data.toList = 0
                  · obtain ⟨a, z, st, e1, e2, e3⟩ := fieldF_more (r := (pieces 44 t.data.toList).drop (j + 1)) (acc := acc) hie
                    have HFE2 : Hid (fieldF k (pieces 44 t.data.toList) 0 = fieldF k ((pieces 44 t.data.toList).drop (j + 1)) (acc ||| spanN a z st)) := hide (by rw [HFE.out, HDj.out, e3])
                    have HR7 : Hid (RowB w6 (w.heap.size + 1) (hAcc (gOf (cutC (parseC s.data.toList) k)) k (acc ||| spanN a z st))) := hide ((HR6.out hie).ext (fun i _ => acc_add e1 e2 i))
                    clear e1 e2 e3
                    rw [hie]
                    clear hie
                    go_wp2_with fail
                    go_round
                    case rel => exact ⟨j + 1, acc ||| spanN a z st, by omega, by first | rfl | simp, HFE2.out, HR7.out, HG6.out⟩
                    case measure => simp [intOf]; omega
                  · have HNE0 : Hid (iE k p.data.toList ≠ 0) := hide hie
                    have HPE : Hid (parseE s.data.toList = iE k p.data.toList) := hide (perr hlt HOK.out (by rw [HFM.out, HFE.out, HDj.out]; exact fieldF_none hie) hie HSP.out)
                    have HZZ := hide (zz HBW.out HZ5.out HZR.out (grown_trans HG5.out HG6.out))
                    have hieB : (iE k p.data.toList == 0) = false := by rw [beq_eq_false_iff_ne]; exact hie
                    have hizC := hiz
                    have hszC : zCells.size = zCells.size := rfl
                    have hzoC := hzo
                    clear hie
                    have hn5 := HZZ.out.1
                    have hn2 := HZZ.out.2.1
                    have HBA : Hid (Below w.heap.size w (w6.setRow w.heap.size zCells)) := hide (by
                      have h1 := HZZ.out.2.2
                      exact ⟨h1.os, h1.tape, h1.output, by rw [setRow_size]; exact h1.size, fun i hi => (setRow_other w6 w.heap.size i _ (by omega)).trans (h1.block i hi)⟩)
                    have HLD : Hid ((loadVar tF ⟨w.heap.size, 0, none⟩).run Tryd.prog (w6.setRow w.heap.size zCells) = .ok (.agg zCells) (w6.setRow w.heap.size zCells)) := hide (run_loadVar_row _ _ tF tF zCells (0, 0) _ (setRow_heap w6 w.heap.size zCells zCells tF (0, 0) hn2) hu rfl hizC)
                    go_wp2_with (first | (refine wpList_load_row rfl tF (.tmp 5) rfl (w.heap.size + 1 + 1) rfl tF zCells (0, 0) _ hn5 hu rfl hizC ?_) | (refine wpList_store_row rfl tF (.tmp 2) (.tmp 94) rfl w.heap.size zCells (by rfl) (by rfl) tF zCells hn2 hizC hszC hzoC ?_))
                    refine bodyPost_ret (v := .tuple #[.agg zCells, .int .i64 (iE k p.data.toList)]) (by have hld := HLD.out; simp [results, Tryd.results16, asAddr, hld]) rfl ⟨by rw [HPE.out, rCells_no HPE.out HNE0.out], HBA.out⟩
                · obtain rfl : j = ls.length := by omega
                  have HFE2 : Hid (fieldM k (txtF s.data.toList k) = (0, acc)) := hide (by
                    rw [HFM.out, HFE.out, List.drop_of_length_le (by have := HLL.out; omega)]; rfl)
                  have HCS2 : Hid ((parseC s.data.toList).S k = acc) := hide (by rw [HCS.out, HFE2.out])
                  have HRN : Hid (RowB wr (w.heap.size + 1) (gOf (cutC (parseC s.data.toList) (k + 1)))) := hide (HR4.out.ext (fun i _ => by rw [← HCS2.out]; exact cut_next HCA.out))
                  have HGN := hide (grown_trans HG5.out HG4.out)
                  have HOKN : Hid (∀ i, i < k + 1 → (fieldM i (txtF s.data.toList i)).1 = 0) := hide (fun i hi => by
                    by_cases e : i = k
                    · rw [e, HFE2.out]
                    · exact HOK.out i (by omega))
                  clear hst4
                  go_wp2_with fail
                  go_round
                  case rel => exact ⟨k + 1, by omega, by first | rfl | simp, HOKN.out, HRN.out, HGN.out⟩
                  case measure => simp [intOf]; omega
          · obtain rfl : k = 5 := by omega
            have HPE : Hid (parseE s.data.toList = 0) := hide (pok HOK.out HSP.out)
            have HZ' := zz HBW.out HZ5.out HZR.out HGR.out
            have HZZ : Hid (wr.heap[w.heap.size + 1]? = some (.cells (fCells (parseC s.data.toList)) tF (0, 0)) ∧ wr.heap[w.heap.size]? = some (.cells zCells tF (0, 0)) ∧ Below w.heap.size w wr) := hide ⟨rowB_all (HRB.out.ext (fun i hi => cut_all _ hi)), HZ'.2.1, HZ'.2.2⟩
            have hizC : (Tryd.prog.info? tF).map (·.size) = some (fCells (parseC s.data.toList)).size := by rw [fCells_size]; exact row_size
            have hszC : zCells.size = (fCells (parseC s.data.toList)).size := by rw [fCells_size, zCells_size]
            have hzoC := fCells_one (parseC s.data.toList)
            clear hst HZ'
            have hn5 := HZZ.out.1
            have hn2 := HZZ.out.2.1
            have HBA : Hid (Below w.heap.size w (wr.setRow w.heap.size (fCells (parseC s.data.toList)))) := hide (by
              have h1 := HZZ.out.2.2
              exact ⟨h1.os, h1.tape, h1.output, by rw [setRow_size]; exact h1.size, fun i hi => (setRow_other wr w.heap.size i _ (by omega)).trans (h1.block i hi)⟩)
            have HLD : Hid ((loadVar tF ⟨w.heap.size, 0, none⟩).run Tryd.prog (wr.setRow w.heap.size (fCells (parseC s.data.toList))) = .ok (.agg (fCells (parseC s.data.toList))) (wr.setRow w.heap.size (fCells (parseC s.data.toList)))) := hide (run_loadVar_row _ _ tF tF (fCells (parseC s.data.toList)) (0, 0) _ (setRow_heap wr w.heap.size zCells (fCells (parseC s.data.toList)) tF (0, 0) hn2) hu rfl hizC)
            go_wp2_with (first | (refine wpList_load_row rfl tF (.tmp 4) rfl (w.heap.size + 1) rfl tF (fCells (parseC s.data.toList)) (0, 0) _ hn5 hu rfl hizC ?_) | (refine wpList_store_row rfl tF (.tmp 2) (.tmp 96) rfl w.heap.size (fCells (parseC s.data.toList)) (by rfl) (by rfl) tF zCells hn2 hizC hszC hzoC ?_))
            refine bodyPost_ret (v := .tuple #[.agg (fCells (parseC s.data.toList)), .int .i64 (0)]) (by have hld := HLD.out; simp [results, Tryd.results16, asAddr, hld]) rfl ⟨by rw [HPE.out, rCells_yes HPE.out], HBA.out⟩
      · obtain ⟨A, cap2, rfl⟩ := row_v hrow
        have HNE0 : Hid ((20 : Int) ≠ 0) := hide (by decide)
        have HPE : Hid (parseE s.data.toList = 20) := hide (err_split (by rw [HSB.out, decide_eq_false h5]))
        have HZZ := hide (zz HBW.out HZ5.out HZR.out (grown_below (Below.refl _ _)))
        have hizC := hiz
        have hszC : zCells.size = zCells.size := rfl
        have hzoC := hzo
        have h5I : ((ps.length : Int) == 5) = false := by rw [beq_eq_false_iff_ne]; omega
        clear h5 hrow hpl
        have hn5 := HZZ.out.1
        have hn2 := HZZ.out.2.1
        have HBA : Hid (Below w.heap.size w (wr.setRow w.heap.size zCells)) := hide (by
          have h1 := HZZ.out.2.2
          exact ⟨h1.os, h1.tape, h1.output, by rw [setRow_size]; exact h1.size, fun i hi => (setRow_other wr w.heap.size i _ (by omega)).trans (h1.block i hi)⟩)
        have HLD : Hid ((loadVar tF ⟨w.heap.size, 0, none⟩).run Tryd.prog (wr.setRow w.heap.size zCells) = .ok (.agg zCells) (wr.setRow w.heap.size zCells)) := hide (run_loadVar_row _ _ tF tF zCells (0, 0) _ (setRow_heap wr w.heap.size zCells zCells tF (0, 0) hn2) hu rfl hizC)
        go_wp2_with (first | (refine wpList_load_row rfl tF (.tmp 5) rfl (w.heap.size + 1 + 1) rfl tF zCells (0, 0) _ hn5 hu rfl hizC ?_) | (refine wpList_store_row rfl tF (.tmp 2) (.tmp 47) rfl w.heap.size zCells (by rfl) (by rfl) tF zCells hn2 hizC hszC hzoC ?_))
        refine bodyPost_ret (v := .tuple #[.agg zCells, .int .i64 (20)]) (by have hld := HLD.out; simp [results, Tryd.results16, asAddr, hld]) rfl ⟨by rw [HPE.out, rCells_no HPE.out HNE0.out], HBA.out⟩
end Go.Proofs.YtldbmkmicaihhaaDoor
