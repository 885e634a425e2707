/-
  The reference's Safe, and first.
-/
import Derived.Test.YtpjibiimakclfabPSyn
namespace Go.Proofs.Ytpjibiimakclfab
open Go.RowKit

/-- How many at the head are true. -/
def heads : List Bool → Nat
  | true :: l => heads l + 1
  | _ => 0
theorem heads_le : ∀ l, heads l ≤ l.length
  | [] => Nat.le_refl _
  | true :: l => by show heads l + 1 ≤ _; have := heads_le l; simp; omega
  | false :: l => Nat.zero_le _
theorem heads_at : ∀ (l : List Bool) (k : Nat), k < heads l → l.getD k false = true
  | true :: l, 0, _ => rfl
  | true :: l, k + 1, h => by
    have : k < heads l := by have : heads (true :: l) = heads l + 1 := rfl; omega
    exact heads_at l k this
theorem heads_end : ∀ (l : List Bool), heads l < l.length → l.getD (heads l) false = false
  | [], h => by simp at h
  | false :: l, _ => rfl
  | true :: l, h => by
    have h1 : heads (true :: l) = heads l + 1 := rfl
    rw [h1] at h ⊢
    exact heads_end l (by simpa using h)
/-- A slice of bools. -/
def BoolsAt (L : Nat) (w : World) (A : Option Addr) (l : List Bool) : Prop := ∀ k, k < l.length → ∃ b off, A = some ⟨b, off, none⟩ ∧ b < L ∧ w.cell? ⟨b, off + k, none⟩ = some (.bool (l.getD k false))
theorem bools_of_row {w : World} {base : Nat} {v : Value} {l : List Bool} (h : w.ownsRow base 4 1 v l.length (boC l)) : ∃ A c, v = .slice A l.length c ∧ BoolsAt w.heap.size w A l := by
  rcases h.2 with ⟨rfl, hn⟩ | ⟨g, cap, cur, rfl, hb, hg, _, _, _, hx⟩
  · exact ⟨none, 0, by rw [hn], fun k hk => by omega⟩
  · refine ⟨some ⟨g, 0, none⟩, cap, rfl, fun k hk => ⟨g, 0, rfl, (Array.getElem?_eq_some_iff.1 hg).1, ?_⟩⟩
    rw [Nat.zero_add, Lib.cell_of_heap hg, ← boC_at hk, ← hx, List.getElem?_take_of_lt (by omega)]
    simp
theorem BoolsAt.keep {L : Nat} {w w' : World} {A : Option Addr} {l : List Bool} (h : BoolsAt L w A l) (hb : Below L w w') : BoolsAt L w' A l := fun k hk => by
  obtain ⟨b, off, e, h1, h2⟩ := h k hk
  exact ⟨b, off, e, h1, by rw [World.cell?_of_block (hb.block b h1)]; exact h2⟩
set_option maxHeartbeats 6400000 in
set_option maxRecDepth 100000 in
theorem rsafe_any (vB : Value) (A : Option Addr) (c : Nat) (l : List Bool) (w : World) (hl : l.length ≤ 1073741824) (hS : BoolsAt w.heap.size w A l) :
    Calls Try.prog 15 #[.agg #[vB, .slice A l.length c]] w fun e w' => e = .returned (.int .i64 (heads l)) ∧ Below w.heap.size w w' := by
  have HS := hide hS
  have hle := heads_le l
  clear hS
  go_enter Try.func15, Try.ntmps15
  go_wp2_with fail
  have HB0 := hide ((Below.refl w.heap.size w).alloc (Nat.le_refl _) (.cells #[vB, .slice A l.length c] 31))
  have hbx := heap_alloc_new w (.cells #[vB, .slice A l.length c] 31)
  have HBX := hide hbx
  clear hbx
  generalize hW0 : w.alloc (.cells #[vB, .slice A l.length c] 31) = w0 at *
  clear hW0
  go_loopw [3] (fun iv wr => ∃ k : Nat, k ≤ heads l ∧ iv = .int .i64 k ∧ wr = w0) (fun iv _ => heads l - (intOf iv).toNat)
  case atStart => exact ⟨0, Nat.zero_le _, rfl, rfl⟩
  case round =>
    obtain ⟨k, hk, rfl, rfl⟩ := hrel
    have c1 : wr.cell? ⟨w.heap.size, 1, none⟩ = some (.slice A l.length c) := Lib.cell_of_heap HBX.out 1
    have HK := hide hk
    by_cases hlt : k < l.length
    · obtain ⟨b, off, rfl, hb, hcb⟩ := (HS.out.keep HB0.out) k hlt
      by_cases hkk : k < heads l
      · have HKK := hide hkk
        rw [heads_at l k hkk] at hcb
        go_wp2_with fail
        go_roundw
        case rel => exact ⟨k + 1, HKK.out, by go_num, by trivial⟩
        case measure => have := HKK.out; simp only [intOf]; omega
      · have hkh : heads l = k := by omega
        have HKH := hide hkh
        have he := heads_end l (by omega)
        rw [hkh] at he
        rw [he] at hcb
        go_wp2_with fail
        go_ret
        exact ⟨by rw [HKH.out]; rfl, HB0.out⟩
    · have hkh : heads l = k := by omega
      have HKH := hide hkh
      go_wp2_with fail
      go_ret
      exact ⟨by rw [HKH.out]; rfl, HB0.out⟩
theorem cells_one_new (w : World) (x : Value) (t : TypeId) (H : Nat) (hH : w.heap.size = H) : ∀ j u, [x][j]? = some u → (w.alloc (.cells #[x] t)).cell? ((⟨H, 0, none⟩ : Addr).add j) = some u := cells_one_at w x t H hH
theorem own_mono {w : World} {base base' n : Nat} {e : TypeId} {v : Value} {xs : List Value} (h : w.ownsRow base e 1 v n xs) (hb : base' ≤ base) : w.ownsRow base' e 1 v n xs := by
  rcases h with ⟨e0, ⟨e1, e2⟩ | ⟨g', cap, cur, e1, e2, r⟩⟩
  · exact ⟨e0, .inl ⟨e1, e2⟩⟩
  · exact ⟨e0, .inr ⟨g', cap, cur, e1, Nat.le_trans hb e2, r⟩⟩
/-- The local box of first's result, at block G: its two rows. -/
structure FirstAt (G : Nat) (w : World) (v : Nat → Value) (cs : Nat → List Value) : Prop where
  box : w.heap[G]? = some (.cells #[v 0, v 1] 31 (0, 0))
  row : ∀ j, j < 2 → w.ownsRow (G + 1) (rowT j) 1 (v j) (cs j).length (cs j)
  apart : ∀ j k, j < 2 → k < 2 → j ≠ k → ∀ b, (v j).ownBlock = some b → (v k).ownBlock ≠ some b
theorem FirstAt.at {G : Nat} {w : World} {v : Nat → Value} {cs : Nat → List Value} (h : FirstAt G w v cs) {j : Nat} (hj : j < 2) : w.cell? ⟨G, j, none⟩ = some (v j) := by
  rw [Lib.cell_of_heap h.box]
  rcases (by omega : j = 0 ∨ j = 1) with rfl | rfl <;> rfl
theorem FirstAt.lt {G : Nat} {w : World} {v : Nat → Value} {cs : Nat → List Value} (h : FirstAt G w v cs) : G < w.heap.size := (Array.getElem?_eq_some_iff.1 h.box).1
theorem FirstAt.frozen {G : Nat} {w : World} {v : Nat → Value} {cs : Nat → List Value} (h : FirstAt G w v cs) (i : Nat) : w.frozen? ⟨G, i, none⟩ = false := Lib.frozen_of_heap h.box i
theorem FirstAt.keep {G : Nat} {w w' : World} {v : Nat → Value} {cs : Nat → List Value} (h : FirstAt G w v cs) (hb : Below w.heap.size w w') : FirstAt G w' v cs :=
  ⟨(hb.block G h.lt).trans h.box, fun j hj => row_same (h.row j hj) fun b e => hb.block b ((h.row j hj).lt b e).2, h.apart⟩
theorem fput {G j : Nat} {w2 w3 : World} {v : Nat → Value} {cs : Nat → List Value} {v' : Value} {c' : List Value} (hj : j < 2) (h : FirstAt G w2 v cs) (h1 : w3.ownsRow (G + 1) (rowT j) 1 v' c'.length c') (h2 : w2.grownBy w3 (v j).ownBlock) (h3 : v'.ownBlock = (v j).ownBlock ∨ v'.ownBlock = some w2.heap.size) :
    w3.cell? ⟨G, j, none⟩ = some (v j) ∧ w3.frozen? ⟨G, j, none⟩ = false ∧ w2.heap.size ≤ w3.heap.size ∧ FirstAt G (w3.setCell ⟨G, j, none⟩ v') (upd v j v') (upd cs j c') ∧ Below G w2 (w3.setCell ⟨G, j, none⟩ v') := by
  have hlt := h.lt
  have hown := fun b e => (h.row j hj).lt b e
  have hbx : w3.heap[G]? = some (.cells #[v 0, v 1] 31 (0, 0)) := (h2.block G hlt (fun e => by have := hown G e.symm; omega)).trans h.box
  have hc : w3.cell? ⟨G, j, none⟩ = some (v j) := by
    rw [Lib.cell_of_heap hbx]
    rcases (by omega : j = 0 ∨ j = 1) with rfl | rfl <;> rfl
  have hvg : ∀ b, v'.ownBlock = some b → b ≠ G := fun b e => by
    have := h1.lt b e; omega
  refine ⟨hc, Lib.frozen_of_heap hbx _, h2.size, ⟨?_, fun k hk => ?_, fun a k ha hk hne b ea ek => ?_⟩, ?_⟩
  · rw [Joins.block_setCell (i := j) hbx v']
    rcases (by omega : j = 0 ∨ j = 1) with rfl | rfl <;> simp [upd]
  · by_cases e : k = j
    · rw [e, upd_same, upd_same]
      exact row_same h1 fun b e => Below.heap_setCell _ _ _ _ (hvg b e)
    · rw [upd_other _ _ e, upd_other _ _ e]
      refine row_same (h.row k hk) fun b e2 => ?_
      have := (h.row k hk).lt b e2
      rw [Below.heap_setCell _ _ _ _ (show b ≠ G by omega)]
      exact h2.block b this.2 (fun e3 => h.apart k j hk hj e b e2 e3.symm)
  · by_cases e1 : a = j
    · have e2 : k ≠ j := fun e => hne (e1.trans e.symm)
      rw [e1, upd_same] at ea
      rw [upd_other _ _ e2] at ek
      rcases h3 with h3 | h3
      · exact h.apart j k hj hk (fun e => e2 e.symm) b (h3.symm.trans ea) ek
      · rw [ea] at h3; injection h3 with h3; have := (h.row k hk).lt b ek; omega
    · rw [upd_other _ _ e1] at ea
      by_cases e2 : k = j
      · rw [e2, upd_same] at ek
        rcases h3 with h3 | h3
        · exact h.apart a j ha hj e1 b ea (h3.symm.trans ek)
        · rw [ek] at h3; injection h3 with h3; have := (h.row a ha).lt b ea; omega
      · rw [upd_other _ _ e2] at ek
        exact h.apart a k ha hk hne b ea ek
  · refine ⟨h2.os, h2.tape, h2.output, by have := h2.size; simpa [World.setCell] using this, fun b hb => ?_⟩
    rw [Below.heap_setCell _ _ _ _ (show b ≠ G by omega)]
    exact h2.block b (by omega) (fun e => by have := hown b e.symm; omega)
/-- Ahead of round k. -/
def FirstI (G : Nat) (ys : List UInt8) (w0 wr : World) (k : Nat) : Prop := ∃ v cs, FirstAt G wr v cs ∧ cs 0 = byC (ys.take k) ∧ cs 1 = boC (List.replicate k true) ∧ Below G w0 wr
/-- What first hands back: two new rows. -/
def FirstOut (base : Nat) (w : World) (ys : List UInt8) (n : Nat) (r : Value) : Prop := ∃ v1 v2, r = .agg #[v1, v2] ∧ w.ownsRow base 5 1 v1 n (byC (ys.take n)) ∧ w.ownsRow base 4 1 v2 n (boC (List.replicate n true)) ∧ ∀ b, v1.ownBlock = some b → v2.ownBlock ≠ some b
theorem firstOut_of {G : Nat} {w : World} {v : Nat → Value} {cs : Nat → List Value} {ys : List UInt8} {n : Nat} (h : FirstAt G w v cs) (e0 : cs 0 = byC (ys.take n)) (e1 : cs 1 = boC (List.replicate n true)) (hn : n ≤ ys.length) : FirstOut (G + 1) w ys n (.agg #[v 0, v 1]) := by
  have h0 := h.row 0 (by decide)
  have h1 := h.row 1 (by decide)
  rw [e0, byC_len, List.length_take, Nat.min_eq_left hn] at h0
  rw [e1, boC_len, List.length_replicate] at h1
  exact ⟨v 0, v 1, rfl, h0, h1, h.apart 0 1 (by decide) (by decide) (by decide)⟩
theorem FirstOut.set {base base' : Nat} {w w' : World} {ys : List UInt8} {n : Nat} {r : Value} (h : FirstOut base w ys n r) (hb : base' ≤ base) (hh : ∀ b, base ≤ b → w'.heap[b]? = w.heap[b]?) : FirstOut base' w' ys n r := by
  obtain ⟨v1, v2, e, h1, h2, h3⟩ := h
  exact ⟨v1, v2, e, own_mono (row_same h1 fun b e => hh b (h1.lt b e).1) hb, own_mono (row_same h2 fun b e => hh b (h2.lt b e).1) hb, h3⟩
set_option maxHeartbeats 6400000 in
set_option maxRecDepth 100000 in
theorem rfirst_any (A : Option Addr) (c : Nat) (vS : Value) (ys : List UInt8) (n : Nat) (w : World) (hl : ys.length ≤ 1073741824) (hn : n ≤ ys.length) (hY : BytesAt w.heap.size w A ys) :
    Calls Try.prog 36 #[.agg #[.slice A ys.length c, vS], .int .i64 n] w fun e w' => (∃ r, e = .returned r ∧ FirstOut w.heap.size w' ys n r) ∧ Below w.heap.size w w' := by
  have HY := hide hY
  obtain ⟨q0, qi, qz0, qz1, qz2⟩ := info_parts u8_info
  obtain ⟨r0, ri, rz0, rz1, rz2⟩ := info_parts bool_info
  clear hY
  go_enter Try.func36, Try.ntmps36
  go_wp2_with fail
  have HB0 := hide (show Below w.heap.size w (((w.alloc (.cells #[.slice A ys.length c, vS] 31)).alloc (.cells #[.slice none 0 0, .slice none 0 0] 31)).alloc (.cells #[.slice none 0 0, .slice none 0 0] 31)) from (((Below.refl w.heap.size w).alloc (Nat.le_refl _) _).alloc (by simp) _).alloc (by simp; omega) _)
  have hx : ∃ w0, (((w.alloc (.cells #[.slice A ys.length c, vS] 31)).alloc (.cells #[.slice none 0 0, .slice none 0 0] 31)).alloc (.cells #[.slice none 0 0, .slice none 0 0] 31)) = w0 ∧ w0.heap[w.heap.size]? = some (.cells #[.slice A ys.length c, vS] 31 (0, 0)) ∧ w0.heap[w.heap.size + 2]? = some (.cells #[.slice none 0 0, .slice none 0 0] 31 (0, 0)) ∧ w0.heap[w.heap.size + 1]? = some (.cells #[.slice none 0 0, .slice none 0 0] 31 (0, 0)) := by
    have s1 : (w.alloc (.cells #[.slice A ys.length c, vS] 31)).heap.size = w.heap.size + 1 := by simp
    have s2 : ((w.alloc (.cells #[.slice A ys.length c, vS] 31)).alloc (.cells #[.slice none 0 0, .slice none 0 0] 31)).heap.size = w.heap.size + 2 := by simp
    refine ⟨_, rfl, ?_, ?_, ?_⟩
    · rw [Below.heap_alloc _ _ _ (by rw [s2]; omega), Below.heap_alloc _ _ _ (by rw [s1]; omega)]
      exact heap_alloc_new w _
    · have := heap_alloc_new ((w.alloc (.cells #[.slice A ys.length c, vS] 31)).alloc (.cells #[.slice none 0 0, .slice none 0 0] 31)) (.cells #[.slice none 0 0, .slice none 0 0] 31)
      rw [s2] at this
      exact this
    · rw [Below.heap_alloc _ _ _ (by rw [s2]; omega)]
      have := heap_alloc_new (w.alloc (.cells #[.slice A ys.length c, vS] 31)) (.cells #[.slice none 0 0, .slice none 0 0] 31)
      rw [s1] at this
      exact this
  obtain ⟨w0, hW0, hx0, hx2, hx1⟩ := hx
  rw [hW0] at HB0 ⊢
  have HX0 := hide hx0
  have HX1 := hide hx1
  obtain ⟨G, hG⟩ : ∃ G, w.heap.size + 1 + 1 = G := ⟨_, rfl⟩
  rw [hG]
  have hx2' : w0.heap[G]? = some (.cells #[.slice none 0 0, .slice none 0 0] 31 (0, 0)) := by rw [← hG]; exact hx2
  have hG1 : w.heap.size + 2 ≤ G := by omega
  have hG2 : G ≤ w.heap.size + 2 := by omega
  have HI := hide (show FirstI G ys w0 w0 0 from ⟨fun _ => .slice none 0 0, fun _ => [], ⟨hx2', fun j _ => World.ownsRow_nil _ _ _ _, fun j k _ _ _ b e => by cases e⟩, rfl, rfl, Below.refl _ _⟩)
  clear hx0 hx1 hx2 hx2' hW0 hG
  go_loopw [6] (fun iv wr => ∃ k : Nat, k ≤ n ∧ iv = .int .i64 k ∧ FirstI G ys w0 wr k) (fun iv _ => n - (intOf iv).toNat)
  case atStart => exact ⟨0, Nat.zero_le _, rfl, HI.out⟩
  case round =>
    obtain ⟨k, hk, rfl, v, cs, hF, e0, e1, hb⟩ := hrel
    have HF := hide hF
    have HE0 := hide e0
    have HE1 := hide e1
    have HB := hide hb
    have HBw := hide (show Below w.heap.size w wr from HB0.out.trans (hb.mono (by omega)))
    have c0 : wr.cell? ⟨w.heap.size, 0, none⟩ = some (.slice A ys.length c) := by
      rw [World.cell?_of_block (hb.block w.heap.size (by omega)), Lib.cell_of_heap HX0.out]
      rfl
    have cv := hF.at (j := 0) (by decide)
    have fv := hF.frozen 0
    have hlt1 := hF.lt
    have hbw := HBw.out.size
    clear e0 e1 HI
    by_cases hlt : k < n
    · have HK := hide hlt
      have hky : k < ys.length := by omega
      obtain ⟨b, off, rfl, hbb, hcb⟩ := (HY.out.below HBw.out) k (by omega)
      have HYk := hide (show ys.take (k + 1) = ys.take k ++ [ys.getD k 0] by rw [List.take_add_one, List.getElem?_eq_getElem (by omega), List.getD_eq_getElem?_getD, List.getElem?_eq_getElem (by omega)]; rfl)
      generalize ys.getD k 0 = y at *
      have hown1 := hF.row 0 (by decide)
      rw [show (0 : Nat) = 0 * 2 from rfl, rowT_even'] at hown1
      have hlen1 : (cs 0).length ≤ 1073741824 := by
        rw [HE0.out, byC_len, List.length_take]
        omega
      have HOwn := hide (hown1.drew.alloc (.cells #[.int .u8 y.toNat] 5))
      clear hown1 hF hb
      go_wp2_with fail
      go_region_law (refine step_append_lies _ (by rfl) _ _ _ (by rfl) (G + 1) 5 q0 (.int .u8 0) 1 1 Try.underlying28 qi qz0 qz1 qz2 rfl (by decide) (v 0) (cs 0).length (cs 0) (by rfl) HOwn.out ⟨wr.heap.size, 0, none⟩ 1 1 [.int .u8 y.toNat] (by rfl) (by rfl) (cells_one_at _ _ _ _ rfl) (by simp [Value.oneCell']) (by decide) (by unfold maxLen; omega) (by omega) (by simp; omega) _ rfl ?_; intro gg cg w3 hown3 hgrow3 hat3 hlt3; obtain ⟨q6, qf, qs, qR, qT⟩ := fput (j := 0) (c' := cs 0 ++ [.int .u8 y.toNat]) (v' := .slice (some ⟨gg, 0, none⟩) ((cs 0).length + 1) cg) (by omega) (HF.out.keep (((Below.refl _ _).alloc (Nat.le_refl _) (.cells #[.int .u8 y.toNat] 5)).drew)) (by rw [show rowT 0 = 5 from rfl]; simpa using hown3) hgrow3 (hat3.elim (fun h => Or.inl h.symm) (fun h => Or.inr (congrArg some h))); have HF2 := hide qR; have HT2 := hide (((Below.refl wr.heap.size wr).alloc (Nat.le_refl _) (.cells #[.int .u8 y.toNat] 5)).drew.mono (Nat.le_of_lt hlt1) |>.trans qT); clear hown3 hgrow3 hat3 qR qT)
      all_goals
        clear cv fv hcb q6 qf HOwn
        generalize hW4 : w3.setCell ⟨G, 0, none⟩ (.slice (some ⟨gg, 0, none⟩) ((cs 0).length + 1) cg) = w4 at *
        have HZ := hide (show ∃ v4 cs4, FirstAt G w4 v4 cs4 ∧ cs4 0 = cs 0 ++ [.int .u8 y.toNat] ∧ cs4 1 = cs 1 from ⟨_, _, HF2.out, upd_same _ _ _, upd_other _ _ (by decide)⟩)
        clear HF2 hW4
        obtain ⟨v4, cs4, hF4, e40, e41⟩ := HZ.out
        have HF4 := hide hF4
        have HE40 := hide e40
        have HE41 := hide e41
        have cv4 := hF4.at (j := 1) (by decide)
        have fv4 := hF4.frozen 1
        have hown4 := hF4.row 1 (by decide)
        rw [show (1 : Nat) = 0 * 2 + 1 from rfl, rowT_odd'] at hown4
        have hlen4 : (cs4 1).length ≤ 1073741824 := by
          rw [HE41.out, HE1.out, boC_len, List.length_replicate]
          omega
        have hlt4 := hF4.lt
        have HOwn4 := hide (hown4.alloc (.cells #[.bool true] 4))
        clear hown4 hF4 e40 e41 HZ
        go_wp2_with (at_builtin; go_must (refine wpList_append_lies _ (by rfl) _ _ _ (by rfl) (G + 1) 4 r0 (.bool false) 1 1 Try.underlying29 ri rz0 rz1 rz2 rfl (by decide) (v4 1) (cs4 1).length (cs4 1) (by rfl) HOwn4.out ⟨w4.heap.size, 0, none⟩ 1 1 [.bool true] (by rfl) (by rfl) (cells_one_new _ _ _ _ rfl) (by simp [Value.oneCell']) (by decide) (by unfold maxLen; omega) (by omega) (by simp; omega) _ rfl ?_; intro gh ch w5 hown5 hgrow5 hat5 hlt5; obtain ⟨q6, qf, qs5, qR, qT⟩ := fput (j := 1) (c' := cs4 1 ++ [.bool true]) (v' := .slice (some ⟨gh, 0, none⟩) ((cs4 1).length + 1) ch) (by omega) (HF4.out.keep ((Below.refl _ _).alloc (Nat.le_refl _) (.cells #[.bool true] 4))) (by rw [show rowT 1 = 4 from rfl]; simpa using hown5) hgrow5 (hat5.elim (fun h => Or.inl h.symm) (fun h => Or.inr (congrArg some h))); have HF5 := hide qR; have HT5 := hide (((Below.refl w4.heap.size w4).alloc (Nat.le_refl _) (.cells #[.bool true] 4)).mono (Nat.le_of_lt hlt4) |>.trans qT); clear hown5 hgrow5 hat5 qR qT))
        all_goals
          go_roundw
          case rel =>
            refine ⟨k + 1, HK.out, by go_num, _, _, HF5.out, ?_, ?_, HB.out.trans (HT2.out.trans HT5.out)⟩
            · rw [upd_other _ _ (by decide), HE40.out, HE0.out, HYk.out]
              simp [byC]
            · rw [upd_same, HE41.out, HE1.out, List.replicate_succ']
              simp [boC]
          case measure => have := HK.out; simp only [intOf]; omega
    · obtain rfl : k = n := by omega
      obtain ⟨A0, k0, ev0, -, -⟩ := row_slice (hF.row 0 (by decide))
      obtain ⟨A1, k1, ev1, -, -⟩ := row_slice (hF.row 1 (by decide))
      have HV := hide (show FirstOut (G + 1) wr ys k (.agg #[.slice A0 (cs 0).length k0, .slice A1 (cs 1).length k1]) by rw [← ev0, ← ev1]; exact firstOut_of HF.out HE0.out HE1.out hn)
      have cv1 := hF.at (j := 1) (by decide)
      rw [ev0] at cv
      rw [ev1] at cv1
      have h := (hb.block (w.heap.size + 1) (by omega)).trans HX1.out
      have p0 := Lib.cell_of_heap h 0
      have p1 := Lib.cell_of_heap h 1
      have pf0 := Lib.frozen_of_heap h 0
      have pf1 := Lib.frozen_of_heap h 1
      simp at p0 p1
      clear h hF ev0 ev1 hb HF
      generalize hr : Value.agg #[.slice A0 (cs 0).length k0, .slice A1 (cs 1).length k1] = r at HV
      have HW := hide hr
      have HVF := hide (show ∀ w' : World, (∀ b, G + 1 ≤ b → w'.heap[b]? = wr.heap[b]?) → FirstOut w.heap.size w' ys k r from fun w' hh => HV.out.set (by omega) hh)
      clear HV hr
      go_wp2_with fail
      refine bodyPost_ret (v := .agg #[.slice A0 (cs 0).length k0, .slice A1 (cs 1).length k1]) (by simp [results, Try.results36, go_sem, p0, p1]) rfl ?_
      refine ⟨⟨_, rfl, ?_⟩, (HBw.out.setCell (by simp only; omega) _).setCell (by simp only; omega) _⟩
      rw [HW.out]
      refine HVF.out _ fun b hb => ?_
      rw [Below.heap_setCell _ _ _ _ (show b ≠ w.heap.size + 1 by omega), Below.heap_setCell _ _ _ _ (show b ≠ w.heap.size + 1 by omega)]
end Go.Proofs.Ytpjibiimakclfab
