/-
  The calls of a disk that make bytes safe or cut them away.
-/
import Derived.Test.YtkdebebpnkjmdaaDoorKCmd
namespace Go.Proofs.YtkdebebpnkjmdaaDoor
open Go.RowKit

/-- The disk behind a change of one file. -/
def putD (D : DS) (i : Nat) (ys : List UInt8) (s : Int) (v : Value) : DS := ⟨{ D.p with xs := upd D.p.xs i ys, s := upd D.p.s i s }, upd D.v i v⟩
theorem DiskAt.put {base g : Nat} {w w' : World} {D : DS} (h : DiskAt base g w D) {i : Nat} (hi : i < 4) {v : Value} {ys : List UInt8} {s : Int} (ho : w'.os = w.os) (ht : w'.tape = w.tape) (hu : w'.output = w.output) (hs : w.heap.size ≤ w'.heap.size)
    (hbox : w'.heap[g]? = some (.cells (dCells (putD D i ys s v)) 69 (0, 0))) (hrow : w'.ownsRow base 5 1 v ys.length (byC ys))
    (hblk : ∀ b, b < w.heap.size → b ≠ g → (D.v i).ownBlock ≠ some b → w'.heap[b]? = w.heap[b]?) (hown : ∀ b, v.ownBlock = some b → (D.v i).ownBlock = some b ∨ w.heap.size ≤ b) :
    DiskAt base g w' (putD D i ys s v) ∧ Turned g D (putD D i ys s v) w w' := by
  have hlt := h.lt
  have hv : ∀ j, j ≠ i → (putD D i ys s v).v j = D.v j := fun j hj => upd_other _ _ hj
  have hx : ∀ j, j ≠ i → (putD D i ys s v).p.xs j = D.p.xs j := fun j hj => upd_other _ _ hj
  have hvi : (putD D i ys s v).v i = v := upd_same _ _ _
  have hxi : (putD D i ys s v).p.xs i = ys := upd_same _ _ _
  refine ⟨⟨h.hg, hbox, fun j hj => ?_, fun j hj b e => ?_, fun j k hj hk hne b e1 e2 => ?_⟩, ⟨ho, ht, hu, hs, fun b h1 h2 h3 => hblk b h1 h2 (h3 i hi), fun j hj b e => ?_⟩⟩
  · by_cases e : j = i
    · rw [e, hvi, hxi]; exact hrow
    · rw [hv j e, hx j e]
      rcases h.row j hj with ⟨e0, ⟨e1, e2⟩ | ⟨g', cap, cur, e1, e2, e3, r⟩⟩
      · exact ⟨e0, .inl ⟨e1, e2⟩⟩
      · have hob : (D.v j).ownBlock = some g' := by rw [e1]; rfl
        refine ⟨e0, .inr ⟨g', cap, cur, e1, e2, ?_, r⟩⟩
        rw [hblk g' (Array.getElem?_eq_some_iff.1 e3).1 (h.off j hj g' hob) (h.apart j i hj hi e g' hob)]
        exact e3
  · by_cases ej : j = i
    · rw [ej, hvi] at e
      rcases hown b e with h1 | h1
      · exact h.off i hi b h1
      · omega
    · rw [hv j ej] at e
      exact h.off j hj b e
  · by_cases ej : j = i
    · have ek : k ≠ i := fun x => hne (ej.trans x.symm)
      rw [ej, hvi] at e1
      rw [hv k ek] at e2
      rcases hown b e1 with h1 | h1
      · exact h.apart i k hi hk (fun x => ek x.symm) b h1 e2
      · have := (h.row k hk).lt b e2; omega
    · rw [hv j ej] at e1
      by_cases ek : k = i
      · rw [ek, hvi] at e2
        rcases hown b e2 with h1 | h1
        · exact h.apart j i hj hi ej b e1 h1
        · have := (h.row j hj).lt b e1; omega
      · rw [hv k ek] at e2
        exact h.apart j k hj hk hne b e1 e2
  · by_cases ej : j = i
    · rw [ej, hvi] at e
      rcases hown b e with h1 | h1
      · exact .inl ⟨i, hi, h1⟩
      · exact .inr h1
    · rw [hv j ej] at e
      exact .inl ⟨j, hj, e⟩
theorem row_take {w : World} {base : Nat} {e : TypeId} {A : Option Addr} {c n : Nat} {xs : List UInt8} (h : w.ownsRow base e 1 (.slice A xs.length c) xs.length (byC xs)) (hn : n ≤ xs.length) : w.ownsRow base e 1 (.slice A n c) (xs.take n).length (byC (xs.take n)) := by
  have hl : (xs.take n).length = n := by rw [List.length_take]; omega
  refine ⟨by rw [byC_len]; omega, ?_⟩
  rw [hl]
  rcases h.2 with ⟨e1, e2⟩ | ⟨g, cap, cur, e1, e2, e3, e4, e5, e6, e7⟩
  · left
    have : n = 0 := by omega
    rw [this]
    refine ⟨?_, rfl⟩
    rw [e2] at e1
    exact e1
  · right
    injection e1 with a1 a2 a3
    refine ⟨g, cap, cur, by rw [a1, a3], e2, e3, by omega, e5, e6, ?_⟩
    rw [show byC (xs.take n) = (byC xs).take n by simp [byC, List.map_take], ← e7, List.take_take]
    congr 1
    omega
def cutP (p : PD) (i n : Nat) : PD := { p with xs := upd p.xs i ((p.xs i).take n), s := upd p.s i n }
theorem cut_ok {p : PD} (h : p.Ok) {i n : Nat} (hn : n ≤ (p.xs i).length) : (cutP p i n).Ok := by
  have hx : ∀ j, ((cutP p i n).xs j).length ≤ (p.xs j).length := fun j => by
    show (upd p.xs i ((p.xs i).take n) j).length ≤ _
    by_cases e : j = i
    · rw [e, upd_same, List.length_take]; omega
    · rw [upd_other _ _ e]; exact Nat.le_refl _
  refine ⟨h.cap0, h.cap1, ?_, fun j hj => ?_, fun j hj => ?_, h.done0, h.left0, h.left1⟩
  · have := h.used
    have h0 := hx 0
    have h1 := hx 1
    have h2 := hx 2
    have h3 := hx 3
    unfold PD.used at this ⊢
    omega
  · show 0 ≤ upd p.s i (n : Int) j
    by_cases e : j = i
    · rw [e, upd_same]; omega
    · rw [upd_other _ _ e]; exact h.s0 j hj
  · show upd p.s i (n : Int) j ≤ ((upd p.xs i ((p.xs i).take n) j).length : Int)
    by_cases e : j = i
    · rw [e, upd_same, upd_same, List.length_take]; omega
    · rw [upd_other _ _ e, upd_other _ _ e]; exact h.s1 j hj
theorem set2_heap (w : World) {g b a c : Nat} (u v : Value) (h : b ≠ g) : ((w.setCell ⟨g, a, none⟩ u).setCell ⟨g, c, none⟩ v).heap[b]? = w.heap[b]? := by
  rw [Below.heap_setCell _ _ _ _ h, Below.heap_setCell _ _ _ _ h]
theorem row_same {w w' : World} {base n : Nat} {e : TypeId} {v : Value} {xs : List Value} (h : w.ownsRow base e 1 v n xs) (hb : ∀ b, v.ownBlock = some b → w'.heap[b]? = w.heap[b]?) : w'.ownsRow base e 1 v n xs := by
  rcases h with ⟨e0, ⟨e1, e2⟩ | ⟨g', cap, cur, e1, e2, e3, r⟩⟩
  · exact ⟨e0, .inl ⟨e1, e2⟩⟩
  · exact ⟨e0, .inr ⟨g', cap, cur, e1, e2, (hb g' (by rw [e1]; rfl)).trans e3, r⟩⟩
set_option maxHeartbeats 3200000 in
set_option maxRecDepth 100000 in
theorem retain_any {base g : Nat} {D : DS} (i n : Nat) (w : World) (hi : i < 4) (hn : n ≤ (D.p.xs i).length) (hD : DiskAt base g w D) :
    Calls Tryd.prog 57 #[.pointer (some ⟨g, 2 * i, none⟩), .int .i64 n] w fun e w' => e = .returned (.tuple #[]) ∧ ∃ D' : DS, D'.p = cutP D.p i n ∧ DiskAt base g w' D' ∧ Turned g D D' w w' := by
  have hlt := hD.lt
  have HD := hide hD
  obtain ⟨A, c, hA, hc1, hc2⟩ := row_slice (hD.row i hi)
  have hrow := hD.row i hi
  rw [hA] at hrow
  have HR := hide (row_take hrow hn)
  have HOff := hide (show ∀ b, (Value.slice A n c).ownBlock = some b → (D.v i).ownBlock = some b from fun b e => by rw [hA]; cases A <;> exact e)
  unfold maxLen at hc2
  have n0 : (0 : Int) ≤ (n : Int) := by omega
  have n1 : (n : Int) ≤ (c : Int) := by omega
  have n2 : n ≤ c := by omega
  clear hrow
  have HZ := hide (fun (w' : World) (ho : w'.os = w.os) (ht : w'.tape = w.tape) (hu : w'.output = w.output) (hs : w'.heap.size = w.heap.size) (hb : ∀ b, b ≠ g → w'.heap[b]? = w.heap[b]?) (hbox : w'.heap[g]? = some (.cells (dCells (putD D i ((D.p.xs i).take n) n (.slice A n c))) 69 (0, 0))) =>
    (show ∃ D' : DS, D'.p = cutP D.p i n ∧ DiskAt base g w' D' ∧ Turned g D D' w w' from
      ⟨_, rfl, hD.put hi ho ht hu (Nat.le_of_eq hs.symm) hbox (row_same HR.out fun b e => hb b (hD.off i hi b (HOff.out b e))) (fun b _ h _ => hb b h) (fun b e => .inl (HOff.out b e))⟩))
  rcases (by omega : i = 0 ∨ i = 1 ∨ i = 2 ∨ i = 3) with rfl | rfl | rfl | rfl
  · obtain ⟨c0, c1, c2, c3, c4, c5, c6, c7, c8, c9, c10, c11⟩ := hD.cells
    have f0 := hD.frozen 0
    have f1 := hD.frozen 1
    rw [hA] at c0
    have HB := hide (show ((w.setCell ⟨g, 0, none⟩ (.slice A n c)).setCell ⟨g, 1, none⟩ (.int .i64 n)).heap[g]? = some (.cells (dCells (putD D 0 ((D.p.xs 0).take n) n (.slice A n c))) 69 (0, 0)) by
      rw [Joins.block_setCell (i := 1) (Joins.block_setCell (i := 0) hD.box _) _]
      simp [dCells, putD, upd])
    clear hD hA c2 c3 c4 c5 c6 c7 c8 c9 c10 c11
    show Calls Tryd.prog 57 #[.pointer (some ⟨g, 0, none⟩), .int .i64 n] w _
    cases A
    all_goals
      go_enter Tryd.func57, Tryd.ntmps57
      go_wp2_with fail
      refine bodyPost_end (results_none rfl _ _ _) rfl ?_
      exact ⟨rfl, HZ.out _ rfl rfl rfl (by simp) (fun b hb => set2_heap _ _ _ hb) HB.out⟩
  · obtain ⟨c0, c1, c2, c3, c4, c5, c6, c7, c8, c9, c10, c11⟩ := hD.cells
    have f2 := hD.frozen 2
    have f3 := hD.frozen 3
    rw [hA] at c2
    have HB := hide (show ((w.setCell ⟨g, 2, none⟩ (.slice A n c)).setCell ⟨g, 3, none⟩ (.int .i64 n)).heap[g]? = some (.cells (dCells (putD D 1 ((D.p.xs 1).take n) n (.slice A n c))) 69 (0, 0)) by
      rw [Joins.block_setCell (i := 3) (Joins.block_setCell (i := 2) hD.box _) _]
      simp [dCells, putD, upd])
    clear hD hA c0 c1 c4 c5 c6 c7 c8 c9 c10 c11
    show Calls Tryd.prog 57 #[.pointer (some ⟨g, 2, none⟩), .int .i64 n] w _
    cases A
    all_goals
      go_enter Tryd.func57, Tryd.ntmps57
      go_wp2_with fail
      refine bodyPost_end (results_none rfl _ _ _) rfl ?_
      exact ⟨rfl, HZ.out _ rfl rfl rfl (by simp) (fun b hb => set2_heap _ _ _ hb) HB.out⟩
  · obtain ⟨c0, c1, c2, c3, c4, c5, c6, c7, c8, c9, c10, c11⟩ := hD.cells
    have f4 := hD.frozen 4
    have f5 := hD.frozen 5
    rw [hA] at c4
    have HB := hide (show ((w.setCell ⟨g, 4, none⟩ (.slice A n c)).setCell ⟨g, 5, none⟩ (.int .i64 n)).heap[g]? = some (.cells (dCells (putD D 2 ((D.p.xs 2).take n) n (.slice A n c))) 69 (0, 0)) by
      rw [Joins.block_setCell (i := 5) (Joins.block_setCell (i := 4) hD.box _) _]
      simp [dCells, putD, upd])
    clear hD hA c0 c1 c2 c3 c6 c7 c8 c9 c10 c11
    show Calls Tryd.prog 57 #[.pointer (some ⟨g, 4, none⟩), .int .i64 n] w _
    cases A
    all_goals
      go_enter Tryd.func57, Tryd.ntmps57
      go_wp2_with fail
      refine bodyPost_end (results_none rfl _ _ _) rfl ?_
      exact ⟨rfl, HZ.out _ rfl rfl rfl (by simp) (fun b hb => set2_heap _ _ _ hb) HB.out⟩
  · obtain ⟨c0, c1, c2, c3, c4, c5, c6, c7, c8, c9, c10, c11⟩ := hD.cells
    have f6 := hD.frozen 6
    have f7 := hD.frozen 7
    rw [hA] at c6
    have HB := hide (show ((w.setCell ⟨g, 6, none⟩ (.slice A n c)).setCell ⟨g, 7, none⟩ (.int .i64 n)).heap[g]? = some (.cells (dCells (putD D 3 ((D.p.xs 3).take n) n (.slice A n c))) 69 (0, 0)) by
      rw [Joins.block_setCell (i := 7) (Joins.block_setCell (i := 6) hD.box _) _]
      simp [dCells, putD, upd])
    clear hD hA c0 c1 c2 c3 c4 c5 c8 c9 c10 c11
    show Calls Tryd.prog 57 #[.pointer (some ⟨g, 6, none⟩), .int .i64 n] w _
    cases A
    all_goals
      go_enter Tryd.func57, Tryd.ntmps57
      go_wp2_with fail
      refine bodyPost_end (results_none rfl _ _ _) rfl ?_
      exact ⟨rfl, HZ.out _ rfl rfl rfl (by simp) (fun b hb => set2_heap _ _ _ hb) HB.out⟩
def secP (p : PD) (i n : Nat) : PD := if cmdE p = 0 then cutP (cmdP p) i n else cmdP p
theorem cmdE_two (p : PD) : cmdE p = 0 ∨ cmdE p = 40 := by unfold cmdE; split <;> simp
theorem sec_ok {p : PD} (h : p.Ok) {i n : Nat} (hn : n ≤ (p.xs i).length) : (secP p i n).Ok := by
  unfold secP
  split
  · exact cut_ok (cmd_ok h) (by rw [(cmd_xs p).1]; exact hn)
  · exact cmd_ok h
set_option maxHeartbeats 3200000 in
set_option maxRecDepth 100000 in
theorem secure_any {base g : Nat} {D : DS} (i n : Nat) (w : World) (hi : i < 4) (hn : n ≤ (D.p.xs i).length) (hD : DiskAt base g w D) (hO : D.p.Ok) (hd : D.p.done ≤ 1000000000000) :
    Calls Tryd.prog 69 #[vD g, .int .i64 i, .int .i64 n] w fun e w' => e = .returned (.int .i64 (cmdE D.p)) ∧ ∃ D' : DS, D'.p = secP D.p i n ∧ DiskAt base g w' D' ∧ Turned g D D' w w' := by
  have HC := hide (command_any w hD hO hd)
  have HRt := hide (fun D' w' (h1 : D'.p = cmdP D.p) (h2 : DiskAt base g w' D') => retain_any i n w' hi (by rw [h1, (cmd_xs D.p).1]; exact hn) h2)
  have hlen := hO.len hi
  have HS := hide (show secP D.p i n = if cmdE D.p = 0 then cutP (cmdP D.p) i n else cmdP D.p from rfl)
  have hI0 : (0 : Int) ≤ (i : Int) := by omega
  have hI1 : (i : Int) < 4 := by omega
  generalize secP D.p i n = q at *
  clear hD hO hd hn
  rcases cmdE_two D.p with h0 | h0
  · rw [h0] at HC ⊢
    rw [if_pos h0] at HS
    clear h0
    rcases (by omega : i = 0 ∨ i = 1 ∨ i = 2 ∨ i = 3) with rfl | rfl | rfl | rfl
    all_goals
      go_enter Tryd.func69, Tryd.ntmps69
      go_wp2_with fail
      refine HC.out.mono ?_
      rintro e w1 ⟨rfl, D1, e1, -, hD1, hT1⟩
      have HR1 := hide (HRt.out _ _ e1 hD1)
      have HD1 := hide hD1
      have HT1 := hide hT1
      have HE1 := hide e1
      have hlt := hD1.lt
      obtain ⟨c0, c1, c2, c3, c4, c5, c6, c7, c8, c9, c10, c11⟩ := hD1.cells
      clear hD1 hT1 HRt
      go_wp2_with fail
      refine HR1.out.mono ?_
      rintro e w2 ⟨rfl, D2, e2, hD2, hT2⟩
      have HF := hide (show ∃ D' : DS, D'.p = q ∧ DiskAt base g w2 D' ∧ Turned g D D' w w2 from ⟨D2, by rw [e2, HE1.out, HS.out], hD2, HT1.out.trans hT2⟩)
      clear e2 hD2 hT2
      go_wp2_with fail
      go_ret
      exact ⟨rfl, HF.out⟩
  · rw [h0] at HC ⊢
    rw [if_neg (by rw [h0]; decide)] at HS
    clear h0 HRt
    go_enter Tryd.func69, Tryd.ntmps69
    go_wp2_with fail
    refine HC.out.mono ?_
    rintro e w1 ⟨rfl, D1, e1, -, hD1, hT1⟩
    have HF := hide (show ∃ D' : DS, D'.p = q ∧ DiskAt base g w1 D' ∧ Turned g D D' w w1 from ⟨D1, by rw [e1, HS.out], hD1, hT1⟩)
    clear e1 hD1 hT1
    go_wp2_with fail
    go_ret
    exact ⟨rfl, HF.out⟩
/-- What Sync tells and leaves. -/
def synE (p : PD) (n : Int) : Int := if checkE p n = 0 then cmdE p else checkE p n
def synP (p : PD) (n : Int) : PD := if checkE p n = 0 then secP p n.toNat (p.xs n.toNat).length else p
theorem checkE_zero {p : PD} {n : Int} (h : checkE p n = 0) : p.down = false ∧ fileB n = true := by
  unfold checkE at h
  cases hd : p.down
  · refine ⟨rfl, ?_⟩
    rw [hd] at h
    cases hf : fileB n
    · rw [hf] at h; simp at h
    · rfl
  · rw [hd] at h; simp at h
set_option maxHeartbeats 3200000 in
set_option maxRecDepth 100000 in
theorem sync_any {base g : Nat} {D : DS} (n : Int) (w : World) (hD : DiskAt base g w D) (hO : D.p.Ok) (hd : D.p.done ≤ 1000000000000) :
    Calls Tryd.prog 52 #[vD g, .int .i64 n] w fun e w' => e = .returned (.int .i64 (synE D.p n)) ∧ ∃ D' : DS, D'.p = synP D.p n ∧ DiskAt base g w' D' ∧ Turned g D D' w w' := by
  have HC := hide (check_any n w hD)
  have HE := hide (show synE D.p n = if checkE D.p n = 0 then cmdE D.p else checkE D.p n from rfl)
  have HP := hide (show synP D.p n = if checkE D.p n = 0 then secP D.p n.toNat (D.p.xs n.toNat).length else D.p from rfl)
  have HD := hide hD
  by_cases h0 : checkE D.p n = 0
  · obtain ⟨_, hf⟩ := checkE_zero h0
    have hn := fileB_four hf
    have hi : n.toNat < 4 := by omega
    have hlen := hO.len hi
    have HSz := hide (fun w' (h : Below w.heap.size w w') => size_any n w' (hD.below h))
    have HSe := hide (fun w' (h : Below w.heap.size w w') => secure_any n.toNat (D.p.xs n.toNat).length w' hi (Nat.le_refl _) (hD.below h) hO hd)
    rw [show ((n.toNat : Nat) : Int) = n by omega] at HSe
    rw [show sizeD D.p n = ((D.p.xs n.toNat).length : Int) by unfold sizeD; rw [hf]; rfl] at HSz
    rw [if_pos h0] at HE HP
    rw [h0] at HC
    generalize synE D.p n = qe at *
    generalize synP D.p n = qp at *
    clear hD hO hd hf hn hi h0
    go_enter Tryd.func52, Tryd.ntmps52
    go_wp2_with fail
    refine HC.out.mono ?_
    rintro e w1 ⟨rfl, hb1⟩
    have HB1 := hide hb1
    clear hb1
    go_wp2_with fail
    refine (HSz.out _ HB1.out).mono ?_
    rintro e w2 ⟨rfl, hb2⟩
    have HB2 := hide (then_below HB1.out hb2)
    clear hb2
    go_wp2_with fail
    refine (HSe.out _ HB2.out).mono ?_
    rintro e w3 ⟨rfl, D3, e3, hD3, hT3⟩
    have HF := hide (show ∃ D' : DS, D'.p = qp ∧ DiskAt base g w3 D' ∧ Turned g D D' w w3 from ⟨D3, by rw [e3, HP.out], hD3, (Turned.of_below HB2.out).trans hT3⟩)
    clear e3 hD3 hT3
    go_wp2_with fail
    go_ret
    exact ⟨ret_int HE.out.symm, HF.out⟩
  · have hb : (checkE D.p n != 0) = true := by rw [bne_iff_ne]; exact h0
    rw [if_neg h0] at HE HP
    generalize synE D.p n = qe at *
    generalize synP D.p n = qp at *
    generalize checkE D.p n = ce at *
    clear hD hO hd h0
    go_enter Tryd.func52, Tryd.ntmps52
    go_wp2_with fail
    refine HC.out.mono ?_
    rintro e w1 ⟨rfl, hb1⟩
    have HB1 := hide hb1
    clear hb1
    go_wp2_with fail
    go_ret
    exact ⟨ret_int HE.out.symm, D, HP.out.symm, HD.out.below HB1.out, Turned.of_below HB1.out⟩
end Go.Proofs.YtkdebebpnkjmdaaDoor
