/-
  The law's args: the values of an expression's arguments, in order, or the first error.
  The law's step: a column, a constant, an error of the first argument.
  The law's step: what the first argument settles.
  The law's step: all arguments: and, or.
  The law's step: if.
  The law's step: all arguments: either, and what is settled by none.
  The law's step: any typed expression comes to what its arguments say.
  What Eval tells: the errors that it may have, and that a value is right.
-/
import Derived.Test.YteenhmniikloiaaDoorMEval
import Derived.Deep.RegionLaw
import Derived.Test.YteenhmniikloiaaDoorMWhole
namespace Go.Proofs.YteenhmniikloiaaDoor
open Go.RowKit

/-- What args tells of n arguments that come to ev 0, ev 1, ..: their values in a slice, or the first error. -/
def ArgsRes (ev : Nat → (Int × Int × ByteArray) × Int) (n : Nat) (w : World) (e : Ending) (w' : World) : Prop :=
  ((∃ A c vs, e = .returned (.tuple #[.slice A n c, .int .i64 0]) ∧ vs.length = n ∧ RowAt w'.heap.size w' A vs ∧ ∀ j, j < n → vs.getD j d3 = (ev j).1 ∧ (ev j).2 = 0) ∨
   (∃ j, j < n ∧ (∀ i, i < j → (ev i).2 = 0) ∧ ¬ (ev j).2 = 0 ∧ e = .returned (.tuple #[.slice none 0 0, .int .i64 (ev j).2]))) ∧ Below w.heap.size w w'
theorem snoc_at {vs : List (Int × Int × ByteArray)} {k : Nat} {ev : Nat → (Int × Int × ByteArray) × Int} (hl : vs.length = k) (h : ∀ j, j < k → vs.getD j d3 = (ev j).1 ∧ (ev j).2 = 0) (he : (ev k).2 = 0) :
    ∀ j, j < k + 1 → (vs ++ [(ev k).1]).getD j d3 = (ev j).1 ∧ (ev j).2 = 0 := fun j hj => by
  by_cases e : j = k
  · subst e
    refine ⟨?_, he⟩
    rw [List.getD_eq_getElem?_getD, List.getElem?_append_right (by omega), hl]; simp
  · have := h j (by omega)
    refine ⟨?_, this.2⟩
    rw [List.getD_eq_getElem?_getD, List.getElem?_append_left (by omega), ← List.getD_eq_getElem?_getD]
    exact this.1
set_option maxHeartbeats 3200000 in
set_option maxRecDepth 100000 in
theorem args_any (S : Option Addr) (c0 : Nat) (cs : List (ByteArray × Int)) (hwf : Wf cs) (R : Option Addr) (c1 : Nat) (row : List (Int × Int × ByteArray)) (hw : WfR row) (x : XT) (w : World) (hz : szX x ≤ 1000000) (hx : LiesX w.heap.size w x) (hfx : wfX x) (hfi : wfI x)
    (hC : ColsAt w.heap.size w S cs) (hR : RowAt w.heap.size w R row) (hM : Cmps w) (hRl : Rls w) :
    Calls Tryd.prog 43 #[vX x, .slice S cs.length c0, .slice R row.length c1] w (ArgsRes (fun j => evalTop cs row (x.args.getD j dX)) x.args.length w) := by
  obtain ⟨kd, nm, v, o, A, c, ts⟩ := x
  have hal := boxE_below w (.mk kd nm v o A c ts)
  have HX := hide (hx.on hal)
  have HL := hide hal
  have hle := len_szXs ts
  have hsz : szX (.mk kd nm v o A c ts) = 1 + szXs ts := szX_eq _
  have hlen : ts.length ≤ 1000000 := by omega
  have HWE := hide (show boxE w (.mk kd nm v o A c ts) = w.alloc (.cells (eCells kd nm v o A ts.length c) 32) from rfl)
  show Calls Tryd.prog 43 #[.agg (eCells kd nm v o A ts.length c), .slice S cs.length c0, .slice R row.length c1] w (ArgsRes (fun j => evalTop cs row (ts.getD j dX)) ts.length w)
  obtain ⟨ev, hev⟩ : ∃ ev : Nat → (Int × Int × ByteArray) × Int, ev = fun j => evalTop cs row (ts.getD j dX) := ⟨_, rfl⟩
  have hevk : ∀ k, evalTop cs row (ts.getD k dX) = ev k := fun k => by rw [hev]
  rw [← hev]
  have HEv := hide (fun k w' (hk : k < ts.length) (hb : Below (boxE w (.mk kd nm v o A c ts)).heap.size (boxE w (.mk kd nm v o A c ts)) w') (h2 : LiesX w'.heap.size w' (ts.getD k dX)) => (by
    have h := evalTop_any S c0 cs hwf R c1 row hw (ts.getD k dX) w' (by have := szX_arg (x := .mk kd nm v o A c ts) hk; simp only [XT.args] at this; omega) h2 (wfXs_at hfx.2 hk) (wfIs_at hfi.2 hk) ((hC.on hal).on hb) ((hR.on hal).on hb) ((hM.stays hal).stays hb) ((hRl.stays hal).stays hb)
    rw [hevk] at h
    exact h : Calls Tryd.prog 18 #[vX (ts.getD k dX), .slice S cs.length c0, .slice R row.length c1] w' fun e w1 => e = .returned (.tuple #[vOf (ev k).1, .int .i64 (ev k).2]) ∧ Below w'.heap.size w' w1))
  generalize boxE w (.mk kd nm v o A c ts) = W at *
  obtain ⟨i0, hi, hz0, hz1, hz2⟩ := info_parts val_info
  have HBox := hide (fun w' (hb : Below W.heap.size W w') => (show w'.cell? ⟨w.heap.size, 6, none⟩ = some (.slice A ts.length c) from by rw [hb.cell (by rw [HWE.out]; simp)]; rw [HWE.out]; simp))
  clear hx hfx hfi hC hR hM hRl hal hz hwf hw hev hevk hsz hle
  unfold ArgsRes
  go_enter Tryd.func43, Tryd.ntmps43
  go_wp2_with fail
  rw [← HWE.out]
  go_loopw [8, 16] (fun v i wr => ∃ (k : Nat) (vs : List (Int × Int × ByteArray)), k ≤ ts.length ∧ i = .int .i64 k ∧ vs.length = k ∧ wr.ownsRow W.heap.size 29 3 v k (valCells vs) ∧ (∀ j, j < k → vs.getD j d3 = (ev j).1 ∧ (ev j).2 = 0) ∧ Below W.heap.size W wr) (fun _ i _ => ts.length - (intOf i).toNat)
  case atStart => exact ⟨0, [], Nat.zero_le _, rfl, rfl, World.ownsRow_nil _ _ _ _, fun j h => by omega, Below.refl _ _⟩
  case round =>
    obtain ⟨k, vs, hk, rfl, hvl, hrow, hvs, hbw⟩ := hrel
    have hs0 := hbw.size
    by_cases hlt : k < ts.length
    · obtain ⟨b, off, hadr, hb, h7, hly⟩ := (HX.out.keep hbw).at (j := k) hlt
      simp only [XT.adr, XT.args] at hadr h7 hly
      subst hadr
      have HYes := hide (fun (h : (ev k).2 = 0) => snoc_at hvl hvs h)
      have HNo := hide (show ¬ (ev k).2 = 0 → ∀ e : Ending, e = .returned (.tuple #[.slice none 0 0, .int .i64 (ev k).2]) → ∃ j, j < ts.length ∧ (∀ i, i < j → (ev i).2 = 0) ∧ ¬ (ev j).2 = 0 ∧ e = .returned (.tuple #[.slice none 0 0, .int .i64 (ev j).2]) from fun h e he => ⟨k, hlt, fun i hi => (hvs i hi).2, h, he⟩)
      have HVl := hide hvl
      have HLY := hide (hly.mono hs0)
      have hal2 := Joins.below_alloc1 wr (.cells (eCells (ts.getD k dX).kind (ts.getD k dX).name (ts.getD k dX).val (ts.getD k dX).op (ts.getD k dX).adr (ts.getD k dX).args.length (ts.getD k dX).cap) 32)
      have HCall := hide (HEv.out k _ hlt (hbw.trans (hal2.mono hs0)) (HLY.out.on hal2))
      have HQ := hide (hbw.trans (hal2.mono hs0))
      generalize ts.getD k dX = y at *
      generalize ev k = q at HCall HYes HNo
      obtain ⟨q, qe⟩ := q
      simp only at HCall HYes HNo
      obtain ⟨g0, g1, g2, g3, g4, g5, g6⟩ := h7
      have hrow1 := hrow.alloc (.cells (eCells y.kind y.name y.val y.op y.adr y.args.length y.cap) 32)
      have HRow := hide hrow1
      have HR0 := hide hrow
      clear hly hvl hvs hal2 hrow1 hrow hbw
      go_wp2_with fail
      refine HCall.out.mono ?_
      rintro e w3 ⟨rfl, hb3⟩
      have HB3 := hide (then_below HQ.out hb3)
      have r1 := HRow.out.kept (only_of_below hb3 none) (by cases hv : u8.ownBlock <;> simp)
      have HR1 := hide r1
      have hs3 := hb3.size
      clear hb3 g0 g1 g2 g3 g4 g5 g6 r1
      by_cases h2 : qe = 0
      · subst h2
        have HT1 := hide (HYes.out rfl)
        clear HYes HNo
        have hWr := HQ.out.size
        have hWs := HB3.out.size
        go_wp2_with (at_builtin; go_must (refine wpList_append_own _ rfl _ _ 49 rfl W.heap.size 29 i0 (.agg #[.int .i64 0, .int .i64 0, .string ⟨#[]⟩]) 3 32 Tryd.underlying49 hi hz0 hz1 hz2 rfl (by decide) _ _ _ rfl ((HR1.out.alloc _).alloc _) ⟨w3.heap.size + 1, 0, none⟩ 1 1 [.int .i64 q.1, .int .i64 q.2.1, .string q.2.2] rfl rfl (val_new _ _ q _ (by simp)) (val_one q) (by unfold maxLen; omega) (by omega) (by simp; omega) ?_))
        intro v' w4 hown' hgrow _
        have hs4 := hgrow.size
        simp at hs4
        have HO := hide hown'
        have HB4 := hide (((HB3.out.alloc hWs (.cells #[.int .i64 q.1, .int .i64 q.2.1, .string q.2.2] 29)).alloc (by simp; omega) (.cells #[.int .i64 q.1, .int .i64 q.2.1, .string q.2.2] 29)).grown hgrow (by simp; omega) (fun j hj => (HR0.out.lt j hj).1))
        clear hgrow hown'
        go_wp2_with fail
        go_roundw
        case rel =>
          refine ⟨k + 1, vs ++ [q], by omega, by go_num, by rw [List.length_append, HVl.out]; rfl, ?_, HT1.out, HB4.out⟩
          rw [valCells_snoc]; exact HO.out
        case measure => simp [intOf]; omega
      · have n2 : (qe != 0) = true := by rw [bne_iff_ne]; exact h2
        have HF := hide (HNo.out h2 _ rfl)
        clear HYes HNo h2
        go_wp2_with fail
        go_ret2
        exact ⟨.inr HF.out, HL.out.trans ((HB3.out.alloc HB3.out.size _).mono HL.out.size)⟩
    · obtain rfl : k = ts.length := by omega
      rw [← hvl] at hrow
      obtain ⟨A1, c1', rfl, hA⟩ := row_of_row hrow
      have HF := hide (show vs.length = ts.length ∧ RowAt wr.heap.size wr A1 vs ∧ ∀ j, j < ts.length → vs.getD j d3 = (ev j).1 ∧ (ev j).2 = 0 from ⟨hvl, hA, hvs⟩)
      have HB := hide (HL.out.trans (hbw.mono HL.out.size))
      rw [hvl]
      clear hA hvs hrow hbw hvl
      go_wp2_with fail
      go_ret2
      exact ⟨.inl ⟨A1, c1', vs, rfl, HF.out⟩, HB.out⟩
end Go.Proofs.YteenhmniikloiaaDoor
namespace Go.Proofs.YteenhmniikloiaaDoor
open Go.RowKit

/-- The world of step ahead of its calls: the expression's box, and the value's. -/
def stW (w : World) (x : XT) (v : Int × Int × ByteArray) : World := (w.alloc (.cells (eCells x.kind x.name x.val x.op x.adr x.args.length x.cap) 32)).alloc (.cells #[.int .i64 v.1, .int .i64 v.2.1, .string v.2.2] 29)
theorem stW_below (w : World) (x : XT) (v : Int × Int × ByteArray) : Below w.heap.size w (stW w x v) := Joins.below_alloc2 w _ _
theorem stW_at {w : World} {x : XT} {v : Int × Int × ByteArray} {w' : World} (h : Below (stW w x v).heap.size (stW w x v) w') :
    w'.cell? ⟨w.heap.size, 0, none⟩ = some (.int .i64 x.kind) ∧ w'.cell? ⟨w.heap.size, 1, none⟩ = some (.string x.name) ∧ w'.cell? ⟨w.heap.size, 2, none⟩ = some (.int .i64 x.val.1) ∧ w'.cell? ⟨w.heap.size, 3, none⟩ = some (.int .i64 x.val.2.1) ∧
    w'.cell? ⟨w.heap.size, 4, none⟩ = some (.string x.val.2.2) ∧ w'.cell? ⟨w.heap.size, 5, none⟩ = some (.string x.op) ∧ w'.cell? ⟨w.heap.size, 6, none⟩ = some (.slice x.adr x.args.length x.cap) ∧
    w'.cell? ⟨w.heap.size + 1, 0, none⟩ = some (.int .i64 v.1) ∧ w'.cell? ⟨w.heap.size + 1, 1, none⟩ = some (.int .i64 v.2.1) ∧ w'.cell? ⟨w.heap.size + 1, 2, none⟩ = some (.string v.2.2) ∧ w.heap.size < w'.heap.size ∧ w.heap.size + 1 < w'.heap.size := by
  have s1 : (w.alloc (.cells (eCells x.kind x.name x.val x.op x.adr x.args.length x.cap) 32)).heap.size = w.heap.size + 1 := by simp
  have s3 : (stW w x v).heap.size = w.heap.size + 2 := by simp [stW]
  have h0 : (stW w x v).heap[w.heap.size]? = some (.cells (eCells x.kind x.name x.val x.op x.adr x.args.length x.cap) 32 (0, 0)) := by
    unfold stW
    rw [Below.heap_alloc _ _ _ (by rw [s1]; omega)]
    exact heap_alloc_new w _
  have h1 : (stW w x v).heap[w.heap.size + 1]? = some (.cells #[.int .i64 v.1, .int .i64 v.2.1, .string v.2.2] 29 (0, 0)) := by
    unfold stW
    rw [← s1]
    exact heap_alloc_new _ _
  have k0 := (h.block w.heap.size (by omega)).trans h0
  have k1 := (h.block (w.heap.size + 1) (by omega)).trans h1
  have := h.size
  exact ⟨Lib.cell_of_heap k0 0, Lib.cell_of_heap k0 1, Lib.cell_of_heap k0 2, Lib.cell_of_heap k0 3, Lib.cell_of_heap k0 4, Lib.cell_of_heap k0 5, Lib.cell_of_heap k0 6, Lib.cell_of_heap k1 0, Lib.cell_of_heap k1 1, Lib.cell_of_heap k1 2, by omega, by omega⟩
set_option maxHeartbeats 3200000 in
set_option maxRecDepth 100000 in
theorem step_const (kd : Int) (nm : ByteArray) (xv : Int × Int × ByteArray) (o : ByteArray) (A : Option Addr) (c : Nat) (ts : List XT) (S : Option Addr) (c0 : Nat) (cs : List (ByteArray × Int)) (R : Option Addr) (c1 : Nat) (row : List (Int × Int × ByteArray)) (w : World) (b1 : (kd == 1) = false) (b2 : (kd == 2) = true) :
    Calls Tryd.prog 21 #[vX (.mk kd nm xv o A c ts), .slice S cs.length c0, .slice R row.length c1, vVal xv.1 xv.2.1 xv.2.2, .int .i64 0] w fun e w' => e = .returned (.bool true) ∧ Below w.heap.size w w' := by
  have hq : ∀ w : World, (binOp .eql 29 (vVal xv.1 xv.2.1 xv.2.2) (vVal xv.1 xv.2.1 xv.2.2)).run Tryd.prog w = .ok (.bool true) w := fun w => (run_eql_val xv.1 xv.2.1 xv.1 xv.2.1 xv.2.2 xv.2.2 w).trans (by simp)
  have hg := fun u u' w => run_guard_val xv.1 xv.2.1 xv.1 xv.2.1 xv.2.2 xv.2.2 u u' w
  have hal := stW_below w (.mk kd nm xv o A c ts) (xv.1, xv.2.1, xv.2.2)
  have HAt := hide (fun w' => stW_at (w := w) (x := (.mk kd nm xv o A c ts)) (v := (xv.1, xv.2.1, xv.2.2)) (w' := w'))
  have HL := hide hal
  have HWE := hide (show stW w (.mk kd nm xv o A c ts) (xv.1, xv.2.1, xv.2.2) = (w.alloc (.cells (eCells kd nm xv o A ts.length c) 32)).alloc (.cells #[.int .i64 xv.1, .int .i64 xv.2.1, .string xv.2.2] 29) from rfl)
  simp only [XT.kind, XT.name, XT.val, XT.op, XT.adr, XT.args, XT.cap] at HAt
  show Calls Tryd.prog 21 #[.agg (eCells kd nm xv o A ts.length c), .slice S cs.length c0, .slice R row.length c1, vVal xv.1 xv.2.1 xv.2.2, .int .i64 _] w _
  generalize stW w (.mk kd nm xv o A c ts) (xv.1, xv.2.1, xv.2.2) = W at *
  clear hal
  go_enter Tryd.func21, Tryd.ntmps21
  go_wp2_with fail
  go_ret
  exact ⟨rfl, by go_grown⟩

set_option maxHeartbeats 3200000 in
set_option maxRecDepth 100000 in
theorem step_column (kd : Int) (nm : ByteArray) (xv : Int × Int × ByteArray) (o : ByteArray) (A : Option Addr) (c : Nat) (ts : List XT) (S : Option Addr) (c0 : Nat) (cs : List (ByteArray × Int)) (R : Option Addr) (c1 : Nat) (row : List (Int × Int × ByteArray)) (k n : Int) (s : ByteArray)  (w : World) (hC : ColsAt w.heap.size w S cs) (hR : RowAt w.heap.size w R row) (hlc : cs.length ≤ maxLen) (hk : findK cs nm < cs.length) (hrl : row.length = cs.length) (hv : row.getD (findK cs nm) d3 = (k, n, s)) (b1 : (kd == 1) = true) :
    Calls Tryd.prog 21 #[vX (.mk kd nm xv o A c ts), .slice S cs.length c0, .slice R row.length c1, vVal k n s, .int .i64 0] w fun e w' => e = .returned (.bool true) ∧ Below w.heap.size w w' := by
  have HFi := hide (fun w' h => (find_any S c0 cs nm w' h hlc).mono fun e w1 hh => (⟨by rw [hh.1, foundV_at hk rfl], hh.2⟩ : e = .returned (.tuple #[.int .i64 (findK cs nm : Nat), .bool true]) ∧ Below w'.heap.size w' w1))
  have hir : findK cs nm < row.length := by omega
  generalize findK cs nm = i at *
  have hq : ∀ w : World, (binOp .eql 29 (vVal k n s) (vVal k n s)).run Tryd.prog w = .ok (.bool true) w := fun w => (run_eql_val k n k n s s w).trans (by simp)
  have hg := fun u u' w => run_guard_val k n k n s s u u' w
  have hal := stW_below w (.mk kd nm xv o A c ts) (k, n, s)
  have HAt := hide (fun w' => stW_at (w := w) (x := (.mk kd nm xv o A c ts)) (v := (k, n, s)) (w' := w'))
  have HL := hide hal
  have HWE := hide (show stW w (.mk kd nm xv o A c ts) (k, n, s) = (w.alloc (.cells (eCells kd nm xv o A ts.length c) 32)).alloc (.cells #[.int .i64 k, .int .i64 n, .string s] 29) from rfl)
  simp only [XT.kind, XT.name, XT.val, XT.op, XT.adr, XT.args, XT.cap] at HAt
  show Calls Tryd.prog 21 #[.agg (eCells kd nm xv o A ts.length c), .slice S cs.length c0, .slice R row.length c1, vVal k n s, .int .i64 _] w _
  generalize stW w (.mk kd nm xv o A c ts) (k, n, s) = W at *
  clear hal
  have HCo := hide (hC.on HL.out)
  have HRo := hide (hR.on HL.out)
  have hi1 : (i : Int) < (row.length : Int) := by omega
  have hi0 : (0 : Int) ≤ (i : Int) := by omega
  clear hC hR hlc hk hrl
  go_enter Tryd.func21, Tryd.ntmps21
  go_wp2_with fail
  rw [← HWE.out]
  refine (HFi.out _ HCo.out).mono ?_
  rintro e w2 ⟨rfl, hb2⟩
  have HB2 := hide hb2
  obtain ⟨a0, a1, a2, a3, a4, a5, a6, b0, b1, b2, hy, hz⟩ := HAt.out _ hb2
  obtain ⟨b, off, rfl, hb, g0, g1, g2⟩ := HRo.out.below hb2 i hir
  rw [show row.getD i (0, 0, ⟨#[]⟩) = row.getD i d3 from rfl, hv] at g0 g1 g2
  clear hb2 hv
  go_wp2_with fail
  go_region
  go_wp2_with fail
  go_ret
  exact ⟨rfl, HL.out.trans (HB2.out.drew.mono HL.out.size)⟩

set_option maxHeartbeats 3200000 in
set_option maxRecDepth 100000 in
theorem step_first (kd : Int) (nm : ByteArray) (xv : Int × Int × ByteArray) (o : ByteArray) (A : Option Addr) (c : Nat) (ts : List XT) (S : Option Addr) (c0 : Nat) (cs : List (ByteArray × Int)) (R : Option Addr) (c1 : Nat) (row : List (Int × Int × ByteArray)) (k n : Int) (s : ByteArray)  (w : World) (hx : LiesX w.heap.size w (.mk kd nm xv o A c ts)) (hl0 : 0 < ts.length) (f : Int × Int × ByteArray) (fe : Int) (hfe : ¬ fe = 0) (hE : ∀ w', Below w.heap.size w w' → Calls Tryd.prog 18 #[vX (ts.getD 0 dX), .slice S cs.length c0, .slice R row.length c1] w' fun e w1 => e = .returned (.tuple #[vOf f, .int .i64 fe]) ∧ Below w'.heap.size w' w1) (b1 : (kd == 1) = false) (b2 : (kd == 2) = false) :
    Calls Tryd.prog 21 #[vX (.mk kd nm xv o A c ts), .slice S cs.length c0, .slice R row.length c1, vVal k n s, .int .i64 fe] w fun e w' => e = .returned (.bool true) ∧ Below w.heap.size w w' := by
  have HE := hide hE
  obtain ⟨b, off, hadr, hb, h7, -⟩ := hx.at (j := 0) hl0
  simp only [XT.adr, XT.args] at hadr h7
  rw [show off + 0 * 7 = off by omega] at h7
  subst hadr
  generalize ts.getD 0 dX = y at *
  obtain ⟨g0, g1, g2, g3, g4, g5, g6⟩ := h7
  have hl0' : (0 : Int) < (ts.length : Int) := by omega
  clear hx hE
  have hq : ∀ w : World, (binOp .eql 29 (vVal k n s) (vVal k n s)).run Tryd.prog w = .ok (.bool true) w := fun w => (run_eql_val k n k n s s w).trans (by simp)
  have hg := fun u u' w => run_guard_val k n k n s s u u' w
  have hal := stW_below w (.mk kd nm xv o (some ⟨b, off, none⟩) c ts) (k, n, s)
  have HAt := hide (fun w' => stW_at (w := w) (x := (.mk kd nm xv o (some ⟨b, off, none⟩) c ts)) (v := (k, n, s)) (w' := w'))
  have HL := hide hal
  have HWE := hide (show stW w (.mk kd nm xv o (some ⟨b, off, none⟩) c ts) (k, n, s) = (w.alloc (.cells (eCells kd nm xv o (some ⟨b, off, none⟩) ts.length c) 32)).alloc (.cells #[.int .i64 k, .int .i64 n, .string s] 29) from rfl)
  simp only [XT.kind, XT.name, XT.val, XT.op, XT.adr, XT.args, XT.cap] at HAt
  show Calls Tryd.prog 21 #[.agg (eCells kd nm xv o (some ⟨b, off, none⟩) ts.length c), .slice S cs.length c0, .slice R row.length c1, vVal k n s, .int .i64 _] w _
  generalize stW w (.mk kd nm xv o (some ⟨b, off, none⟩) c ts) (k, n, s) = W at *
  clear hal
  have nf : (fe != 0) = true := by rw [bne_iff_ne]; exact hfe
  go_enter Tryd.func21, Tryd.ntmps21
  go_wp2_with fail
  rw [← HWE.out]
  refine (HE.out _ HL.out).mono ?_
  rintro e w3 ⟨rfl, hb3⟩
  have HB3 := hide hb3
  have hb4 := Joins.below_alloc1 w3 (.cells #[.int .i64 f.1, .int .i64 f.2.1, .string f.2.2] 29)
  have HB4 := hide (then_below hb3 hb4)
  have HF4 := hide (show At3 (w3.alloc (.cells #[.int .i64 f.1, .int .i64 f.2.1, .string f.2.2] 29)) w3.heap.size f from ⟨by simp, by simp, by simp, by simp⟩)
  obtain ⟨a0, a1, a2, a3, a4, a5, a6, b0, b1, b2, hy, hz⟩ := HAt.out _ HB3.out
  clear hb3 hb4 g0 g1 g2 g3 g4 g5 g6
  go_wp2_with fail
  go_ret
  exact ⟨rfl, HL.out.trans (HB4.out.mono HL.out.size)⟩

end Go.Proofs.YteenhmniikloiaaDoor
namespace Go.Proofs.YteenhmniikloiaaDoor
open Go.RowKit

set_option maxHeartbeats 3200000 in
set_option maxRecDepth 100000 in
theorem step_and0 (kd : Int) (nm : ByteArray) (xv : Int × Int × ByteArray) (o : ByteArray) (A : Option Addr) (c : Nat) (ts : List XT) (S : Option Addr) (c0 : Nat) (cs : List (ByteArray × Int)) (R : Option Addr) (c1 : Nat) (row : List (Int × Int × ByteArray)) (w : World) (hx : LiesX w.heap.size w (.mk kd nm xv o A c ts)) (hl0 : 0 < ts.length) (f : Int × Int × ByteArray) (hE : ∀ w', Below w.heap.size w w' → Calls Tryd.prog 18 #[vX (ts.getD 0 dX), .slice S cs.length c0, .slice R row.length c1] w' fun e w1 => e = .returned (.tuple #[vOf f, .int .i64 0]) ∧ Below w'.heap.size w' w1) (b1 : (kd == 1) = false) (b2 : (kd == 2) = false) (e1 : (o.toList == [97, 110, 100]) = true) (ht : trueV f = false) :
    Calls Tryd.prog 21 #[vX (.mk kd nm xv o A c ts), .slice S cs.length c0, .slice R row.length c1, vVal 1 0 ⟨#[]⟩, .int .i64 0] w fun e w' => e = .returned (.bool true) ∧ Below w.heap.size w w' := by
  have HTr := hide (show ∀ w', Calls Tryd.prog 42 #[vVal f.1 f.2.1 f.2.2] w' fun e w1 => e = .returned (.bool (trueV f)) ∧ Below w'.heap.size w' w1 from fun w' => true_any f.1 f.2.1 f.2.2 w')
  rw [ht] at HTr
  clear ht
  have HE := hide hE
  obtain ⟨b, off, hadr, hb, h7, -⟩ := hx.at (j := 0) hl0
  simp only [XT.adr, XT.args] at hadr h7
  rw [show off + 0 * 7 = off by omega] at h7
  subst hadr
  generalize ts.getD 0 dX = y at *
  obtain ⟨g0, g1, g2, g3, g4, g5, g6⟩ := h7
  have hl0' : (0 : Int) < (ts.length : Int) := by omega
  clear hx hE
  have hq : ∀ w : World, (binOp .eql 29 (vVal 1 0 ⟨#[]⟩) (vVal 1 0 ⟨#[]⟩)).run Tryd.prog w = .ok (.bool true) w := fun w => (run_eql_val 1 0 1 0 ⟨#[]⟩ ⟨#[]⟩ w).trans (by simp)
  have hg := fun u u' w => run_guard_val 1 0 1 0 ⟨#[]⟩ ⟨#[]⟩ u u' w
  have hal := stW_below w (.mk kd nm xv o (some ⟨b, off, none⟩) c ts) (1, 0, ⟨#[]⟩)
  have HAt := hide (fun w' => stW_at (w := w) (x := (.mk kd nm xv o (some ⟨b, off, none⟩) c ts)) (v := (1, 0, ⟨#[]⟩)) (w' := w'))
  have HL := hide hal
  have HWE := hide (show stW w (.mk kd nm xv o (some ⟨b, off, none⟩) c ts) (1, 0, ⟨#[]⟩) = (w.alloc (.cells (eCells kd nm xv o (some ⟨b, off, none⟩) ts.length c) 32)).alloc (.cells #[.int .i64 1, .int .i64 0, .string ⟨#[]⟩] 29) from rfl)
  simp only [XT.kind, XT.name, XT.val, XT.op, XT.adr, XT.args, XT.cap] at HAt
  show Calls Tryd.prog 21 #[.agg (eCells kd nm xv o (some ⟨b, off, none⟩) ts.length c), .slice S cs.length c0, .slice R row.length c1, vVal 1 0 ⟨#[]⟩, .int .i64 _] w _
  generalize stW w (.mk kd nm xv o (some ⟨b, off, none⟩) c ts) (1, 0, ⟨#[]⟩) = W at *
  clear hal
  go_enter Tryd.func21, Tryd.ntmps21
  go_wp2_with fail
  rw [← HWE.out]
  refine (HE.out _ HL.out).mono ?_
  rintro e w3 ⟨rfl, hb3⟩
  have HB3 := hide hb3
  have hb4 := Joins.below_alloc1 w3 (.cells #[.int .i64 f.1, .int .i64 f.2.1, .string f.2.2] 29)
  have HB4 := hide (then_below hb3 hb4)
  have HF4 := hide (show At3 (w3.alloc (.cells #[.int .i64 f.1, .int .i64 f.2.1, .string f.2.2] 29)) w3.heap.size f from ⟨by simp, by simp, by simp, by simp⟩)
  obtain ⟨a0, a1, a2, a3, a4, a5, a6, b0, b1, b2, hy, hz⟩ := HAt.out _ HB3.out
  clear hb3 hb4 g0 g1 g2 g3 g4 g5 g6
  go_wp2_with fail
  generalize (w3.alloc (.cells #[.int .i64 f.1, .int .i64 f.2.1, .string f.2.2] 29)) = W4 at *
  generalize w3.heap.size = Q at *
  refine (HTr.out _).mono ?_
  rintro e w5 ⟨rfl, hb5⟩
  have HB5 := hide (then_below HB4.out hb5)
  have HF5 := hide (HF4.out.on hb5)
  clear hb5
  clear a0 a1 a2 a3 a4 a5 a6 b0 b1 b2 hy hz
  obtain ⟨a0, a1, a2, a3, a4, a5, a6, b0, b1, b2, hy, hz⟩ := HAt.out _ HB5.out
  obtain ⟨x0, x1, x2, xz⟩ := HF5.out
  go_wp2_with fail
  have hD : Below w5.heap.size w5 w5.drew := (Below.refl _ _).drew
  focus
    (go_region_law (first
      | (go_simp; go_at_call 27; refine (of_any 0 _).mono ?_; rintro e wB ⟨rfl, hbB⟩; have hB := then_below hD hbB; have ⟨Ba0, Ba1, Ba2, Ba3, Ba4, Ba5, Ba6, Bb0, Bb1, Bb2, Bhy, Bhz⟩ := HAt.out _ (then_below HB5.out hB); clear hbB)))
  all_goals
    go_wp2_with fail
    go_ret
    exact ⟨rfl, HL.out.trans ((then_below HB5.out hB).mono HL.out.size)⟩

set_option maxHeartbeats 3200000 in
set_option maxRecDepth 100000 in
theorem step_or1 (kd : Int) (nm : ByteArray) (xv : Int × Int × ByteArray) (o : ByteArray) (A : Option Addr) (c : Nat) (ts : List XT) (S : Option Addr) (c0 : Nat) (cs : List (ByteArray × Int)) (R : Option Addr) (c1 : Nat) (row : List (Int × Int × ByteArray)) (w : World) (hx : LiesX w.heap.size w (.mk kd nm xv o A c ts)) (hl0 : 0 < ts.length) (f : Int × Int × ByteArray) (hE : ∀ w', Below w.heap.size w w' → Calls Tryd.prog 18 #[vX (ts.getD 0 dX), .slice S cs.length c0, .slice R row.length c1] w' fun e w1 => e = .returned (.tuple #[vOf f, .int .i64 0]) ∧ Below w'.heap.size w' w1) (b1 : (kd == 1) = false) (b2 : (kd == 2) = false) (e1 : (o.toList == [97, 110, 100]) = false) (e2 : (o.toList == [111, 114]) = true) (ht : trueV f = true) :
    Calls Tryd.prog 21 #[vX (.mk kd nm xv o A c ts), .slice S cs.length c0, .slice R row.length c1, vVal 1 1 ⟨#[]⟩, .int .i64 0] w fun e w' => e = .returned (.bool true) ∧ Below w.heap.size w w' := by
  have HTr := hide (show ∀ w', Calls Tryd.prog 42 #[vVal f.1 f.2.1 f.2.2] w' fun e w1 => e = .returned (.bool (trueV f)) ∧ Below w'.heap.size w' w1 from fun w' => true_any f.1 f.2.1 f.2.2 w')
  rw [ht] at HTr
  clear ht
  have HE := hide hE
  obtain ⟨b, off, hadr, hb, h7, -⟩ := hx.at (j := 0) hl0
  simp only [XT.adr, XT.args] at hadr h7
  rw [show off + 0 * 7 = off by omega] at h7
  subst hadr
  generalize ts.getD 0 dX = y at *
  obtain ⟨g0, g1, g2, g3, g4, g5, g6⟩ := h7
  have hl0' : (0 : Int) < (ts.length : Int) := by omega
  clear hx hE
  have hq : ∀ w : World, (binOp .eql 29 (vVal 1 1 ⟨#[]⟩) (vVal 1 1 ⟨#[]⟩)).run Tryd.prog w = .ok (.bool true) w := fun w => (run_eql_val 1 1 1 1 ⟨#[]⟩ ⟨#[]⟩ w).trans (by simp)
  have hg := fun u u' w => run_guard_val 1 1 1 1 ⟨#[]⟩ ⟨#[]⟩ u u' w
  have hal := stW_below w (.mk kd nm xv o (some ⟨b, off, none⟩) c ts) (1, 1, ⟨#[]⟩)
  have HAt := hide (fun w' => stW_at (w := w) (x := (.mk kd nm xv o (some ⟨b, off, none⟩) c ts)) (v := (1, 1, ⟨#[]⟩)) (w' := w'))
  have HL := hide hal
  have HWE := hide (show stW w (.mk kd nm xv o (some ⟨b, off, none⟩) c ts) (1, 1, ⟨#[]⟩) = (w.alloc (.cells (eCells kd nm xv o (some ⟨b, off, none⟩) ts.length c) 32)).alloc (.cells #[.int .i64 1, .int .i64 1, .string ⟨#[]⟩] 29) from rfl)
  simp only [XT.kind, XT.name, XT.val, XT.op, XT.adr, XT.args, XT.cap] at HAt
  show Calls Tryd.prog 21 #[.agg (eCells kd nm xv o (some ⟨b, off, none⟩) ts.length c), .slice S cs.length c0, .slice R row.length c1, vVal 1 1 ⟨#[]⟩, .int .i64 _] w _
  generalize stW w (.mk kd nm xv o (some ⟨b, off, none⟩) c ts) (1, 1, ⟨#[]⟩) = W at *
  clear hal
  go_enter Tryd.func21, Tryd.ntmps21
  go_wp2_with fail
  rw [← HWE.out]
  refine (HE.out _ HL.out).mono ?_
  rintro e w3 ⟨rfl, hb3⟩
  have HB3 := hide hb3
  have hb4 := Joins.below_alloc1 w3 (.cells #[.int .i64 f.1, .int .i64 f.2.1, .string f.2.2] 29)
  have HB4 := hide (then_below hb3 hb4)
  have HF4 := hide (show At3 (w3.alloc (.cells #[.int .i64 f.1, .int .i64 f.2.1, .string f.2.2] 29)) w3.heap.size f from ⟨by simp, by simp, by simp, by simp⟩)
  obtain ⟨a0, a1, a2, a3, a4, a5, a6, b0, b1, b2, hy, hz⟩ := HAt.out _ HB3.out
  clear hb3 hb4 g0 g1 g2 g3 g4 g5 g6
  go_wp2_with fail
  generalize (w3.alloc (.cells #[.int .i64 f.1, .int .i64 f.2.1, .string f.2.2] 29)) = W4 at *
  generalize w3.heap.size = Q at *
  refine (HTr.out _).mono ?_
  rintro e w5 ⟨rfl, hb5⟩
  have HB5 := hide (then_below HB4.out hb5)
  have HF5 := hide (HF4.out.on hb5)
  clear hb5
  clear a0 a1 a2 a3 a4 a5 a6 b0 b1 b2 hy hz
  obtain ⟨a0, a1, a2, a3, a4, a5, a6, b0, b1, b2, hy, hz⟩ := HAt.out _ HB5.out
  obtain ⟨x0, x1, x2, xz⟩ := HF5.out
  go_wp2_with fail
  have hD : Below w5.heap.size w5 w5.drew := (Below.refl _ _).drew
  focus
    (go_region_law (first
      | (go_simp; go_at_call 27; refine (of_any 1 _).mono ?_; rintro e wB ⟨rfl, hbB⟩; have hB := then_below hD hbB; have ⟨Ba0, Ba1, Ba2, Ba3, Ba4, Ba5, Ba6, Bb0, Bb1, Bb2, Bhy, Bhz⟩ := HAt.out _ (then_below HB5.out hB); clear hbB)))
  all_goals
    go_wp2_with fail
    go_ret
    exact ⟨rfl, HL.out.trans ((then_below HB5.out hB).mono HL.out.size)⟩

set_option maxHeartbeats 3200000 in
set_option maxRecDepth 100000 in
theorem step_either1 (kd : Int) (nm : ByteArray) (xv : Int × Int × ByteArray) (o : ByteArray) (A : Option Addr) (c : Nat) (ts : List XT) (S : Option Addr) (c0 : Nat) (cs : List (ByteArray × Int)) (R : Option Addr) (c1 : Nat) (row : List (Int × Int × ByteArray)) (w : World) (hx : LiesX w.heap.size w (.mk kd nm xv o A c ts)) (hl0 : 0 < ts.length) (f : Int × Int × ByteArray) (hE : ∀ w', Below w.heap.size w w' → Calls Tryd.prog 18 #[vX (ts.getD 0 dX), .slice S cs.length c0, .slice R row.length c1] w' fun e w1 => e = .returned (.tuple #[vOf f, .int .i64 0]) ∧ Below w'.heap.size w' w1) (b1 : (kd == 1) = false) (b2 : (kd == 2) = false) (e1 : (o.toList == [97, 110, 100]) = false) (e2 : (o.toList == [111, 114]) = false) (e3 : (nm.toList == [101, 105, 116, 104, 101, 114]) = true) (h0 : (f.1 != 0) = true) :
    Calls Tryd.prog 21 #[vX (.mk kd nm xv o A c ts), .slice S cs.length c0, .slice R row.length c1, vVal f.1 f.2.1 f.2.2, .int .i64 0] w fun e w' => e = .returned (.bool true) ∧ Below w.heap.size w w' := by
  have HE := hide hE
  obtain ⟨b, off, hadr, hb, h7, -⟩ := hx.at (j := 0) hl0
  simp only [XT.adr, XT.args] at hadr h7
  rw [show off + 0 * 7 = off by omega] at h7
  subst hadr
  generalize ts.getD 0 dX = y at *
  obtain ⟨g0, g1, g2, g3, g4, g5, g6⟩ := h7
  have hl0' : (0 : Int) < (ts.length : Int) := by omega
  clear hx hE
  have hq : ∀ w : World, (binOp .eql 29 (vVal f.1 f.2.1 f.2.2) (vVal f.1 f.2.1 f.2.2)).run Tryd.prog w = .ok (.bool true) w := fun w => (run_eql_val f.1 f.2.1 f.1 f.2.1 f.2.2 f.2.2 w).trans (by simp)
  have hg := fun u u' w => run_guard_val f.1 f.2.1 f.1 f.2.1 f.2.2 f.2.2 u u' w
  have hal := stW_below w (.mk kd nm xv o (some ⟨b, off, none⟩) c ts) f
  have HAt := hide (fun w' => stW_at (w := w) (x := (.mk kd nm xv o (some ⟨b, off, none⟩) c ts)) (v := f) (w' := w'))
  have HL := hide hal
  have HWE := hide (show stW w (.mk kd nm xv o (some ⟨b, off, none⟩) c ts) f = (w.alloc (.cells (eCells kd nm xv o (some ⟨b, off, none⟩) ts.length c) 32)).alloc (.cells #[.int .i64 f.1, .int .i64 f.2.1, .string f.2.2] 29) from rfl)
  simp only [XT.kind, XT.name, XT.val, XT.op, XT.adr, XT.args, XT.cap] at HAt
  show Calls Tryd.prog 21 #[.agg (eCells kd nm xv o (some ⟨b, off, none⟩) ts.length c), .slice S cs.length c0, .slice R row.length c1, vVal f.1 f.2.1 f.2.2, .int .i64 _] w _
  generalize stW w (.mk kd nm xv o (some ⟨b, off, none⟩) c ts) f = W at *
  clear hal
  go_enter Tryd.func21, Tryd.ntmps21
  go_wp2_with fail
  rw [← HWE.out]
  refine (HE.out _ HL.out).mono ?_
  rintro e w3 ⟨rfl, hb3⟩
  have HB3 := hide hb3
  have hb4 := Joins.below_alloc1 w3 (.cells #[.int .i64 f.1, .int .i64 f.2.1, .string f.2.2] 29)
  have HB4 := hide (then_below hb3 hb4)
  have HF4 := hide (show At3 (w3.alloc (.cells #[.int .i64 f.1, .int .i64 f.2.1, .string f.2.2] 29)) w3.heap.size f from ⟨by simp, by simp, by simp, by simp⟩)
  obtain ⟨a0, a1, a2, a3, a4, a5, a6, b0, b1, b2, hy, hz⟩ := HAt.out _ HB3.out
  clear hb3 hb4 g0 g1 g2 g3 g4 g5 g6
  go_wp2_with fail
  go_ret
  exact ⟨rfl, HL.out.trans (HB4.out.mono HL.out.size)⟩

end Go.Proofs.YteenhmniikloiaaDoor
namespace Go.Proofs.YteenhmniikloiaaDoor
open Go.RowKit

set_option maxHeartbeats 3200000 in
set_option maxRecDepth 100000 in
theorem step_and1 (kd : Int) (nm : ByteArray) (xv : Int × Int × ByteArray) (o : ByteArray) (A : Option Addr) (c : Nat) (ts : List XT) (S : Option Addr) (c0 : Nat) (cs : List (ByteArray × Int)) (R : Option Addr) (c1 : Nat) (row : List (Int × Int × ByteArray)) (k n : Int) (s : ByteArray) (xe : Int) (w : World) (hx : LiesX w.heap.size w (.mk kd nm xv o A c ts)) (hl0 : 0 < ts.length) (f : Int × Int × ByteArray) (hE : ∀ w', Below w.heap.size w w' → Calls Tryd.prog 18 #[vX (ts.getD 0 dX), .slice S cs.length c0, .slice R row.length c1] w' fun e w1 => e = .returned (.tuple #[vOf f, .int .i64 0]) ∧ Below w'.heap.size w' w1) (b1 : (kd == 1) = false) (b2 : (kd == 2) = false) (e1 : (o.toList == [97, 110, 100]) = true) (e2 : (o.toList == [111, 114]) = false) (e3 : (nm.toList == [101, 105, 116, 104, 101, 114]) = false) (e4 : (nm.toList == [105, 102]) = false) (ht : trueV f = true) (ev : Nat → (Int × Int × ByteArray) × Int) (hA : ∀ w', Below w.heap.size w w' → Calls Tryd.prog 43 #[vX (.mk kd nm xv o A c ts), .slice S cs.length c0, .slice R row.length c1] w' (ArgsRes ev ts.length w')) (hW : ∀ Ra cr (vs : List (Int × Int × ByteArray)) (w' : World), vs.length = ts.length → RowAt w'.heap.size w' Ra vs → (∀ j, j < ts.length → vs.getD j d3 = (ev j).1 ∧ (ev j).2 = 0) → Calls Tryd.prog 44 #[vX (.mk kd nm xv o A c ts), .slice Ra ts.length cr, vVal k n s, .int .i64 xe] w' fun e w1 => e = .returned (.bool true) ∧ Below w'.heap.size w' w1) (hF : ∀ j, j < ts.length → (∀ i, i < j → (ev i).2 = 0) → ¬ (ev j).2 = 0 → xe = (ev j).2) :
    Calls Tryd.prog 21 #[vX (.mk kd nm xv o A c ts), .slice S cs.length c0, .slice R row.length c1, vVal k n s, .int .i64 xe] w fun e w' => e = .returned (.bool true) ∧ Below w.heap.size w w' := by
  have HTr := hide (show ∀ w', Calls Tryd.prog 42 #[vVal f.1 f.2.1 f.2.2] w' fun e w1 => e = .returned (.bool (trueV f)) ∧ Below w'.heap.size w' w1 from fun w' => true_any f.1 f.2.1 f.2.2 w')
  rw [ht] at HTr
  clear ht
  have HA := hide hA
  have HWh := hide hW
  have HFl := hide hF
  have HWc0 := hide (trivial : True)
  clear hA hW hF
  have HE := hide hE
  obtain ⟨b, off, hadr, hb, h7, -⟩ := hx.at (j := 0) hl0
  simp only [XT.adr, XT.args] at hadr h7
  rw [show off + 0 * 7 = off by omega] at h7
  subst hadr
  generalize ts.getD 0 dX = y at *
  obtain ⟨g0, g1, g2, g3, g4, g5, g6⟩ := h7
  have hl0' : (0 : Int) < (ts.length : Int) := by omega
  clear hx hE
  have hq : ∀ w : World, (binOp .eql 29 (vVal k n s) (vVal k n s)).run Tryd.prog w = .ok (.bool true) w := fun w => (run_eql_val k n k n s s w).trans (by simp)
  have hg := fun u u' w => run_guard_val k n k n s s u u' w
  have hal := stW_below w (.mk kd nm xv o (some ⟨b, off, none⟩) c ts) (k, n, s)
  have HAt := hide (fun w' => stW_at (w := w) (x := (.mk kd nm xv o (some ⟨b, off, none⟩) c ts)) (v := (k, n, s)) (w' := w'))
  have HL := hide hal
  have HWE := hide (show stW w (.mk kd nm xv o (some ⟨b, off, none⟩) c ts) (k, n, s) = (w.alloc (.cells (eCells kd nm xv o (some ⟨b, off, none⟩) ts.length c) 32)).alloc (.cells #[.int .i64 k, .int .i64 n, .string s] 29) from rfl)
  simp only [XT.kind, XT.name, XT.val, XT.op, XT.adr, XT.args, XT.cap] at HAt
  show Calls Tryd.prog 21 #[.agg (eCells kd nm xv o (some ⟨b, off, none⟩) ts.length c), .slice S cs.length c0, .slice R row.length c1, vVal k n s, .int .i64 _] w _
  generalize stW w (.mk kd nm xv o (some ⟨b, off, none⟩) c ts) (k, n, s) = W at *
  clear hal
  go_enter Tryd.func21, Tryd.ntmps21
  go_wp2_with fail
  rw [← HWE.out]
  refine (HE.out _ HL.out).mono ?_
  rintro e w3 ⟨rfl, hb3⟩
  have HB3 := hide hb3
  have hb4 := Joins.below_alloc1 w3 (.cells #[.int .i64 f.1, .int .i64 f.2.1, .string f.2.2] 29)
  have HB4 := hide (then_below hb3 hb4)
  have HF4 := hide (show At3 (w3.alloc (.cells #[.int .i64 f.1, .int .i64 f.2.1, .string f.2.2] 29)) w3.heap.size f from ⟨by simp, by simp, by simp, by simp⟩)
  obtain ⟨a0, a1, a2, a3, a4, a5, a6, b0, b1, b2, hy, hz⟩ := HAt.out _ HB3.out
  clear hb3 hb4 g0 g1 g2 g3 g4 g5 g6
  go_wp2_with fail
  generalize (w3.alloc (.cells #[.int .i64 f.1, .int .i64 f.2.1, .string f.2.2] 29)) = W4 at *
  generalize w3.heap.size = Q at *
  refine (HTr.out _).mono ?_
  rintro e w5 ⟨rfl, hb5⟩
  have HB5 := hide (then_below HB4.out hb5)
  have HF5 := hide (HF4.out.on hb5)
  clear hb5
  clear a0 a1 a2 a3 a4 a5 a6 b0 b1 b2 hy hz
  obtain ⟨a0, a1, a2, a3, a4, a5, a6, b0, b1, b2, hy, hz⟩ := HAt.out _ HB5.out
  obtain ⟨x0, x1, x2, xz⟩ := HF5.out
  go_wp2_with fail
  have HBw := hide (HL.out.trans (HB5.out.mono HL.out.size))
  refine (HA.out _ HBw.out).mono ?_
  rintro e w6 ⟨hres, hb6⟩
  have HB6 := hide (then_below HB5.out hb6)
  clear hb6
  clear a0 a1 a2 a3 a4 a5 a6 b0 b1 b2 hy hz
  obtain ⟨a0, a1, a2, a3, a4, a5, a6, b0, b1, b2, hy, hz⟩ := HAt.out _ HB6.out
  rcases hres with ⟨A2, c2, vs, rfl, hvl, hrow, hvs⟩ | ⟨j, hj, hbef, hne, rfl⟩
  · have HWc := hide (HWh.out A2 c2 vs w6 hvl hrow hvs)
    clear hvl hrow hvs
    go_wp2_with fail
    refine HWc.out.mono ?_
    rintro e w7 ⟨rfl, hb7⟩
    have HB7 := hide (then_below HB6.out hb7)
    clear hb7
    go_wp2_with fail
    go_ret
    exact ⟨rfl, HL.out.trans (HB7.out.mono HL.out.size)⟩
  · have hxe := HFl.out j hj hbef hne
    clear HFl HWh HWc0 hbef
    generalize (ev j).2 = z at *
    have nz : (z != 0) = true := by rw [bne_iff_ne]; exact hne
    subst hxe
    clear hne
    go_wp2_with fail
    go_ret
    exact ⟨rfl, HL.out.trans (HB6.out.mono HL.out.size)⟩

set_option maxHeartbeats 3200000 in
set_option maxRecDepth 100000 in
theorem step_or0 (kd : Int) (nm : ByteArray) (xv : Int × Int × ByteArray) (o : ByteArray) (A : Option Addr) (c : Nat) (ts : List XT) (S : Option Addr) (c0 : Nat) (cs : List (ByteArray × Int)) (R : Option Addr) (c1 : Nat) (row : List (Int × Int × ByteArray)) (k n : Int) (s : ByteArray) (xe : Int) (w : World) (hx : LiesX w.heap.size w (.mk kd nm xv o A c ts)) (hl0 : 0 < ts.length) (f : Int × Int × ByteArray) (hE : ∀ w', Below w.heap.size w w' → Calls Tryd.prog 18 #[vX (ts.getD 0 dX), .slice S cs.length c0, .slice R row.length c1] w' fun e w1 => e = .returned (.tuple #[vOf f, .int .i64 0]) ∧ Below w'.heap.size w' w1) (b1 : (kd == 1) = false) (b2 : (kd == 2) = false) (e1 : (o.toList == [97, 110, 100]) = false) (e2 : (o.toList == [111, 114]) = true) (e3 : (nm.toList == [101, 105, 116, 104, 101, 114]) = false) (e4 : (nm.toList == [105, 102]) = false) (ht : trueV f = false) (ev : Nat → (Int × Int × ByteArray) × Int) (hA : ∀ w', Below w.heap.size w w' → Calls Tryd.prog 43 #[vX (.mk kd nm xv o A c ts), .slice S cs.length c0, .slice R row.length c1] w' (ArgsRes ev ts.length w')) (hW : ∀ Ra cr (vs : List (Int × Int × ByteArray)) (w' : World), vs.length = ts.length → RowAt w'.heap.size w' Ra vs → (∀ j, j < ts.length → vs.getD j d3 = (ev j).1 ∧ (ev j).2 = 0) → Calls Tryd.prog 44 #[vX (.mk kd nm xv o A c ts), .slice Ra ts.length cr, vVal k n s, .int .i64 xe] w' fun e w1 => e = .returned (.bool true) ∧ Below w'.heap.size w' w1) (hF : ∀ j, j < ts.length → (∀ i, i < j → (ev i).2 = 0) → ¬ (ev j).2 = 0 → xe = (ev j).2) :
    Calls Tryd.prog 21 #[vX (.mk kd nm xv o A c ts), .slice S cs.length c0, .slice R row.length c1, vVal k n s, .int .i64 xe] w fun e w' => e = .returned (.bool true) ∧ Below w.heap.size w w' := by
  have HTr := hide (show ∀ w', Calls Tryd.prog 42 #[vVal f.1 f.2.1 f.2.2] w' fun e w1 => e = .returned (.bool (trueV f)) ∧ Below w'.heap.size w' w1 from fun w' => true_any f.1 f.2.1 f.2.2 w')
  rw [ht] at HTr
  clear ht
  have HA := hide hA
  have HWh := hide hW
  have HFl := hide hF
  have HWc0 := hide (trivial : True)
  clear hA hW hF
  have HE := hide hE
  obtain ⟨b, off, hadr, hb, h7, -⟩ := hx.at (j := 0) hl0
  simp only [XT.adr, XT.args] at hadr h7
  rw [show off + 0 * 7 = off by omega] at h7
  subst hadr
  generalize ts.getD 0 dX = y at *
  obtain ⟨g0, g1, g2, g3, g4, g5, g6⟩ := h7
  have hl0' : (0 : Int) < (ts.length : Int) := by omega
  clear hx hE
  have hq : ∀ w : World, (binOp .eql 29 (vVal k n s) (vVal k n s)).run Tryd.prog w = .ok (.bool true) w := fun w => (run_eql_val k n k n s s w).trans (by simp)
  have hg := fun u u' w => run_guard_val k n k n s s u u' w
  have hal := stW_below w (.mk kd nm xv o (some ⟨b, off, none⟩) c ts) (k, n, s)
  have HAt := hide (fun w' => stW_at (w := w) (x := (.mk kd nm xv o (some ⟨b, off, none⟩) c ts)) (v := (k, n, s)) (w' := w'))
  have HL := hide hal
  have HWE := hide (show stW w (.mk kd nm xv o (some ⟨b, off, none⟩) c ts) (k, n, s) = (w.alloc (.cells (eCells kd nm xv o (some ⟨b, off, none⟩) ts.length c) 32)).alloc (.cells #[.int .i64 k, .int .i64 n, .string s] 29) from rfl)
  simp only [XT.kind, XT.name, XT.val, XT.op, XT.adr, XT.args, XT.cap] at HAt
  show Calls Tryd.prog 21 #[.agg (eCells kd nm xv o (some ⟨b, off, none⟩) ts.length c), .slice S cs.length c0, .slice R row.length c1, vVal k n s, .int .i64 _] w _
  generalize stW w (.mk kd nm xv o (some ⟨b, off, none⟩) c ts) (k, n, s) = W at *
  clear hal
  go_enter Tryd.func21, Tryd.ntmps21
  go_wp2_with fail
  rw [← HWE.out]
  refine (HE.out _ HL.out).mono ?_
  rintro e w3 ⟨rfl, hb3⟩
  have HB3 := hide hb3
  have hb4 := Joins.below_alloc1 w3 (.cells #[.int .i64 f.1, .int .i64 f.2.1, .string f.2.2] 29)
  have HB4 := hide (then_below hb3 hb4)
  have HF4 := hide (show At3 (w3.alloc (.cells #[.int .i64 f.1, .int .i64 f.2.1, .string f.2.2] 29)) w3.heap.size f from ⟨by simp, by simp, by simp, by simp⟩)
  obtain ⟨a0, a1, a2, a3, a4, a5, a6, b0, b1, b2, hy, hz⟩ := HAt.out _ HB3.out
  clear hb3 hb4 g0 g1 g2 g3 g4 g5 g6
  go_wp2_with fail
  generalize (w3.alloc (.cells #[.int .i64 f.1, .int .i64 f.2.1, .string f.2.2] 29)) = W4 at *
  generalize w3.heap.size = Q at *
  refine (HTr.out _).mono ?_
  rintro e w5 ⟨rfl, hb5⟩
  have HB5 := hide (then_below HB4.out hb5)
  have HF5 := hide (HF4.out.on hb5)
  clear hb5
  clear a0 a1 a2 a3 a4 a5 a6 b0 b1 b2 hy hz
  obtain ⟨a0, a1, a2, a3, a4, a5, a6, b0, b1, b2, hy, hz⟩ := HAt.out _ HB5.out
  obtain ⟨x0, x1, x2, xz⟩ := HF5.out
  go_wp2_with fail
  have HBw := hide (HL.out.trans (HB5.out.mono HL.out.size))
  refine (HA.out _ HBw.out).mono ?_
  rintro e w6 ⟨hres, hb6⟩
  have HB6 := hide (then_below HB5.out hb6)
  clear hb6
  clear a0 a1 a2 a3 a4 a5 a6 b0 b1 b2 hy hz
  obtain ⟨a0, a1, a2, a3, a4, a5, a6, b0, b1, b2, hy, hz⟩ := HAt.out _ HB6.out
  rcases hres with ⟨A2, c2, vs, rfl, hvl, hrow, hvs⟩ | ⟨j, hj, hbef, hne, rfl⟩
  · have HWc := hide (HWh.out A2 c2 vs w6 hvl hrow hvs)
    clear hvl hrow hvs
    go_wp2_with fail
    refine HWc.out.mono ?_
    rintro e w7 ⟨rfl, hb7⟩
    have HB7 := hide (then_below HB6.out hb7)
    clear hb7
    go_wp2_with fail
    go_ret
    exact ⟨rfl, HL.out.trans (HB7.out.mono HL.out.size)⟩
  · have hxe := HFl.out j hj hbef hne
    clear HFl HWh HWc0 hbef
    generalize (ev j).2 = z at *
    have nz : (z != 0) = true := by rw [bne_iff_ne]; exact hne
    subst hxe
    clear hne
    go_wp2_with fail
    go_ret
    exact ⟨rfl, HL.out.trans (HB6.out.mono HL.out.size)⟩

end Go.Proofs.YteenhmniikloiaaDoor
namespace Go.Proofs.YteenhmniikloiaaDoor
open Go.RowKit

set_option maxHeartbeats 3200000 in
set_option maxRecDepth 100000 in
theorem step_if1 (kd : Int) (nm : ByteArray) (xv : Int × Int × ByteArray) (o : ByteArray) (A : Option Addr) (c : Nat) (ts : List XT) (S : Option Addr) (c0 : Nat) (cs : List (ByteArray × Int)) (R : Option Addr) (c1 : Nat) (row : List (Int × Int × ByteArray)) (k n : Int) (s : ByteArray) (xe : Int) (w : World) (hx : LiesX w.heap.size w (.mk kd nm xv o A c ts)) (hl0 : 0 < ts.length) (f : Int × Int × ByteArray) (hE : ∀ w', Below w.heap.size w w' → Calls Tryd.prog 18 #[vX (ts.getD 0 dX), .slice S cs.length c0, .slice R row.length c1] w' fun e w1 => e = .returned (.tuple #[vOf f, .int .i64 0]) ∧ Below w'.heap.size w' w1) (b1 : (kd == 1) = false) (b2 : (kd == 2) = false) (e1 : (o.toList == [97, 110, 100]) = false) (e2 : (o.toList == [111, 114]) = false) (e3 : (nm.toList == [101, 105, 116, 104, 101, 114]) = false) (e4 : (nm.toList == [105, 102]) = true) (hl1 : 1 < ts.length) (ht : trueV f = true) (hE1 : ∀ w', Below w.heap.size w w' → Calls Tryd.prog 18 #[vX (ts.getD 1 dX), .slice S cs.length c0, .slice R row.length c1] w' fun e w1 => e = .returned (.tuple #[vOf (k, n, s), .int .i64 xe]) ∧ Below w'.heap.size w' w1) :
    Calls Tryd.prog 21 #[vX (.mk kd nm xv o A c ts), .slice S cs.length c0, .slice R row.length c1, vVal k n s, .int .i64 xe] w fun e w' => e = .returned (.bool true) ∧ Below w.heap.size w w' := by
  have HTr := hide (show ∀ w', Calls Tryd.prog 42 #[vVal f.1 f.2.1 f.2.2] w' fun e w1 => e = .returned (.bool (trueV f)) ∧ Below w'.heap.size w' w1 from fun w' => true_any f.1 f.2.1 f.2.2 w')
  rw [ht] at HTr
  clear ht
  have HE1 := hide hE1
  have HX1 := hide (show ∀ w', Below w.heap.size w w' → ∃ b off, A = some ⟨b, off, none⟩ ∧ b < w.heap.size ∧ At7 w' b (off + 1 * 7) (ts.getD 1 dX) from fun w' h => by
    obtain ⟨b1, off1, e1, e2, e3, -⟩ := (hx.keep h).at (j := 1) hl1
    exact ⟨b1, off1, e1, e2, e3⟩)
  generalize ts.getD 1 dX = y1 at *
  clear hE1
  have HE := hide hE
  obtain ⟨b, off, hadr, hb, h7, -⟩ := hx.at (j := 0) hl0
  simp only [XT.adr, XT.args] at hadr h7
  rw [show off + 0 * 7 = off by omega] at h7
  subst hadr
  generalize ts.getD 0 dX = y at *
  obtain ⟨g0, g1, g2, g3, g4, g5, g6⟩ := h7
  have hl0' : (0 : Int) < (ts.length : Int) := by omega
  clear hx hE
  have hl1' : (1 : Int) < (ts.length : Int) := by omega
  have HX2 := hide (show ∀ w', Below w.heap.size w w' → At7 w' b (off + 7) y1 from fun w' h => by
    obtain ⟨b1, off1, e1, -, e3⟩ := HX1.out w' h
    injection e1 with e1; injection e1 with e4 e5
    subst e4 e5
    exact e3)
  clear HX1
  have hq : ∀ w : World, (binOp .eql 29 (vVal k n s) (vVal k n s)).run Tryd.prog w = .ok (.bool true) w := fun w => (run_eql_val k n k n s s w).trans (by simp)
  have hg := fun u u' w => run_guard_val k n k n s s u u' w
  have hal := stW_below w (.mk kd nm xv o (some ⟨b, off, none⟩) c ts) (k, n, s)
  have HAt := hide (fun w' => stW_at (w := w) (x := (.mk kd nm xv o (some ⟨b, off, none⟩) c ts)) (v := (k, n, s)) (w' := w'))
  have HL := hide hal
  have HWE := hide (show stW w (.mk kd nm xv o (some ⟨b, off, none⟩) c ts) (k, n, s) = (w.alloc (.cells (eCells kd nm xv o (some ⟨b, off, none⟩) ts.length c) 32)).alloc (.cells #[.int .i64 k, .int .i64 n, .string s] 29) from rfl)
  simp only [XT.kind, XT.name, XT.val, XT.op, XT.adr, XT.args, XT.cap] at HAt
  show Calls Tryd.prog 21 #[.agg (eCells kd nm xv o (some ⟨b, off, none⟩) ts.length c), .slice S cs.length c0, .slice R row.length c1, vVal k n s, .int .i64 _] w _
  generalize stW w (.mk kd nm xv o (some ⟨b, off, none⟩) c ts) (k, n, s) = W at *
  clear hal
  go_enter Tryd.func21, Tryd.ntmps21
  go_wp2_with fail
  rw [← HWE.out]
  refine (HE.out _ HL.out).mono ?_
  rintro e w3 ⟨rfl, hb3⟩
  have HB3 := hide hb3
  have hb4 := Joins.below_alloc1 w3 (.cells #[.int .i64 f.1, .int .i64 f.2.1, .string f.2.2] 29)
  have HB4 := hide (then_below hb3 hb4)
  have HF4 := hide (show At3 (w3.alloc (.cells #[.int .i64 f.1, .int .i64 f.2.1, .string f.2.2] 29)) w3.heap.size f from ⟨by simp, by simp, by simp, by simp⟩)
  obtain ⟨a0, a1, a2, a3, a4, a5, a6, b0, b1, b2, hy, hz⟩ := HAt.out _ HB3.out
  clear hb3 hb4 g0 g1 g2 g3 g4 g5 g6
  go_wp2_with fail
  generalize (w3.alloc (.cells #[.int .i64 f.1, .int .i64 f.2.1, .string f.2.2] 29)) = W4 at *
  generalize w3.heap.size = Q at *
  refine (HTr.out _).mono ?_
  rintro e w5 ⟨rfl, hb5⟩
  have HB5 := hide (then_below HB4.out hb5)
  have HF5 := hide (HF4.out.on hb5)
  clear hb5
  clear a0 a1 a2 a3 a4 a5 a6 b0 b1 b2 hy hz
  obtain ⟨a0, a1, a2, a3, a4, a5, a6, b0, b1, b2, hy, hz⟩ := HAt.out _ HB5.out
  obtain ⟨x0, x1, x2, xz⟩ := HF5.out
  have HB5w := hide (HL.out.trans (HB5.out.mono HL.out.size))
  obtain ⟨y0, y1', y2, y3, y4, y5, y6⟩ := HX2.out _ HB5w.out
  go_wp2_with fail
  refine (HE1.out _ HB5w.out).mono ?_
  rintro e w6 ⟨rfl, hb6⟩
  have HB6 := hide (then_below HB5.out hb6)
  clear hb6
  clear a0 a1 a2 a3 a4 a5 a6 b0 b1 b2 hy hz
  clear y0 y1' y2 y3 y4 y5 y6 x0 x1 x2 xz
  obtain ⟨a0, a1, a2, a3, a4, a5, a6, b0, b1, b2, hy, hz⟩ := HAt.out _ HB6.out
  go_wp2_with fail
  go_ret
  exact ⟨rfl, HL.out.trans ((HB6.out.alloc HB6.out.size _).mono HL.out.size)⟩

set_option maxHeartbeats 3200000 in
set_option maxRecDepth 100000 in
theorem step_if2 (kd : Int) (nm : ByteArray) (xv : Int × Int × ByteArray) (o : ByteArray) (A : Option Addr) (c : Nat) (ts : List XT) (S : Option Addr) (c0 : Nat) (cs : List (ByteArray × Int)) (R : Option Addr) (c1 : Nat) (row : List (Int × Int × ByteArray)) (k n : Int) (s : ByteArray) (xe : Int) (w : World) (hx : LiesX w.heap.size w (.mk kd nm xv o A c ts)) (hl0 : 0 < ts.length) (f : Int × Int × ByteArray) (hE : ∀ w', Below w.heap.size w w' → Calls Tryd.prog 18 #[vX (ts.getD 0 dX), .slice S cs.length c0, .slice R row.length c1] w' fun e w1 => e = .returned (.tuple #[vOf f, .int .i64 0]) ∧ Below w'.heap.size w' w1) (b1 : (kd == 1) = false) (b2 : (kd == 2) = false) (e1 : (o.toList == [97, 110, 100]) = false) (e2 : (o.toList == [111, 114]) = false) (e3 : (nm.toList == [101, 105, 116, 104, 101, 114]) = false) (e4 : (nm.toList == [105, 102]) = true) (hl1 : 2 < ts.length) (ht : trueV f = false) (hE1 : ∀ w', Below w.heap.size w w' → Calls Tryd.prog 18 #[vX (ts.getD 2 dX), .slice S cs.length c0, .slice R row.length c1] w' fun e w1 => e = .returned (.tuple #[vOf (k, n, s), .int .i64 xe]) ∧ Below w'.heap.size w' w1) :
    Calls Tryd.prog 21 #[vX (.mk kd nm xv o A c ts), .slice S cs.length c0, .slice R row.length c1, vVal k n s, .int .i64 xe] w fun e w' => e = .returned (.bool true) ∧ Below w.heap.size w w' := by
  have HTr := hide (show ∀ w', Calls Tryd.prog 42 #[vVal f.1 f.2.1 f.2.2] w' fun e w1 => e = .returned (.bool (trueV f)) ∧ Below w'.heap.size w' w1 from fun w' => true_any f.1 f.2.1 f.2.2 w')
  rw [ht] at HTr
  clear ht
  have HE1 := hide hE1
  have HX1 := hide (show ∀ w', Below w.heap.size w w' → ∃ b off, A = some ⟨b, off, none⟩ ∧ b < w.heap.size ∧ At7 w' b (off + 2 * 7) (ts.getD 2 dX) from fun w' h => by
    obtain ⟨b1, off1, e1, e2, e3, -⟩ := (hx.keep h).at (j := 2) hl1
    exact ⟨b1, off1, e1, e2, e3⟩)
  generalize ts.getD 2 dX = y1 at *
  clear hE1
  have HE := hide hE
  obtain ⟨b, off, hadr, hb, h7, -⟩ := hx.at (j := 0) hl0
  simp only [XT.adr, XT.args] at hadr h7
  rw [show off + 0 * 7 = off by omega] at h7
  subst hadr
  generalize ts.getD 0 dX = y at *
  obtain ⟨g0, g1, g2, g3, g4, g5, g6⟩ := h7
  have hl0' : (0 : Int) < (ts.length : Int) := by omega
  clear hx hE
  have hl1' : (2 : Int) < (ts.length : Int) := by omega
  have HX2 := hide (show ∀ w', Below w.heap.size w w' → At7 w' b (off + 14) y1 from fun w' h => by
    obtain ⟨b1, off1, e1, -, e3⟩ := HX1.out w' h
    injection e1 with e1; injection e1 with e4 e5
    subst e4 e5
    exact e3)
  clear HX1
  have hq : ∀ w : World, (binOp .eql 29 (vVal k n s) (vVal k n s)).run Tryd.prog w = .ok (.bool true) w := fun w => (run_eql_val k n k n s s w).trans (by simp)
  have hg := fun u u' w => run_guard_val k n k n s s u u' w
  have hal := stW_below w (.mk kd nm xv o (some ⟨b, off, none⟩) c ts) (k, n, s)
  have HAt := hide (fun w' => stW_at (w := w) (x := (.mk kd nm xv o (some ⟨b, off, none⟩) c ts)) (v := (k, n, s)) (w' := w'))
  have HL := hide hal
  have HWE := hide (show stW w (.mk kd nm xv o (some ⟨b, off, none⟩) c ts) (k, n, s) = (w.alloc (.cells (eCells kd nm xv o (some ⟨b, off, none⟩) ts.length c) 32)).alloc (.cells #[.int .i64 k, .int .i64 n, .string s] 29) from rfl)
  simp only [XT.kind, XT.name, XT.val, XT.op, XT.adr, XT.args, XT.cap] at HAt
  show Calls Tryd.prog 21 #[.agg (eCells kd nm xv o (some ⟨b, off, none⟩) ts.length c), .slice S cs.length c0, .slice R row.length c1, vVal k n s, .int .i64 _] w _
  generalize stW w (.mk kd nm xv o (some ⟨b, off, none⟩) c ts) (k, n, s) = W at *
  clear hal
  go_enter Tryd.func21, Tryd.ntmps21
  go_wp2_with fail
  rw [← HWE.out]
  refine (HE.out _ HL.out).mono ?_
  rintro e w3 ⟨rfl, hb3⟩
  have HB3 := hide hb3
  have hb4 := Joins.below_alloc1 w3 (.cells #[.int .i64 f.1, .int .i64 f.2.1, .string f.2.2] 29)
  have HB4 := hide (then_below hb3 hb4)
  have HF4 := hide (show At3 (w3.alloc (.cells #[.int .i64 f.1, .int .i64 f.2.1, .string f.2.2] 29)) w3.heap.size f from ⟨by simp, by simp, by simp, by simp⟩)
  obtain ⟨a0, a1, a2, a3, a4, a5, a6, b0, b1, b2, hy, hz⟩ := HAt.out _ HB3.out
  clear hb3 hb4 g0 g1 g2 g3 g4 g5 g6
  go_wp2_with fail
  generalize (w3.alloc (.cells #[.int .i64 f.1, .int .i64 f.2.1, .string f.2.2] 29)) = W4 at *
  generalize w3.heap.size = Q at *
  refine (HTr.out _).mono ?_
  rintro e w5 ⟨rfl, hb5⟩
  have HB5 := hide (then_below HB4.out hb5)
  have HF5 := hide (HF4.out.on hb5)
  clear hb5
  clear a0 a1 a2 a3 a4 a5 a6 b0 b1 b2 hy hz
  obtain ⟨a0, a1, a2, a3, a4, a5, a6, b0, b1, b2, hy, hz⟩ := HAt.out _ HB5.out
  obtain ⟨x0, x1, x2, xz⟩ := HF5.out
  have HB5w := hide (HL.out.trans (HB5.out.mono HL.out.size))
  obtain ⟨y0, y1', y2, y3, y4, y5, y6⟩ := HX2.out _ HB5w.out
  go_wp2_with fail
  refine (HE1.out _ HB5w.out).mono ?_
  rintro e w6 ⟨rfl, hb6⟩
  have HB6 := hide (then_below HB5.out hb6)
  clear hb6
  clear a0 a1 a2 a3 a4 a5 a6 b0 b1 b2 hy hz
  clear y0 y1' y2 y3 y4 y5 y6 x0 x1 x2 xz
  obtain ⟨a0, a1, a2, a3, a4, a5, a6, b0, b1, b2, hy, hz⟩ := HAt.out _ HB6.out
  go_wp2_with fail
  go_ret
  exact ⟨rfl, HL.out.trans ((HB6.out.alloc HB6.out.size _).mono HL.out.size)⟩

end Go.Proofs.YteenhmniikloiaaDoor
namespace Go.Proofs.YteenhmniikloiaaDoor
open Go.RowKit

set_option maxHeartbeats 3200000 in
set_option maxRecDepth 100000 in
theorem step_either0 (kd : Int) (nm : ByteArray) (xv : Int × Int × ByteArray) (o : ByteArray) (A : Option Addr) (c : Nat) (ts : List XT) (S : Option Addr) (c0 : Nat) (cs : List (ByteArray × Int)) (R : Option Addr) (c1 : Nat) (row : List (Int × Int × ByteArray)) (k n : Int) (s : ByteArray) (xe : Int) (w : World) (hx : LiesX w.heap.size w (.mk kd nm xv o A c ts)) (hl0 : 0 < ts.length) (f : Int × Int × ByteArray) (hE : ∀ w', Below w.heap.size w w' → Calls Tryd.prog 18 #[vX (ts.getD 0 dX), .slice S cs.length c0, .slice R row.length c1] w' fun e w1 => e = .returned (.tuple #[vOf f, .int .i64 0]) ∧ Below w'.heap.size w' w1) (b1 : (kd == 1) = false) (b2 : (kd == 2) = false) (e1 : (o.toList == [97, 110, 100]) = false) (e2 : (o.toList == [111, 114]) = false) (e3 : (nm.toList == [101, 105, 116, 104, 101, 114]) = true) (e4 : (nm.toList == [105, 102]) = false) (h0 : (f.1 != 0) = false) (ev : Nat → (Int × Int × ByteArray) × Int) (hA : ∀ w', Below w.heap.size w w' → Calls Tryd.prog 43 #[vX (.mk kd nm xv o A c ts), .slice S cs.length c0, .slice R row.length c1] w' (ArgsRes ev ts.length w')) (hW : ∀ Ra cr (vs : List (Int × Int × ByteArray)) (w' : World), vs.length = ts.length → RowAt w'.heap.size w' Ra vs → (∀ j, j < ts.length → vs.getD j d3 = (ev j).1 ∧ (ev j).2 = 0) → Calls Tryd.prog 44 #[vX (.mk kd nm xv o A c ts), .slice Ra ts.length cr, vVal k n s, .int .i64 xe] w' fun e w1 => e = .returned (.bool true) ∧ Below w'.heap.size w' w1) (hF : ∀ j, j < ts.length → (∀ i, i < j → (ev i).2 = 0) → ¬ (ev j).2 = 0 → xe = (ev j).2) :
    Calls Tryd.prog 21 #[vX (.mk kd nm xv o A c ts), .slice S cs.length c0, .slice R row.length c1, vVal k n s, .int .i64 xe] w fun e w' => e = .returned (.bool true) ∧ Below w.heap.size w w' := by
  have HA := hide hA
  have HWh := hide hW
  have HFl := hide hF
  have HWc0 := hide (trivial : True)
  clear hA hW hF
  have HE := hide hE
  obtain ⟨b, off, hadr, hb, h7, -⟩ := hx.at (j := 0) hl0
  simp only [XT.adr, XT.args] at hadr h7
  rw [show off + 0 * 7 = off by omega] at h7
  subst hadr
  generalize ts.getD 0 dX = y at *
  obtain ⟨g0, g1, g2, g3, g4, g5, g6⟩ := h7
  have hl0' : (0 : Int) < (ts.length : Int) := by omega
  clear hx hE
  have hq : ∀ w : World, (binOp .eql 29 (vVal k n s) (vVal k n s)).run Tryd.prog w = .ok (.bool true) w := fun w => (run_eql_val k n k n s s w).trans (by simp)
  have hg := fun u u' w => run_guard_val k n k n s s u u' w
  have hal := stW_below w (.mk kd nm xv o (some ⟨b, off, none⟩) c ts) (k, n, s)
  have HAt := hide (fun w' => stW_at (w := w) (x := (.mk kd nm xv o (some ⟨b, off, none⟩) c ts)) (v := (k, n, s)) (w' := w'))
  have HL := hide hal
  have HWE := hide (show stW w (.mk kd nm xv o (some ⟨b, off, none⟩) c ts) (k, n, s) = (w.alloc (.cells (eCells kd nm xv o (some ⟨b, off, none⟩) ts.length c) 32)).alloc (.cells #[.int .i64 k, .int .i64 n, .string s] 29) from rfl)
  simp only [XT.kind, XT.name, XT.val, XT.op, XT.adr, XT.args, XT.cap] at HAt
  show Calls Tryd.prog 21 #[.agg (eCells kd nm xv o (some ⟨b, off, none⟩) ts.length c), .slice S cs.length c0, .slice R row.length c1, vVal k n s, .int .i64 _] w _
  generalize stW w (.mk kd nm xv o (some ⟨b, off, none⟩) c ts) (k, n, s) = W at *
  clear hal
  go_enter Tryd.func21, Tryd.ntmps21
  go_wp2_with fail
  rw [← HWE.out]
  refine (HE.out _ HL.out).mono ?_
  rintro e w3 ⟨rfl, hb3⟩
  have HB3 := hide hb3
  have hb4 := Joins.below_alloc1 w3 (.cells #[.int .i64 f.1, .int .i64 f.2.1, .string f.2.2] 29)
  have HB4 := hide (then_below hb3 hb4)
  have HF4 := hide (show At3 (w3.alloc (.cells #[.int .i64 f.1, .int .i64 f.2.1, .string f.2.2] 29)) w3.heap.size f from ⟨by simp, by simp, by simp, by simp⟩)
  obtain ⟨a0, a1, a2, a3, a4, a5, a6, b0, b1, b2, hy, hz⟩ := HAt.out _ HB3.out
  clear hb3 hb4 g0 g1 g2 g3 g4 g5 g6
  obtain ⟨x0, x1, x2, xz⟩ := HF4.out
  go_wp2_with fail
  have HBw := hide (HL.out.trans (HB4.out.mono HL.out.size))
  refine (HA.out _ HBw.out).mono ?_
  rintro e w6 ⟨hres, hb6⟩
  have HB6 := hide (then_below HB4.out hb6)
  clear hb6
  clear a0 a1 a2 a3 a4 a5 a6 b0 b1 b2 hy hz
  obtain ⟨a0, a1, a2, a3, a4, a5, a6, b0, b1, b2, hy, hz⟩ := HAt.out _ HB6.out
  rcases hres with ⟨A2, c2, vs, rfl, hvl, hrow, hvs⟩ | ⟨j, hj, hbef, hne, rfl⟩
  · have HWc := hide (HWh.out A2 c2 vs w6 hvl hrow hvs)
    clear hvl hrow hvs
    go_wp2_with fail
    refine HWc.out.mono ?_
    rintro e w7 ⟨rfl, hb7⟩
    have HB7 := hide (then_below HB6.out hb7)
    clear hb7
    go_wp2_with fail
    go_ret
    exact ⟨rfl, HL.out.trans (HB7.out.mono HL.out.size)⟩
  · have hxe := HFl.out j hj hbef hne
    clear HFl HWh HWc0 hbef
    generalize (ev j).2 = z at *
    have nz : (z != 0) = true := by rw [bne_iff_ne]; exact hne
    subst hxe
    clear hne
    go_wp2_with fail
    go_ret
    exact ⟨rfl, HL.out.trans (HB6.out.mono HL.out.size)⟩

set_option maxHeartbeats 3200000 in
set_option maxRecDepth 100000 in
theorem step_none (kd : Int) (nm : ByteArray) (xv : Int × Int × ByteArray) (o : ByteArray) (A : Option Addr) (c : Nat) (ts : List XT) (S : Option Addr) (c0 : Nat) (cs : List (ByteArray × Int)) (R : Option Addr) (c1 : Nat) (row : List (Int × Int × ByteArray)) (k n : Int) (s : ByteArray) (xe : Int) (w : World) (hx : LiesX w.heap.size w (.mk kd nm xv o A c ts)) (hl0 : 0 < ts.length) (f : Int × Int × ByteArray) (hE : ∀ w', Below w.heap.size w w' → Calls Tryd.prog 18 #[vX (ts.getD 0 dX), .slice S cs.length c0, .slice R row.length c1] w' fun e w1 => e = .returned (.tuple #[vOf f, .int .i64 0]) ∧ Below w'.heap.size w' w1) (b1 : (kd == 1) = false) (b2 : (kd == 2) = false) (e1 : (o.toList == [97, 110, 100]) = false) (e2 : (o.toList == [111, 114]) = false) (e3 : (nm.toList == [101, 105, 116, 104, 101, 114]) = false) (e4 : (nm.toList == [105, 102]) = false)  (ev : Nat → (Int × Int × ByteArray) × Int) (hA : ∀ w', Below w.heap.size w w' → Calls Tryd.prog 43 #[vX (.mk kd nm xv o A c ts), .slice S cs.length c0, .slice R row.length c1] w' (ArgsRes ev ts.length w')) (hW : ∀ Ra cr (vs : List (Int × Int × ByteArray)) (w' : World), vs.length = ts.length → RowAt w'.heap.size w' Ra vs → (∀ j, j < ts.length → vs.getD j d3 = (ev j).1 ∧ (ev j).2 = 0) → Calls Tryd.prog 44 #[vX (.mk kd nm xv o A c ts), .slice Ra ts.length cr, vVal k n s, .int .i64 xe] w' fun e w1 => e = .returned (.bool true) ∧ Below w'.heap.size w' w1) (hF : ∀ j, j < ts.length → (∀ i, i < j → (ev i).2 = 0) → ¬ (ev j).2 = 0 → xe = (ev j).2) :
    Calls Tryd.prog 21 #[vX (.mk kd nm xv o A c ts), .slice S cs.length c0, .slice R row.length c1, vVal k n s, .int .i64 xe] w fun e w' => e = .returned (.bool true) ∧ Below w.heap.size w w' := by
  have HA := hide hA
  have HWh := hide hW
  have HFl := hide hF
  have HWc0 := hide (trivial : True)
  clear hA hW hF
  have HE := hide hE
  obtain ⟨b, off, hadr, hb, h7, -⟩ := hx.at (j := 0) hl0
  simp only [XT.adr, XT.args] at hadr h7
  rw [show off + 0 * 7 = off by omega] at h7
  subst hadr
  generalize ts.getD 0 dX = y at *
  obtain ⟨g0, g1, g2, g3, g4, g5, g6⟩ := h7
  have hl0' : (0 : Int) < (ts.length : Int) := by omega
  clear hx hE
  have hq : ∀ w : World, (binOp .eql 29 (vVal k n s) (vVal k n s)).run Tryd.prog w = .ok (.bool true) w := fun w => (run_eql_val k n k n s s w).trans (by simp)
  have hg := fun u u' w => run_guard_val k n k n s s u u' w
  have hal := stW_below w (.mk kd nm xv o (some ⟨b, off, none⟩) c ts) (k, n, s)
  have HAt := hide (fun w' => stW_at (w := w) (x := (.mk kd nm xv o (some ⟨b, off, none⟩) c ts)) (v := (k, n, s)) (w' := w'))
  have HL := hide hal
  have HWE := hide (show stW w (.mk kd nm xv o (some ⟨b, off, none⟩) c ts) (k, n, s) = (w.alloc (.cells (eCells kd nm xv o (some ⟨b, off, none⟩) ts.length c) 32)).alloc (.cells #[.int .i64 k, .int .i64 n, .string s] 29) from rfl)
  simp only [XT.kind, XT.name, XT.val, XT.op, XT.adr, XT.args, XT.cap] at HAt
  show Calls Tryd.prog 21 #[.agg (eCells kd nm xv o (some ⟨b, off, none⟩) ts.length c), .slice S cs.length c0, .slice R row.length c1, vVal k n s, .int .i64 _] w _
  generalize stW w (.mk kd nm xv o (some ⟨b, off, none⟩) c ts) (k, n, s) = W at *
  clear hal
  go_enter Tryd.func21, Tryd.ntmps21
  go_wp2_with fail
  rw [← HWE.out]
  refine (HE.out _ HL.out).mono ?_
  rintro e w3 ⟨rfl, hb3⟩
  have HB3 := hide hb3
  have hb4 := Joins.below_alloc1 w3 (.cells #[.int .i64 f.1, .int .i64 f.2.1, .string f.2.2] 29)
  have HB4 := hide (then_below hb3 hb4)
  have HF4 := hide (show At3 (w3.alloc (.cells #[.int .i64 f.1, .int .i64 f.2.1, .string f.2.2] 29)) w3.heap.size f from ⟨by simp, by simp, by simp, by simp⟩)
  obtain ⟨a0, a1, a2, a3, a4, a5, a6, b0, b1, b2, hy, hz⟩ := HAt.out _ HB3.out
  clear hb3 hb4 g0 g1 g2 g3 g4 g5 g6
  obtain ⟨x0, x1, x2, xz⟩ := HF4.out
  go_wp2_with fail
  have HBw := hide (HL.out.trans (HB4.out.mono HL.out.size))
  refine (HA.out _ HBw.out).mono ?_
  rintro e w6 ⟨hres, hb6⟩
  have HB6 := hide (then_below HB4.out hb6)
  clear hb6
  clear a0 a1 a2 a3 a4 a5 a6 b0 b1 b2 hy hz
  obtain ⟨a0, a1, a2, a3, a4, a5, a6, b0, b1, b2, hy, hz⟩ := HAt.out _ HB6.out
  rcases hres with ⟨A2, c2, vs, rfl, hvl, hrow, hvs⟩ | ⟨j, hj, hbef, hne, rfl⟩
  · have HWc := hide (HWh.out A2 c2 vs w6 hvl hrow hvs)
    clear hvl hrow hvs
    go_wp2_with fail
    refine HWc.out.mono ?_
    rintro e w7 ⟨rfl, hb7⟩
    have HB7 := hide (then_below HB6.out hb7)
    clear hb7
    go_wp2_with fail
    go_ret
    exact ⟨rfl, HL.out.trans (HB7.out.mono HL.out.size)⟩
  · have hxe := HFl.out j hj hbef hne
    clear HFl HWh HWc0 hbef
    generalize (ev j).2 = z at *
    have nz : (z != 0) = true := by rw [bne_iff_ne]; exact hne
    subst hxe
    clear hne
    go_wp2_with fail
    go_ret
    exact ⟨rfl, HL.out.trans (HB6.out.mono HL.out.size)⟩

end Go.Proofs.YteenhmniikloiaaDoor
namespace Go.Proofs.YteenhmniikloiaaDoor
open Go.RowKit

theorem typeX_formed {cs : List (ByteArray × Int)} {x : XT} {d : Int} (h : (typeX cs x d).2 = 0) : formedX x = true := by
  obtain ⟨kd, nm, v, o, A, c, ts⟩ := x
  rw [typeX] at h
  by_cases hd : 32 < d
  · rw [if_pos hd] at h; simp at h
  rw [if_neg hd] at h
  by_cases hfo : formedX (.mk kd nm v o A c ts) = false
  · rw [if_pos hfo] at h; simp at h
  simpa using hfo
theorem formed_words {kd : Int} {nm : ByteArray} {xv : Int × Int × ByteArray} {o : ByteArray} {A : Option Addr} {c : Nat} {ts : List XT} {wd : ByteArray} (h : formedX (.mk kd nm xv o A c ts) = true) (hwd : wordX (.mk kd nm xv o A c ts) = wd) (h2 : ¬ kd = 2) :
    (kd = 3 ∨ kd = 4 → o = wd ∧ nm = ⟨#[]⟩) ∧ (kd = 5 → nm = wd ∧ o = ⟨#[]⟩) := by
  unfold formedX at h
  have hT : tailF (.mk kd nm xv o A c ts) = if kd = 2 then nm.toList == [] && (o.toList == [] && rightV xv.1 xv.2.1 xv.2.2) else if kd = 3 ∨ kd = 4 then nm.toList == [] && nullV xv else o.toList == [] && nullV xv := rfl
  rw [hT, if_neg h2] at h
  simp only [Bool.and_eq_true] at h
  have he : ∀ b : ByteArray, (b.toList == []) = true → b = ⟨#[]⟩ := fun b hb => by
    refine bytes_eq ?_
    rw [beq_iff_eq.1 hb, Lib.toList_data]
  refine ⟨fun hk => ⟨?_, ?_⟩, fun hk => ⟨?_, ?_⟩⟩
  · rw [← hwd]; show o = if kd = 5 then nm else o
    rw [if_neg (by omega)]
  · have h3 := h.2.2
    rw [if_pos hk, Bool.and_eq_true] at h3
    exact he _ h3.1
  · rw [← hwd]; show nm = if kd = 5 then nm else o
    rw [if_pos hk]
  · have h3 := h.2.2
    rw [if_neg (by omega), Bool.and_eq_true] at h3
    exact he _ h3.1
/-- Which of the ways of step a rule goes. -/
theorem cls {r : RL} (hr : r ∈ rulesL) {kd : Int} {nm o : ByteArray} (hk : kd = r.k) (h34 : kd = 3 ∨ kd = 4 → o = r.w ∧ nm = ⟨#[]⟩) (h5 : kd = 5 → nm = r.w ∧ o = ⟨#[]⟩) :
    (r.w = ⟨#[97, 110, 100]⟩ ∧ r.n = 2 ∧ (o.toList == [97, 110, 100]) = true ∧ (o.toList == [111, 114]) = false ∧ (nm.toList == [101, 105, 116, 104, 101, 114]) = false ∧ (nm.toList == [105, 102]) = false) ∨ (r.w = ⟨#[111, 114]⟩ ∧ r.n = 2 ∧ (o.toList == [97, 110, 100]) = false ∧ (o.toList == [111, 114]) = true ∧ (nm.toList == [101, 105, 116, 104, 101, 114]) = false ∧ (nm.toList == [105, 102]) = false) ∨ (r.w = ⟨#[101, 105, 116, 104, 101, 114]⟩ ∧ r.n = 2 ∧ (o.toList == [97, 110, 100]) = false ∧ (o.toList == [111, 114]) = false ∧ (nm.toList == [101, 105, 116, 104, 101, 114]) = true ∧ (nm.toList == [105, 102]) = false) ∨
    (r.w = ⟨#[105, 102]⟩ ∧ r.n = 3 ∧ (o.toList == [97, 110, 100]) = false ∧ (o.toList == [111, 114]) = false ∧ (nm.toList == [101, 105, 116, 104, 101, 114]) = false ∧ (nm.toList == [105, 102]) = true) ∨ ((∀ v, (settleV r.w v).2 = false) ∧ (∀ v, nextW r.w v = 1) ∧ r.n ≠ 3 ∧ (o.toList == [97, 110, 100]) = false ∧ (o.toList == [111, 114]) = false ∧ (nm.toList == [101, 105, 116, 104, 101, 114]) = false ∧ (nm.toList == [105, 102]) = false) := by
  simp only [rulesL, List.mem_cons, List.not_mem_nil, or_false] at hr
  rcases hr with rfl | rfl | rfl | rfl | rfl | rfl | rfl | rfl | rfl | rfl | rfl | rfl | rfl | rfl | rfl | rfl | rfl | rfl | rfl | rfl | rfl
  · obtain rfl : kd = 3 := hk
    obtain ⟨rfl, rfl⟩ := h34 (by decide)
    exact .inr (.inr (.inr (.inr ⟨fun v => by kernel_rfl, fun v => by kernel_rfl, by decide, by kernel_rfl, by kernel_rfl, by kernel_rfl, by kernel_rfl⟩)))
  · obtain rfl : kd = 3 := hk
    obtain ⟨rfl, rfl⟩ := h34 (by decide)
    exact .inr (.inr (.inr (.inr ⟨fun v => by kernel_rfl, fun v => by kernel_rfl, by decide, by kernel_rfl, by kernel_rfl, by kernel_rfl, by kernel_rfl⟩)))
  · obtain rfl : kd = 4 := hk
    obtain ⟨rfl, rfl⟩ := h34 (by decide)
    exact .inr (.inr (.inr (.inr ⟨fun v => by kernel_rfl, fun v => by kernel_rfl, by decide, by kernel_rfl, by kernel_rfl, by kernel_rfl, by kernel_rfl⟩)))
  · obtain rfl : kd = 4 := hk
    obtain ⟨rfl, rfl⟩ := h34 (by decide)
    exact .inr (.inr (.inr (.inr ⟨fun v => by kernel_rfl, fun v => by kernel_rfl, by decide, by kernel_rfl, by kernel_rfl, by kernel_rfl, by kernel_rfl⟩)))
  · obtain rfl : kd = 4 := hk
    obtain ⟨rfl, rfl⟩ := h34 (by decide)
    exact .inr (.inr (.inr (.inr ⟨fun v => by kernel_rfl, fun v => by kernel_rfl, by decide, by kernel_rfl, by kernel_rfl, by kernel_rfl, by kernel_rfl⟩)))
  · obtain rfl : kd = 4 := hk
    obtain ⟨rfl, rfl⟩ := h34 (by decide)
    exact .inr (.inr (.inr (.inr ⟨fun v => by kernel_rfl, fun v => by kernel_rfl, by decide, by kernel_rfl, by kernel_rfl, by kernel_rfl, by kernel_rfl⟩)))
  · obtain rfl : kd = 4 := hk
    obtain ⟨rfl, rfl⟩ := h34 (by decide)
    exact .inr (.inr (.inr (.inr ⟨fun v => by kernel_rfl, fun v => by kernel_rfl, by decide, by kernel_rfl, by kernel_rfl, by kernel_rfl, by kernel_rfl⟩)))
  · obtain rfl : kd = 4 := hk
    obtain ⟨rfl, rfl⟩ := h34 (by decide)
    exact .inr (.inr (.inr (.inr ⟨fun v => by kernel_rfl, fun v => by kernel_rfl, by decide, by kernel_rfl, by kernel_rfl, by kernel_rfl, by kernel_rfl⟩)))
  · obtain rfl : kd = 4 := hk
    obtain ⟨rfl, rfl⟩ := h34 (by decide)
    exact .inr (.inr (.inr (.inr ⟨fun v => by kernel_rfl, fun v => by kernel_rfl, by decide, by kernel_rfl, by kernel_rfl, by kernel_rfl, by kernel_rfl⟩)))
  · obtain rfl : kd = 4 := hk
    obtain ⟨rfl, rfl⟩ := h34 (by decide)
    exact .inr (.inr (.inr (.inr ⟨fun v => by kernel_rfl, fun v => by kernel_rfl, by decide, by kernel_rfl, by kernel_rfl, by kernel_rfl, by kernel_rfl⟩)))
  · obtain rfl : kd = 4 := hk
    obtain ⟨rfl, rfl⟩ := h34 (by decide)
    exact .inr (.inr (.inr (.inr ⟨fun v => by kernel_rfl, fun v => by kernel_rfl, by decide, by kernel_rfl, by kernel_rfl, by kernel_rfl, by kernel_rfl⟩)))
  · obtain rfl : kd = 4 := hk
    obtain ⟨rfl, rfl⟩ := h34 (by decide)
    exact .inr (.inr (.inr (.inr ⟨fun v => by kernel_rfl, fun v => by kernel_rfl, by decide, by kernel_rfl, by kernel_rfl, by kernel_rfl, by kernel_rfl⟩)))
  · obtain rfl : kd = 4 := hk
    obtain ⟨rfl, rfl⟩ := h34 (by decide)
    exact .inr (.inr (.inr (.inr ⟨fun v => by kernel_rfl, fun v => by kernel_rfl, by decide, by kernel_rfl, by kernel_rfl, by kernel_rfl, by kernel_rfl⟩)))
  · obtain rfl : kd = 4 := hk
    obtain ⟨rfl, rfl⟩ := h34 (by decide)
    exact .inl ⟨rfl, rfl, by kernel_rfl, by kernel_rfl, by kernel_rfl, by kernel_rfl⟩
  · obtain rfl : kd = 4 := hk
    obtain ⟨rfl, rfl⟩ := h34 (by decide)
    exact .inr (.inl ⟨rfl, rfl, by kernel_rfl, by kernel_rfl, by kernel_rfl, by kernel_rfl⟩)
  · obtain rfl : kd = 5 := hk
    obtain ⟨rfl, rfl⟩ := h5 rfl
    exact .inr (.inr (.inr (.inr ⟨fun v => by kernel_rfl, fun v => by kernel_rfl, by decide, by kernel_rfl, by kernel_rfl, by kernel_rfl, by kernel_rfl⟩)))
  · obtain rfl : kd = 5 := hk
    obtain ⟨rfl, rfl⟩ := h5 rfl
    exact .inr (.inr (.inr (.inr ⟨fun v => by kernel_rfl, fun v => by kernel_rfl, by decide, by kernel_rfl, by kernel_rfl, by kernel_rfl, by kernel_rfl⟩)))
  · obtain rfl : kd = 5 := hk
    obtain ⟨rfl, rfl⟩ := h5 rfl
    exact .inr (.inr (.inr (.inr ⟨fun v => by kernel_rfl, fun v => by kernel_rfl, by decide, by kernel_rfl, by kernel_rfl, by kernel_rfl, by kernel_rfl⟩)))
  · obtain rfl : kd = 5 := hk
    obtain ⟨rfl, rfl⟩ := h5 rfl
    exact .inr (.inr (.inr (.inr ⟨fun v => by kernel_rfl, fun v => by kernel_rfl, by decide, by kernel_rfl, by kernel_rfl, by kernel_rfl, by kernel_rfl⟩)))
  · obtain rfl : kd = 5 := hk
    obtain ⟨rfl, rfl⟩ := h5 rfl
    exact .inr (.inr (.inl ⟨rfl, rfl, by kernel_rfl, by kernel_rfl, by kernel_rfl, by kernel_rfl⟩))
  · obtain rfl : kd = 5 := hk
    obtain ⟨rfl, rfl⟩ := h5 rfl
    exact .inr (.inr (.inr (.inl ⟨rfl, rfl, by kernel_rfl, by kernel_rfl, by kernel_rfl, by kernel_rfl⟩)))
theorem set_and (v : Int × Int × ByteArray) : settleV ⟨#[97, 110, 100]⟩ v = (truthV false, !trueV v) := by kernel_rfl
theorem set_or (v : Int × Int × ByteArray) : settleV ⟨#[111, 114]⟩ v = (truthV true, trueV v) := by kernel_rfl
theorem set_either (v : Int × Int × ByteArray) : settleV ⟨#[101, 105, 116, 104, 101, 114]⟩ v = (v, !nullV v) := by kernel_rfl
theorem set_if (v : Int × Int × ByteArray) : settleV ⟨#[105, 102]⟩ v = ((0, 0, ⟨#[]⟩), false) := by kernel_rfl
theorem two_if (o : ByteArray) (a b : Int × Int × ByteArray) : twoX ⟨#[105, 102]⟩ o a b = (b, 0) := by kernel_rfl
theorem one_err {wd : ByteArray} {v : Int × Int × ByteArray} (h : ¬ (oneX wd v).2 = 0) : (oneX wd v).1 = d3 := by
  have ha : ∀ a b op, ¬ (arithV op a b).2 = 0 → (arithV op a b).1 = d3 := fun a b op h => by
    unfold arithV at h ⊢
    split
    · rfl
    · rename_i h1; rw [if_neg h1] at h
      split
      · rfl
      · rename_i h2; rw [if_neg h2] at h
        split
        · rename_i h3; rw [if_pos h3] at h; exact absurd rfl h
        · rfl
  unfold oneX at h ⊢
  cases h1 : (wd.toList == [110, 111, 116])
  · rw [h1] at h
    cases h2 : (wd.toList == [105, 115, 110, 117, 108, 108])
    · rw [h2] at h
      cases h3 : (wd.toList == [108, 101, 110])
      · rw [h3] at h
        cases h4 : (wd.toList == [97, 98, 115])
        · rw [h4] at h; exact ha _ _ _ h
        · rw [h4] at h
          cases h5 : decide (0 ≤ v.2.1)
          · rw [h5] at h; exact ha _ _ _ h
          · rw [h5] at h; exact absurd rfl h
      · rw [h3] at h; exact absurd rfl h
    · rw [h2] at h; exact absurd rfl h
  · rw [h1] at h; exact absurd rfl h
theorem two_err {wd o : ByteArray} {a b : Int × Int × ByteArray} (h : ¬ (twoX wd o a b).2 = 0) : (twoX wd o a b).1 = d3 := by
  have ha : ∀ a b op, ¬ (arithV op a b).2 = 0 → (arithV op a b).1 = d3 := fun a b op h => by
    unfold arithV at h ⊢
    split
    · rfl
    · rename_i h1; rw [if_neg h1] at h
      split
      · rfl
      · rename_i h2; rw [if_neg h2] at h
        split
        · rename_i h3; rw [if_pos h3] at h; exact absurd rfl h
        · rfl
  have hc : ¬ (catV a b).2 = 0 → (catV a b).1 = d3 := fun h => by
    unfold catV at h ⊢
    split
    · rfl
    · rename_i h1; rw [if_neg h1] at h
      split
      · rfl
      · rename_i h2; rw [if_neg h2] at h; exact absurd rfl h
  unfold twoX at h ⊢
  cases h1 : (wd.toList == [97, 110, 100])
  · rw [h1] at h
    cases h2 : (wd.toList == [111, 114])
    · rw [h2] at h
      cases h3 : (wd.toList == [101, 105, 116, 104, 101, 114])
      · rw [h3] at h
        cases h4 : (wd.toList == [105, 102])
        · rw [h4] at h
          cases h5 : (wd.toList == [99, 97, 116])
          · rw [h5] at h
            cases h6 : decide (cmpIx o < 6)
            · rw [h6] at h; exact ha _ _ _ h
            · rw [h6] at h; exact absurd rfl h
          · rw [h5] at h; exact hc h
        · rw [h4] at h; exact absurd rfl h
      · rw [h3] at h; exact absurd rfl h
    · rw [h2] at h; exact absurd rfl h
  · rw [h1] at h; exact absurd rfl h
theorem eval_err {cs : List (ByteArray × Int)} {row : List (Int × Int × ByteArray)} {x : XT} (h : ¬ (evalX cs row x).2 = 0) : (evalX cs row x).1 = d3 := by
  obtain ⟨kd, nm, v, o, A, c, ts⟩ := x
  rw [evalX] at h ⊢
  by_cases h1 : kd = 1
  · rw [if_pos h1] at h; exact absurd rfl h
  rw [if_neg h1] at h ⊢
  by_cases h2 : kd = 2
  · rw [if_pos h2] at h; exact absurd rfl h
  rw [if_neg h2] at h ⊢
  generalize wordX (.mk kd nm v o A c ts) = wd at *
  generalize evalsX cs row ts = L at *
  unfold partX at h ⊢
  by_cases hf : (L.getD 0 (d3, 0)).2 = 0
  · rw [if_pos hf] at h ⊢
    by_cases hn : ts.length = 1
    · rw [if_pos hn] at h ⊢; exact one_err h
    · rw [if_neg hn] at h ⊢
      by_cases hs : (settleV wd (L.getD 0 (d3, 0)).1).2 = true
      · rw [if_pos hs] at h; exact absurd rfl h
      · rw [if_neg hs] at h ⊢
        by_cases hg : (L.getD (nextW wd (L.getD 0 (d3, 0)).1) (d3, 0)).2 = 0
        · rw [if_pos hg] at h ⊢; exact two_err h
        · rw [if_neg hg]
  · rw [if_neg hf]
set_option maxHeartbeats 3200000 in
theorem stepLaw_any (S : Option Addr) (c0 : Nat) (cs : List (ByteArray × Int)) (hwf : Wf cs) (R : Option Addr) (c1 : Nat) (row : List (Int × Int × ByteArray)) (hw : WfR row) (x : XT) (w : World) (hty : (typeTop cs x).2 = 0) (hfit : fitsB cs row = true) (hx : LiesX w.heap.size w x) (hfx : wfX x) (hfi : wfI x)
    (hC : ColsAt w.heap.size w S cs) (hR : RowAt w.heap.size w R row) (hM : Cmps w) (hRl : Rls w) :
    Calls Tryd.prog 21 #[vX x, .slice S cs.length c0, .slice R row.length c1, vOf (evalX cs row x).1, .int .i64 (evalX cs row x).2] w fun e w' => e = .returned (.bool true) ∧ Below w.heap.size w w' := by
  obtain ⟨-, hsz, ht, -⟩ := typeTop_ok hty
  have hrf := fitsB_row hfit
  have hform := typeX_formed ht
  have hET := fun k h1 hk => evalTop_arg (cs := cs) (row := row) (x := x) (k := k) hty hfit h1 hk
  have hAr := fun w' (h : Below w.heap.size w w') => args_any S c0 cs hwf R c1 row hw x w' (by omega) (hx.on h) hfx hfi (hC.on h) (hR.on h) (hM.stays h) (hRl.stays h)
  obtain ⟨kd, nm, xv, o, A, c, ts⟩ := x
  generalize heq : evalX cs row (.mk kd nm xv o A c ts) = q at *
  obtain ⟨⟨k, n, s⟩, xe⟩ := q
  simp only [XT.kind, XT.args] at hET hAr
  by_cases h1 : kd = 1
  · have b1 : (kd == 1) = true := by rw [beq_iff_eq]; exact h1
    obtain ⟨hk, -⟩ := typeX_col ht h1
    rw [evalX, if_pos h1] at heq
    obtain ⟨hv, rfl⟩ := pair_of heq
    exact step_column kd nm xv o A c ts S c0 cs R c1 row k n s w hC hR hwf.1 hk (fits_len hrf) hv b1
  have b1 : (kd == 1) = false := by rw [beq_eq_false_iff_ne]; exact h1
  by_cases h2 : kd = 2
  · have b2 : (kd == 2) = true := by rw [beq_iff_eq]; exact h2
    rw [evalX, if_neg h1, if_pos h2] at heq
    obtain ⟨rfl, rfl⟩ := pair_of heq
    exact step_const kd nm (k, n, s) o A c ts S c0 cs R c1 row w b1 b2
  have b2 : (kd == 2) = false := by rw [beq_eq_false_iff_ne]; exact h2
  have hne : ¬ (kd = 1 ∨ kd = 2) := by rintro (h | h); exact h1 h; exact h2 h
  obtain ⟨-, hr, hk, hwd, hln, hsub, hX⟩ := typeX_parts ht hne
  have hEvk := fun j (hj : j < ts.length) => (hET j hne hj).trans (evalsX_at cs row ts j hj).symm
  have hErr := fun j (hj : j < ts.length) => (show ¬ ((evalsX cs row ts).getD j (d3, 0)).2 = 0 → ((evalsX cs row ts).getD j (d3, 0)).1 = d3 from fun h => by
    rw [evalsX_at cs row ts j hj] at h ⊢; exact eval_err h)
  have hE := fun j (hj : j < ts.length) w' (h : Below w.heap.size w w') => (show Calls Tryd.prog 18 #[vX (ts.getD j dX), .slice S cs.length c0, .slice R row.length c1] w' fun e w1 => e = .returned (.tuple #[vOf ((evalsX cs row ts).getD j (d3, 0)).1, .int .i64 ((evalsX cs row ts).getD j (d3, 0)).2]) ∧ Below w'.heap.size w' w1 from by
    rw [← hEvk j hj]
    obtain ⟨_, _, _, _, _, hly⟩ := (hx.keep h).at (j := j) hj
    have hs2 := szX_arg (x := .mk kd nm xv o A c ts) hj
    exact evalTop_any S c0 cs hwf R c1 row hw (ts.getD j dX) w' (by simp only [XT.args] at hs2; omega) (hly.mono h.size) (wfXs_at hfx.2 hj) (wfIs_at hfi.2 hj) (hC.on h) (hR.on h) (hM.stays h) (hRl.stays h))
  have hOk := fun j (hj : j < ts.length) => (show ((evalsX cs row ts).getD j (d3, 0)).2 = 0 → okV (argT cs (.mk kd nm xv o A c ts) 1 j) ((evalsX cs row ts).getD j (d3, 0)).1 from fun h => by
    rw [evalsX_at cs row ts j hj] at h ⊢
    rw [argT_at (x := .mk kd nm xv o A c ts) hj]
    exact eval_sound hrf hw _ (ts.getD j dX) (1 + 1) (Nat.le_refl _) (wfIs_at hfi.2 hj) (hsub j hj) h)
  obtain ⟨h34, h5⟩ := formed_words hform hwd h2
  simp only [XT.args] at hln
  have hop : (ruleX (.mk kd nm xv o A c ts)).1.k = 4 → o = (ruleX (.mk kd nm xv o A c ts)).1.w := fun h => (h34 (.inr (hk.symm.trans h))).1
  simp only [XT.kind] at hk
  rw [evalX, if_neg h1, if_neg h2, hwd] at heq
  obtain ⟨ev, hev⟩ : ∃ ev : Nat → (Int × Int × ByteArray) × Int, ev = fun j => evalTop cs row (ts.getD j dX) := ⟨_, rfl⟩
  have hevk : ∀ j, j < ts.length → ev j = (evalsX cs row ts).getD j (d3, 0) := fun j hj => by rw [hev]; exact hEvk j hj
  rw [← hev] at hAr
  generalize argT cs (.mk kd nm xv o A c ts) 1 = tt at *
  generalize (typeX cs (.mk kd nm xv o A c ts) 1).1 = ty at *
  generalize (ruleX (.mk kd nm xv o A c ts)).1 = r at *
  generalize evalsX cs row ts = L at *
  clear hET hEvk hsub hev ht hty hform hwd hfx hfi hC hR hM hRl hne
  have hn := rule_n hr
  have hl0 : 0 < ts.length := by omega
  unfold partX at heq
  by_cases hf : (L.getD 0 (d3, 0)).2 = 0
  rotate_left 1
  · rw [if_neg hf] at heq
    obtain ⟨hv, hxe⟩ := pair_of heq
    subst hxe
    exact step_first kd nm xv o A c ts S c0 cs R c1 row k n s w hx hl0 (L.getD 0 (d3, 0)).1 (L.getD 0 (d3, 0)).2 hf (hE 0 hl0) b1 b2
  rw [if_pos hf] at heq
  have hE0 := hE 0 hl0
  rw [hf] at hE0
  have ha := hOk 0 hl0 hf
  have hl1 : r.n = 2 ∨ r.n = 3 → 1 < ts.length := fun h => by omega
  -- what is not settled: by all arguments
  have HT : (settleV r.w (L.getD 0 (d3, 0)).1).2 = false → nextW r.w (L.getD 0 (d3, 0)).1 = 1 → r.n ≠ 3 →
      (∀ Ra cr (vs : List (Int × Int × ByteArray)) (w' : World), vs.length = ts.length → RowAt w'.heap.size w' Ra vs → (∀ j, j < ts.length → vs.getD j d3 = (ev j).1 ∧ (ev j).2 = 0) → Calls Tryd.prog 44 #[vX (.mk kd nm xv o A c ts), .slice Ra ts.length cr, vVal k n s, .int .i64 xe] w' fun e w1 => e = .returned (.bool true) ∧ Below w'.heap.size w' w1) ∧
      (∀ j, j < ts.length → (∀ i, i < j → (ev i).2 = 0) → ¬ (ev j).2 = 0 → xe = (ev j).2) := fun hset hnx hno => by
    rw [hset, if_neg (show ¬ (false = true) by decide), hnx] at heq
    refine ⟨fun Ra cr vs w' hvl hrow hvs => ?_, fun j hj hbef hbad => ?_⟩
    · have e0 : vs.getD 0 d3 = (L.getD 0 (d3, 0)).1 := by rw [(hvs 0 hl0).1, hevk 0 hl0]
      have e1 : r.n = 2 → vs.getD 1 d3 = (L.getD 1 (d3, 0)).1 ∧ (L.getD 1 (d3, 0)).2 = 0 ∧ okV (tt 1) (L.getD 1 (d3, 0)).1 := fun h => by
        have hj := hl1 (.inl h)
        have h2' := (hvs 1 hj).2
        rw [hevk 1 hj] at h2'
        exact ⟨by rw [(hvs 1 hj).1, hevk 1 hj], h2', hOk 1 hj h2'⟩
      rw [← hvl]
      refine whole_any r kd nm xv o A c ts Ra cr vs k n s xe w' hrow hr hk.symm h34 h5 (by rw [hvl]; exact hln) hno (tt 0) (tt 1) (by rw [e0]; exact ha) (fun h => by rw [(e1 h).1]; exact (e1 h).2.2) (fun h => by rw [e0]; exact (one_sound hr h hX ha).1) (fun h => ?_) ?_
      · rw [e0, (e1 h).1]
        refine (two_sound (t2 := tt 2) hr (.inl h) hop hX ha ?_).1
        rw [hnx, if_neg (by decide)]
        exact (e1 h).2.2
      · by_cases h : r.n = 1
        · rw [if_pos h, e0]
          rw [if_pos (by omega)] at heq
          exact heq
        · have h' : r.n = 2 := by omega
          rw [if_neg h, e0, (e1 h').1]
          rw [if_neg (by omega), if_pos (e1 h').2.1] at heq
          exact heq
    · by_cases e : j = 0
      · subst e
        rw [hevk 0 hl0] at hbad
        exact absurd hf hbad
      · obtain rfl : j = 1 := by omega
        rw [hevk 1 hj] at hbad ⊢
        rw [if_neg (by omega), if_neg hbad] at heq
        exact (pair_of heq).2
  rcases cls hr hk.symm h34 h5 with ⟨hrw, hrn, e1, e2, e3, e4⟩ | ⟨hrw, hrn, e1, e2, e3, e4⟩ | ⟨hrw, hrn, e1, e2, e3, e4⟩ | ⟨hrw, hrn, e1, e2, e3, e4⟩ | ⟨hset, hnx, hno, e1, e2, e3, e4⟩
  · cases htr : trueV (L.getD 0 (d3, 0)).1
    · rw [if_neg (by omega), hrw, set_and, htr, if_pos (show ((truthV false, !false).2 = true) from rfl)] at heq
      obtain ⟨hv, hxe⟩ := pair_of heq
      obtain ⟨rfl, rfl, rfl⟩ : 1 = k ∧ 0 = n ∧ ⟨#[]⟩ = s := by injection hv with h1 h2; injection h2 with h2 h3; exact ⟨h1, h2, h3⟩
      subst hxe
      exact step_and0 kd nm xv o A c ts S c0 cs R c1 row w hx hl0 _ hE0 b1 b2 e1 htr
    · obtain ⟨hW, hF⟩ := HT (by rw [hrw, set_and, htr]; rfl) (by rw [hrw]; kernel_rfl) (by omega)
      exact step_and1 kd nm xv o A c ts S c0 cs R c1 row k n s xe w hx hl0 _ hE0 b1 b2 e1 e2 e3 e4 htr ev hAr hW hF
  · cases htr : trueV (L.getD 0 (d3, 0)).1
    · obtain ⟨hW, hF⟩ := HT (by rw [hrw, set_or, htr]) (by rw [hrw]; kernel_rfl) (by omega)
      exact step_or0 kd nm xv o A c ts S c0 cs R c1 row k n s xe w hx hl0 _ hE0 b1 b2 e1 e2 e3 e4 htr ev hAr hW hF
    · rw [if_neg (by omega), hrw, set_or, htr, if_pos (show ((truthV true, true).2 = true) from rfl)] at heq
      obtain ⟨hv, hxe⟩ := pair_of heq
      obtain ⟨rfl, rfl, rfl⟩ : 1 = k ∧ 1 = n ∧ ⟨#[]⟩ = s := by injection hv with h1 h2; injection h2 with h2 h3; exact ⟨h1, h2, h3⟩
      subst hxe
      exact step_or1 kd nm xv o A c ts S c0 cs R c1 row w hx hl0 _ hE0 b1 b2 e1 e2 htr
  · have hnv := okV_nullV ha
    cases h0 : ((L.getD 0 (d3, 0)).1.1 != 0)
    · have h0' : ((L.getD 0 (d3, 0)).1.1 == 0) = true := by rw [bne_eq_false_iff_eq] at h0; rw [beq_iff_eq]; exact h0
      obtain ⟨hW, hF⟩ := HT (by rw [hrw, set_either, hnv, h0']; rfl) (by rw [hrw]; kernel_rfl) (by omega)
      exact step_either0 kd nm xv o A c ts S c0 cs R c1 row k n s xe w hx hl0 _ hE0 b1 b2 e1 e2 e3 e4 h0 ev hAr hW hF
    · have h0' : ((L.getD 0 (d3, 0)).1.1 == 0) = false := by rw [bne_iff_ne] at h0; rw [beq_eq_false_iff_ne]; exact h0
      rw [if_neg (by omega), hrw, set_either, hnv, h0', if_pos (show (((L.getD 0 (d3, 0)).1, !false).2 = true) from rfl)] at heq
      obtain ⟨hv, hxe⟩ := pair_of heq
      simp only at hv
      have hS := step_either1 kd nm xv o A c ts S c0 cs R c1 row w hx hl0 _ hE0 b1 b2 e1 e2 e3 h0
      rw [hv] at hS
      subst hxe
      exact hS
  · have hlen2 : 2 < ts.length := by omega
    rw [if_neg (by omega), hrw, set_if, if_neg (show ¬ ((((0 : Int), (0 : Int), (⟨#[]⟩ : ByteArray)), false).2 = true) from by decide)] at heq
    cases htr : trueV (L.getD 0 (d3, 0)).1
    · have hnx : nextW ⟨#[105, 102]⟩ (L.getD 0 (d3, 0)).1 = 2 := by unfold nextW; rw [if_pos ⟨by kernel_rfl, htr⟩]
      rw [hnx] at heq
      have hE2 := hE 2 hlen2
      have hq : L.getD 2 (d3, 0) = ((k, n, s), xe) := by
        by_cases hg : (L.getD 2 (d3, 0)).2 = 0
        · rw [if_pos hg, two_if] at heq; rw [← heq]; exact Prod.ext rfl hg
        · rw [if_neg hg] at heq; rw [← heq]; exact Prod.ext (hErr 2 hlen2 hg) rfl
      rw [hq] at hE2
      exact step_if2 kd nm xv o A c ts S c0 cs R c1 row k n s xe w hx hl0 _ hE0 b1 b2 e1 e2 e3 e4 hlen2 htr hE2
    · have hnx : nextW ⟨#[105, 102]⟩ (L.getD 0 (d3, 0)).1 = 1 := by unfold nextW; rw [if_neg (by rw [htr]; rintro ⟨_, h⟩; cases h)]
      rw [hnx] at heq
      have hE2 := hE 1 (by omega)
      have hq : L.getD 1 (d3, 0) = ((k, n, s), xe) := by
        by_cases hg : (L.getD 1 (d3, 0)).2 = 0
        · rw [if_pos hg, two_if] at heq; rw [← heq]; exact Prod.ext rfl hg
        · rw [if_neg hg] at heq; rw [← heq]; exact Prod.ext (hErr 1 (by omega) hg) rfl
      rw [hq] at hE2
      exact step_if1 kd nm xv o A c ts S c0 cs R c1 row k n s xe w hx hl0 _ hE0 b1 b2 e1 e2 e3 e4 (by omega) htr hE2
  · obtain ⟨hW, hF⟩ := HT (hset _) (hnx _) hno
    exact step_none kd nm xv o A c ts S c0 cs R c1 row k n s xe w hx hl0 _ hE0 b1 b2 e1 e2 e3 e4 ev hAr hW hF
end Go.Proofs.YteenhmniikloiaaDoor
namespace Go.Proofs.YteenhmniikloiaaDoor
open Go.RowKit

def code (e : Int) : Prop := e = 0 ∨ e = 10 ∨ e = 11
theorem code_arith (op : Int) (a b : Int × Int × ByteArray) : code (arithV op a b).2 := by
  unfold arithV code
  split
  · exact .inl rfl
  · split
    · exact .inr (.inr rfl)
    · split
      · exact .inl rfl
      · exact .inr (.inl rfl)
theorem code_one (wd : ByteArray) (v : Int × Int × ByteArray) : code (oneX wd v).2 := by
  unfold oneX
  cases (wd.toList == [110, 111, 116])
  · cases (wd.toList == [105, 115, 110, 117, 108, 108])
    · cases (wd.toList == [108, 101, 110])
      · cases (wd.toList == [97, 98, 115])
        · exact code_arith _ _ _
        · cases decide (0 ≤ v.2.1)
          · exact code_arith _ _ _
          · exact .inl rfl
      · exact .inl rfl
    · exact .inl rfl
  · exact .inl rfl
theorem code_two (wd o : ByteArray) (a b : Int × Int × ByteArray) : code (twoX wd o a b).2 := by
  have hc : code (catV a b).2 := by
    unfold catV code
    split
    · exact .inl rfl
    · split
      · exact .inr (.inl rfl)
      · exact .inl rfl
  unfold twoX
  cases (wd.toList == [97, 110, 100])
  · cases (wd.toList == [111, 114])
    · cases (wd.toList == [101, 105, 116, 104, 101, 114])
      · cases (wd.toList == [105, 102])
        · cases (wd.toList == [99, 97, 116])
          · cases decide (cmpIx o < 6)
            · exact code_arith _ _ _
            · exact .inl rfl
          · exact hc
        · exact .inl rfl
      · exact .inl rfl
    · exact .inl rfl
  · exact .inl rfl
theorem eval_code (cs : List (ByteArray × Int)) (row : List (Int × Int × ByteArray)) : ∀ (N : Nat) (x : XT), szX x ≤ N → code (evalX cs row x).2
  | 0, x, h => by have := szX_pos x; omega
  | N + 1, .mk kd nm v o A c ts, h => by
    have hL : ∀ j, code ((evalsX cs row ts).getD j (d3, 0)).2 := fun j => by
      by_cases hj : j < ts.length
      · rw [evalsX_at cs row ts j hj]
        exact eval_code cs row N _ (by have := szX_arg (x := .mk kd nm v o A c ts) hj; simp only [XT.args] at this; omega)
      · have hlen : ∀ l : List XT, (evalsX cs row l).length = l.length := fun l => by
          induction l with
          | nil => rfl
          | cons x r ih => show (evalsX cs row r).length + 1 = r.length + 1; rw [ih]
        rw [List.getD_eq_getElem?_getD, List.getElem?_eq_none (by rw [hlen]; omega)]
        exact .inl rfl
    rw [evalX]
    by_cases h1 : kd = 1
    · rw [if_pos h1]; exact .inl rfl
    rw [if_neg h1]
    by_cases h2 : kd = 2
    · rw [if_pos h2]; exact .inl rfl
    rw [if_neg h2]
    generalize wordX (.mk kd nm v o A c ts) = wd
    generalize evalsX cs row ts = L at *
    unfold partX
    split
    · split
      · exact code_one _ _
      · split
        · exact .inl rfl
        · split
          · exact code_two _ _ _ _
          · exact hL _
    · exact hL _
theorem okV_rightV {t : Int} {v : Int × Int × ByteArray} (h : okV t v) : rightV v.1 v.2.1 v.2.2 = true ∧ (v.1 = 0 ∨ v.1 = t) := by
  rcases h with rfl | ⟨ht, h1, h2, _⟩ | ⟨ht, h1, h2, h3⟩
  · exact ⟨by kernel_rfl, .inl rfl⟩
  · refine ⟨?_, .inr (by omega)⟩
    rw [h1, h2]
    unfold rightV
    rw [if_neg (by decide), if_pos rfl]
    rw [Lib.toList_data]; rfl
  · refine ⟨?_, .inr (by omega)⟩
    rw [h1, h2]
    unfold rightV
    rw [if_neg (by decide), if_neg (by decide), if_pos rfl, h3]; rfl
end Go.Proofs.YteenhmniikloiaaDoor
