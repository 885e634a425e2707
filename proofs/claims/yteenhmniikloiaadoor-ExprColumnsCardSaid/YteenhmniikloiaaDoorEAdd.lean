/-
  addNames: the names of the columns in an expression, behind those that are there.
-/
import Derived.Test.YteenhmniikloiaaDoorECount
import Derived.Laws.MakeOwn
import Derived.Maps.AppendAt
import Derived.Lib.BufferOwn
namespace Go.Proofs.YteenhmniikloiaaDoor
open Go.RowKit

mutual
/-- The names of the columns in an expression, in the text's order. -/
def namesX : XT → List ByteArray
  | .mk k n _ _ _ _ ts => (if k = 1 then [n] else []) ++ namesXs ts
def namesXs : List XT → List ByteArray
  | [] => []
  | x :: r => namesX x ++ namesXs r
end
mutual
theorem namesX_len : ∀ x : XT, (namesX x).length ≤ szX x
  | .mk k n v o A c ts => by
    have := namesXs_len ts
    show ((if k = 1 then [n] else []) ++ namesXs ts).length ≤ 1 + szXs ts
    rw [List.length_append]
    split <;> simp <;> omega
theorem namesXs_len : ∀ l : List XT, (namesXs l).length ≤ szXs l
  | [] => Nat.le_refl _
  | x :: r => by
    have h1 := namesX_len x
    have h2 := namesXs_len r
    show (namesX x ++ namesXs r).length ≤ szX x + szXs r
    rw [List.length_append]; omega
end
theorem namesXs_append : ∀ l m : List XT, namesXs (l ++ m) = namesXs l ++ namesXs m
  | [], m => rfl
  | x :: r, m => by show namesX x ++ namesXs (r ++ m) = namesX x ++ namesXs r ++ namesXs m; rw [namesXs_append r m, List.append_assoc]
theorem namesXs_take {ts : List XT} {k : Nat} (h : k < ts.length) : namesXs (ts.take (k + 1)) = namesXs (ts.take k) ++ namesX (ts.getD k dX) := by
  rw [List.take_add_one, List.getElem?_eq_getElem h, namesXs_append, List.getD_eq_getElem?_getD, List.getElem?_eq_getElem h]
  show _ ++ (namesX ts[k] ++ []) = _
  rw [List.append_nil]; rfl
theorem take_sz (l : List XT) : ∀ k, szXs (l.take k) + szXs (l.drop k) = szXs l := by
  induction l with
  | nil => intro k; simp [szXs]
  | cons x r ih =>
    intro k
    cases k with
    | zero => simp [szXs]
    | succ k => have := ih k; show szX x + szXs (r.take k) + szXs (r.drop k) = szX x + szXs r; omega
def strCells (l : List ByteArray) : List Value := l.map Value.string
theorem strCells_append (l m : List ByteArray) : strCells (l ++ m) = strCells l ++ strCells m := by unfold strCells; rw [List.map_append]
theorem grown_step {W w1 w2 : World} {r r1 : Option Nat} (h1 : W.grownBy w1 r) (h2 : w1.grownBy w2 r1) (hr : r1 = r ∨ ∃ g, r1 = some g ∧ W.heap.size ≤ g) : W.grownBy w2 r := by
  rcases hr with rfl | ⟨g, rfl, hg⟩
  · exact Lib.grownBy_trans h1 h2
  · exact ⟨h2.os.trans h1.os, h2.tape.trans h1.tape, h2.output.trans h1.output, Nat.le_trans h1.size h2.size, fun i hi hr => (h2.block i (Nat.lt_of_lt_of_le hi h1.size) (fun e => by injection e with e; omega)).trans (h1.block i hi hr)⟩
theorem str_info : (Tryd.prog.info? 9).map (fun i => (i.zero, i.size, i.bytes)) = some (some (.string ⟨#[]⟩), 1, 16) := by kernel_rfl
theorem str_one (s : ByteArray) : ∀ u ∈ ([.string s] : List Value), u.oneCell' = true := fun u hu => by
  simp at hu; subst hu; rfl
theorem str_new (w : World) (t : TypeId) (s : ByteArray) (H : Nat) (hH : w.heap.size = H) : ∀ j u, ([.string s] : List Value)[j]? = some u → (w.alloc (.cells #[.string s] t)).cell? ((⟨H, 0, none⟩ : Addr).add j) = some u := fun j u hj => by
  subst hH
  match j, hj with
  | 0, hj => simp at hj; subst hj; simp [Addr.add]
theorem grownBy_refl (w : World) (r : Option Nat) : w.grownBy w r := ⟨rfl, rfl, rfl, Nat.le_refl _, fun _ _ _ => rfl⟩
def AddRes (base : Nat) (v : Value) (ms : List ByteArray) (w : World) (e : Ending) (w' : World) : Prop :=
  ∃ v', e = .returned v' ∧ w'.ownsRow base 9 1 v' ms.length (strCells ms) ∧ w.grownBy w' v.ownBlock ∧ (v'.ownBlock = v.ownBlock ∨ ∃ g, v'.ownBlock = some g ∧ w.heap.size ≤ g)
def AddOk (N : Nat) : Prop := ∀ (x : XT) (base : Nat) (v : Value) (ns : List ByteArray) (w : World), szX x ≤ N → szX x ≤ 1000000 → ns.length + szX x ≤ 2000000 → base ≤ w.heap.size → LiesX base w x → w.ownsRow base 9 1 v ns.length (strCells ns) →
  Calls Tryd.prog 45 #[vX x, v] w (AddRes base v (ns ++ namesX x) w)
set_option maxHeartbeats 3200000 in
set_option maxRecDepth 100000 in
theorem add_step (N : Nat) (hih : AddOk N) (kd : Int) (nm : ByteArray) (vv : Int × Int × ByteArray) (o : ByteArray) (A : Option Addr) (c : Nat) (ts : List XT) (base : Nat) (v : Value) (ns : List ByteArray) (w : World) (hN : szX (.mk kd nm vv o A c ts) ≤ N + 1) (hz : szX (.mk kd nm vv o A c ts) ≤ 1000000) (hn : ns.length + szX (.mk kd nm vv o A c ts) ≤ 2000000) (hbase : base ≤ w.heap.size) (hx : LiesX base w (.mk kd nm vv o A c ts)) (ho : w.ownsRow base 9 1 v ns.length (strCells ns)) :
    Calls Tryd.prog 45 #[vX (.mk kd nm vv o A c ts), v] w (AddRes base v (ns ++ namesX (.mk kd nm vv o A c ts)) w) := by
  have ih := hide hih
  have hWg : w.grownBy (boxE w (.mk kd nm vv o A c ts)) v.ownBlock := World.grownBy_alloc w _ _
  have HWg := hide hWg
  have HWE := hide (show boxE w (.mk kd nm vv o A c ts) = w.alloc (.cells (eCells kd nm vv o A ts.length c) 32) from rfl)
  have hWs : (boxE w (.mk kd nm vv o A c ts)).heap.size = w.heap.size + 1 := by simp [boxE]
  have hown : (boxE w (.mk kd nm vv o A c ts)).ownsRow base 9 1 v ns.length (strCells ns) := ho.alloc _
  have hvl := ho.lt
  have HBel := hide (fun wr (h : (boxE w (.mk kd nm vv o A c ts)).grownBy wr v.ownBlock) => ((Below.refl base w).grown (Lib.grownBy_trans hWg h) hbase (fun j hj => (hvl j hj).1) : Below base w wr))
  have HCell := hide (fun wr (h : (boxE w (.mk kd nm vv o A c ts)).grownBy wr v.ownBlock) => (h.cell (a := ⟨w.heap.size, 6, none⟩) (v := .slice A ts.length c) (by simp [boxE, XT.kind, XT.name, XT.val, XT.op, XT.adr, XT.args, XT.cap]) (fun e => by have := (hvl _ e.symm).2; simp only at this; omega) : wr.cell? ⟨w.heap.size, 6, none⟩ = some (.slice A ts.length c)))
  have HX := hide hx
  have e1 : szX (.mk kd nm vv o A c ts) = 1 + szXs ts := rfl
  have hle := len_szXs ts
  have HSA := hide (fun k (h : k < ts.length) => (by have := szX_arg (x := .mk kd nm vv o A c ts) h; simp only [XT.args] at this; rw [e1] at this; exact this : szX (ts.getD k dX) < 1 + szXs ts))
  have HNl := hide (fun k (h : k < ts.length) => (show szXs (ts.take k) + szX (ts.getD k dX) ≤ szXs ts from by have h1 := take_sz ts k; have h2 := szXs_drop (l := ts) h; omega))
  have HLe := hide (fun k => namesXs_len (ts.take k))
  have HNm := hide (show namesX (.mk kd nm vv o A c ts) = (if kd = 1 then [nm] else []) ++ namesXs ts from rfl)
  have HO := hide hown
  have HB0 := hide hbase
  rw [e1] at hN hz hn
  show Calls Tryd.prog 45 #[.agg (eCells kd nm vv o A ts.length c), v] w _
  generalize boxE w (.mk kd nm vv o A c ts) = W at *
  obtain ⟨i0, hi, hz0, hz1, hz2⟩ := info_parts str_info
  unfold AddRes
  clear hx ho hown hih hWg e1 hvl
  by_cases h1 : kd = 1
  · have b1 : (kd == 1) = true := by rw [beq_iff_eq]; exact h1
    obtain ⟨ns1, hns1⟩ : ∃ l, l = ns ++ [nm] := ⟨_, rfl⟩
    have hl1 : ns1.length = ns.length + 1 := by rw [hns1, List.length_append]; rfl
    have HN1 := hide (show ns ++ (if kd = 1 then [nm] else []) = ns1 from by rw [if_pos h1, hns1])
    have HSn := hide (show strCells ns1 = strCells ns ++ [.string nm] from by rw [hns1, strCells_append]; rfl)
    clear h1 hns1
    go_enter Tryd.func45, Tryd.ntmps45
    go_wp2_with (at_builtin; rw [← HWE.out]; go_must (refine wpList_append_own_at _ rfl _ _ 57 rfl base 9 i0 (.string ⟨#[]⟩) 1 16 Tryd.underlying57 hi hz0 hz1 hz2 rfl (by decide) _ _ _ rfl (HO.out.alloc _) ⟨w.heap.size + 1, 0, none⟩ 1 1 [.string nm] rfl rfl (str_new _ _ _ _ hWs) (str_one _) (by unfold maxLen; omega) (by omega) (by simp; omega) ?_))
    intro v1 w1 hown1 hgrow1 _ hloc1
    have HO1 := hide (show w1.ownsRow base 9 1 v1 ns1.length (strCells ns1) from by rw [HSn.out, hl1]; exact hown1)
    have HG1 := hide (Lib.grownBy_trans (World.grownBy_alloc W _ _) hgrow1)
    have HL1 := hide (show v1.ownBlock = v.ownBlock ∨ ∃ g, v1.ownBlock = some g ∧ W.heap.size ≤ g from by
      rcases hloc1 with h | h
      · exact .inl h
      · refine .inr ⟨_, h, ?_⟩
        first | (simp; done) | omega)
    have hc6 := HCell.out _ HG1.out
    clear hown1 hgrow1 hloc1
    go_wp2_with fail
    go_loopw [1, 18] (fun lv i wr => ∃ k : Nat, k ≤ ts.length ∧ i = .int .i64 k ∧ wr.ownsRow base 9 1 lv (ns1 ++ namesXs (ts.take k)).length (strCells (ns1 ++ namesXs (ts.take k))) ∧ W.grownBy wr v.ownBlock ∧ (lv.ownBlock = v.ownBlock ∨ ∃ g, lv.ownBlock = some g ∧ W.heap.size ≤ g)) (fun _ i _ => ts.length - (intOf i).toNat)
    case atStart => exact ⟨0, Nat.zero_le _, rfl, (by rw [List.take_zero]; show w1.ownsRow _ _ _ _ (ns1 ++ []).length (strCells (ns1 ++ [])); rw [List.append_nil]; exact HO1.out), HG1.out, HL1.out⟩
    case round =>
      obtain ⟨k, hk, rfl, hown, hgr, hloc⟩ := hrel
      have HOw := hide hown
      have HGr := hide hgr
      have HLo := hide hloc
      have hs0 := hgr.size
      have HBb := hide (HBel.out _ hgr)
      have HSt := hide (fun (h : k < ts.length) => namesXs_take (ts := ts) h)
      clear hown hgr hloc
      by_cases hlt : k < ts.length
      · obtain ⟨b, off, hadr, hb, h7, hly⟩ := (HX.out.keep HBb.out).at (j := k) hlt
        simp only [XT.adr, XT.args] at hadr h7 hly
        subst hadr
        have hsy := HSA.out k hlt
        have hnl := HNl.out k hlt
        have hle2 := HLe.out k
        have hTk := HSt.out hlt
        generalize ts.getD k dX = y at *
        have hal2 := Joins.below_alloc1 wr (.cells (eCells y.kind y.name y.val y.op y.adr y.args.length y.cap) 32)
        have HCall := hide (ih.out y base u1 (ns1 ++ namesXs (ts.take k)) (wr.alloc (.cells (eCells y.kind y.name y.val y.op y.adr y.args.length y.cap) 32)) (by omega) (by omega) (by rw [List.length_append]; omega) (by simp; omega) (hly.keep (hal2.mono (by omega))) (HOw.out.alloc _))
        have HTk := hide hTk
        obtain ⟨g0, g1, g2, g3, g4, g5, g6⟩ := h7
        have hb' : b < wr.heap.size := by omega
        clear hly hal2 hnl hle2 hTk HSt
        go_wp2_with fail
        refine HCall.out.mono ?_
        rintro e w3 ⟨v3, rfl, hown3, hgrow3, hloc3⟩
        have HO3 := hide hown3
        have HG3 := hide (grown_step (Lib.grownBy_allocR HGr.out _) hgrow3 HLo.out)
        have HL3 := hide (show v3.ownBlock = v.ownBlock ∨ ∃ g, v3.ownBlock = some g ∧ W.heap.size ≤ g from by
          rcases hloc3 with h | ⟨g, h, h'⟩
          · rw [h]; exact HLo.out
          · exact .inr ⟨g, h, by simp at h'; omega⟩)
        clear hown3 hgrow3 hloc3 g0 g1 g2 g3 g4 g5 g6
        go_wp2_with fail
        go_roundw
        case rel =>
          refine ⟨k + 1, by omega, by go_num, ?_, HG3.out, HL3.out⟩
          rw [HTk.out, ← List.append_assoc]
          exact HO3.out
        case measure => simp [intOf]; omega
      · obtain rfl : k = ts.length := by omega
        have HR := hide (show wr.ownsRow base 9 1 u1 (ns ++ namesX (.mk kd nm vv o A c ts)).length (strCells (ns ++ namesX (.mk kd nm vv o A c ts))) from by
          have := HOw.out
          rw [List.take_length] at this
          rw [HNm.out, ← List.append_assoc, HN1.out]
          exact this)
        have HG := hide (Lib.grownBy_trans HWg.out HGr.out)
        have HLz := hide (show u1.ownBlock = v.ownBlock ∨ ∃ g, u1.ownBlock = some g ∧ w.heap.size ≤ g from by
          rcases HLo.out with h | ⟨g, h, h'⟩
          · exact .inl h
          · exact .inr ⟨g, h, by omega⟩)
        clear HOw HGr HLo HBb HSt
        go_wp2_with fail
        go_ret
        exact ⟨u1, rfl, HR.out, HG.out, HLz.out⟩
  · have b1 : (kd == 1) = false := by rw [beq_eq_false_iff_ne]; exact h1
    obtain ⟨ns1, hns1⟩ : ∃ l, l = ns := ⟨_, rfl⟩
    have hl1 : ns1.length = ns.length := by rw [hns1]
    have HN1 := hide (show ns ++ (if kd = 1 then [nm] else []) = ns1 from by rw [if_neg h1, List.append_nil, hns1])
    have HO1 := hide (show W.ownsRow base 9 1 v ns1.length (strCells ns1) from by rw [hns1]; exact HO.out)
    have HG1 := hide (grownBy_refl W v.ownBlock)
    clear h1 hns1
    go_enter Tryd.func45, Tryd.ntmps45
    go_wp2_with fail
    rw [← HWE.out]
    go_loopw [1, 18] (fun lv i wr => ∃ k : Nat, k ≤ ts.length ∧ i = .int .i64 k ∧ wr.ownsRow base 9 1 lv (ns1 ++ namesXs (ts.take k)).length (strCells (ns1 ++ namesXs (ts.take k))) ∧ W.grownBy wr v.ownBlock ∧ (lv.ownBlock = v.ownBlock ∨ ∃ g, lv.ownBlock = some g ∧ W.heap.size ≤ g)) (fun _ i _ => ts.length - (intOf i).toNat)
    case atStart => exact ⟨0, Nat.zero_le _, rfl, (by rw [List.take_zero]; show W.ownsRow _ _ _ _ (ns1 ++ []).length (strCells (ns1 ++ [])); rw [List.append_nil]; exact HO1.out), HG1.out, .inl rfl⟩
    case round =>
      obtain ⟨k, hk, rfl, hown, hgr, hloc⟩ := hrel
      have HOw := hide hown
      have HGr := hide hgr
      have HLo := hide hloc
      have hs0 := hgr.size
      have HBb := hide (HBel.out _ hgr)
      have HSt := hide (fun (h : k < ts.length) => namesXs_take (ts := ts) h)
      clear hown hgr hloc
      by_cases hlt : k < ts.length
      · obtain ⟨b, off, hadr, hb, h7, hly⟩ := (HX.out.keep HBb.out).at (j := k) hlt
        simp only [XT.adr, XT.args] at hadr h7 hly
        subst hadr
        have hsy := HSA.out k hlt
        have hnl := HNl.out k hlt
        have hle2 := HLe.out k
        have hTk := HSt.out hlt
        generalize ts.getD k dX = y at *
        have hal2 := Joins.below_alloc1 wr (.cells (eCells y.kind y.name y.val y.op y.adr y.args.length y.cap) 32)
        have HCall := hide (ih.out y base u1 (ns1 ++ namesXs (ts.take k)) (wr.alloc (.cells (eCells y.kind y.name y.val y.op y.adr y.args.length y.cap) 32)) (by omega) (by omega) (by rw [List.length_append]; omega) (by simp; omega) (hly.keep (hal2.mono (by omega))) (HOw.out.alloc _))
        have HTk := hide hTk
        obtain ⟨g0, g1, g2, g3, g4, g5, g6⟩ := h7
        have hb' : b < wr.heap.size := by omega
        clear hly hal2 hnl hle2 hTk HSt
        go_wp2_with fail
        refine HCall.out.mono ?_
        rintro e w3 ⟨v3, rfl, hown3, hgrow3, hloc3⟩
        have HO3 := hide hown3
        have HG3 := hide (grown_step (Lib.grownBy_allocR HGr.out _) hgrow3 HLo.out)
        have HL3 := hide (show v3.ownBlock = v.ownBlock ∨ ∃ g, v3.ownBlock = some g ∧ W.heap.size ≤ g from by
          rcases hloc3 with h | ⟨g, h, h'⟩
          · rw [h]; exact HLo.out
          · exact .inr ⟨g, h, by simp at h'; omega⟩)
        clear hown3 hgrow3 hloc3 g0 g1 g2 g3 g4 g5 g6
        go_wp2_with fail
        go_roundw
        case rel =>
          refine ⟨k + 1, by omega, by go_num, ?_, HG3.out, HL3.out⟩
          rw [HTk.out, ← List.append_assoc]
          exact HO3.out
        case measure => simp [intOf]; omega
      · obtain rfl : k = ts.length := by omega
        have HR := hide (show wr.ownsRow base 9 1 u1 (ns ++ namesX (.mk kd nm vv o A c ts)).length (strCells (ns ++ namesX (.mk kd nm vv o A c ts))) from by
          have := HOw.out
          rw [List.take_length] at this
          rw [HNm.out, ← List.append_assoc, HN1.out]
          exact this)
        have HG := hide (Lib.grownBy_trans HWg.out HGr.out)
        have HLz := hide (show u1.ownBlock = v.ownBlock ∨ ∃ g, u1.ownBlock = some g ∧ w.heap.size ≤ g from by
          rcases HLo.out with h | ⟨g, h, h'⟩
          · exact .inl h
          · exact .inr ⟨g, h, by omega⟩)
        clear HOw HGr HLo HBb HSt
        go_wp2_with fail
        go_ret
        exact ⟨u1, rfl, HR.out, HG.out, HLz.out⟩
theorem add_ok : ∀ N : Nat, AddOk N
  | 0 => fun x base v ns w hN => by have := szX_pos x; omega
  | N + 1 => fun x base v ns w hN hz hn hb hx ho => by
    obtain ⟨kd, nm, vv, o, A, c, ts⟩ := x
    exact add_step N (add_ok N) kd nm vv o A c ts base v ns w hN hz hn hb hx ho
end Go.Proofs.YteenhmniikloiaaDoor
