/-
  bytes.Clone, of any bytes.
  The encoder: integers and texts, appended to what it has.
  The encoder: texts; its bytes.
-/
import Derived.Test.YtdkgaknfjfgkkaaDoorFBase
import Derived.Test.YtdkgaknfjfgkkaaDoorShelf
import Derived.RegionTactic
import Derived.Deep.RegionWith
import Derived.Lib.AppendStr
namespace Go.Proofs.YtdkgaknfjfgkkaaDoor
open Go.RowKit

theorem map_u8 (l : List UInt8) : (l.map fun b => (b.toNat : Int)).map (Value.int .u8) = byC l := by simp [byC]
theorem clone_any (A : Option Addr) (c : Nat) (l : List UInt8) (w : World) (hB : BytesAt w.heap.size w A l) (hl : l.length ≤ 140737488355328) :
    Calls Tryd.prog 44 #[.slice A l.length c] w fun e w' => ∃ v', e = .returned v' ∧ w'.ownsRow w.heap.size 5 1 v' l.length (byC l) ∧ Below w.heap.size w w' := by
  cases A with
  | none =>
    have hv : l = [] := by
      rcases l with _ | ⟨y, r⟩
      · rfl
      · obtain ⟨_, _, e, _⟩ := hB 0 (by simp); cases e
    subst hv
    refine (Tryd.bytes_Clone_nil _ c w).mono fun e w' h => ⟨_, h.1, ?_, by rw [h.2]; exact Below.refl _ _⟩
    rw [h.2]
    exact World.ownsRow_nil _ _ _ _
  | some a =>
    refine (Tryd.bytes_Clone_at a l.length c (l.map fun b => (b.toNat : Int)) w (by simp) hl fun i hi => ?_).mono fun e w' h => ?_
    · obtain ⟨b, off, e, _, h0⟩ := hB i hi
      injection e with e
      subst e
      rw [show (⟨b, off, none⟩ : Addr).add i = ⟨b, off + i, none⟩ by unfold Addr.add; split <;> simp_all, h0]
      simp [List.getD_eq_getElem?_getD, List.getElem?_eq_getElem hi]
    · obtain ⟨v', h1, h2, _, h4⟩ := h
      rw [map_u8] at h2
      exact ⟨v', h1, h2, h4⟩
end Go.Proofs.YtdkgaknfjfgkkaaDoor
namespace Go.Proofs.YtdkgaknfjfgkkaaDoor
open Go.RowKit

abbrev vO (g : Nat) : Value := .pointer (some ⟨g, 0, none⟩)
theorem one_new (w : World) (x : Int) (c : UInt8) (h : x = c.toNat) : BytesAt (w.alloc (.cells #[.int .u8 x] 5)).heap.size (w.alloc (.cells #[.int .u8 x] 5)) (some ⟨w.heap.size, 0, none⟩) [c] := by subst h; exact bytes_new w [c] (0, 0)

theorem len_any (x : Int) (m : Nat) (w : World) (hx : x = m) (h1 : m < 9223372036854775808) : Calls Tryd.prog 75 #[.int .u64 x] w fun e w' => e = .returned (.int .i64 (Lib.bitLen m)) ∧ w = w' := by
  subst hx
  refine (Tryd.bits_Len64 (m : Int) w (by omega) (by omega)).mono fun e w' h => ?_
  rw [Int.toNat_natCast] at h
  exact ⟨h.1, h.2.symm⟩
theorem bitLen_le (n : Nat) : Lib.bitLen n ≤ 64 := by
  have aux : ∀ f m, Lib.bitLenAux f m ≤ f := fun f => by
    induction f with
    | zero => intro m; simp [Lib.bitLenAux]
    | succ f ih => intro m; rw [Lib.bitLenAux]; split; omega; have := ih (m / 2); omega
  exact aux 64 n

set_option maxHeartbeats 3200000 in
set_option maxRecDepth 100000 in
theorem outInt_any {base g : Nat} {v : Value} {l : List UInt8} (n : Int) (w : World) (hn : Int64 n) (hO : OutAt base g w v l) (hl : l.length ≤ 4294967000) :
    Calls Tryd.prog 65 #[vO g, .int .i64 n] w fun e w' => e = .returned (vO g) ∧ ∃ v', OutAt base g w' v' (l ++ intB n) ∧ OutTurn g v v' w w' := by
  have hm := magI_lt hn
  have hlen := digs_len 8 (magI n)
  have HCnt := hide (digs_count (magI n) (magI_lt8 hn))
  have hL := bitLen_le (magI n)
  have HO := hide hO
  obtain ⟨A, cp, rfl, -⟩ := row_slice hO.row
  have c0 : w.cell? ⟨g, 0, none⟩ = some (.slice A l.length cp) := Lib.cell_of_heap hO.box 0
  have hlt := hO.lt
  have hbs := hO.hg
  clear hO
  unfold Int64 at hn
  obtain ⟨hn0, hn1⟩ := hn
  by_cases h0 : n < 0
  · have hmi : ((magI n : Nat) : Int) = -1 - n := by unfold magI; rw [if_pos h0]; omega
    have HH := hide (headI_nat n)
    rw [if_pos h0] at HH
    have HI := hide (show intB n = headI n :: digs 8 (magI n) from rfl)
    have HLen := hide (fun w' => len_any (-1 - n) (magI n) w' hmi.symm hm)
    have HGet := hide (fun j h => digs_get 8 (magI n) j h)
    have HM := hide hmi
    clear hmi
    generalize intB n = ib at *
    generalize headI n = hd at *
    have HDl := hide (rfl : digs 8 (magI n) = digs 8 (magI n))
    generalize magI n = m at *
    generalize Lib.bitLen m = L at *
    generalize digs 8 m = ds at *
    have HB1 := hide (fun (w' : World) o => (Below.refl w'.heap.size w').alloc (Nat.le_refl _) o)
    go_enter Tryd.func65, Tryd.ntmps65
    go_wp2_with fail
    refine (HLen.out _).mono ?_
    rintro e w1 ⟨rfl, rfl⟩
    go_wp2_with (at_builtin; go_must (refine append_bytes rfl _ _ rfl base (.slice A l.length cp) l [hd] l.length rfl (HO.out.below (HB1.out w _)).row _ (some ⟨w.heap.size, 0, none⟩) 1 1 rfl rfl (one_new w _ _ ?hx) (fun e => by cases e) (by omega) (by simp; omega) ?_))
    case hx =>
      have h1 := HH.out
      have h2 := HCnt.out
      omega
    intro v' w3 hown3 hgrow3 hat3
    obtain ⟨A3, cp3, rfl, -⟩ := row_slice hown3
    obtain ⟨q0, qf, hs3, hput, hTurn⟩ := (HO.out.below (HB1.out w _)).put (l.length + 1) (by simp) hown3 hgrow3 (by rw [World.size_alloc]; exact hat3)
    have HS := hide (show ∃ v', OutAt base g (w3.setCell ⟨g, 0, none⟩ (.slice A3 (l.length + 1) cp3)) v' (l ++ hd :: ds.take 0) ∧ OutTurn g (.slice A l.length cp) v' w (w3.setCell ⟨g, 0, none⟩ (.slice A3 (l.length + 1) cp3)) from ⟨_, by simpa using hput, (OutTurn.of_below (HB1.out w _)).trans hTurn⟩)
    clear hown3 hgrow3 hat3 hput hTurn c0
    have HC2 := hide (show ((L : Int) + 8 - 1) / 8 = (ds.length : Nat) by have := HCnt.out; omega)
    go_wp2_with fail
    rw [HC2.out]
    go_loopw [1, 31] (fun x i wr => ∃ k : Nat, k ≤ ds.length ∧ i = .int .i64 k ∧ x = .int .i64 (m / 256 ^ k : Nat) ∧ ∃ v', OutAt base g wr v' (l ++ hd :: ds.take k) ∧ OutTurn g (.slice A l.length cp) v' w wr) (fun _ i _ => ds.length - (intOf i).toNat)
    case atStart => exact ⟨0, Nat.zero_le _, rfl, by rw [Nat.pow_zero, Nat.div_one, HM.out], HS.out⟩
    case round =>
      obtain ⟨k, hk, rfl, rfl, v1, hv1, ht1⟩ := hrel
      by_cases hlk : k < ds.length
      · have HG := hide (HGet.out k hlk)
        have HQ := hide (show m / 256 ^ (k + 1) = m / 256 ^ k / 256 by rw [Nat.pow_succ, Nat.div_div_eq_div_mul])
        have hq : m / 256 ^ k < 9223372036854775808 := Nat.lt_of_le_of_lt (Nat.div_le_self _ _) hm
        generalize m / 256 ^ k = q at *
        have HV := hide hv1
        have HTn := hide ht1
        obtain ⟨A1, cp1, rfl, -⟩ := row_slice hv1.row
        have c1 : wr.cell? ⟨g, 0, none⟩ = some (.slice A1 (l ++ hd :: ds.take k).length cp1) := Lib.cell_of_heap hv1.box 0
        have hlt1 := hv1.lt
        have hll : (l ++ hd :: ds.take k).length ≤ 4294967200 := by simp; omega
        have HTk := hide (show (l ++ hd :: ds.take k) ++ [UInt8.ofNat q] = l ++ hd :: ds.take (k + 1) by rw [List.take_succ_eq_append_getElem hlk, ← HG.out, List.getD_eq_getElem?_getD, List.getElem?_eq_getElem hlk]; simp)
        clear hv1 ht1 HS
        generalize l ++ hd :: ds.take k = l1 at *
        have HU := hide (u8mod q)
        generalize UInt8.ofNat q = c at *
        go_wp2_with (at_builtin; go_must (refine append_bytes rfl _ _ rfl base (.slice A1 l1.length cp1) l1 [c] l1.length rfl (HV.out.below (HB1.out wr _)).row _ (some ⟨wr.heap.size, 0, none⟩) 1 1 rfl rfl (one_new wr _ _ ?hy) (fun e => by cases e) (by omega) (by simp; omega) ?_))
        case hy =>
          rw [HU.out]
          omega
        intro v' w4 hown4 hgrow4 hat4
        obtain ⟨A4, cp4, rfl, -⟩ := row_slice hown4
        obtain ⟨r0, rf, hs4, hput4, hTurn4⟩ := (HV.out.below (HB1.out wr _)).put (l1.length + 1) (by simp) hown4 hgrow4 (by rw [World.size_alloc]; exact hat4)
        have HS4 := hide (show ∃ v', OutAt base g (w4.setCell ⟨g, 0, none⟩ (.slice A4 (l1.length + 1) cp4)) v' (l ++ hd :: ds.take (k + 1)) ∧ OutTurn g (.slice A l.length cp) v' w (w4.setCell ⟨g, 0, none⟩ (.slice A4 (l1.length + 1) cp4)) from ⟨_, by rw [← HTk.out]; exact hput4, HTn.out.trans ((OutTurn.of_below (HB1.out wr _)).trans hTurn4)⟩)
        clear hown4 hgrow4 hat4 hput4 hTurn4 c1
        go_wp2_with fail
        go_roundw
        case rel => exact ⟨k + 1, by omega, by go_num, by rw [HQ.out]; go_num, HS4.out⟩
        case measure => simp [intOf]; omega
      · obtain rfl : k = ds.length := by omega
        rw [List.take_length] at hv1
        have HF := hide (show ∃ v', OutAt base g wr v' (l ++ ib) ∧ OutTurn g (.slice A l.length cp) v' w wr from ⟨v1, by rw [HI.out]; exact hv1, ht1⟩)
        clear hv1 ht1 HS
        go_wp2_with fail
        go_ret
        exact ⟨rfl, HF.out⟩
  · have hmi : ((magI n : Nat) : Int) = n := by unfold magI; rw [if_neg h0]; omega
    have HH := hide (headI_nat n)
    rw [if_neg h0] at HH
    have HI := hide (show intB n = headI n :: digs 8 (magI n) from rfl)
    have HLen := hide (fun w' => len_any (n) (magI n) w' hmi.symm hm)
    have HGet := hide (fun j h => digs_get 8 (magI n) j h)
    have HM := hide hmi
    clear hmi
    generalize intB n = ib at *
    generalize headI n = hd at *
    have HDl := hide (rfl : digs 8 (magI n) = digs 8 (magI n))
    generalize magI n = m at *
    generalize Lib.bitLen m = L at *
    generalize digs 8 m = ds at *
    have HB1 := hide (fun (w' : World) o => (Below.refl w'.heap.size w').alloc (Nat.le_refl _) o)
    go_enter Tryd.func65, Tryd.ntmps65
    go_wp2_with fail
    refine (HLen.out _).mono ?_
    rintro e w1 ⟨rfl, rfl⟩
    go_wp2_with (at_builtin; go_must (refine append_bytes rfl _ _ rfl base (.slice A l.length cp) l [hd] l.length rfl (HO.out.below (HB1.out w _)).row _ (some ⟨w.heap.size, 0, none⟩) 1 1 rfl rfl (one_new w _ _ ?hx) (fun e => by cases e) (by omega) (by simp; omega) ?_))
    case hx =>
      have h1 := HH.out
      have h2 := HCnt.out
      omega
    intro v' w3 hown3 hgrow3 hat3
    obtain ⟨A3, cp3, rfl, -⟩ := row_slice hown3
    obtain ⟨q0, qf, hs3, hput, hTurn⟩ := (HO.out.below (HB1.out w _)).put (l.length + 1) (by simp) hown3 hgrow3 (by rw [World.size_alloc]; exact hat3)
    have HS := hide (show ∃ v', OutAt base g (w3.setCell ⟨g, 0, none⟩ (.slice A3 (l.length + 1) cp3)) v' (l ++ hd :: ds.take 0) ∧ OutTurn g (.slice A l.length cp) v' w (w3.setCell ⟨g, 0, none⟩ (.slice A3 (l.length + 1) cp3)) from ⟨_, by simpa using hput, (OutTurn.of_below (HB1.out w _)).trans hTurn⟩)
    clear hown3 hgrow3 hat3 hput hTurn c0
    have HC2 := hide (show ((L : Int) + 8 - 1) / 8 = (ds.length : Nat) by have := HCnt.out; omega)
    go_wp2_with fail
    rw [HC2.out]
    go_loopw [1, 31] (fun x i wr => ∃ k : Nat, k ≤ ds.length ∧ i = .int .i64 k ∧ x = .int .i64 (m / 256 ^ k : Nat) ∧ ∃ v', OutAt base g wr v' (l ++ hd :: ds.take k) ∧ OutTurn g (.slice A l.length cp) v' w wr) (fun _ i _ => ds.length - (intOf i).toNat)
    case atStart => exact ⟨0, Nat.zero_le _, rfl, by rw [Nat.pow_zero, Nat.div_one, HM.out], HS.out⟩
    case round =>
      obtain ⟨k, hk, rfl, rfl, v1, hv1, ht1⟩ := hrel
      by_cases hlk : k < ds.length
      · have HG := hide (HGet.out k hlk)
        have HQ := hide (show m / 256 ^ (k + 1) = m / 256 ^ k / 256 by rw [Nat.pow_succ, Nat.div_div_eq_div_mul])
        have hq : m / 256 ^ k < 9223372036854775808 := Nat.lt_of_le_of_lt (Nat.div_le_self _ _) hm
        generalize m / 256 ^ k = q at *
        have HV := hide hv1
        have HTn := hide ht1
        obtain ⟨A1, cp1, rfl, -⟩ := row_slice hv1.row
        have c1 : wr.cell? ⟨g, 0, none⟩ = some (.slice A1 (l ++ hd :: ds.take k).length cp1) := Lib.cell_of_heap hv1.box 0
        have hlt1 := hv1.lt
        have hll : (l ++ hd :: ds.take k).length ≤ 4294967200 := by simp; omega
        have HTk := hide (show (l ++ hd :: ds.take k) ++ [UInt8.ofNat q] = l ++ hd :: ds.take (k + 1) by rw [List.take_succ_eq_append_getElem hlk, ← HG.out, List.getD_eq_getElem?_getD, List.getElem?_eq_getElem hlk]; simp)
        clear hv1 ht1 HS
        generalize l ++ hd :: ds.take k = l1 at *
        have HU := hide (u8mod q)
        generalize UInt8.ofNat q = c at *
        go_wp2_with (at_builtin; go_must (refine append_bytes rfl _ _ rfl base (.slice A1 l1.length cp1) l1 [c] l1.length rfl (HV.out.below (HB1.out wr _)).row _ (some ⟨wr.heap.size, 0, none⟩) 1 1 rfl rfl (one_new wr _ _ ?hy) (fun e => by cases e) (by omega) (by simp; omega) ?_))
        case hy =>
          rw [HU.out]
          omega
        intro v' w4 hown4 hgrow4 hat4
        obtain ⟨A4, cp4, rfl, -⟩ := row_slice hown4
        obtain ⟨r0, rf, hs4, hput4, hTurn4⟩ := (HV.out.below (HB1.out wr _)).put (l1.length + 1) (by simp) hown4 hgrow4 (by rw [World.size_alloc]; exact hat4)
        have HS4 := hide (show ∃ v', OutAt base g (w4.setCell ⟨g, 0, none⟩ (.slice A4 (l1.length + 1) cp4)) v' (l ++ hd :: ds.take (k + 1)) ∧ OutTurn g (.slice A l.length cp) v' w (w4.setCell ⟨g, 0, none⟩ (.slice A4 (l1.length + 1) cp4)) from ⟨_, by rw [← HTk.out]; exact hput4, HTn.out.trans ((OutTurn.of_below (HB1.out wr _)).trans hTurn4)⟩)
        clear hown4 hgrow4 hat4 hput4 hTurn4 c1
        go_wp2_with fail
        go_roundw
        case rel => exact ⟨k + 1, by omega, by go_num, by rw [HQ.out]; go_num, HS4.out⟩
        case measure => simp [intOf]; omega
      · obtain rfl : k = ds.length := by omega
        rw [List.take_length] at hv1
        have HF := hide (show ∃ v', OutAt base g wr v' (l ++ ib) ∧ OutTurn g (.slice A l.length cp) v' w wr from ⟨v1, by rw [HI.out]; exact hv1, ht1⟩)
        clear hv1 ht1 HS
        go_wp2_with fail
        go_ret
        exact ⟨rfl, HF.out⟩
end Go.Proofs.YtdkgaknfjfgkkaaDoor
namespace Go.Proofs.YtdkgaknfjfgkkaaDoor
open Go.RowKit

theorem strCells_byC (s : ByteArray) : Lib.strCells s = byC s.data.toList := rfl
theorem run_str_at (w : World) (base : Nat) (ty : TypeId) (v : Value) (n : Nat) (xs : List Value) (hown : w.ownsRow base 5 1 v n xs) (s : ByteArray) (hb : n + s.size ≤ 4294967296) (hbase : base ≤ w.heap.size) :
    ∃ v' w', (Builtin.append_ #[22, 9] ty #[v, .string s]).run Tryd.prog w = .ok v' w' ∧ w'.ownsRow base 5 1 v' (n + s.size) (xs ++ Lib.strCells s) ∧ w.grownBy w' v.ownBlock ∧ (v'.ownBlock = v.ownBlock ∨ v'.ownBlock = some w.heap.size) := by
  obtain ⟨i0, hi, hz0, hz1, hz2⟩ := info_parts u8_info
  obtain ⟨v', w', hr, h2, h3, h4⟩ := Lib.run_append_own_string (P := Tryd.prog) w base 22 9 ty 5 i0 Tryd.underlying22 Tryd.underlying9 hi hz0 hz1 hz2 v n xs hown s (by unfold maxLen; omega) (by omega) hbase
  refine ⟨v', w', hr, h2, h3, ?_⟩
  have hxl : xs.length = n := by simpa using hown.1
  rcases hown.2 with ⟨rfl, rfl⟩ | ⟨g, cap, cur, rfl, hbg, hg, hnc, hcm, hcs, htake⟩
  · by_cases hm : s.size = 0
    · rw [h4.2 ⟨rfl, hm⟩]; exact .inl rfl
    · have hr2 := run_append_nil_string (P := Tryd.prog) w 22 9 ty 5 i0 (.int .u8 0) Tryd.underlying22 Tryd.underlying9 hi hz0 s (by omega) (by omega) (by rw [hz2]; omega)
      rw [hr] at hr2
      injection hr2 with e1 e2
      rw [e1]
      exact .inr rfl
  · by_cases hroom : n + s.size ≤ cap
    · have hr2 := Lib.run_append_room_string (P := Tryd.prog) w 22 9 ty 5 i0 Tryd.underlying22 Tryd.underlying9 hi hz1 g n cap cur hg s hroom (by rw [hcs]; omega)
      rw [hr] at hr2
      injection hr2 with e1 e2
      rw [e1]
      exact .inl rfl
    · have hr2 := Lib.run_append_grow_string (P := Tryd.prog) w 22 9 ty 5 i0 (.int .u8 0) Tryd.underlying22 Tryd.underlying9 hi hz0 ⟨g, 0, none⟩ n cap xs (by rw [hz1]; simpa using hxl) (hown.cells (g := g) rfl) s (by omega) (by omega) (by rw [hz2]; exact growslice_fits (by omega) (by omega))
      rw [hr] at hr2
      injection hr2 with e1 e2
      rw [e1]
      exact .inr rfl
theorem append_str {w : World} {ops : Array Oper} {rest : List Oper} {o : Oper} {a : Act} {Q : Exit → Act → World → Prop} (hgd : o.guard = none) (sl x : Operand)
    (ho : o.op = .call { callee := .builtin .append, args := #[sl, x], argTypes := #[22, 9] })
    (base : Nat) (v : Value) (l : List UInt8) (n : Nat) (hs : a.eval sl = v) (hown : w.ownsRow base 5 1 v n (byC l)) (s : ByteArray) (hx : a.eval x = .string s) (hb : n + s.size ≤ 4294967296) (hbase : base ≤ w.heap.size)
    (h : ∀ v' w', w'.ownsRow base 5 1 v' (n + s.size) (byC (l ++ s.data.toList)) → w.grownBy w' v.ownBlock → (v'.ownBlock = v.ownBlock ∨ v'.ownBlock = some w.heap.size) → wpList Tryd.prog ops Q rest (a.put o.dst v') w') : wpList Tryd.prog ops Q (o :: rest) a w := by
  refine wpList_plain hgd fun K hK => ?_
  obtain ⟨v', w', hr, h2, h3, h4⟩ := run_str_at w base o.type v n (byC l) hown s hb hbase
  rw [strCells_byC, show byC l ++ byC s.data.toList = byC (l ++ s.data.toList) by simp [byC]] at h2
  unfold Oper.wp execOp
  simp only [ho, resolve, invoke, builtin, Sem.run_bind, Sem.run_pure, Result.andThen_ok, List.map_toArray, List.map_cons, List.map_nil, hs, hx, hr]
  exact hK _ _ (h v' w' h2 h3 h4)

set_option maxHeartbeats 3200000 in
set_option maxRecDepth 100000 in
theorem outText_any {base g : Nat} {v : Value} {l : List UInt8} (s : ByteArray) (w : World) (hO : OutAt base g w v l) (hl : l.length + s.size ≤ 4294960000) :
    Calls Tryd.prog 66 #[vO g, .string s] w fun e w' => e = .returned (vO g) ∧ ∃ v', OutAt base g w' v' (l ++ textB s.data.toList) ∧ OutTurn g v v' w w' := by
  have hsz : s.data.toList.length = s.size := by simp
  have HI := hide (outInt_any (s.size : Int) w ⟨by omega, by omega⟩ hO (by omega))
  have HB := hide (show textB s.data.toList = intB (s.size : Int) ++ s.data.toList by unfold textB; rw [hsz])
  have hi9 := (intB_len (s.size : Int)).2
  have hb0 := hO.hg
  clear hO hsz
  generalize intB (s.size : Int) = ib at *
  go_enter Tryd.func66, Tryd.ntmps66
  go_wp2_with fail
  refine HI.out.mono ?_
  rintro e w1 ⟨rfl, v1, hv1, ht1⟩
  have HV := hide hv1
  have HT := hide ht1
  obtain ⟨A, cp, rfl, -⟩ := row_slice hv1.row
  have c0 : w1.cell? ⟨g, 0, none⟩ = some (.slice A (l ++ ib).length cp) := Lib.cell_of_heap hv1.box 0
  have hlt := hv1.lt
  have hll : (l ++ ib).length ≤ l.length + 9 := by rw [List.length_append]; omega
  have HA := hide (show (l ++ ib) ++ s.data.toList = l ++ textB s.data.toList by rw [HB.out, List.append_assoc])
  clear hv1 ht1
  generalize l ++ ib = l1 at *
  go_wp2_with (at_builtin; go_must (refine append_str rfl _ _ rfl base (.slice A l1.length cp) l1 l1.length rfl HV.out.row s rfl (by omega) (by omega) ?_))
  intro v' w3 hown3 hgrow3 hat3
  obtain ⟨A3, cp3, rfl, -⟩ := row_slice hown3
  have hz : s.data.toList.length = s.size := by simp
  obtain ⟨q0, qf, hs3, hput, hTurn⟩ := HV.out.put (l1.length + s.size) (by rw [List.length_append, hz]) hown3 hgrow3 hat3
  have HS := hide (show ∃ v', OutAt base g (w3.setCell ⟨g, 0, none⟩ (.slice A3 (l1.length + s.size) cp3)) v' (l ++ textB s.data.toList) ∧ OutTurn g v v' w (w3.setCell ⟨g, 0, none⟩ (.slice A3 (l1.length + s.size) cp3)) from ⟨_, by rw [← HA.out]; exact hput, HT.out.trans hTurn⟩)
  clear hown3 hgrow3 hat3 hput hTurn c0 hz
  go_wp2_with fail
  go_ret
  exact ⟨rfl, HS.out⟩

set_option maxHeartbeats 1600000 in
set_option maxRecDepth 100000 in
theorem outBytes_any {base g : Nat} {v : Value} {l : List UInt8} (w : World) (hO : OutAt base g w v l) (hl : l.length ≤ 140737488355328) :
    Calls Tryd.prog 68 #[vO g] w fun e w' => ∃ v', e = .returned v' ∧ w'.ownsRow w.heap.size 5 1 v' l.length (byC l) ∧ Below w.heap.size w w' := by
  obtain ⟨A, c, hv, hB, _, _, _⟩ := bytes_of_row hO.row
  subst hv
  have c0 : w.cell? ⟨g, 0, none⟩ = some (.slice A l.length c) := Lib.cell_of_heap hO.box 0
  have HC := hide (clone_any A c l w hB hl)
  clear hO hB
  go_enter Tryd.func68, Tryd.ntmps68
  go_wp2_with fail
  refine HC.out.mono ?_
  rintro e w1 ⟨v1, rfl, hrow, hb1⟩
  have HA := hide (And.intro hrow hb1)
  obtain ⟨A1, c1, rfl, _⟩ := row_slice hrow
  clear hrow hb1
  go_wp2_with fail
  go_ret
  exact ⟨_, rfl, HA.out⟩
end Go.Proofs.YtdkgaknfjfgkkaaDoor
