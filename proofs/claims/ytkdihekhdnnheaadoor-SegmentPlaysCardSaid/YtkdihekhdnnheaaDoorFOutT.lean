/-
  The encoder: texts; its bytes.
-/
import Derived.Test.YtkdihekhdnnheaaDoorFOut
import Derived.Test.YtkdihekhdnnheaaDoorFClone
import Derived.Lib.AppendStr
namespace Go.Proofs.YtkdihekhdnnheaaDoor
open Go.RowKit

theorem strCells_byC (s : ByteArray) : Lib.strCells s = byC s.data.toList := rfl
theorem run_str_at (w : World) (base : Nat) (ty : TypeId) (v : Value) (n : Nat) (xs : List Value) (hown : w.ownsRow base 5 1 v n xs) (s : ByteArray) (hb : n + s.size ≤ 4294967296) (hbase : base ≤ w.heap.size) :
    ∃ v' w', (Builtin.append_ #[28, 9] ty #[v, .string s]).run Tryd.prog w = .ok v' w' ∧ w'.ownsRow base 5 1 v' (n + s.size) (xs ++ Lib.strCells s) ∧ w.grownBy w' v.ownBlock ∧ (v'.ownBlock = v.ownBlock ∨ v'.ownBlock = some w.heap.size) := by
  obtain ⟨i0, hi, hz0, hz1, hz2⟩ := info_parts u8_info
  obtain ⟨v', w', hr, h2, h3, h4⟩ := Lib.run_append_own_string (P := Tryd.prog) w base 28 9 ty 5 i0 Tryd.underlying28 Tryd.underlying9 hi hz0 hz1 hz2 v n xs hown s (by unfold maxLen; omega) (by omega) hbase
  refine ⟨v', w', hr, h2, h3, ?_⟩
  have hxl : xs.length = n := by simpa using hown.1
  rcases hown.2 with ⟨rfl, rfl⟩ | ⟨g, cap, cur, rfl, hbg, hg, hnc, hcm, hcs, htake⟩
  · by_cases hm : s.size = 0
    · rw [h4.2 ⟨rfl, hm⟩]; exact .inl rfl
    · have hr2 := run_append_nil_string (P := Tryd.prog) w 28 9 ty 5 i0 (.int .u8 0) Tryd.underlying28 Tryd.underlying9 hi hz0 s (by omega) (by omega) (by rw [hz2]; omega)
      rw [hr] at hr2
      injection hr2 with e1 e2
      rw [e1]
      exact .inr rfl
  · by_cases hroom : n + s.size ≤ cap
    · have hr2 := Lib.run_append_room_string (P := Tryd.prog) w 28 9 ty 5 i0 Tryd.underlying28 Tryd.underlying9 hi hz1 g n cap cur hg s hroom (by rw [hcs]; omega)
      rw [hr] at hr2
      injection hr2 with e1 e2
      rw [e1]
      exact .inl rfl
    · have hr2 := Lib.run_append_grow_string (P := Tryd.prog) w 28 9 ty 5 i0 (.int .u8 0) Tryd.underlying28 Tryd.underlying9 hi hz0 ⟨g, 0, none⟩ n cap xs (by rw [hz1]; simpa using hxl) (hown.cells (g := g) rfl) s (by omega) (by omega) (by rw [hz2]; exact growslice_fits (by omega) (by omega))
      rw [hr] at hr2
      injection hr2 with e1 e2
      rw [e1]
      exact .inr rfl
theorem append_str {w : World} {ops : Array Oper} {rest : List Oper} {o : Oper} {a : Act} {Q : Exit → Act → World → Prop} (hgd : o.guard = none) (sl x : Operand)
    (ho : o.op = .call { callee := .builtin .append, args := #[sl, x], argTypes := #[28, 9] })
    (base : Nat) (v : Value) (l : List UInt8) (n : Nat) (hs : a.eval sl = v) (hown : w.ownsRow base 5 1 v n (byC l)) (s : ByteArray) (hx : a.eval x = .string s) (hb : n + s.size ≤ 4294967296) (hbase : base ≤ w.heap.size)
    (h : ∀ v' w', w'.ownsRow base 5 1 v' (n + s.size) (byC (l ++ s.data.toList)) → w.grownBy w' v.ownBlock → (v'.ownBlock = v.ownBlock ∨ v'.ownBlock = some w.heap.size) → wpList Tryd.prog ops Q rest (a.put o.dst v') w') : wpList Tryd.prog ops Q (o :: rest) a w := by
  refine wpList_plain hgd fun K hK => ?_
  obtain ⟨v', w', hr, h2, h3, h4⟩ := run_str_at w base o.type v n (byC l) hown s hb hbase
  rw [strCells_byC, show byC l ++ byC s.data.toList = byC (l ++ s.data.toList) by simp [byC]] at h2
  unfold Oper.wp execOp
  simp only [ho, resolve, invoke, builtin, Sem.run_bind, Sem.run_pure, Result.andThen_ok, List.map_toArray, List.map_cons, List.map_nil, hs, hx, hr]
  exact hK _ _ (h v' w' h2 h3 h4)

set_option maxHeartbeats 3200000 in
set_option maxRecDepth 100000 in
theorem outText_any {base g : Nat} {v : Value} {l : List UInt8} (s : ByteArray) (w : World) (hO : OutAt base g w v l) (hl : l.length + s.size ≤ 4294960000) :
    Calls Tryd.prog 52 #[vO g, .string s] w fun e w' => e = .returned (vO g) ∧ ∃ v', OutAt base g w' v' (l ++ textB s.data.toList) ∧ OutTurn g v v' w w' := by
  have hsz : s.data.toList.length = s.size := by simp
  have HI := hide (outInt_any (s.size : Int) w ⟨by omega, by omega⟩ hO (by omega))
  have HB := hide (show textB s.data.toList = intB (s.size : Int) ++ s.data.toList by unfold textB; rw [hsz])
  have hi9 := (intB_len (s.size : Int)).2
  have hb0 := hO.hg
  clear hO hsz
  generalize intB (s.size : Int) = ib at *
  go_enter Tryd.func52, Tryd.ntmps52
  go_wp2_with fail
  refine HI.out.mono ?_
  rintro e w1 ⟨rfl, v1, hv1, ht1⟩
  have HV := hide hv1
  have HT := hide ht1
  obtain ⟨A, cp, rfl, -⟩ := row_slice hv1.row
  have c0 : w1.cell? ⟨g, 0, none⟩ = some (.slice A (l ++ ib).length cp) := Lib.cell_of_heap hv1.box 0
  have hlt := hv1.lt
  have hll : (l ++ ib).length ≤ l.length + 9 := by rw [List.length_append]; omega
  have HA := hide (show (l ++ ib) ++ s.data.toList = l ++ textB s.data.toList by rw [HB.out, List.append_assoc])
  clear hv1 ht1
  generalize l ++ ib = l1 at *
  go_wp2_with (at_builtin; go_must (refine append_str rfl _ _ rfl base (.slice A l1.length cp) l1 l1.length rfl HV.out.row s rfl (by omega) (by omega) ?_))
  intro v' w3 hown3 hgrow3 hat3
  obtain ⟨A3, cp3, rfl, -⟩ := row_slice hown3
  have hz : s.data.toList.length = s.size := by simp
  obtain ⟨q0, qf, hs3, hput, hTurn⟩ := HV.out.put (l1.length + s.size) (by rw [List.length_append, hz]) hown3 hgrow3 hat3
  have HS := hide (show ∃ v', OutAt base g (w3.setCell ⟨g, 0, none⟩ (.slice A3 (l1.length + s.size) cp3)) v' (l ++ textB s.data.toList) ∧ OutTurn g v v' w (w3.setCell ⟨g, 0, none⟩ (.slice A3 (l1.length + s.size) cp3)) from ⟨_, by rw [← HA.out]; exact hput, HT.out.trans hTurn⟩)
  clear hown3 hgrow3 hat3 hput hTurn c0 hz
  go_wp2_with fail
  go_ret
  exact ⟨rfl, HS.out⟩

set_option maxHeartbeats 1600000 in
set_option maxRecDepth 100000 in
theorem outBytes_any {base g : Nat} {v : Value} {l : List UInt8} (w : World) (hO : OutAt base g w v l) (hl : l.length ≤ 140737488355328) :
    Calls Tryd.prog 54 #[vO g] w fun e w' => ∃ v', e = .returned v' ∧ w'.ownsRow w.heap.size 5 1 v' l.length (byC l) ∧ Below w.heap.size w w' := by
  obtain ⟨A, c, hv, hB, _, _, _⟩ := bytes_of_row hO.row
  subst hv
  have c0 : w.cell? ⟨g, 0, none⟩ = some (.slice A l.length c) := Lib.cell_of_heap hO.box 0
  have HC := hide (clone_any A c l w hB hl)
  clear hO hB
  go_enter Tryd.func54, Tryd.ntmps54
  go_wp2_with fail
  refine HC.out.mono ?_
  rintro e w1 ⟨v1, rfl, hrow, hb1⟩
  have HA := hide (And.intro hrow hb1)
  obtain ⟨A1, c1, rfl, _⟩ := row_slice hrow
  clear hrow hb1
  go_wp2_with fail
  go_ret
  exact ⟨_, rfl, HA.out⟩
end Go.Proofs.YtkdihekhdnnheaaDoor
