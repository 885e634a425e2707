/-
  slices.Equal of two lists that read the same.
  slices.Equal of two lists of inputs that read the same.
-/
import Derived.Test.YtljoajjlkjjgeaaGreatDoorMW2
import Derived.Laws.StructEq
namespace Go.Proofs.YtljoajjlkjjgeaaGreatDoor
open Go.RowKit Go.Sort LM Go

/-- A row's cells, in any world that keeps them. -/
theorem Rep.flat {P : Nat → Prop} {w : World} {sz : Nat} {els : List (List Dt)} {v : Value} (h : Rep P w (.row sz els) v) : ∃ A cap, v = .slice A els.length cap ∧
  ∀ wr, Below w.heap.size w wr → ∀ j, j < els.length → ∃ b off, A = some ⟨b, off, none⟩ ∧ b < w.heap.size ∧ ∀ i, i < (els.getD j []).length → ∃ u, wr.cell? ⟨b, off + j * sz + i, none⟩ = some u ∧ Rep P w ((els.getD j []).getD i d0) u := by
 obtain ⟨A, cap, rfl, _, us, hc, hs⟩ := h.row_inv
 refine ⟨A, cap, rfl, fun wr hb j hj => ?_⟩
 obtain ⟨b, off, e, -, hlt, hcc⟩ := hc j hj
 exact ⟨b, off, e, hlt, fun i hi => ⟨us j i, (hb.cell (p := ⟨b, off + j * sz + i, none⟩) hlt).trans (hcc i hi), hs j i hj hi⟩⟩
theorem Rep.bool {P : Nat → Prop} {w : World} {n : Bool} {v : Value} (h : Rep P w (.one (.bool n)) v) : v = .bool n := by cases h; rfl
theorem map_at {α : Type} (f : α → List Dt) {l : List α} {j : Nat} (h : j < l.length) : (l.map f).getD j [] = f l[j] := by
 rw [List.getD_eq_getElem?_getD, List.getElem?_map, List.getElem?_eq_getElem h]; rfl
set_option maxHeartbeats 3200000 in
set_option maxRecDepth 100000 in
theorem eqStr_same {P P' : Nat → Prop} (l : List (ByteArray)) (v v' : Value) (w : World) (h : Rep P w (.row 1 (l.map (fun s => [dS s]))) v) (h' : Rep P' w (.row 1 (l.map (fun s => [dS s]))) v') (hl : l.length ≤ 1000000) :
  Calls Tryz.prog 35 #[v, v'] w fun e w' => e = .returned (.bool true) ∧ Below w.heap.size w w' := by
 obtain ⟨A, c, rfl, hA⟩ := h.flat
 obtain ⟨A', c', rfl, hA'⟩ := h'.flat
 simp only [List.length_map] at hA hA' ⊢
 have HA := hide hA
 have HA' := hide hA'
 have HB0 := hide (Below.refl w.heap.size w)
 clear hA hA' h h'
 go_enter Tryz.func35, Tryz.ntmps35
 go_wp2_with fail
 go_loopw [13] (fun i wr => ∃ j : Nat, i = .int .i64 j ∧ j ≤ l.length ∧ Hid (Below w.heap.size w wr)) (fun i _ => l.length - (intOf i).toNat)
 case atStart => exact ⟨0, rfl, Nat.zero_le _, HB0⟩
 case round =>
  obtain ⟨j, rfl, hj, HBr⟩ := hrel
  by_cases hlt : j < l.length
  ·obtain ⟨b, off, rfl, hb, hx⟩ := HA.out wr HBr.out j hlt
   obtain ⟨b', off', rfl, hb', hx'⟩ := HA'.out wr HBr.out j hlt
   rw [map_at _ hlt] at hx hx'
   generalize l[j] = x at hx hx'
   obtain ⟨u, h0, hr⟩ := hx 0 (by first | exact Nat.zero_lt_one | (show 0 < 1; decide))
   obtain rfl := hr.str
   clear hr
   obtain ⟨u, h0', hr⟩ := hx' 0 (by first | exact Nat.zero_lt_one | (show 0 < 1; decide))
   obtain rfl := hr.str
   clear hr
   clear hx hx'
   simp only [Nat.add_zero, Nat.mul_one] at h0 h0'
   go_wp2_with fail
   go_quiet (fail)
   go_wp2_with fail
   go_roundw
   case rel => exact ⟨j + 1, by go_num, by omega, hide (HBr.out.trans (Joins.below_draws _ _ _))⟩
   case measure => simp [intOf]; omega
  ·go_wp2_with fail
   go_ret
   exact ⟨rfl, HBr.out⟩
theorem eqf_Pair : Tryz.prog.underlying 70 = some (.struct (Tryz.prog.fieldsOf 70)) := by kernel_rfl
theorem eqs_Pair : Tryz.prog.stoodInHeld 70 = false := by kernel_rfl
theorem eqg_Pair : Tryz.prog.eqGuardType Tryz.prog.depth 70 = false := by kernel_rfl
theorem eql_Pair : (Tryz.prog.fieldsOf 70).toList.map (fun f => (f.type, f.offset, decide (f.name ≠ "_"))) = [(9, 0, true), (9, 1, true)] := by kernel_rfl
theorem neq_Pair (a : ByteArray) (b : ByteArray) (w : World) : (binOp .neq 70 (.agg #[.string a, .string b]) (.agg #[.string a, .string b])).run Tryz.prog w = .ok (.bool false) w := by
 have u0 := Tryz.underlying9
 have hf := eql_Pair
 rw [run_neq_struct, run_equalIn_agg w 9999 70 _ _ eqf_Pair eqs_Pair]
 generalize (Tryz.prog.fieldsOf 70).toList = fs at hf
 rcases fs with _ | ⟨f, _ | ⟨g, _ | ⟨_, _⟩⟩⟩ <;> simp at hf
 obtain ⟨⟨f1, f2, f3⟩, g1, g2, g3⟩ := hf
 simp [Op.eqFields, f1, f2, f3, g1, g2, g3, go_sem]
theorem ngd_Pair (a : ByteArray) (b : ByteArray) (u v : Operand) (w : World) : (eqGuard .neq 70 u v (.agg #[.string a, .string b]) (.agg #[.string a, .string b])).run Tryz.prog w = .ok () w := run_eqGuard_agg w .neq _ u v _ _ eqg_Pair
set_option maxHeartbeats 3200000 in
set_option maxRecDepth 100000 in
theorem eqPair_same {P P' : Nat → Prop} (l : List (ByteArray × ByteArray)) (v v' : Value) (w : World) (h : Rep P w (.row 2 (l.map (dPair))) v) (h' : Rep P' w (.row 2 (l.map (dPair))) v') (hl : l.length ≤ 1000000) :
  Calls Tryz.prog 37 #[v, v'] w fun e w' => e = .returned (.bool true) ∧ Below w.heap.size w w' := by
 obtain ⟨A, c, rfl, hA⟩ := h.flat
 obtain ⟨A', c', rfl, hA'⟩ := h'.flat
 simp only [List.length_map] at hA hA' ⊢
 have HA := hide hA
 have HA' := hide hA'
 have HB0 := hide (Below.refl w.heap.size w)
 clear hA hA' h h'
 go_enter Tryz.func37, Tryz.ntmps37
 go_wp2_with fail
 go_loopw [13] (fun i wr => ∃ j : Nat, i = .int .i64 j ∧ j ≤ l.length ∧ Hid (Below w.heap.size w wr)) (fun i _ => l.length - (intOf i).toNat)
 case atStart => exact ⟨0, rfl, Nat.zero_le _, HB0⟩
 case round =>
  obtain ⟨j, rfl, hj, HBr⟩ := hrel
  by_cases hlt : j < l.length
  ·obtain ⟨b, off, rfl, hb, hx⟩ := HA.out wr HBr.out j hlt
   obtain ⟨b', off', rfl, hb', hx'⟩ := HA'.out wr HBr.out j hlt
   rw [map_at _ hlt] at hx hx'
   generalize l[j] = x at hx hx'
   obtain ⟨u, h0, hr⟩ := hx 0 (by first | exact Nat.zero_lt_one | (show 0 < 2; decide))
   obtain rfl := hr.str
   clear hr
   obtain ⟨u, h0', hr⟩ := hx' 0 (by first | exact Nat.zero_lt_one | (show 0 < 2; decide))
   obtain rfl := hr.str
   clear hr
   obtain ⟨u, h1, hr⟩ := hx 1 (by first | exact Nat.zero_lt_one | (show 1 < 2; decide))
   obtain rfl := hr.str
   clear hr
   obtain ⟨u, h1', hr⟩ := hx' 1 (by first | exact Nat.zero_lt_one | (show 1 < 2; decide))
   obtain rfl := hr.str
   clear hr
   clear hx hx'
   simp only [Nat.add_zero] at h0 h0'
   have hneq := neq_Pair (x.1) (x.2)
   have hgd := ngd_Pair (x.1) (x.2)
   go_wp2_with fail
   go_quiet (fail)
   go_wp2_with fail
   go_roundw
   case rel => exact ⟨j + 1, by go_num, by omega, hide (HBr.out.trans (Joins.below_draws _ _ _))⟩
   case measure => simp [intOf]; omega
  ·go_wp2_with fail
   go_ret
   exact ⟨rfl, HBr.out⟩
theorem eqf_Agg : Tryz.prog.underlying 72 = some (.struct (Tryz.prog.fieldsOf 72)) := by kernel_rfl
theorem eqs_Agg : Tryz.prog.stoodInHeld 72 = false := by kernel_rfl
theorem eqg_Agg : Tryz.prog.eqGuardType Tryz.prog.depth 72 = false := by kernel_rfl
theorem eql_Agg : (Tryz.prog.fieldsOf 72).toList.map (fun f => (f.type, f.offset, decide (f.name ≠ "_"))) = [(9, 0, true), (9, 1, true), (9, 2, true)] := by kernel_rfl
theorem neq_Agg (a : ByteArray) (b : ByteArray) (c : ByteArray) (w : World) : (binOp .neq 72 (.agg #[.string a, .string b, .string c]) (.agg #[.string a, .string b, .string c])).run Tryz.prog w = .ok (.bool false) w := by
 have u0 := Tryz.underlying9
 have hf := eql_Agg
 rw [run_neq_struct, run_equalIn_agg w 9999 72 _ _ eqf_Agg eqs_Agg]
 generalize (Tryz.prog.fieldsOf 72).toList = fs at hf
 rcases fs with _ | ⟨f, _ | ⟨g, _ | ⟨h, _ | ⟨_, _⟩⟩⟩⟩ <;> simp at hf
 obtain ⟨⟨f1, f2, f3⟩, ⟨g1, g2, g3⟩, h1, h2, h3⟩ := hf
 simp [Op.eqFields, f1, f2, f3, g1, g2, g3, h1, h2, h3, go_sem]
theorem ngd_Agg (a : ByteArray) (b : ByteArray) (c : ByteArray) (u v : Operand) (w : World) : (eqGuard .neq 72 u v (.agg #[.string a, .string b, .string c]) (.agg #[.string a, .string b, .string c])).run Tryz.prog w = .ok () w := run_eqGuard_agg w .neq _ u v _ _ eqg_Agg
set_option maxHeartbeats 3200000 in
set_option maxRecDepth 100000 in
theorem eqAgg_same {P P' : Nat → Prop} (l : List (ByteArray × ByteArray × ByteArray)) (v v' : Value) (w : World) (h : Rep P w (.row 3 (l.map (dAgg))) v) (h' : Rep P' w (.row 3 (l.map (dAgg))) v') (hl : l.length ≤ 1000000) :
  Calls Tryz.prog 38 #[v, v'] w fun e w' => e = .returned (.bool true) ∧ Below w.heap.size w w' := by
 obtain ⟨A, c, rfl, hA⟩ := h.flat
 obtain ⟨A', c', rfl, hA'⟩ := h'.flat
 simp only [List.length_map] at hA hA' ⊢
 have HA := hide hA
 have HA' := hide hA'
 have HB0 := hide (Below.refl w.heap.size w)
 clear hA hA' h h'
 go_enter Tryz.func38, Tryz.ntmps38
 go_wp2_with fail
 go_loopw [13] (fun i wr => ∃ j : Nat, i = .int .i64 j ∧ j ≤ l.length ∧ Hid (Below w.heap.size w wr)) (fun i _ => l.length - (intOf i).toNat)
 case atStart => exact ⟨0, rfl, Nat.zero_le _, HB0⟩
 case round =>
  obtain ⟨j, rfl, hj, HBr⟩ := hrel
  by_cases hlt : j < l.length
  ·obtain ⟨b, off, rfl, hb, hx⟩ := HA.out wr HBr.out j hlt
   obtain ⟨b', off', rfl, hb', hx'⟩ := HA'.out wr HBr.out j hlt
   rw [map_at _ hlt] at hx hx'
   generalize l[j] = x at hx hx'
   obtain ⟨u, h0, hr⟩ := hx 0 (by first | exact Nat.zero_lt_one | (show 0 < 3; decide))
   obtain rfl := hr.str
   clear hr
   obtain ⟨u, h0', hr⟩ := hx' 0 (by first | exact Nat.zero_lt_one | (show 0 < 3; decide))
   obtain rfl := hr.str
   clear hr
   obtain ⟨u, h1, hr⟩ := hx 1 (by first | exact Nat.zero_lt_one | (show 1 < 3; decide))
   obtain rfl := hr.str
   clear hr
   obtain ⟨u, h1', hr⟩ := hx' 1 (by first | exact Nat.zero_lt_one | (show 1 < 3; decide))
   obtain rfl := hr.str
   clear hr
   obtain ⟨u, h2, hr⟩ := hx 2 (by first | exact Nat.zero_lt_one | (show 2 < 3; decide))
   obtain rfl := hr.str
   clear hr
   obtain ⟨u, h2', hr⟩ := hx' 2 (by first | exact Nat.zero_lt_one | (show 2 < 3; decide))
   obtain rfl := hr.str
   clear hr
   clear hx hx'
   simp only [Nat.add_zero] at h0 h0'
   have hneq := neq_Agg (x.1) (x.2.1) (x.2.2)
   have hgd := ngd_Agg (x.1) (x.2.1) (x.2.2)
   go_wp2_with fail
   go_quiet (fail)
   go_wp2_with fail
   go_roundw
   case rel => exact ⟨j + 1, by go_num, by omega, hide (HBr.out.trans (Joins.below_draws _ _ _))⟩
   case measure => simp [intOf]; omega
  ·go_wp2_with fail
   go_ret
   exact ⟨rfl, HBr.out⟩
theorem eqf_Ord : Tryz.prog.underlying 74 = some (.struct (Tryz.prog.fieldsOf 74)) := by kernel_rfl
theorem eqs_Ord : Tryz.prog.stoodInHeld 74 = false := by kernel_rfl
theorem eqg_Ord : Tryz.prog.eqGuardType Tryz.prog.depth 74 = false := by kernel_rfl
theorem eql_Ord : (Tryz.prog.fieldsOf 74).toList.map (fun f => (f.type, f.offset, decide (f.name ≠ "_"))) = [(9, 0, true), (4, 1, true)] := by kernel_rfl
theorem neq_Ord (a : ByteArray) (b : Bool) (w : World) : (binOp .neq 74 (.agg #[.string a, .bool b]) (.agg #[.string a, .bool b])).run Tryz.prog w = .ok (.bool false) w := by
 have u0 := Tryz.underlying4
 have u1 := Tryz.underlying9
 have hf := eql_Ord
 rw [run_neq_struct, run_equalIn_agg w 9999 74 _ _ eqf_Ord eqs_Ord]
 generalize (Tryz.prog.fieldsOf 74).toList = fs at hf
 rcases fs with _ | ⟨f, _ | ⟨g, _ | ⟨_, _⟩⟩⟩ <;> simp at hf
 obtain ⟨⟨f1, f2, f3⟩, g1, g2, g3⟩ := hf
 simp [Op.eqFields, f1, f2, f3, g1, g2, g3, go_sem]
theorem ngd_Ord (a : ByteArray) (b : Bool) (u v : Operand) (w : World) : (eqGuard .neq 74 u v (.agg #[.string a, .bool b]) (.agg #[.string a, .bool b])).run Tryz.prog w = .ok () w := run_eqGuard_agg w .neq _ u v _ _ eqg_Ord
set_option maxHeartbeats 3200000 in
set_option maxRecDepth 100000 in
theorem eqOrd_same {P P' : Nat → Prop} (l : List (ByteArray × Bool)) (v v' : Value) (w : World) (h : Rep P w (.row 2 (l.map (dOrd))) v) (h' : Rep P' w (.row 2 (l.map (dOrd))) v') (hl : l.length ≤ 1000000) :
  Calls Tryz.prog 39 #[v, v'] w fun e w' => e = .returned (.bool true) ∧ Below w.heap.size w w' := by
 obtain ⟨A, c, rfl, hA⟩ := h.flat
 obtain ⟨A', c', rfl, hA'⟩ := h'.flat
 simp only [List.length_map] at hA hA' ⊢
 have HA := hide hA
 have HA' := hide hA'
 have HB0 := hide (Below.refl w.heap.size w)
 clear hA hA' h h'
 go_enter Tryz.func39, Tryz.ntmps39
 go_wp2_with fail
 go_loopw [13] (fun i wr => ∃ j : Nat, i = .int .i64 j ∧ j ≤ l.length ∧ Hid (Below w.heap.size w wr)) (fun i _ => l.length - (intOf i).toNat)
 case atStart => exact ⟨0, rfl, Nat.zero_le _, HB0⟩
 case round =>
  obtain ⟨j, rfl, hj, HBr⟩ := hrel
  by_cases hlt : j < l.length
  ·obtain ⟨b, off, rfl, hb, hx⟩ := HA.out wr HBr.out j hlt
   obtain ⟨b', off', rfl, hb', hx'⟩ := HA'.out wr HBr.out j hlt
   rw [map_at _ hlt] at hx hx'
   generalize l[j] = x at hx hx'
   obtain ⟨u, h0, hr⟩ := hx 0 (by first | exact Nat.zero_lt_one | (show 0 < 2; decide))
   obtain rfl := hr.str
   clear hr
   obtain ⟨u, h0', hr⟩ := hx' 0 (by first | exact Nat.zero_lt_one | (show 0 < 2; decide))
   obtain rfl := hr.str
   clear hr
   obtain ⟨u, h1, hr⟩ := hx 1 (by first | exact Nat.zero_lt_one | (show 1 < 2; decide))
   obtain rfl := hr.bool
   clear hr
   obtain ⟨u, h1', hr⟩ := hx' 1 (by first | exact Nat.zero_lt_one | (show 1 < 2; decide))
   obtain rfl := hr.bool
   clear hr
   clear hx hx'
   simp only [Nat.add_zero] at h0 h0'
   have hneq := neq_Ord (x.1) (x.2)
   have hgd := ngd_Ord (x.1) (x.2)
   go_wp2_with fail
   go_quiet (fail)
   go_wp2_with fail
   go_roundw
   case rel => exact ⟨j + 1, by go_num, by omega, hide (HBr.out.trans (Joins.below_draws _ _ _))⟩
   case measure => simp [intOf]; omega
  ·go_wp2_with fail
   go_ret
   exact ⟨rfl, HBr.out⟩
theorem eqf_Col : Tryz.prog.underlying 45 = some (.struct (Tryz.prog.fieldsOf 45)) := by kernel_rfl
theorem eqs_Col : Tryz.prog.stoodInHeld 45 = false := by kernel_rfl
theorem eqg_Col : Tryz.prog.eqGuardType Tryz.prog.depth 45 = false := by kernel_rfl
theorem eql_Col : (Tryz.prog.fieldsOf 45).toList.map (fun f => (f.type, f.offset, decide (f.name ≠ "_"))) = [(9, 0, true), (3, 1, true)] := by kernel_rfl
theorem neq_Col (a : ByteArray) (b : Int) (w : World) : (binOp .neq 45 (.agg #[.string a, .int .i64 b]) (.agg #[.string a, .int .i64 b])).run Tryz.prog w = .ok (.bool false) w := by
 have u0 := Tryz.underlying3
 have u1 := Tryz.underlying9
 have hf := eql_Col
 rw [run_neq_struct, run_equalIn_agg w 9999 45 _ _ eqf_Col eqs_Col]
 generalize (Tryz.prog.fieldsOf 45).toList = fs at hf
 rcases fs with _ | ⟨f, _ | ⟨g, _ | ⟨_, _⟩⟩⟩ <;> simp at hf
 obtain ⟨⟨f1, f2, f3⟩, g1, g2, g3⟩ := hf
 simp [Op.eqFields, f1, f2, f3, g1, g2, g3, go_sem]
theorem ngd_Col (a : ByteArray) (b : Int) (u v : Operand) (w : World) : (eqGuard .neq 45 u v (.agg #[.string a, .int .i64 b]) (.agg #[.string a, .int .i64 b])).run Tryz.prog w = .ok () w := run_eqGuard_agg w .neq _ u v _ _ eqg_Col
set_option maxHeartbeats 3200000 in
set_option maxRecDepth 100000 in
theorem eqCol_same {P P' : Nat → Prop} (l : List (ByteArray × Int)) (v v' : Value) (w : World) (h : Rep P w (.row 2 (l.map (dCol))) v) (h' : Rep P' w (.row 2 (l.map (dCol))) v') (hl : l.length ≤ 1000000) :
  Calls Tryz.prog 61 #[v, v'] w fun e w' => e = .returned (.bool true) ∧ Below w.heap.size w w' := by
 obtain ⟨A, c, rfl, hA⟩ := h.flat
 obtain ⟨A', c', rfl, hA'⟩ := h'.flat
 simp only [List.length_map] at hA hA' ⊢
 have HA := hide hA
 have HA' := hide hA'
 have HB0 := hide (Below.refl w.heap.size w)
 clear hA hA' h h'
 go_enter Tryz.func61, Tryz.ntmps61
 go_wp2_with fail
 go_loopw [13] (fun i wr => ∃ j : Nat, i = .int .i64 j ∧ j ≤ l.length ∧ Hid (Below w.heap.size w wr)) (fun i _ => l.length - (intOf i).toNat)
 case atStart => exact ⟨0, rfl, Nat.zero_le _, HB0⟩
 case round =>
  obtain ⟨j, rfl, hj, HBr⟩ := hrel
  by_cases hlt : j < l.length
  ·obtain ⟨b, off, rfl, hb, hx⟩ := HA.out wr HBr.out j hlt
   obtain ⟨b', off', rfl, hb', hx'⟩ := HA'.out wr HBr.out j hlt
   rw [map_at _ hlt] at hx hx'
   generalize l[j] = x at hx hx'
   obtain ⟨u, h0, hr⟩ := hx 0 (by first | exact Nat.zero_lt_one | (show 0 < 2; decide))
   obtain rfl := hr.str
   clear hr
   obtain ⟨u, h0', hr⟩ := hx' 0 (by first | exact Nat.zero_lt_one | (show 0 < 2; decide))
   obtain rfl := hr.str
   clear hr
   obtain ⟨u, h1, hr⟩ := hx 1 (by first | exact Nat.zero_lt_one | (show 1 < 2; decide))
   obtain rfl := hr.int
   clear hr
   obtain ⟨u, h1', hr⟩ := hx' 1 (by first | exact Nat.zero_lt_one | (show 1 < 2; decide))
   obtain rfl := hr.int
   clear hr
   clear hx hx'
   simp only [Nat.add_zero] at h0 h0'
   have hneq := neq_Col (x.1) (x.2)
   have hgd := ngd_Col (x.1) (x.2)
   go_wp2_with fail
   go_quiet (fail)
   go_wp2_with fail
   go_roundw
   case rel => exact ⟨j + 1, by go_num, by omega, hide (HBr.out.trans (Joins.below_draws _ _ _))⟩
   case measure => simp [intOf]; omega
  ·go_wp2_with fail
   go_ret
   exact ⟨rfl, HBr.out⟩
end Go.Proofs.YtljoajjlkjjgeaaGreatDoor
namespace Go.Proofs.YtljoajjlkjjgeaaGreatDoor
open Go.RowKit Go.Sort LM Go

theorem eqf_Map : Tryz.prog.underlying 54 = some (.struct (Tryz.prog.fieldsOf 54)) := by kernel_rfl
theorem eqs_Map : Tryz.prog.stoodInHeld 54 = false := by kernel_rfl
theorem eql_Map : (Tryz.prog.fieldsOf 54).toList.map (fun f => (f.type, f.offset, decide (f.name ≠ "_"))) = [(3, 0, true), (3, 1, true)] := by kernel_rfl
theorem eq_Map (d : Nat) (b c : Int) (w : World) : (Op.equalIn (d + 2) 54 (.agg #[.int .i64 b, .int .i64 c]) (.agg #[.int .i64 b, .int .i64 c])).run Tryz.prog w = .ok true w := by
 have u0 := Tryz.underlying3
 have hf := eql_Map
 rw [run_equalIn_agg w (d + 1) 54 _ _ eqf_Map eqs_Map]
 generalize (Tryz.prog.fieldsOf 54).toList = fs at hf
 rcases fs with _ | ⟨f, _ | ⟨g, _ | ⟨_, _⟩⟩⟩ <;> simp at hf
 obtain ⟨⟨f1, f2, f3⟩, g1, g2, g3⟩ := hf
 simp [Op.eqFields, f1, f2, f3, g1, g2, g3, go_sem]
theorem eqf_Inp : Tryz.prog.underlying 56 = some (.struct (Tryz.prog.fieldsOf 56)) := by kernel_rfl
theorem eqs_Inp : Tryz.prog.stoodInHeld 56 = false := by kernel_rfl
theorem eqg_Inp : Tryz.prog.eqGuardType Tryz.prog.depth 56 = false := by kernel_rfl
theorem eql_Inp : (Tryz.prog.fieldsOf 56).toList.map (fun f => (f.type, f.offset, decide (f.name ≠ "_"))) = [(9, 0, true), (54, 1, true), (9, 3, true)] := by kernel_rfl
theorem neq_Inp (a : ByteArray) (b c : Int) (e : ByteArray) (w : World) : (binOp .neq 56 (.agg #[.string a, .int .i64 b, .int .i64 c, .string e]) (.agg #[.string a, .int .i64 b, .int .i64 c, .string e])).run Tryz.prog w = .ok (.bool false) w := by
 have u0 := Tryz.underlying9
 have hf := eql_Inp
 rw [run_neq_struct, run_equalIn_agg w 9999 56 _ _ eqf_Inp eqs_Inp]
 generalize (Tryz.prog.fieldsOf 56).toList = fs at hf
 rcases fs with _ | ⟨f, _ | ⟨g, _ | ⟨h, _ | ⟨_, _⟩⟩⟩⟩ <;> simp at hf
 obtain ⟨⟨f1, f2, f3⟩, ⟨g1, g2, g3⟩, h1, h2, h3⟩ := hf
 simp [Op.eqFields, f1, f2, f3, g1, g2, g3, h1, h2, h3, eq_Map, go_sem]
theorem ngd_Inp (a : ByteArray) (b c : Int) (e : ByteArray) (u v : Operand) (w : World) : (eqGuard .neq 56 u v (.agg #[.string a, .int .i64 b, .int .i64 c, .string e]) (.agg #[.string a, .int .i64 b, .int .i64 c, .string e])).run Tryz.prog w = .ok () w := run_eqGuard_agg w .neq _ u v _ _ eqg_Inp
set_option maxHeartbeats 3200000 in
set_option maxRecDepth 100000 in
theorem eqInp_same {P P' : Nat → Prop} (l : List (ByteArray × (Int × Int) × ByteArray)) (v v' : Value) (w : World) (h : Rep P w (.row 4 (l.map (dInp))) v) (h' : Rep P' w (.row 4 (l.map (dInp))) v') (hl : l.length ≤ 1000000) :
  Calls Tryz.prog 48 #[v, v'] w fun e w' => e = .returned (.bool true) ∧ Below w.heap.size w w' := by
 obtain ⟨A, c, rfl, hA⟩ := h.flat
 obtain ⟨A', c', rfl, hA'⟩ := h'.flat
 simp only [List.length_map] at hA hA' ⊢
 have HA := hide hA
 have HA' := hide hA'
 have HB0 := hide (Below.refl w.heap.size w)
 clear hA hA' h h'
 go_enter Tryz.func48, Tryz.ntmps48
 go_wp2_with fail
 go_loopw [13] (fun i wr => ∃ j : Nat, i = .int .i64 j ∧ j ≤ l.length ∧ Hid (Below w.heap.size w wr)) (fun i _ => l.length - (intOf i).toNat)
 case atStart => exact ⟨0, rfl, Nat.zero_le _, HB0⟩
 case round =>
  obtain ⟨j, rfl, hj, HBr⟩ := hrel
  by_cases hlt : j < l.length
  ·obtain ⟨b, off, rfl, hb, hx⟩ := HA.out wr HBr.out j hlt
   obtain ⟨b', off', rfl, hb', hx'⟩ := HA'.out wr HBr.out j hlt
   rw [map_at _ hlt] at hx hx'
   generalize l[j] = x at hx hx'
   obtain ⟨u, h0, hr⟩ := hx 0 (by first | exact Nat.zero_lt_one | (show 0 < 4; decide))
   obtain rfl := hr.str
   clear hr
   obtain ⟨u, h0', hr⟩ := hx' 0 (by first | exact Nat.zero_lt_one | (show 0 < 4; decide))
   obtain rfl := hr.str
   clear hr
   obtain ⟨u, h1, hr⟩ := hx 1 (by first | exact Nat.zero_lt_one | (show 1 < 4; decide))
   obtain rfl := hr.int
   clear hr
   obtain ⟨u, h1', hr⟩ := hx' 1 (by first | exact Nat.zero_lt_one | (show 1 < 4; decide))
   obtain rfl := hr.int
   clear hr
   obtain ⟨u, h2, hr⟩ := hx 2 (by first | exact Nat.zero_lt_one | (show 2 < 4; decide))
   obtain rfl := hr.int
   clear hr
   obtain ⟨u, h2', hr⟩ := hx' 2 (by first | exact Nat.zero_lt_one | (show 2 < 4; decide))
   obtain rfl := hr.int
   clear hr
   obtain ⟨u, h3, hr⟩ := hx 3 (by first | exact Nat.zero_lt_one | (show 3 < 4; decide))
   obtain rfl := hr.str
   clear hr
   obtain ⟨u, h3', hr⟩ := hx' 3 (by first | exact Nat.zero_lt_one | (show 3 < 4; decide))
   obtain rfl := hr.str
   clear hr
   clear hx hx'
   simp only [Nat.add_zero] at h0 h0'
   have hneq := neq_Inp (x.1) (x.2.1.1) (x.2.1.2) (x.2.2)
   have hgd := ngd_Inp (x.1) (x.2.1.1) (x.2.1.2) (x.2.2)
   go_wp2_with fail
   go_quiet (fail)
   go_wp2_with fail
   go_roundw
   case rel => exact ⟨j + 1, by go_num, by omega, hide (HBr.out.trans (Joins.below_draws _ _ _))⟩
   case measure => simp [intOf]; omega
  ·go_wp2_with fail
   go_ret
   exact ⟨rfl, HBr.out⟩
end Go.Proofs.YtljoajjlkjjgeaaGreatDoor
