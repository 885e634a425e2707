/-
  The walk of WindowShows; mappings compared.
-/
import Derived.Test.YtomhiganfmoceaaDoorWAwake
import Derived.Test.YtomhiganfmoceaaDoorWRef
namespace Go.Proofs.YtomhiganfmoceaaDoor
open Go.RowKit Go.Sort CM JM WM

theorem map_fields : Tryd.prog.underlying 23 = some (.struct (Tryd.prog.fieldsOf 23)) := by kernel_rfl
theorem map_stood : Tryd.prog.stoodInHeld 23 = false := by kernel_rfl
theorem map_guard : Tryd.prog.eqGuardType Tryd.prog.depth 23 = false := by kernel_rfl
theorem map_fieldsL : (Tryd.prog.fieldsOf 23).toList.map (fun f => (f.type, f.offset, decide (f.name ≠ "_"))) = [(3, 0, true), (3, 1, true)] := by kernel_rfl
theorem list2 {α : Type} {l : List α} (h : l.length = 2) : ∃ a b, l = [a, b] := by
  match l, h with
  | [a, b], _ => exact ⟨a, b, rfl⟩
set_option maxHeartbeats 1000000 in
theorem run_eql_map (k n k' n' : Int) (w : World) : (binOp .eql 23 (vM k n) (vM k' n')).run Tryd.prog w = .ok (.bool (k == k' && n == n')) w := by
  have h3 := Tryd.underlying3
  have hf := map_fieldsL
  rw [run_eql_struct, run_equalIn_agg w 9999 23 _ _ map_fields map_stood]
  generalize (Tryd.prog.fieldsOf 23).toList = fs at hf
  have hl : fs.length = 2 := by have := congrArg List.length hf; simpa using this
  obtain ⟨f0, f1, rfl⟩ := list2 hl
  simp only [List.map_cons, List.map_nil, List.cons.injEq, Prod.mk.injEq, and_true] at hf
  obtain ⟨⟨a0, b0, c0⟩, a1, b1, c1⟩ := hf
  simp only [decide_eq_true_eq] at c0 c1
  simp [Op.eqFields, a0, b0, c0, a1, b1, c1, h3, go_sem]
  clear hl a0 b0 c0 a1 b1 c1 h3
  repeat' split
  all_goals simp_all
theorem run_guard_map (k n k' n' : Int) (u v : Operand) (w : World) : (eqGuard .eql 23 u v (vM k n) (vM k' n')).run Tryd.prog w = .ok () w := run_eqGuard_agg w .eql _ u v _ _ map_guard
theorem same_map (k n : Int) (w : World) : (binOp .eql 23 (vM k n) (vM k n)).run Tryd.prog w = .ok (.bool true) w := by rw [run_eql_map]; simp
/-- The two boxes of a mapping, the program's and the reference's. -/
def Box2 (w1 : World) (b : Nat) (k n : Int) : Prop := (w1.cell? ⟨b, 0, none⟩ = some (.int .i64 k) ∧ w1.cell? ⟨b, 1, none⟩ = some (.int .i64 n)) ∧ b < w1.heap.size
theorem Box2.on {w1 w2 : World} {b : Nat} {k n : Int} (h : Box2 w1 b k n) (hb : Below w1.heap.size w1 w2) : Box2 w2 b k n := by
  obtain ⟨⟨a0, a1⟩, hs⟩ := h
  exact ⟨⟨(hb.cell (p := ⟨b, 0, none⟩) hs).trans a0, (hb.cell (p := ⟨b, 1, none⟩) hs).trans a1⟩, Nat.lt_of_lt_of_le hs hb.size⟩
theorem box2_new (w : World) (t : TypeId) (k n : Int) : Box2 (w.alloc (.cells #[.int .i64 k, .int .i64 n] t)) w.heap.size k n := by
  refine ⟨⟨?_, ?_⟩, ?_⟩ <;> simp
theorem box2_alloc (w : World) (o : Obj) : Below w.heap.size w (w.alloc o) := (Below.refl _ _).alloc (Nat.le_refl _) _

set_option maxHeartbeats 4000000 in
set_option maxRecDepth 100000 in
theorem msho_no (k n : Int) (w : World)
    (hs : Gv ((w.alloc (.cells #[.int .i64 k, .int .i64 n] 23)).alloc (.cells #[.int .i64 k, .int .i64 n] 40)) 18 #[vM k n] (txt []))
    (hf : Gv ((w.alloc (.cells #[.int .i64 k, .int .i64 n] 23)).alloc (.cells #[.int .i64 k, .int .i64 n] 40)) 19 #[vM k n] (.bool false))
    (ha : Gv ((w.alloc (.cells #[.int .i64 k, .int .i64 n] 23)).alloc (.cells #[.int .i64 k, .int .i64 n] 40)) 11 #[] (.bool true)) : Calls Tryd.prog 7 #[vM k n] w fun e w' => e = .returned (.bool true) ∧ Below w.heap.size w w' := by
  have Hhs := hide hs
  have Hhf := hide hf
  have Hha := hide ha
  have HO : Hid (Below w.heap.size w ((w.alloc (.cells #[.int .i64 k, .int .i64 n] 23)).alloc (.cells #[.int .i64 k, .int .i64 n] 40))) := hide ((mbox_below w k n).alloc (mbox_below w k n).size _)
  have HB0 := hide (Below.refl ((w.alloc (.cells #[.int .i64 k, .int .i64 n] 23)).alloc (.cells #[.int .i64 k, .int .i64 n] 40)).heap.size ((w.alloc (.cells #[.int .i64 k, .int .i64 n] 23)).alloc (.cells #[.int .i64 k, .int .i64 n] 40)))
  have HX0 := hide ((box2_new w 23 k n).on (box2_alloc _ (.cells #[.int .i64 k, .int .i64 n] 40)))
  have HY0 : Hid (Box2 ((w.alloc (.cells #[.int .i64 k, .int .i64 n] 23)).alloc (.cells #[.int .i64 k, .int .i64 n] 40)) (w.heap.size + 1) k n) := hide (by
    have h := box2_new (w.alloc (.cells #[.int .i64 k, .int .i64 n] 23)) 40 k n
    have e : (w.alloc (.cells #[.int .i64 k, .int .i64 n] 23)).heap.size = w.heap.size + 1 := by simp
    rw [e] at h
    exact h)
  clear hs hf ha
  go_enter Tryd.func7, Tryd.ntmps7
  go_wp2_with fail
  refine (Hhs.out _ HB0.out).mono ?_
  rintro e w1 ⟨rfl, hb⟩
  have HB1 := hide (HB0.out.trans (hb.mono HB0.out.size))
  have HX1 := hide (HX0.out.on hb)
  have HY1 := hide (HY0.out.on hb)
  clear hb
  obtain ⟨⟨c0, c1⟩, hs⟩ := HX1.out
  obtain ⟨⟨d0, d1⟩, hs2⟩ := HY1.out
  go_wp2_with fail
  refine (Hhf.out _ HB1.out).mono ?_
  rintro e w2 ⟨rfl, hb⟩
  have HB2 := hide (HB1.out.trans (hb.mono HB1.out.size))
  have HX2 := hide (HX1.out.on hb)
  have HY2 := hide (HY1.out.on hb)
  clear c0 c1 hs d0 d1 hs2 hb
  obtain ⟨⟨c0, c1⟩, hs⟩ := HX2.out
  obtain ⟨⟨d0, d1⟩, hs2⟩ := HY2.out
  go_wp2_with fail
  refine (Hha.out _ HB2.out).mono ?_
  rintro e w3 ⟨rfl, hb⟩
  have HB3 := hide (HB2.out.trans (hb.mono HB2.out.size))
  have HX3 := hide (HX2.out.on hb)
  have HY3 := hide (HY2.out.on hb)
  clear c0 c1 hs d0 d1 hs2 hb
  obtain ⟨⟨c0, c1⟩, hs⟩ := HX3.out
  obtain ⟨⟨d0, d1⟩, hs2⟩ := HY3.out
  go_wp2_with fail
  go_ret
  exact ⟨rfl, HO.out.trans (HB3.out.mono HO.out.size)⟩

set_option maxHeartbeats 4000000 in
set_option maxRecDepth 100000 in
theorem msho_yes (k n : Int) (T : List UInt8) (w : World)
    (hs : Gv ((w.alloc (.cells #[.int .i64 k, .int .i64 n] 23)).alloc (.cells #[.int .i64 k, .int .i64 n] 40)) 18 #[vM k n] (txt T))
    (hf : Gv ((w.alloc (.cells #[.int .i64 k, .int .i64 n] 23)).alloc (.cells #[.int .i64 k, .int .i64 n] 40)) 19 #[vM k n] (.bool true))
    (hp : Gv ((w.alloc (.cells #[.int .i64 k, .int .i64 n] 23)).alloc (.cells #[.int .i64 k, .int .i64 n] 40)) 20 #[txt T] (.tuple #[vM k n, .int .i64 0]))
    (ht : Gv ((w.alloc (.cells #[.int .i64 k, .int .i64 n] 23)).alloc (.cells #[.int .i64 k, .int .i64 n] 40)) 21 #[vM k n] (txt T))
    (ha : Gv ((w.alloc (.cells #[.int .i64 k, .int .i64 n] 23)).alloc (.cells #[.int .i64 k, .int .i64 n] 40)) 11 #[] (.bool true)) : Calls Tryd.prog 7 #[vM k n] w fun e w' => e = .returned (.bool true) ∧ Below w.heap.size w w' := by
  have Hhs := hide hs
  have Hhf := hide hf
  have Hhp := hide hp
  have Hht := hide ht
  have Hha := hide ha
  have HO : Hid (Below w.heap.size w ((w.alloc (.cells #[.int .i64 k, .int .i64 n] 23)).alloc (.cells #[.int .i64 k, .int .i64 n] 40))) := hide ((mbox_below w k n).alloc (mbox_below w k n).size _)
  have HB0 := hide (Below.refl ((w.alloc (.cells #[.int .i64 k, .int .i64 n] 23)).alloc (.cells #[.int .i64 k, .int .i64 n] 40)).heap.size ((w.alloc (.cells #[.int .i64 k, .int .i64 n] 23)).alloc (.cells #[.int .i64 k, .int .i64 n] 40)))
  have HX0 := hide ((box2_new w 23 k n).on (box2_alloc _ (.cells #[.int .i64 k, .int .i64 n] 40)))
  have HY0 : Hid (Box2 ((w.alloc (.cells #[.int .i64 k, .int .i64 n] 23)).alloc (.cells #[.int .i64 k, .int .i64 n] 40)) (w.heap.size + 1) k n) := hide (by
    have h := box2_new (w.alloc (.cells #[.int .i64 k, .int .i64 n] 23)) 40 k n
    have e : (w.alloc (.cells #[.int .i64 k, .int .i64 n] 23)).heap.size = w.heap.size + 1 := by simp
    rw [e] at h
    exact h)
  clear hs hf hp ht ha
  go_enter Tryd.func7, Tryd.ntmps7
  go_wp2_with fail
  refine (Hhs.out _ HB0.out).mono ?_
  rintro e w1 ⟨rfl, hb⟩
  have HB1 := hide (HB0.out.trans (hb.mono HB0.out.size))
  have HX1 := hide (HX0.out.on hb)
  have HY1 := hide (HY0.out.on hb)
  clear hb
  obtain ⟨⟨c0, c1⟩, hs⟩ := HX1.out
  obtain ⟨⟨d0, d1⟩, hs2⟩ := HY1.out
  go_wp2_with fail
  refine (Hhf.out _ HB1.out).mono ?_
  rintro e w2 ⟨rfl, hb⟩
  have HB2 := hide (HB1.out.trans (hb.mono HB1.out.size))
  have HX2 := hide (HX1.out.on hb)
  have HY2 := hide (HY1.out.on hb)
  clear c0 c1 hs d0 d1 hs2 hb
  obtain ⟨⟨c0, c1⟩, hs⟩ := HX2.out
  obtain ⟨⟨d0, d1⟩, hs2⟩ := HY2.out
  go_wp2_with fail
  refine (Hhp.out _ HB2.out).mono ?_
  rintro e w3 ⟨rfl, hb⟩
  have HB3 := hide (HB2.out.trans (hb.mono HB2.out.size))
  have HX3 := hide (HX2.out.on hb)
  have HY3 := hide (HY2.out.on hb)
  clear c0 c1 hs d0 d1 hs2 hb
  have HB4 := hide (HB3.out.alloc HB3.out.size (.cells #[.int .i64 k, .int .i64 n] 23))
  have HX4 := hide (HX3.out.on (box2_alloc _ (.cells #[.int .i64 k, .int .i64 n] 23)))
  have HY4 := hide (HY3.out.on (box2_alloc _ (.cells #[.int .i64 k, .int .i64 n] 23)))
  have HZ4 := hide (box2_new w3 23 k n)
  have hq := same_map k n
  have hu := run_guard_map k n k n
  obtain ⟨⟨c0, c1⟩, hs⟩ := HX3.out
  obtain ⟨⟨d0, d1⟩, hs2⟩ := HY3.out
  go_wp2_with fail
  refine (Hht.out _ HB4.out).mono ?_
  rintro e w5 ⟨rfl, hb⟩
  have HB5 := hide (HB4.out.trans (hb.mono HB4.out.size))
  have HX5 := hide (HX4.out.on hb)
  have HY5 := hide (HY4.out.on hb)
  have HZ5 := hide (HZ4.out.on hb)
  clear c0 c1 hs d0 d1 hs2 hb
  obtain ⟨⟨c0, c1⟩, hs⟩ := HX5.out
  obtain ⟨⟨d0, d1⟩, hs2⟩ := HY5.out
  obtain ⟨⟨e0, e1⟩, hs3⟩ := HZ5.out
  go_wp2_with fail
  refine (Hha.out _ HB5.out).mono ?_
  rintro e w6 ⟨rfl, hb⟩
  have HB6 := hide (HB5.out.trans (hb.mono HB5.out.size))
  have HX6 := hide (HX5.out.on hb)
  have HY6 := hide (HY5.out.on hb)
  have HZ6 := hide (HZ5.out.on hb)
  clear c0 c1 hs d0 d1 hs2 e0 e1 hs3 hb
  obtain ⟨⟨c0, c1⟩, hs⟩ := HX6.out
  obtain ⟨⟨d0, d1⟩, hs2⟩ := HY6.out
  obtain ⟨⟨e0, e1⟩, hs3⟩ := HZ6.out
  go_wp2_with fail
  go_ret
  exact ⟨rfl, HO.out.trans (HB6.out.mono HO.out.size)⟩

theorem windowShows_walk (k n : Int) (w : World) (hR : Rw w) : Calls Tryd.prog 7 #[vM k n] w fun e w' => e = .returned (.bool true) ∧ Below w.heap.size w w' := by
  have hO : Below w.heap.size w ((w.alloc (.cells #[.int .i64 k, .int .i64 n] 23)).alloc (.cells #[.int .i64 k, .int .i64 n] 40)) := (mbox_below w k n).alloc (mbox_below w k n).size _
  have hR1 : ∀ w1, Below ((w.alloc (.cells #[.int .i64 k, .int .i64 n] 23)).alloc (.cells #[.int .i64 k, .int .i64 n] 40)).heap.size ((w.alloc (.cells #[.int .i64 k, .int .i64 n] 23)).alloc (.cells #[.int .i64 k, .int .i64 n] 40)) w1 → Rw w1 := fun w1 hb => hR.on (hO.trans (hb.mono hO.size))
  have hs : Gv ((w.alloc (.cells #[.int .i64 k, .int .i64 n] 23)).alloc (.cells #[.int .i64 k, .int .i64 n] 40)) 18 #[vM k n] (txt (showM k n)) := fun w1 hb => mshow_any k n w1 (hR1 w1 hb).ra
  have hf : Gv ((w.alloc (.cells #[.int .i64 k, .int .i64 n] 23)).alloc (.cells #[.int .i64 k, .int .i64 n] 40)) 19 #[vM k n] (.bool (formB k n)) := fun w1 _ => rform_any k n w1
  have ha : Gv ((w.alloc (.cells #[.int .i64 k, .int .i64 n] 23)).alloc (.cells #[.int .i64 k, .int .i64 n] 40)) 11 #[] (.bool true) := fun w1 hb => mawake_any w1 (hR1 w1 hb).ra
  cases hq : formB k n
  · rw [hq] at hf
    rw [show showM k n = [] from if_neg (by rw [hq]; simp)] at hs
    exact msho_no k n w hs hf ha
  · rw [hq] at hf
    exact msho_yes k n (showM k n) w hs hf (fun w1 hb => mparse_text k n w1 hq (hR1 w1 hb)) (fun w1 _ => rmshow_any k n w1 hq) ha

end Go.Proofs.YtomhiganfmoceaaDoor
