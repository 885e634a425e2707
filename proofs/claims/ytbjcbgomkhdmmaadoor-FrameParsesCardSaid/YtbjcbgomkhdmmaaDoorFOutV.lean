/-
  The encoder: values and tables.
-/
import Derived.Test.YtbjcbgomkhdmmaaDoorFTabM
import Derived.Test.YtbjcbgomkhdmmaaDoorFOutT
import Derived.Deep.RegionHeld3
namespace Go.Proofs.YtbjcbgomkhdmmaaDoor
open Go.RowKit

theorem turn_cell {base g : Nat} {v v' : Value} {l : List UInt8} {w w' : World} {o : Obj} (hO : OutAt base g w v l) (h : OutTurn g v v' (w.alloc o) w') (i : Nat) : w'.cell? ⟨w.heap.size, i, none⟩ = (w.alloc o).cell? ⟨w.heap.size, i, none⟩ := by
  have h1 := h.block w.heap.size (by simp) (by have := hO.lt; omega) (fun e => by have := (hO.row.lt _ e).2; omega)
  simp only [World.cell?]
  rw [h1]
set_option maxHeartbeats 3200000 in
set_option maxRecDepth 100000 in
theorem outValue_any {base g : Nat} {v : Value} {l : List UInt8} (x : V3) (w : World) (hx : okV x) (hO : OutAt base g w v l) (hl : l.length ≤ 4294900000) :
    Calls Tryd.prog 9 #[vO g, vVal x.1 x.2.1 x.2.2] w fun e w' => e = .returned (vO g) ∧ ∃ v', OutAt base g w' v' (l ++ valB x) ∧ OutTurn g v v' w w' := by
  have hlt := hO.lt
  have HB1 := hide (fun o => (Below.refl w.heap.size w).alloc (Nat.le_refl _) o)
  have HI6 := hx.2
  have HX := hide hx
  rcases hx.cases with ⟨s, rfl, hs⟩ | ⟨n, rfl⟩ | rfl
  · have HI := hide (outInt_any 2 _ i64_2 (hO.below (HB1.out (.cells #[.int .i64 2, .int .i64 0, .string s] 36))) (by omega))
    have HC := hide (fun v' w' (h : OutTurn g v v' (w.alloc (.cells #[.int .i64 2, .int .i64 0, .string s] 36)) w') => turn_cell hO h)
    have h9 := (intB_len 2).2
    have HE := hide (valB_txt 0 s)
    clear hx hO HI6
    go_enter Tryd.func9, Tryd.ntmps9
    go_wp2_with fail
    refine HI.out.mono ?_
    rintro e w1 ⟨rfl, v1, ho1, ht1⟩
    have hc0 : w1.cell? ⟨w.heap.size, 0, none⟩ = some (.int .i64 2) := (HC.out _ _ ht1 0).trans (by simp)
    have hc2 : w1.cell? ⟨w.heap.size, 2, none⟩ = some (.string s) := (HC.out _ _ ht1 2).trans (by simp)
    have HT := hide (outText_any s w1 ho1 (by rw [List.length_append]; omega))
    have HT1 := hide ((OutTurn.of_below (v := v) (g := g) (HB1.out (.cells #[.int .i64 2, .int .i64 0, .string s] 36))).trans ht1)
    clear ho1 ht1
    go_wp2_with fail
    refine HT.out.mono ?_
    rintro e w2 ⟨rfl, v2, ho2, ht2⟩
    have HA := hide (show ∃ v', OutAt base g w2 v' (l ++ valB (2, 0, s)) ∧ OutTurn g v v' w w2 from ⟨v2, by rw [HE.out, ← List.append_assoc]; exact ho2, HT1.out.trans ht2⟩)
    clear ho2 ht2
    go_wp2_with fail
    go_ret
    exact ⟨rfl, HA.out⟩
  · have HI := hide (outInt_any 1 _ i64_1 (hO.below (HB1.out (.cells #[.int .i64 1, .int .i64 n, .string ⟨#[]⟩] 36))) (by omega))
    have HC := hide (fun v' w' (h : OutTurn g v v' (w.alloc (.cells #[.int .i64 1, .int .i64 n, .string ⟨#[]⟩] 36)) w') => turn_cell hO h)
    have h9 := (intB_len 1).2
    have HE := hide (valB_int n ⟨#[]⟩)
    have HI6 := hide HI6
    clear hx hO
    go_enter Tryd.func9, Tryd.ntmps9
    go_wp2_with fail
    refine HI.out.mono ?_
    rintro e w1 ⟨rfl, v1, ho1, ht1⟩
    have hc0 : w1.cell? ⟨w.heap.size, 0, none⟩ = some (.int .i64 1) := (HC.out _ _ ht1 0).trans (by simp)
    have hc1 : w1.cell? ⟨w.heap.size, 1, none⟩ = some (.int .i64 n) := (HC.out _ _ ht1 1).trans (by simp)
    have HT := hide (outInt_any n w1 HI6.out ho1 (by rw [List.length_append]; omega))
    have HT1 := hide ((OutTurn.of_below (v := v) (g := g) (HB1.out (.cells #[.int .i64 1, .int .i64 n, .string ⟨#[]⟩] 36))).trans ht1)
    clear ho1 ht1
    go_wp2_with fail
    refine HT.out.mono ?_
    rintro e w2 ⟨rfl, v2, ho2, ht2⟩
    have HA := hide (show ∃ v', OutAt base g w2 v' (l ++ valB (1, n, ⟨#[]⟩)) ∧ OutTurn g v v' w w2 from ⟨v2, by rw [HE.out, ← List.append_assoc]; exact ho2, HT1.out.trans ht2⟩)
    clear ho2 ht2
    go_wp2_with fail
    go_ret
    exact ⟨rfl, HA.out⟩
  · have HI := hide (outInt_any 0 _ i64_0 (hO.below (HB1.out (.cells #[.int .i64 0, .int .i64 0, .string ⟨#[]⟩] 36))) (by omega))
    have HC := hide (fun v' w' (h : OutTurn g v v' (w.alloc (.cells #[.int .i64 0, .int .i64 0, .string ⟨#[]⟩] 36)) w') => turn_cell hO h)
    have HE := hide (valB_oth (k := 0) (n := 0) (s := ⟨#[]⟩) (by decide) (by decide))
    clear hx hO HI6
    go_enter Tryd.func9, Tryd.ntmps9
    go_wp2_with fail
    refine HI.out.mono ?_
    rintro e w1 ⟨rfl, v1, ho1, ht1⟩
    have hc0 : w1.cell? ⟨w.heap.size, 0, none⟩ = some (.int .i64 0) := (HC.out _ _ ht1 0).trans (by simp)
    have HA := hide (show ∃ v', OutAt base g w1 v' (l ++ valB (0, 0, ⟨#[]⟩)) ∧ OutTurn g v v' w w1 from ⟨v1, by rw [HE.out]; exact ho1, (OutTurn.of_below (HB1.out _)).trans ht1⟩)
    clear ho1 ht1
    go_wp2_with fail
    go_ret
    exact ⟨rfl, HA.out⟩

theorem encC_le (cs : List (ByteArray × Int)) (k : Nat) : (encC (cs.take k)).length ≤ (encC cs).length := by
  conv => rhs; rw [← List.take_append_drop k cs]
  unfold encC
  rw [List.flatMap_append, List.length_append]; omega
theorem encV_le (vs : List V3) (k : Nat) : (encV (vs.take k)).length ≤ (encV vs).length := by
  conv => rhs; rw [← List.take_append_drop k vs]
  unfold encV
  rw [List.flatMap_append, List.length_append]; omega
theorem encR_le (rs : R3) (k : Nat) : (encR (rs.take k)).length ≤ (encR rs).length := by
  conv => rhs; rw [← List.take_append_drop k rs]
  unfold encR
  rw [List.flatMap_append, List.length_append]; omega
theorem encR_take {hs : List RH} {k : Nat} (hk : k < hs.length) : encR ((rowsOf hs).take (k + 1)) = encR ((rowsOf hs).take k) ++ encV (hs.getD k dH).2.2 := by rw [take_rows hk, encR_snoc]
theorem colB_len (c : ByteArray × Int) : c.1.size + 2 ≤ (colB c).length := by
  unfold colB textB
  rw [List.length_append, List.length_append]
  have h1 := intB_len (c.1.data.toList.length : Int)
  have h2 := intB_len c.2
  have h3 : c.1.data.toList.length = c.1.size := by simp
  omega
end Go.Proofs.YtbjcbgomkhdmmaaDoor
