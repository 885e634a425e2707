/-
  The reference's encoding: values. The law's own ref.
-/
import Derived.Test.YtbjcbgomkhdmmaaDoorFTabM
import Derived.Test.YtbjcbgomkhdmmaaDoorFRef
import Derived.Deep.Onto
namespace Go.Proofs.YtbjcbgomkhdmmaaDoor
open Go.RowKit

set_option maxHeartbeats 800000 in
theorem ref_any (k n : Int) (s : ByteArray) (w : World) : Calls Tryd.prog 11 #[vVal k n s] w fun e w' => e = .returned (vVal k n s) ∧ Below w.heap.size w w' := by
  go_enter Tryd.func11, Tryd.ntmps11
  go_wp2
  go_returns
  exact ⟨rfl, by go_grown⟩

set_option maxHeartbeats 3200000 in
set_option maxRecDepth 100000 in
theorem refValue_any (x : V3) (w : World) (hx : okV x) : Calls Tryd.prog 10 #[vVal x.1 x.2.1 x.2.2] w (OwnRes w (valB x)) := by
  have HB1 := hide (fun o => (Below.refl w.heap.size w).alloc (Nat.le_refl _) o)
  have HX := hide hx.2
  rcases hx.cases with ⟨s, rfl, hs⟩ | ⟨n, rfl⟩ | rfl
  · have HI := hide (refInt_any 2 (w.alloc (.cells #[.int .i64 2, .int .i64 0, .string s] 40)) i64_2)
    have h9 := (intB_len 2).2
    have HE := hide (valB_txt 0 s)
    have HL := hide (HB1.out (.cells #[.int .i64 2, .int .i64 0, .string s] 40))
    have htl := textB_len s
    unfold OwnRes at HI ⊢
    clear hx
    go_enter Tryd.func10, Tryd.ntmps10
    go_wp2_with fail
    refine HI.out.mono ?_
    rintro e w1 ⟨v1, rfl, hr1, hb1⟩
    have hc0 : w1.cell? ⟨w.heap.size, 0, none⟩ = some (.int .i64 2) := (hb1.cell (p := ⟨w.heap.size, 0, none⟩) (by simp)).trans (by simp)
    have hc2 : w1.cell? ⟨w.heap.size, 2, none⟩ = some (.string s) := (hb1.cell (p := ⟨w.heap.size, 2, none⟩) (by simp)).trans (by simp)
    have HT := hide (refText_any s w1 (by omega))
    unfold OwnRes at HT
    have HR1 := hide (hr1.mono (base' := w.heap.size) (by simp))
    have HL1 := hide (HL.out.trans (hb1.mono HL.out.size))
    obtain ⟨A1, c1, rfl, -⟩ := row_slice hr1
    clear hr1 hb1
    go_wp2_with fail
    refine HT.out.mono ?_
    rintro e w2 ⟨v2, rfl, hr2, hb2⟩
    have HR2 := hide (row_keep HR1.out fun b e => hb2.block b (HR1.out.lt b e).2)
    have HL2 := hide (HL1.out.trans (hb2.mono HL1.out.size))
    have hs2 := HL2.out.size
    obtain ⟨A2, c2, rfl, hBy, -, hn2, -⟩ := bytes_of_row hr2
    have HBy := hide hBy
    have HN2 := hide hn2
    clear hr2 hb2 hBy hn2
    generalize intB 2 = ib at *
    generalize textB s.data.toList = tb at *
    go_wp2_with (at_builtin; go_must (refine append_bytes rfl _ _ rfl w.heap.size (.slice A1 ib.length c1) ib tb ib.length rfl HR2.out _ A2 tb.length c2 rfl rfl HBy.out HN2.out (by omega) hs2 ?_))
    intro v3 w3 hown3 hgrow3 hat3
    have HL3 := hide (grow_below0 HL2.out HR2.out hs2 hgrow3)
    have HO3 := hide (show w3.ownsRow w.heap.size 5 1 v3 (valB (2, 0, s)).length (byC (valB (2, 0, s))) by rw [HE.out, List.length_append]; exact hown3)
    obtain ⟨A3, c3, rfl, -⟩ := row_slice hown3
    clear hown3 hgrow3 hat3
    go_wp2_with fail
    go_ret
    exact ⟨_, rfl, HO3.out, HL3.out⟩
  · have HI := hide (refInt_any 1 (w.alloc (.cells #[.int .i64 1, .int .i64 n, .string ⟨#[]⟩] 40)) i64_1)
    have h9 := (intB_len 1).2
    have h91 := (intB_len n).2
    have HE := hide (valB_int n ⟨#[]⟩)
    have HL := hide (HB1.out (.cells #[.int .i64 1, .int .i64 n, .string ⟨#[]⟩] 40))
    unfold OwnRes at HI ⊢
    clear hx
    go_enter Tryd.func10, Tryd.ntmps10
    go_wp2_with fail
    refine HI.out.mono ?_
    rintro e w1 ⟨v1, rfl, hr1, hb1⟩
    have hc0 : w1.cell? ⟨w.heap.size, 0, none⟩ = some (.int .i64 1) := (hb1.cell (p := ⟨w.heap.size, 0, none⟩) (by simp)).trans (by simp)
    have hc1 : w1.cell? ⟨w.heap.size, 1, none⟩ = some (.int .i64 n) := (hb1.cell (p := ⟨w.heap.size, 1, none⟩) (by simp)).trans (by simp)
    have HT := hide (refInt_any n w1 HX.out)
    unfold OwnRes at HT
    have HR1 := hide (hr1.mono (base' := w.heap.size) (by simp))
    have HL1 := hide (HL.out.trans (hb1.mono HL.out.size))
    obtain ⟨A1, c1, rfl, -⟩ := row_slice hr1
    clear hr1 hb1
    go_wp2_with fail
    refine HT.out.mono ?_
    rintro e w2 ⟨v2, rfl, hr2, hb2⟩
    have HR2 := hide (row_keep HR1.out fun b e => hb2.block b (HR1.out.lt b e).2)
    have HL2 := hide (HL1.out.trans (hb2.mono HL1.out.size))
    have hs2 := HL2.out.size
    obtain ⟨A2, c2, rfl, hBy, -, hn2, -⟩ := bytes_of_row hr2
    have HBy := hide hBy
    have HN2 := hide hn2
    clear hr2 hb2 hBy hn2
    generalize intB 1 = ib at *
    generalize intB n = tb at *
    go_wp2_with (at_builtin; go_must (refine append_bytes rfl _ _ rfl w.heap.size (.slice A1 ib.length c1) ib tb ib.length rfl HR2.out _ A2 tb.length c2 rfl rfl HBy.out HN2.out (by omega) hs2 ?_))
    intro v3 w3 hown3 hgrow3 hat3
    have HL3 := hide (grow_below0 HL2.out HR2.out hs2 hgrow3)
    have HO3 := hide (show w3.ownsRow w.heap.size 5 1 v3 (valB (1, n, ⟨#[]⟩)).length (byC (valB (1, n, ⟨#[]⟩))) by rw [HE.out, List.length_append]; exact hown3)
    obtain ⟨A3, c3, rfl, -⟩ := row_slice hown3
    clear hown3 hgrow3 hat3
    go_wp2_with fail
    go_ret
    exact ⟨_, rfl, HO3.out, HL3.out⟩
  · have HI := hide (refInt_any 0 (w.alloc (.cells #[.int .i64 0, .int .i64 0, .string ⟨#[]⟩] 40)) i64_0)
    have HE := hide (valB_oth (k := 0) (n := 0) (s := ⟨#[]⟩) (by decide) (by decide))
    have HL := hide (HB1.out (.cells #[.int .i64 0, .int .i64 0, .string ⟨#[]⟩] 40))
    unfold OwnRes at HI ⊢
    clear hx
    go_enter Tryd.func10, Tryd.ntmps10
    go_wp2_with fail
    refine HI.out.mono ?_
    rintro e w1 ⟨v1, rfl, hr1, hb1⟩
    have hc0 : w1.cell? ⟨w.heap.size, 0, none⟩ = some (.int .i64 0) := (hb1.cell (p := ⟨w.heap.size, 0, none⟩) (by simp)).trans (by simp)
    have HL1 := hide (HL.out.trans (hb1.mono HL.out.size))
    have HR1 := hide (show w1.ownsRow w.heap.size 5 1 v1 (valB (0, 0, ⟨#[]⟩)).length (byC (valB (0, 0, ⟨#[]⟩))) by rw [HE.out]; exact hr1.mono (by simp))
    obtain ⟨A1, c1, rfl, -⟩ := row_slice hr1
    clear hr1 hb1
    go_wp2_with fail
    go_ret
    exact ⟨_, rfl, HR1.out, HL1.out⟩
end Go.Proofs.YtbjcbgomkhdmmaaDoor
