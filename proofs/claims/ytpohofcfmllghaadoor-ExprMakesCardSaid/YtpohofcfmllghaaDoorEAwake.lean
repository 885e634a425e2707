/-
  The fixed example of the law, and the row of one value.
-/
import Derived.Test.YtpohofcfmllghaaDoorEAwakeV
import Derived.Test.YtpohofcfmllghaaDoorMCons
import Derived.Test.YtpohofcfmllghaaDoorSFits
import Derived.Lib.QuietBelow
import Derived.BigQuiet
namespace Go.Proofs.YtpohofcfmllghaaDoor
open Go.RowKit

set_option maxHeartbeats 800000 in
set_option maxRecDepth 100000 in
theorem one_any (v : Int × Int × ByteArray) (w : World) : Calls Tryd.prog 16 #[vOf v] w fun e w' => (∃ b c, e = .returned (.slice (some ⟨b, 0, none⟩) 1 c) ∧ w.heap.size ≤ b ∧ RowAt w'.heap.size w' (some ⟨b, 0, none⟩) [v]) ∧ Below w.heap.size w w' := by
  go_enter Tryd.func16, Tryd.ntmps16
  go_wp2_with fail
  go_ret
  have s1 : (w.alloc (.cells #[.int .i64 v.1, .int .i64 v.2.1, .string v.2.2] 26)).heap.size = w.heap.size + 1 := by simp
  have hn := heap_alloc_new (w.alloc (.cells #[.int .i64 v.1, .int .i64 v.2.1, .string v.2.2] 26)) (.cells #[.int .i64 v.1, .int .i64 v.2.1, .string v.2.2] 26)
  rw [s1] at hn
  refine ⟨⟨w.heap.size + 1, 1, rfl, by omega, fun j hj => ?_⟩, Joins.below_alloc2 w _ _⟩
  have hj' : j = 0 := by simpa using hj
  subst hj'
  exact ⟨w.heap.size + 1, 0, rfl, by simp, Lib.cell_of_heap hn 0, Lib.cell_of_heap hn 1, Lib.cell_of_heap hn 2⟩

theorem strip_bin {o : ByteArray} {A : Option Addr} {c : Nat} {x' y' x y : XT} (hx : stripX x' = stripX x) (hy : stripX y' = stripX y) : stripX (.mk 4 ⟨#[]⟩ (0, 0, ⟨#[]⟩) o A c [x', y']) = stripX (binX o x y) := by
  simp only [stripX, stripXs, binX, hx, hy]
theorem wfA : Wf csA := ⟨by unfold maxLen; decide, fun c hc => by
  have : c = (⟨#[97]⟩, 1) := by simpa [csA] using hc
  subst this
  exact ⟨by unfold maxLen; decide, by decide, by decide⟩⟩
theorem wfR1 {n : Int} (h : I64 n) : WfR [(1, n, ⟨#[]⟩)] := ⟨by unfold maxLen; show 1 ≤ _; omega, fun v hv => by
  have : v = (1, n, ⟨#[]⟩) := by simpa using hv
  subst this
  exact ⟨⟨by show (-9223372036854775808 : Int) ≤ 1; omega, by show (1 : Int) ≤ 9223372036854775807; omega⟩, h, by unfold maxLen; show 0 ≤ _; omega⟩⟩
theorem colsA {w : World} : ColsAt (w.alloc (.cells #[.string ⟨#[97]⟩, .int .i64 1] 44)).heap.size (w.alloc (.cells #[.string ⟨#[97]⟩, .int .i64 1] 44)) (some ⟨w.heap.size, 0, none⟩) csA := fun j hj => by
  have hj' : j = 0 := by simpa [csA] using hj
  subst hj'
  have hn := heap_alloc_new w (.cells #[.string ⟨#[97]⟩, .int .i64 1] 44)
  exact ⟨w.heap.size, 0, rfl, by simp, Lib.cell_of_heap hn 0, Lib.cell_of_heap hn 1⟩
theorem wfL {k : Int} {n : ByteArray} {v : Int × Int × ByteArray} {o : ByteArray} (h : v.2.2.size ≤ maxLen) (i : I64 v.2.1) : wfX (.mk k n v o none 0 []) ∧ wfI (.mk k n v o none 0 []) := ⟨⟨h, trivial⟩, i, trivial⟩
theorem wfBin {o : ByteArray} {x y : XT} (hx : wfX x ∧ wfI x) (hy : wfX y ∧ wfI y) : wfX (binX o x y) ∧ wfI (binX o x y) := ⟨⟨by unfold maxLen; decide, hx.1, hy.1, trivial⟩, ⟨by unfold I64; decide, hx.2, hy.2, trivial⟩⟩
theorem wfCst {n : Int} (h : I64 n) : wfX (cstX n) ∧ wfI (cstX n) := wfL (by unfold maxLen; show 0 ≤ _; omega) h
theorem wfColA : wfX colA ∧ wfI colA := wfL (by unfold maxLen; show 0 ≤ _; omega) (by unfold I64; decide)

theorem wfAw2 : wfX awX2 ∧ wfI awX2 := by
  have a := wfBin (o := ⟨#[62]⟩) wfColA (wfCst (n := 1) (by unfold I64; decide))
  have b := wfBin (o := ⟨#[47]⟩) (wfCst (n := 1) (by unfold I64; decide)) (wfCst (n := 0) (by unfold I64; decide))
  have c := wfCst (n := 5) (by unfold I64; decide)
  exact ⟨⟨by unfold maxLen; decide, a.1, b.1, c.1, trivial⟩, ⟨by unfold I64; decide, a.2, b.2, c.2, trivial⟩⟩
theorem colA_any (w : World) : Calls Tryd.prog 12 #[.string ⟨#[97]⟩] w fun e w' => e = .returned (vX colA) ∧ Below w.heap.size w w' := column_any _ w
theorem cst_any (n : Int) (w : World) : Calls Tryd.prog 9 #[vVal 1 n ⟨#[]⟩] w fun e w' => e = .returned (vX (cstX n)) ∧ Below w.heap.size w w' := const_any 1 n ⟨#[]⟩ w

set_option maxHeartbeats 3200000 in
set_option maxRecDepth 100000 in
theorem awake_any (w : World) (hR : Rls w) (hM : Cmps w) : Calls Tryd.prog 5 #[] w fun e w' => e = .returned (.bool true) ∧ Below w.heap.size w w' := by
  have hal := Joins.below_alloc1 w (.cells #[.string ⟨#[97]⟩, .int .i64 1] 44)
  have HR1 := hide (hR.stays hal)
  have HM1 := hide (hM.stays hal)
  have HC1 := hide (colsA (w := w))
  have HL0 := hide hal
  obtain ⟨W1, hW⟩ : ∃ W, W = w.alloc (.cells #[.string ⟨#[97]⟩, .int .i64 1] 44) := ⟨_, rfl⟩
  have HWE := hide hW
  rw [← hW] at HR1 HM1 HC1 HL0
  have HB1 := hide (Below.refl W1.heap.size W1)
  clear hal hR hM hW
  go_enter Tryd.func5, Tryd.ntmps5
  go_wp2_with fail
  rw [← HWE.out]
  refine (colA_any _).mono ?_
  rintro e v1 ⟨rfl, hb⟩
  have HV1 := hide (then_below HB1.out hb)
  clear hb
  go_wp2_with fail
  refine (of_any 1 _).mono ?_
  rintro e v2 ⟨rfl, hb⟩
  have HV2 := hide (then_below HV1.out hb)
  clear hb
  go_wp2_with fail
  refine (cst_any 1 _).mono ?_
  rintro e v3 ⟨rfl, hb⟩
  have HV3 := hide (then_below HV2.out hb)
  clear hb
  go_wp2_with fail
  refine (binary_any ⟨#[43]⟩ colA (cstX 1) _ (by decide) (lies_leaf _ _ _ _ _ _) (lies_leaf _ _ _ _ _ _)).mono ?_
  rintro e v4 ⟨⟨A1, c1, x1, y1, rfl, hx1, hy1, hl1, -⟩, hb⟩
  have HV4 := hide (then_below HV3.out hb)
  have HS1 := hide (strip_bin (o := ⟨#[43]⟩) (A := A1) (c := c1) hx1 hy1)
  have HLa := hide hl1
  clear hx1 hy1 hl1
  generalize XT.mk 4 ⟨#[]⟩ (0, 0, ⟨#[]⟩) ⟨#[43]⟩ A1 c1 [x1, y1] = X1 at *
  clear hb
  go_wp2_with fail
  refine (of_any 2 _).mono ?_
  rintro e v5 ⟨rfl, hb⟩
  have HV5 := hide (then_below HV4.out hb)
  have HLb := hide (HLa.out.on hb)
  clear hb
  go_wp2_with fail
  refine (one_any (1, 2, ⟨#[]⟩) _).mono ?_
  rintro e v6 ⟨⟨b1, c2, rfl, -, hrow⟩, hb⟩
  have HV6 := hide (then_below HV5.out hb)
  have HLc := hide (HLb.out.on hb)
  have HRw := hide hrow
  clear hrow
  clear hb
  go_wp2_with fail
  have HE1 := hide (evalTop_any (some ⟨w.heap.size, 0, none⟩) 1 csA wfA (some ⟨b1, 0, none⟩) c2 [(1, 2, ⟨#[]⟩)] (wfR1 (by unfold I64; decide)) X1 _ (by rw [same_sz HS1.out]; decide) HLc.out ((same_wf HS1.out).1 (wfBin wfColA (wfCst (by unfold I64; decide))).1) ((same_wf HS1.out).2 (wfBin wfColA (wfCst (by unfold I64; decide))).2) (HC1.out.on HV6.out) HRw.out (HM1.out.stays HV6.out) (HR1.out.stays HV6.out))
  rw [(same_top HS1.out).trans aw1] at HE1
  refine HE1.out.mono ?_
  rintro e v7 ⟨rfl, hb⟩
  have hb7 := then_below HV6.out hb
  have HV7a := hide (hb7.alloc hb7.size (.cells #[.int .i64 1, .int .i64 3, .string ⟨#[]⟩] 26))
  have HV7N := hide (show At3 (v7.alloc (.cells #[.int .i64 1, .int .i64 3, .string ⟨#[]⟩] 26)) v7.heap.size (1, 3, ⟨#[]⟩) from ⟨by simp, by simp, by simp, by simp⟩)
  clear hb hb7 HE1 HLa HLb HLc HRw HS1
  go_wp2_with fail
  generalize (v7.alloc (.cells #[.int .i64 1, .int .i64 3, .string ⟨#[]⟩] 26)) = W7 at *
  generalize v7.heap.size = Q at *
  refine (colA_any _).mono ?_
  rintro e v8 ⟨rfl, hb⟩
  have HV8 := hide (then_below HV7a.out hb)
  have HN8 := hide (HV7N.out.on hb)
  clear hb
  go_wp2_with fail
  refine (of_any 1 _).mono ?_
  rintro e v9 ⟨rfl, hb⟩
  have HV9 := hide (then_below HV8.out hb)
  have HN9 := hide (HN8.out.on hb)
  clear hb
  go_wp2_with fail
  refine (cst_any 1 _).mono ?_
  rintro e v10 ⟨rfl, hb⟩
  have HV10 := hide (then_below HV9.out hb)
  have HN10 := hide (HN9.out.on hb)
  clear hb
  go_wp2_with fail
  refine (binary_any ⟨#[62]⟩ colA (cstX 1) _ (by decide) (lies_leaf _ _ _ _ _ _) (lies_leaf _ _ _ _ _ _)).mono ?_
  rintro e v11 ⟨⟨A1, c1, x1, y1, rfl, hx1, hy1, hl1, -⟩, hb⟩
  have HV11 := hide (then_below HV10.out hb)
  have HN11 := hide (HN10.out.on hb)
  have HS1 := hide (strip_bin (o := ⟨#[62]⟩) (A := A1) (c := c1) hx1 hy1)
  have HLa := hide hl1
  clear hx1 hy1 hl1
  generalize XT.mk 4 ⟨#[]⟩ (0, 0, ⟨#[]⟩) ⟨#[62]⟩ A1 c1 [x1, y1] = X1 at *
  clear hb
  go_wp2_with fail
  refine (of_any 1 _).mono ?_
  rintro e v12 ⟨rfl, hb⟩
  have HV12 := hide (then_below HV11.out hb)
  have HN12 := hide (HN11.out.on hb)
  have HL12 := hide (HLa.out.on hb)
  clear hb
  go_wp2_with fail
  refine (cst_any 1 _).mono ?_
  rintro e v13 ⟨rfl, hb⟩
  have HV13 := hide (then_below HV12.out hb)
  have HN13 := hide (HN12.out.on hb)
  have HL13 := hide (HL12.out.on hb)
  clear hb
  go_wp2_with fail
  refine (of_any 0 _).mono ?_
  rintro e v14 ⟨rfl, hb⟩
  have HV14 := hide (then_below HV13.out hb)
  have HN14 := hide (HN13.out.on hb)
  have HL14 := hide (HL13.out.on hb)
  clear hb
  go_wp2_with fail
  refine (cst_any 0 _).mono ?_
  rintro e v15 ⟨rfl, hb⟩
  have HV15 := hide (then_below HV14.out hb)
  have HN15 := hide (HN14.out.on hb)
  have HL15 := hide (HL14.out.on hb)
  clear hb
  go_wp2_with fail
  refine (binary_any ⟨#[47]⟩ (cstX 1) (cstX 0) _ (by decide) (lies_leaf _ _ _ _ _ _) (lies_leaf _ _ _ _ _ _)).mono ?_
  rintro e v16 ⟨⟨A1, c1, x1, y1, rfl, hx1, hy1, hl1, -⟩, hb⟩
  have HV16 := hide (then_below HV15.out hb)
  have HN16 := hide (HN15.out.on hb)
  have HL16 := hide (HL15.out.on hb)
  have HS2 := hide (strip_bin (o := ⟨#[47]⟩) (A := A1) (c := c1) hx1 hy1)
  have HMa := hide hl1
  clear hx1 hy1 hl1
  generalize XT.mk 4 ⟨#[]⟩ (0, 0, ⟨#[]⟩) ⟨#[47]⟩ A1 c1 [x1, y1] = X2 at *
  clear hb
  go_wp2_with fail
  refine (of_any 5 _).mono ?_
  rintro e v17 ⟨rfl, hb⟩
  have HV17 := hide (then_below HV16.out hb)
  have HN17 := hide (HN16.out.on hb)
  have HL17 := hide (HL16.out.on hb)
  have HK17 := hide (HMa.out.on hb)
  clear hb
  go_wp2_with fail
  refine (cst_any 5 _).mono ?_
  rintro e v18 ⟨rfl, hb⟩
  have HV18 := hide (then_below HV17.out hb)
  have HN18 := hide (HN17.out.on hb)
  have HL18 := hide (HL17.out.on hb)
  have HK18 := hide (HK17.out.on hb)
  clear hb
  have HS3 := hide (show cstX 5 = cstX 5 from rfl)
  have HL3 := hide (show LiesX v18.heap.size v18 (cstX 5) from lies_leaf _ _ _ _ _ _)
  generalize hx3 : cstX 5 = X3 at HL3 ⊢
  have HX3 := hide hx3
  clear hx3 HS3
  simp only [vX]
  have hal := Joins.below_alloc1 v18 (.cells #[.int .i64 X1.kind, .string X1.name, .int .i64 X1.val.1, .int .i64 X1.val.2.1, .string X1.val.2.2, .string X1.op, .slice X1.adr X1.args.length X1.cap, .int .i64 X2.kind, .string X2.name, .int .i64 X2.val.1, .int .i64 X2.val.2.1, .string X2.val.2.2, .string X2.op, .slice X2.adr X2.args.length X2.cap, .int .i64 X3.kind, .string X3.name, .int .i64 X3.val.1, .int .i64 X3.val.2.1, .string X3.val.2.2, .string X3.op, .slice X3.adr X3.args.length X3.cap] 29)
  have hn := heap_alloc_new v18 (.cells #[.int .i64 X1.kind, .string X1.name, .int .i64 X1.val.1, .int .i64 X1.val.2.1, .string X1.val.2.2, .string X1.op, .slice X1.adr X1.args.length X1.cap, .int .i64 X2.kind, .string X2.name, .int .i64 X2.val.1, .int .i64 X2.val.2.1, .string X2.val.2.2, .string X2.op, .slice X2.adr X2.args.length X2.cap, .int .i64 X3.kind, .string X3.name, .int .i64 X3.val.1, .int .i64 X3.val.2.1, .string X3.val.2.2, .string X3.op, .slice X3.adr X3.args.length X3.cap] 29)
  have HVa := hide (then_below HV18.out hal)
  have HNa := hide (HN18.out.on hal)
  have HArg := hide (show ArgsAt (v18.alloc (.cells #[.int .i64 X1.kind, .string X1.name, .int .i64 X1.val.1, .int .i64 X1.val.2.1, .string X1.val.2.2, .string X1.op, .slice X1.adr X1.args.length X1.cap, .int .i64 X2.kind, .string X2.name, .int .i64 X2.val.1, .int .i64 X2.val.2.1, .string X2.val.2.2, .string X2.op, .slice X2.adr X2.args.length X2.cap, .int .i64 X3.kind, .string X3.name, .int .i64 X3.val.1, .int .i64 X3.val.2.1, .string X3.val.2.2, .string X3.op, .slice X3.adr X3.args.length X3.cap] 29)).heap.size (v18.alloc (.cells #[.int .i64 X1.kind, .string X1.name, .int .i64 X1.val.1, .int .i64 X1.val.2.1, .string X1.val.2.2, .string X1.op, .slice X1.adr X1.args.length X1.cap, .int .i64 X2.kind, .string X2.name, .int .i64 X2.val.1, .int .i64 X2.val.2.1, .string X2.val.2.2, .string X2.op, .slice X2.adr X2.args.length X2.cap, .int .i64 X3.kind, .string X3.name, .int .i64 X3.val.1, .int .i64 X3.val.2.1, .string X3.val.2.2, .string X3.op, .slice X3.adr X3.args.length X3.cap] 29)) (some ⟨v18.heap.size, 0, none⟩) [X1, X2, X3] from fun j hj => by
    have hj' : j < 3 := hj
    rcases (by omega : j = 0 ∨ j = 1 ∨ j = 2) with rfl | rfl | rfl
    · exact ⟨v18.heap.size, 0, rfl, by simp, ⟨Lib.cell_of_heap hn 0, Lib.cell_of_heap hn 1, Lib.cell_of_heap hn 2, Lib.cell_of_heap hn 3, Lib.cell_of_heap hn 4, Lib.cell_of_heap hn 5, Lib.cell_of_heap hn 6⟩, HL18.out.on hal⟩
    · exact ⟨v18.heap.size, 0, rfl, by simp, ⟨Lib.cell_of_heap hn 7, Lib.cell_of_heap hn 8, Lib.cell_of_heap hn 9, Lib.cell_of_heap hn 10, Lib.cell_of_heap hn 11, Lib.cell_of_heap hn 12, Lib.cell_of_heap hn 13⟩, HK18.out.on hal⟩
    · exact ⟨v18.heap.size, 0, rfl, by simp, ⟨Lib.cell_of_heap hn 14, Lib.cell_of_heap hn 15, Lib.cell_of_heap hn 16, Lib.cell_of_heap hn 17, Lib.cell_of_heap hn 18, Lib.cell_of_heap hn 19, Lib.cell_of_heap hn 20⟩, HL3.out.on hal⟩)
  clear hal hn
  go_wp2_with fail
  generalize (v18.alloc (.cells #[.int .i64 X1.kind, .string X1.name, .int .i64 X1.val.1, .int .i64 X1.val.2.1, .string X1.val.2.2, .string X1.op, .slice X1.adr X1.args.length X1.cap, .int .i64 X2.kind, .string X2.name, .int .i64 X2.val.1, .int .i64 X2.val.2.1, .string X2.val.2.2, .string X2.op, .slice X2.adr X2.args.length X2.cap, .int .i64 X3.kind, .string X3.name, .int .i64 X3.val.1, .int .i64 X3.val.2.1, .string X3.val.2.2, .string X3.op, .slice X3.adr X3.args.length X3.cap] 29)) = Wa at *
  generalize v18.heap.size = Pa at *
  refine (call_any ⟨#[105, 102]⟩ (some ⟨Pa, 0, none⟩) 3 [X1, X2, X3] _ (by show szX X1 + (szX X2 + (szX X3 + 0)) ≤ _; rw [same_sz HS1.out, same_sz HS2.out, ← HX3.out]; decide) HArg.out).mono ?_
  rintro e v19 ⟨⟨A1, c1, us, rfl, hst, hl1, -⟩, hb⟩
  have HV19 := hide (then_below HVa.out hb)
  have HN19 := hide (HNa.out.on hb)
  have HS4 := hide (show stripX (.mk 5 ⟨#[105, 102]⟩ (0, 0, ⟨#[]⟩) ⟨#[]⟩ A1 c1 us) = stripX awX2 by
    have h1 := HS1.out
    have h2 := HS2.out
    have h3 := HX3.out
    simp only [stripX, hst, awX2, stripXs, h1, h2, ← h3])
  have HP := hide hl1
  clear hst hl1
  generalize XT.mk 5 ⟨#[105, 102]⟩ (0, 0, ⟨#[]⟩) ⟨#[]⟩ A1 c1 us = X4 at *
  clear hb
  go_wp2_with fail
  refine (of_any 1 _).mono ?_
  rintro e v20 ⟨rfl, hb⟩
  have HV20 := hide (then_below HV19.out hb)
  have HN20 := hide (HN19.out.on hb)
  have HP20 := hide (HP.out.on hb)
  clear hb
  go_wp2_with fail
  refine (one_any (1, 1, ⟨#[]⟩) _).mono ?_
  rintro e v21 ⟨⟨b1, c2, rfl, -, hrow⟩, hb⟩
  have HV21 := hide (then_below HV20.out hb)
  have HN21 := hide (HN20.out.on hb)
  have HP21 := hide (HP20.out.on hb)
  have HRw := hide hrow
  clear hrow
  clear hb
  go_wp2_with fail
  have HE1 := hide (evalTop_any (some ⟨w.heap.size, 0, none⟩) 1 csA wfA (some ⟨b1, 0, none⟩) c2 [(1, 1, ⟨#[]⟩)] (wfR1 (by unfold I64; decide)) X4 _ (by rw [same_sz HS4.out]; decide) HP21.out ((same_wf HS4.out).1 wfAw2.1) ((same_wf HS4.out).2 wfAw2.2) (HC1.out.on HV21.out) HRw.out (HM1.out.stays HV21.out) (HR1.out.stays HV21.out))
  rw [(same_top HS4.out).trans aw2] at HE1
  refine HE1.out.mono ?_
  rintro e v8 ⟨rfl, hb⟩
  have HN8 := hide (HN21.out.on hb)
  have HV8 := hide (then_below HV21.out hb)
  have hq1 : ∀ w, (binOp .eql 26 (vVal 1 3 ⟨#[]⟩) (vVal 1 3 ⟨#[]⟩)).run Tryd.prog w = .ok (.bool true) w := fun w => by rw [run_eql_val]; simp
  have hg1 := fun u u' w => run_guard_val 1 3 1 3 ⟨#[]⟩ ⟨#[]⟩ u u' w
  have hq2 : ∀ w, (binOp .eql 26 (vVal 1 5 ⟨#[]⟩) (vVal 1 5 ⟨#[]⟩)).run Tryd.prog w = .ok (.bool true) w := fun w => by rw [run_eql_val]; simp
  have hg2 := fun u u' w => run_guard_val 1 5 1 5 ⟨#[]⟩ ⟨#[]⟩ u u' w
  have hal := Joins.below_alloc1 v8 (.cells #[.int .i64 1, .int .i64 5, .string ⟨#[]⟩] 26)
  have HV9 := hide (then_below HV8.out hal)
  obtain ⟨x0, x1, x2, xz⟩ := HN8.out.on hal
  have y0 : (v8.alloc (.cells #[.int .i64 1, .int .i64 5, .string ⟨#[]⟩] 26)).cell? ⟨v8.heap.size, 0, none⟩ = some (.int .i64 1) := by simp
  have y1 : (v8.alloc (.cells #[.int .i64 1, .int .i64 5, .string ⟨#[]⟩] 26)).cell? ⟨v8.heap.size, 1, none⟩ = some (.int .i64 5) := by simp
  have y2 : (v8.alloc (.cells #[.int .i64 1, .int .i64 5, .string ⟨#[]⟩] 26)).cell? ⟨v8.heap.size, 2, none⟩ = some (.string ⟨#[]⟩) := by simp
  have p0 := fun d os => cell_regrown x0 d os
  have p1 := fun d os => cell_regrown x1 d os
  have p2 := fun d os => cell_regrown x2 d os
  have p3 := fun d os => cell_regrown y0 d os
  have p4 := fun d os => cell_regrown y1 d os
  have p5 := fun d os => cell_regrown y2 d os
  clear hb hal HE1 x0 x1 x2 xz y0 y1 y2
  go_wp2_with fail
  refine wp_region_quiet_below (by kernel_rfl) (by kernel_rfl) ?_
  repeat (go_big_quiet_step (first | (go_at_call 10; exact Calls.regrown_of (of_any 3 _))))
  refine wpQuiet_nil ?_
  intro _ hw'
  obtain ⟨⟨dq, osq⟩, hw''⟩ := hw'
  subst hw''
  have q9 := then_below HV9.out (below_regrown _ dq osq)
  go_wp2_with fail
  go_ret
  exact ⟨rfl, HL0.out.trans (q9.mono HL0.out.size)⟩
end Go.Proofs.YtpohofcfmllghaaDoor
