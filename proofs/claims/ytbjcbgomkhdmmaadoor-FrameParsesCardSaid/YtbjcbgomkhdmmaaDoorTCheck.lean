/-
  Check of a table: columns, how many rows, whether each fits, whether they stand in their order.
-/
import Derived.Test.YtbjcbgomkhdmmaaDoorTRows
import Derived.Test.YtbjcbgomkhdmmaaDoorTDefs
namespace Go.Proofs.YtbjcbgomkhdmmaaDoor
open Go.RowKit

set_option maxHeartbeats 800000 in
theorem misfit_any (P0 : Nat) (S B : Option Addr) (c d : Nat) (cs : List (ByteArray × Int)) (vs : List (Int × Int × ByteArray)) (w : World) (hp : w.cell? ⟨P0, 0, none⟩ = some (.slice S cs.length c)) (hC : ColsAt w.heap.size w S cs) (hR : RowAt w.heap.size w B vs)
    (hw : Wf cs) (hv : WfR vs) (hz : checkC cs = 0) :
    Calls Tryd.prog 44 #[.slice B vs.length d, .pointer (some ⟨P0, 0, none⟩)] w fun e w' => e = .returned (.bool (!rowFits cs vs)) ∧ Below w.heap.size w w' := by
  have HF := hide (show fitsB cs vs = rowFits cs vs by unfold fitsB; rw [hz]; simp)
  have HC := hide (fits_any S B c d cs vs w hC hR hw hv)
  clear hC hR hw hv hz
  go_enter Tryd.func44, Tryd.ntmps44
  go_wp2_with fail
  refine HC.out.mono ?_
  rintro e w1 ⟨rfl, hb⟩
  rw [HF.out]
  go_wp2_with fail
  go_ret
  exact ⟨rfl, hb⟩

/-- A place of a row that doesn't fit, or -1. -/
def IdxV (cs : List (ByteArray × Int)) (rs : R3) (w : World) (e : Ending) (w' : World) : Prop :=
  (∃ n : Int, e = .returned (.int .i64 n) ∧ ((rs.all (rowFits cs) = true ∧ n = -1) ∨ (rs.all (rowFits cs) = false ∧ 0 ≤ n))) ∧ Below w.heap.size w w'

set_option maxHeartbeats 1600000 in
set_option maxRecDepth 100000 in
theorem indexFunc_any (P0 : Nat) (S A : Option Addr) (c cap : Nat) (cs : List (ByteArray × Int)) (hs : List RH) (w : World) (hP : P0 < w.heap.size) (hp : w.cell? ⟨P0, 0, none⟩ = some (.slice S cs.length c)) (hC : ColsAt w.heap.size w S cs) (hR : RowsAt w.heap.size w A hs)
    (hw : Wf cs) (hv : WfT (rowsOf hs)) (hz : checkC cs = 0) :
    Calls Tryd.prog 55 #[.slice A hs.length cap, .func (.func 44) #[] #[.pointer (some ⟨P0, 0, none⟩)]] w (IdxV cs (rowsOf hs) w) := by
  have hl := hv.1
  rw [rowsOf_len] at hl
  unfold maxLen at hl
  have HP := hide hp; have HC := hide hC; have HR := hide hR; have HW := hide hw; have HV := hide hv; have HZ := hide hz
  clear hp hC hR hw hv hz
  go_enter Tryd.func55, Tryd.ntmps55
  go_wp2_with fail
  go_loopw [8] (fun i wr => ∃ k : Nat, k ≤ hs.length ∧ i = .int .i64 k ∧ preFit cs (rowsOf hs) k ∧ Below w.heap.size w wr) (fun i _ => hs.length - (intOf i).toNat)
  case atStart => exact ⟨0, Nat.zero_le _, rfl, fun j h => by omega, Below.refl _ _⟩
  case round =>
    obtain ⟨k, hk, rfl, hp, hbw⟩ := hrel
    have HPF := hide hp; clear hp
    have hs0 := hbw.size
    by_cases hlt : k < hs.length
    · obtain ⟨b, off, A', c', r, rfl, hb, c0, hr, hrn, hg⟩ := (HR.out.below hbw).at hlt
      have hwr := HV.out.at hlt
      rw [hg] at hwr
      have HCl := hide (misfit_any P0 S A' c c' cs r wr ((hbw.cell (p := ⟨P0, 0, none⟩) hP).trans HP.out) ((HC.out.below hbw).mono hs0) (hr.mono hs0) HW.out hwr HZ.out)
      have hrk := rowsOf_at hlt
      rw [hg] at hrk
      cases hf : rowFits cs r
      all_goals
        have HF := hide hf
        have HRK := hide hrk
        clear hf hrk hr hrn hg hwr
        go_wp2_with (go_at_call 44; refine HCl.out.mono ?_; rintro e w2 ⟨rfl, hb2⟩; rw [HF.out])
        have hq2 := hbw.trans (hb2.mono hs0)
        first
          | (go_ret
             refine ⟨⟨k, rfl, .inr ⟨fit_no (k := k) (by rw [rowsOf_len]; exact hlt) (by rw [HRK.out]; exact HF.out), by omega⟩⟩, hq2⟩)
          | (go_roundw
             case rel => exact ⟨k + 1, by omega, by go_num, preFit_succ HPF.out (by rw [HRK.out]; exact HF.out), hq2⟩
             case measure => simp [intOf]; omega)
    · obtain rfl : k = hs.length := by omega
      go_wp2_with fail
      go_ret
      exact ⟨⟨-1, rfl, .inl ⟨preFit_all (by rw [rowsOf_len]; exact HPF.out), rfl⟩⟩, hbw⟩

set_option maxHeartbeats 800000 in
theorem containsFunc_any (P0 : Nat) (S A : Option Addr) (c cap : Nat) (cs : List (ByteArray × Int)) (hs : List RH) (w : World) (hP : P0 < w.heap.size) (hp : w.cell? ⟨P0, 0, none⟩ = some (.slice S cs.length c)) (hC : ColsAt w.heap.size w S cs) (hR : RowsAt w.heap.size w A hs)
    (hw : Wf cs) (hv : WfT (rowsOf hs)) (hz : checkC cs = 0) :
    Calls Tryd.prog 43 #[.slice A hs.length cap, .func (.func 44) #[] #[.pointer (some ⟨P0, 0, none⟩)]] w fun e w' => e = .returned (.bool (!(rowsOf hs).all (rowFits cs))) ∧ Below w.heap.size w w' := by
  have HI := hide (indexFunc_any P0 S A c cap cs hs w hP hp hC hR hw hv hz)
  clear hp hC hR hw hv hz
  go_enter Tryd.func43, Tryd.ntmps43
  go_wp2_with fail
  refine HI.out.mono ?_
  rintro e w1 ⟨⟨n, rfl, hc⟩, hb⟩
  have HB := hide hb
  rcases hc with ⟨ha, rfl⟩ | ⟨ha, hn⟩
  all_goals
    have HA := hide ha
    clear hb ha
    go_wp2_with fail
    go_ret
    exact ⟨ret_bool (by rw [HA.out]; rfl), HB.out⟩

set_option maxHeartbeats 1600000 in
set_option maxRecDepth 100000 in
theorem checkRows_any (S A : Option Addr) (c cap : Nat) (cs : List (ByteArray × Int)) (hs : List RH) (w : World) (hC : ColsAt w.heap.size w S cs) (hR : RowsAt w.heap.size w A hs) (hw : Wf cs) (hv : WfT (rowsOf hs)) :
    Calls Tryd.prog 22 #[.slice S cs.length c, .slice A hs.length cap] w fun e w' => e = .returned (.int .i64 (checkT cs (rowsOf hs))) ∧ Below w.heap.size w w' := by
  have hal := Joins.below_alloc1 w (.cells #[.slice S cs.length c] 24)
  have HCk := hide (check_any S c cs _ (hC.on hal) hw)
  have HC := hide (hC.on hal); have HR := hide (hR.on hal); have HW := hide hw; have HV := hide hv
  have hlen := rowsOf_len hs
  have HL := hide hal
  clear hC hR hw hv hal
  by_cases hz : checkC cs = 0
  · have hk0 : (checkC cs != 0) = false := by rw [bne_eq_false_iff_eq]; exact hz
    by_cases hm : hs.length ≤ 4096
    · have hm' : ¬ (4096 : Int) < (hs.length : Int) := by omega
      have HZ := hide hz
      clear hz
      cases hf : (rowsOf hs).all (rowFits cs)
      · have HT := hide (checkT_type HZ.out (by omega : (rowsOf hs).length ≤ 4096) hf)
        have HF := hide hf
        clear hf
        go_enter Tryd.func22, Tryd.ntmps22
        go_wp2_with fail
        refine HCk.out.mono ?_
        rintro e w1 ⟨rfl, hb1⟩
        have hp := (hb1.cell (p := ⟨w.heap.size, 0, none⟩) (by simp)).trans (World.cell?_alloc_mark w _ _ (0, 0) 0)
        have HCo := hide (containsFunc_any w.heap.size S A c cap cs hs w1 (by have := hb1.size; simp at this; omega) hp (HC.out.on hb1) (HR.out.on hb1) HW.out HV.out HZ.out)
        clear hp
        go_wp2_with (go_at_call 43; refine HCo.out.mono ?_; rintro e w2 ⟨rfl, hb2⟩; rw [HF.out])
        go_ret
        exact ⟨ret_int HT.out.symm, then_below HL.out (hb1.trans (hb2.mono hb1.size))⟩
      · have HT := hide (checkT_good HZ.out (by omega : (rowsOf hs).length ≤ 4096) hf)
        have HF := hide hf
        clear hf
        go_enter Tryd.func22, Tryd.ntmps22
        go_wp2_with fail
        refine HCk.out.mono ?_
        rintro e w1 ⟨rfl, hb1⟩
        have hp := (hb1.cell (p := ⟨w.heap.size, 0, none⟩) (by simp)).trans (World.cell?_alloc_mark w _ _ (0, 0) 0)
        have HCo := hide (containsFunc_any w.heap.size S A c cap cs hs w1 (by have := hb1.size; simp at this; omega) hp (HC.out.on hb1) (HR.out.on hb1) HW.out HV.out HZ.out)
        clear hp
        go_wp2_with (go_at_call 43; refine HCo.out.mono ?_; rintro e w2 ⟨rfl, hb2⟩; rw [HF.out])
        go_ret
        exact ⟨ret_int HT.out.symm, then_below HL.out (hb1.trans (hb2.mono hb1.size))⟩
    · have hm' : (4096 : Int) < (hs.length : Int) := by omega
      have HT := hide (checkT_many hz (by omega : ¬ (rowsOf hs).length ≤ 4096))
      clear hz
      go_enter Tryd.func22, Tryd.ntmps22
      go_wp2_with fail
      refine HCk.out.mono ?_
      rintro e w1 ⟨rfl, hb1⟩
      go_wp2_with fail
      go_ret
      exact ⟨ret_int HT.out.symm, then_below HL.out hb1⟩
  · have hk0 : (checkC cs != 0) = true := by rw [bne_iff_ne]; exact hz
    have HT := hide (checkT_cols (rs := rowsOf hs) hz)
    clear hz
    go_enter Tryd.func22, Tryd.ntmps22
    go_wp2_with fail
    refine HCk.out.mono ?_
    rintro e w1 ⟨rfl, hb1⟩
    go_wp2_with fail
    go_ret
    exact ⟨ret_int HT.out.symm, then_below HL.out hb1⟩

set_option maxHeartbeats 3200000 in
set_option maxRecDepth 100000 in
theorem isSorted_any (A : Option Addr) (cap : Nat) (hs : List RH) (w : World) (hR : RowsAt w.heap.size w A hs) (hv : WfT (rowsOf hs)) :
    Calls Tryd.prog 23 #[.slice A hs.length cap, .func (.func 24) #[] #[]] w fun e w' => e = .returned (.bool (adjB (rowsOf hs))) ∧ Below w.heap.size w w' := by
  have hl := hv.1
  rw [rowsOf_len] at hl
  unfold maxLen at hl
  have HR := hide hR; have HV := hide hv
  clear hR hv
  go_enter Tryd.func23, Tryd.ntmps23
  go_wp2_with fail
  go_loopw [5] (fun i wr => ∃ z : Int, -1 ≤ z ∧ z < hs.length ∧ i = .int .i64 z ∧ (∀ j : Nat, z ≤ j → j + 1 < hs.length → cmpR ((rowsOf hs).getD j []) ((rowsOf hs).getD (j + 1) []) ≤ 0) ∧ Below w.heap.size w wr) (fun i _ => (intOf i).toNat)
  case atStart => exact ⟨(hs.length : Int) - 1, by omega, by omega, by first | rfl | go_num, fun j h1 h2 => by omega, Below.refl _ _⟩
  case round =>
    obtain ⟨z, hz1, hz2, rfl, hp, hbw⟩ := hrel
    have HP := hide hp; clear hp
    have hs0 := hbw.size
    by_cases hlt : 0 < z
    · obtain ⟨t, rfl⟩ : ∃ t : Nat, z = (t : Int) + 1 := ⟨(z - 1).toNat, by omega⟩
      obtain ⟨b, off, A1, c1, r1, rfl, hb, d1, hr1, -, hg1⟩ := (HR.out.below hbw).at (show t + 1 < hs.length by omega)
      obtain ⟨b', off', A2, c2, r2, e, -, d2, hr2, -, hg2⟩ := (HR.out.below hbw).at (show t < hs.length by omega)
      obtain ⟨rfl, rfl⟩ : b = b' ∧ off = off' := by simpa using e
      have hw1 := HV.out.at (show t + 1 < hs.length by omega)
      rw [hg1] at hw1
      have hk1 := rowsOf_at (show t + 1 < hs.length by omega)
      have hk2 := rowsOf_at (show t < hs.length by omega)
      rw [hg1] at hk1
      rw [hg2] at hk2
      have HC := hide (fun w' (h1 : RowAt w'.heap.size w' A1 r1) (h2 : RowAt w'.heap.size w' A2 r2) => cmpRows_any A1 A2 c1 c2 r1 r2 w' h1 h2 hw1.1)
      have HR1 := hide (hr1.mono hs0); have HR2 := hide (hr2.mono hs0)
      have HK1 := hide hk1; have HK2 := hide hk2
      have HT := hide (cmpR_turn r1 r2)
      have e1 : IntKind.i64.wrap ((t : Int) + 1 - 1) = (t : Int) := by rw [IntKind.wrap_i64]; omega
      have e2 : (0 : Int) ≤ (t : Int) + 1 := by omega
      have e3 : (t : Int) + 1 < (hs.length : Int) := by omega
      have e4 : ((t : Int) + 1).toNat = t + 1 := by omega
      have e5 : (0 : Int) ≤ (t : Int) := by omega
      have e6 : (t : Int) < (hs.length : Int) := by omega
      have e7 : ((t : Int)).toNat = t := by omega
      have r0 := fun d os => cell_regrown d1 d os
      have r3 := fun d os => cell_regrown d2 d os
      clear hr1 hr2 hg1 hg2 hw1 hk1 hk2 e d1 d2
      by_cases hc : cmpR r1 r2 < 0
      all_goals
        have HCC := hide hc
        have hd : decide (cmpR r1 r2 < 0) = decide (cmpR r1 r2 < 0) := rfl
        go_wp2_with fail
        refine wp_region_quiet_below (by kernel_rfl) (by kernel_rfl) ?_
        repeat (go_big_quiet_step (first | (go_at_call 24; exact Calls.regrown_of (HC.out _ (HR1.out.on (below_regrown _ _ _)) (HR2.out.on (below_regrown _ _ _))))))
        refine wpQuiet_nil ?_
        intro _ hw'
        obtain ⟨⟨dq, osq⟩, hw''⟩ := hw'
        subst hw''
        have q9 := hbw.trans ((below_regrown _ dq osq).mono hs0)
        clear e4 e7 e1
        go_wp2_with fail
        first
          | (go_ret
             exact ⟨ret_bool (adjB_no (j := t) (by rw [rowsOf_len]; omega) (by rw [HK1.out, HK2.out]; have := HCC.out; have := HT.out; omega)).symm, q9⟩)
          | (go_roundw
             case rel =>
               refine ⟨(t : Int), by omega, by omega, by first | rfl | go_num, fun j h1 h2 => ?_, q9⟩
               by_cases e : j = t
               · subst e; rw [HK1.out, HK2.out]; have := HCC.out; have := HT.out; omega
               · exact HP.out j (by omega) h2
             case measure => simp [intOf])
    · go_wp2_with fail
      go_ret
      exact ⟨ret_bool (adjB_iff.2 (fun j hj => HP.out j (by omega) (by rw [rowsOf_len] at hj; omega))).symm, hbw⟩

set_option maxHeartbeats 1600000 in
set_option maxRecDepth 100000 in
theorem tabCheck_any (S A : Option Addr) (c cap : Nat) (cs : List (ByteArray × Int)) (hs : List RH) (w : World) (hC : ColsAt w.heap.size w S cs) (hR : RowsAt w.heap.size w A hs) (hw : Wf cs) (hv : WfT (rowsOf hs)) :
    Calls Tryd.prog 6 #[.agg #[.slice S cs.length c, .slice A hs.length cap]] w fun e w' => e = .returned (.int .i64 (fullT cs (rowsOf hs))) ∧ Below w.heap.size w w' := by
  have hal := Joins.below_alloc1 w (.cells #[.slice S cs.length c, .slice A hs.length cap] 27)
  have HCk := hide (checkRows_any S A c cap cs hs _ (hC.on hal) (hR.on hal) hw hv)
  have HR := hide (hR.on hal); have HV := hide hv
  have HL := hide hal
  clear hC hR hw hv hal
  by_cases hz : checkT cs (rowsOf hs) = 0
  · have hk0 : (checkT cs (rowsOf hs) != 0) = false := by rw [bne_eq_false_iff_eq]; exact hz
    cases hf : adjB (rowsOf hs)
    · have HT := hide (fullT_form hz hf)
      have HF := hide hf
      clear hz hf
      go_enter Tryd.func6, Tryd.ntmps6
      go_wp2_with fail
      refine HCk.out.mono ?_
      rintro e w1 ⟨rfl, hb1⟩
      have hp := (hb1.cell (p := ⟨w.heap.size, 1, none⟩) (by simp)).trans (World.cell?_alloc_mark w _ _ (0, 0) 1)
      simp at hp
      have HI := hide (isSorted_any A cap hs w1 (HR.out.on hb1) HV.out)
      go_wp2_with (go_at_call 23; refine HI.out.mono ?_; rintro e w2 ⟨rfl, hb2⟩; rw [HF.out])
      go_ret
      exact ⟨ret_int HT.out.symm, then_below HL.out (hb1.trans (hb2.mono hb1.size))⟩
    · have HT := hide (fullT_good hz hf)
      have HF := hide hf
      clear hz hf
      go_enter Tryd.func6, Tryd.ntmps6
      go_wp2_with fail
      refine HCk.out.mono ?_
      rintro e w1 ⟨rfl, hb1⟩
      have hp := (hb1.cell (p := ⟨w.heap.size, 1, none⟩) (by simp)).trans (World.cell?_alloc_mark w _ _ (0, 0) 1)
      simp at hp
      have HI := hide (isSorted_any A cap hs w1 (HR.out.on hb1) HV.out)
      go_wp2_with (go_at_call 23; refine HI.out.mono ?_; rintro e w2 ⟨rfl, hb2⟩; rw [HF.out])
      go_ret
      exact ⟨ret_int HT.out.symm, then_below HL.out (hb1.trans (hb2.mono hb1.size))⟩
  · have hk0 : (checkT cs (rowsOf hs) != 0) = true := by rw [bne_iff_ne]; exact hz
    have HT := hide (fullT_check hz)
    clear hz
    go_enter Tryd.func6, Tryd.ntmps6
    go_wp2_with fail
    refine HCk.out.mono ?_
    rintro e w1 ⟨rfl, hb1⟩
    go_wp2_with fail
    go_ret
    exact ⟨ret_int HT.out.symm, then_below HL.out hb1⟩
end Go.Proofs.YtbjcbgomkhdmmaaDoor
