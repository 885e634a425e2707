/-
  The reference's Append, whole; Sync; Safe.
-/
import Derived.Test.YtpjibiimakclfabPApp
namespace Go.Proofs.Ytpjibiimakclfab
open Go.RowKit

def raE (p : RP) (n : Int) (k : Nat) : Int := if wrE p n = 0 then (if p.cap < (p.used : Int) + k then 41 else rcE p) else wrE p n
def raF (p : RP) (n : Int) (ys : List UInt8) : RP := if wrE p n = 0 then (if p.cap < (p.used : Int) + ys.length then p else rcP (raP p n.toNat ys)) else p
theorem wrE_zero {p : RP} {n : Int} (h : wrE p n = 0) : p.down = false ∧ 0 ≤ n ∧ n ≤ 3 := by
  unfold wrE at h
  cases hd : p.down
  · rw [hd] at h
    refine ⟨rfl, ?_⟩
    by_cases e : n < 0 ∨ 3 < n
    · rw [if_neg (by decide), if_pos e] at h; cases h
    · omega
  · rw [hd] at h; simp at h
set_option maxHeartbeats 3200000 in
set_option maxRecDepth 100000 in
theorem rappend_any {base g : Nat} {R : RS} (n : Int) (A : Option Addr) (c : Nat) (ys : List UInt8) (w : World) (hR : RefAt base g w R) (hO : R.p.Ok) (hd : R.p.done ≤ 1000000000000) (hl0 : R.p.armed = true → 0 ≤ R.p.left) (hc : R.p.cap ≤ 1073741824)
    (hY : ∀ (R' : RS) w', RTurned g R R' w w' → BytesAt w'.heap.size w' A ys) (hl : ys.length ≤ 140737488355328) :
    Calls Try.prog 21 #[vD g, .int .i64 n, .slice A ys.length c] w fun e w' => e = .returned (.int .i64 (raE R.p n ys.length)) ∧ ∃ R' : RS, R'.p = raF R.p n ys ∧ RefAt base g w' R' ∧ RTurned g R R' w w' := by
  by_cases h0 : wrE R.p n = 0
  · obtain ⟨_, n0, n3⟩ := wrE_zero h0
    by_cases hr : R.p.cap < (R.p.used : Int) + ys.length
    · have HE := hide (show raE R.p n ys.length = 41 by unfold raE; rw [if_pos h0, if_pos hr])
      have HP := hide (show raF R.p n ys = R.p by unfold raF; rw [if_pos h0, if_pos hr])
      have HW := hide (wrong_any n w hR)
      rw [h0] at HW
      have HU := hide (fun w' (h : Below w.heap.size w w') => rused_any w' (hR.below h) hO.used)
      have HR := hide hR
      have hus := hO.used
      have hwrap : IntKind.i64.wrap ((R.p.used : Int) + (ys.length : Int)) = (R.p.used : Int) + (ys.length : Int) := by
        unfold IntKind.wrap
        simp [IntKind.signed, IntKind.bits]
        omega
      generalize raE R.p n ys.length = qe at *
      generalize raF R.p n ys = qp at *
      clear hR hO hY h0
      go_enter Try.func21, Try.ntmps21
      go_wp2_with fail
      refine HW.out.mono ?_
      rintro e w1 ⟨rfl, hb1⟩
      have HB1 := hide hb1
      clear hb1
      obtain ⟨c8, c9, c10, c11, c12⟩ := (HR.out.below HB1.out).nums
      go_wp2_with fail
      have qc8 := fun d os => cell_regrown c8 d os
      refine wp_region_quiet_below (by kernel_rfl) (by kernel_rfl) ?_
      repeat (go_big_quiet_step (first
        | (go_at_call 11; exact Calls.regrown_of (HU.out _ (then_below HB1.out (below_regrown _ _ _))))))
      refine wpQuiet_nil ?_
      intro _ hw'
      obtain ⟨⟨dq, osq⟩, hw''⟩ := hw'
      subst hw''
      have HB2 := hide (show Below w.heap.size w (Go.Sort.grow (redrawn w1 dq) osq) from then_below HB1.out (below_regrown w1 dq osq))
      generalize Go.Sort.grow (redrawn w1 dq) osq = w2 at *
      clear qc8 c8 c9 c10 c11 c12
      go_wp2_with fail
      go_ret
      exact ⟨ret_int HE.out.symm, R, HP.out.symm, HR.out.below HB2.out, RTurned.of_below HB2.out⟩
    · obtain ⟨i, rfl⟩ : ∃ i : Nat, n = i := ⟨n.toNat, by omega⟩
      refine (rappend_loop i A c ys w (by omega) hR hO hd hl0 hY h0 (by omega) hr).mono ?_
      rintro e w' ⟨rfl, R', e1, e2, e3⟩
      refine ⟨ret_int ?_, R', ?_, e2, e3⟩
      · unfold raE; rw [if_pos h0, if_neg hr]
      · rw [e1]; unfold raF; rw [if_pos h0, if_neg hr, Int.toNat_natCast]
  · have HE := hide (show raE R.p n ys.length = wrE R.p n from if_neg h0)
    have HP := hide (show raF R.p n ys = R.p from if_neg h0)
    have HW := hide (wrong_any n w hR)
    have HR := hide hR
    have hb : (wrE R.p n != 0) = true := by rw [bne_iff_ne]; exact h0
    generalize raE R.p n ys.length = qe at *
    generalize raF R.p n ys = qp at *
    generalize wrE R.p n = qw at *
    clear hR hO hY h0
    go_enter Try.func21, Try.ntmps21
    go_wp2_with fail
    refine HW.out.mono ?_
    rintro e w1 ⟨rfl, hb1⟩
    have HB1 := hide hb1
    clear hb1
    go_wp2_with fail
    go_ret
    exact ⟨ret_int HE.out.symm, R, HP.out.symm, HR.out.below HB1.out, RTurned.of_below HB1.out⟩
/-- A store into a row. -/
theorem rset {base g j k b n c : Nat} {R : RS} {p' : RP} {w : World} {u : Value} (hj : j < 8) (hR : RefAt base g w R) (hv : R.v j = .slice (some ⟨b, 0, none⟩) n c) (hk : k < n) (hc : (rowC R.p j).set k u = rowC p' j)
    (hp : ∀ i, i ≠ j → rowC p' i = rowC R.p i) (e1 : p'.cap = R.p.cap) (e2 : p'.left = R.p.left) (e3 : p'.done = R.p.done) (e4 : p'.armed = R.p.armed) (e5 : p'.down = R.p.down) :
    (∃ v, w.cell? ⟨b, k, none⟩ = some v) ∧ w.frozen? ⟨b, k, none⟩ = false ∧ b < w.heap.size ∧ RefAt base g (w.setCell ⟨b, k, none⟩ u) ⟨p', R.v⟩ ∧ RTurned g R ⟨p', R.v⟩ w (w.setCell ⟨b, k, none⟩ u) := by
  have hrow := hR.row j hj
  have hob : (R.v j).ownBlock = some b := by rw [hv]; rfl
  have hbg := hR.off j hj b hob
  rw [hv] at hrow
  obtain ⟨hl, hx⟩ := hrow
  rcases hx with ⟨e, _⟩ | ⟨g', cap, cur, e, hb, hg, hn, hm, hsz, htk⟩
  · cases e
  · injection e with a1 a2 a3
    injection a1 with a1
    injection a1 with a1
    subst a1
    have hlen : (rowC p' j).length = (rowC R.p j).length := by rw [← hc, List.length_set]
    have hcs : k < cur.size := by omega
    have hh : ∀ x, x ≠ b → (w.setCell ⟨b, k, none⟩ u).heap[x]? = w.heap[x]? := fun x hx => Below.heap_setCell _ _ _ _ hx
    have hnew := Joins.block_setCell (i := k) hg u
    have := hR.puts (R' := ⟨p', R.v⟩) (w' := w.setCell ⟨b, k, none⟩ u) rfl rfl rfl (by simp [World.setCell])
      (by rw [hh g (fun e => hbg e.symm), hR.box]; unfold rCells; simp only [e1, e2, e3, e4, e5])
      (fun i hi => by
        show (w.setCell ⟨b, k, none⟩ u).ownsRow base (rowT i) 1 (R.v i) (rowC p' i).length (rowC p' i)
        by_cases ei : i = j
        · subst ei
          refine ⟨by omega, .inr ⟨b, cap, cur.setIfInBounds k u, ?_, hb, hnew, by omega, hm, by simpa using hsz, ?_⟩⟩
          · rw [hv, hlen, a2, a3]
          · have h2 := congrArg (fun l => l.set k u) htk
            rw [hlen, ← hc, Array.toList_setIfInBounds, List.take_set]
            exact h2
        · rw [hp i ei]
          exact row_same (hR.row i hi) fun x ex => hh x (fun e => hR.apart i j hi hj ei x ex (by rw [e]; exact hob)))
      (fun i _ x e => .inl e)
      (fun x _ _ ho => hh x (fun e => ho j hj (by rw [e]; exact hob)))
      (fun i m hi hm hne x _ e => hR.apart i m hi hm hne x e)
    refine ⟨⟨cur[k], ?_⟩, Lib.frozen_of_heap hg k, (Array.getElem?_eq_some_iff.1 hg).1, this.1, this.2⟩
    rw [Lib.cell_of_heap hg]
    exact Array.getElem?_eq_getElem hcs
/-- The first k bytes are safe. -/
def ssP (p : RP) (i k : Nat) : RP := { p with sf := upd p.sf i (List.replicate k true ++ (p.sf i).drop k) }
theorem ssP_zero {p : RP} {i : Nat} : ssP p i 0 = p := by
  unfold ssP
  simp only [List.replicate_zero, List.nil_append, List.drop_zero]
  rw [upd_self]
theorem ssP_row {p : RP} {i j k : Nat} (h : j ≠ i * 2 + 1) : rowC (ssP p i k) j = rowC p j := by
  unfold rowC ssP
  by_cases e : j % 2 = 0
  · rw [if_pos e, if_pos e]
  · rw [if_neg e, if_neg e]
    show boC (upd p.sf i _ (j / 2)) = _
    rw [upd_other _ _ (by omega)]
theorem ssP_step {p : RP} {i k : Nat} (hk : k < (p.sf i).length) : (rowC (ssP p i k) (i * 2 + 1)).set k (.bool true) = rowC (ssP p i (k + 1)) (i * 2 + 1) := by
  rw [rowC_odd', rowC_odd']
  show (boC (upd p.sf i _ i)).set k _ = boC (upd p.sf i _ i)
  rw [upd_same, upd_same]
  unfold boC
  rw [← List.map_set]
  congr 1
  apply List.ext_getElem?
  intro m
  rw [List.getElem?_set, List.getElem?_append, List.getElem?_append, List.getElem?_replicate, List.getElem?_replicate, List.length_replicate, List.length_replicate, List.getElem?_drop, List.getElem?_drop, List.length_append, List.length_replicate, List.length_drop]
  by_cases h1 : k = m
  · subst h1
    rw [if_pos rfl, if_pos (by omega), if_pos (by omega), if_pos (by omega)]
  · rw [if_neg h1]
    by_cases h2 : m < k
    · rw [if_pos h2, if_pos h2, if_pos (by omega), if_pos (by omega)]
    · rw [if_neg h2, if_neg (by omega), show k + (m - k) = m by omega, show k + 1 + (m - (k + 1)) = m by omega]
theorem ssP_len {p : RP} {i k : Nat} (hk : k ≤ (p.sf i).length) : ((ssP p i k).sf i).length = (p.sf i).length := by
  show (upd p.sf i _ i).length = _
  rw [upd_same, List.length_append, List.length_replicate, List.length_drop]
  omega
def rsE (p : RP) (n : Int) : Int := if wrE p n = 0 then rcE p else wrE p n
def rsF (p : RP) (n : Int) : RP := if wrE p n = 0 then (if rcE p = 0 then ssP (rcP p) n.toNat (p.sf n.toNat).length else rcP p) else p
theorem rcP_same (p : RP) : (rcP p).bs = p.bs ∧ (rcP p).sf = p.sf ∧ (rcP p).cap = p.cap := by unfold rcP; split <;> exact ⟨rfl, rfl, rfl⟩
theorem rcE_two (p : RP) : rcE p = 0 ∨ rcE p = 40 := by unfold rcE; split <;> simp
set_option maxHeartbeats 3200000 in
set_option maxRecDepth 100000 in
theorem rsync_any {base g : Nat} {R : RS} (n : Int) (w : World) (hR : RefAt base g w R) (hO : R.p.Ok) (hd : R.p.done ≤ 1000000000000) (hl0 : R.p.armed = true → 0 ≤ R.p.left) (hlen : ∀ i, i < 4 → (R.p.sf i).length ≤ 1073741824) :
    Calls Try.prog 22 #[vD g, .int .i64 n] w fun e w' => e = .returned (.int .i64 (rsE R.p n)) ∧ ∃ R' : RS, R'.p = rsF R.p n ∧ RefAt base g w' R' ∧ RTurned g R R' w w' := by
  have HW := hide (wrong_any n w hR)
  have HR := hide hR
  by_cases h0 : wrE R.p n = 0
  · obtain ⟨_, n0, n3⟩ := wrE_zero h0
    obtain ⟨i, rfl⟩ : ∃ i : Nat, n = i := ⟨n.toNat, by omega⟩
    have hi4 : i < 4 := by omega
    have hI0 : (0 : Int) ≤ (i : Int) := by omega
    have hI1 : (i : Int) < 4 := by omega
    have hli := hlen i hi4
    rw [h0] at HW
    have HCm := hide (fun w' (h : Below w.heap.size w w') => rcommand_any w' (hR.below h) hO.done0 hd hl0 hO.left1)
    rcases rcE_two R.p with hr | hr
    · have HE := hide (show rsE R.p i = 0 by unfold rsE; rw [if_pos h0, hr])
      have HP := hide (show rsF R.p i = ssP (rcP R.p) i (R.p.sf i).length by unfold rsF; rw [if_pos h0, if_pos hr, Int.toNat_natCast])
      rw [hr] at HCm
      generalize rsE R.p i = qe at *
      generalize rsF R.p i = qp at *
      clear hR hO h0 hr hlen
      go_enter Try.func22, Try.ntmps22
      go_wp2_with fail
      refine HW.out.mono ?_
      rintro e w1 ⟨rfl, hb1⟩
      have HB1 := hide hb1
      clear hb1
      go_wp2_with fail
      refine (HCm.out _ HB1.out).mono ?_
      rintro e w2 ⟨rfl, R2, e2, -, hR2, hT2⟩
      have HI := hide (show ∃ R' : RS, R'.p = ssP (rcP R.p) i 0 ∧ RefAt base g w2 R' ∧ RTurned g R R' w w2 from ⟨R2, by rw [ssP_zero, e2], hR2, (RTurned.of_below HB1.out).trans hT2⟩)
      have hsf : (rcP R.p).sf = R.p.sf := (rcP_same R.p).2.1
      have HSf := hide hsf
      clear e2 hR2 hT2 HW HCm hsf
      go_wp2_with fail
      go_loopw [7] (fun iv wr => ∃ k : Nat, k ≤ (R.p.sf i).length ∧ iv = .int .i64 k ∧ ∃ R' : RS, R'.p = ssP (rcP R.p) i k ∧ RefAt base g wr R' ∧ RTurned g R R' w wr) (fun iv _ => (R.p.sf i).length - (intOf iv).toNat)
      case atStart => exact ⟨0, Nat.zero_le _, rfl, HI.out⟩
      case round =>
        obtain ⟨k, hk, rfl, R1, e1, hR1, hT1⟩ := hrel
        have HR1 := hide hR1
        have HT1 := hide hT1
        have HE1 := hide e1
        have hrow := hR1.row (i * 2 + 1) (by omega)
        have hL : (rowC R1.p (i * 2 + 1)).length = (R.p.sf i).length := by
          rw [e1, rowC_odd', boC_len, ssP_len (by rw [HSf.out]; exact hk), HSf.out]
        rw [hL] at hrow
        obtain ⟨A1, m1, hA1, -, -⟩ := row_slice hrow
        have cv := hR1.at (j := i * 2 + 1) (by omega)
        rw [hA1] at cv
        have hlt1 := hR1.lt
        generalize hN : (R.p.sf i).length = N at *
        have HN := hide hN
        by_cases hlt : k < N
        · have HK := hide hlt
          obtain ⟨b, rfl⟩ : ∃ b, A1 = some ⟨b, 0, none⟩ := by
            rw [hA1] at hrow
            rcases hrow.2 with ⟨e, h0⟩ | ⟨g', cap, cur, e, _⟩
            · omega
            · injection e with e; exact ⟨g', e⟩
          obtain ⟨⟨v0, hv0⟩, hf0, hb0, hq1, hq2⟩ := rset (j := i * 2 + 1) (p' := ssP (rcP R.p) i (k + 1)) (u := .bool true) (by omega) HR1.out hA1 hlt (by rw [HE1.out]; exact ssP_step (by rw [HSf.out, HN.out]; exact hlt)) (fun m hm => by rw [HE1.out, ssP_row hm, ssP_row hm]) (by rw [HE1.out]; rfl) (by rw [HE1.out]; rfl) (by rw [HE1.out]; rfl) (by rw [HE1.out]; rfl) (by rw [HE1.out]; rfl)
          have HQ1 := hide hq1
          have HQ2 := hide (HT1.out.trans hq2)
          clear hq1 hq2 hrow hL hA1 e1 hR1 hT1 HI hN
          go_wp2_with fail
          go_roundw
          case rel => exact ⟨k + 1, HK.out, by go_num, _, rfl, HQ1.out, HQ2.out⟩
          case measure => have := HK.out; simp only [intOf]; omega
        · obtain rfl : k = N := by omega
          clear hrow hL hA1 e1 hR1 hT1 HI hN
          go_wp2_with fail
          go_ret
          exact ⟨ret_int HE.out.symm, R1, by rw [HE1.out, HP.out], HR1.out, HT1.out⟩
    · have HE := hide (show rsE R.p i = 40 by unfold rsE; rw [if_pos h0, hr])
      have HP := hide (show rsF R.p i = rcP R.p by unfold rsF; rw [if_pos h0, if_neg (by rw [hr]; decide)])
      rw [hr] at HCm
      generalize rsE R.p i = qe at *
      generalize rsF R.p i = qp at *
      clear hR hO h0 hr hlen
      go_enter Try.func22, Try.ntmps22
      go_wp2_with fail
      refine HW.out.mono ?_
      rintro e w1 ⟨rfl, hb1⟩
      have HB1 := hide hb1
      clear hb1
      go_wp2_with fail
      refine (HCm.out _ HB1.out).mono ?_
      rintro e w2 ⟨rfl, R2, e2, -, hR2, hT2⟩
      have HF := hide (show ∃ R' : RS, R'.p = qp ∧ RefAt base g w2 R' ∧ RTurned g R R' w w2 from ⟨R2, by rw [e2, HP.out], hR2, (RTurned.of_below HB1.out).trans hT2⟩)
      clear e2 hR2 hT2 HW HCm
      go_wp2_with fail
      go_loopw [7] (fun iv wr => iv = .int .i64 0 ∧ wr = w2) (fun _ _ => 0)
      case atStart => exact ⟨rfl, rfl⟩
      case round =>
        obtain ⟨rfl, rfl⟩ := hrel
        go_wp2_with fail
        go_ret
        exact ⟨ret_int HE.out.symm, HF.out⟩
  · have HE := hide (show rsE R.p n = wrE R.p n from if_neg h0)
    have HP := hide (show rsF R.p n = R.p from if_neg h0)
    have hb : (wrE R.p n != 0) = true := by rw [bne_iff_ne]; exact h0
    generalize rsE R.p n = qe at *
    generalize rsF R.p n = qp at *
    generalize wrE R.p n = qw at *
    clear hR hO h0 hlen
    go_enter Try.func22, Try.ntmps22
    go_wp2_with fail
    refine HW.out.mono ?_
    rintro e w1 ⟨rfl, hb1⟩
    have HB1 := hide hb1
    clear hb1
    go_wp2_with fail
    go_ret
    exact ⟨ret_int HE.out.symm, R, HP.out.symm, HR.out.below HB1.out, RTurned.of_below HB1.out⟩
end Go.Proofs.Ytpjibiimakclfab
