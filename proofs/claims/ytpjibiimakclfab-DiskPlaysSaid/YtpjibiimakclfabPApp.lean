/-
  The reference's Append.
-/
import Derived.Test.YtpjibiimakclfabPBase
import Derived.Lib.QuietBelow
import Derived.Deep.RegionLaw
import Derived.Deep.AppendLies
namespace Go.Proofs.Ytpjibiimakclfab
open Go.RowKit

theorem rowT_even' (i : Nat) : rowT (i * 2) = 5 := if_pos (by omega)
theorem rowT_odd' (i : Nat) : rowT (i * 2 + 1) = 4 := if_neg (by omega)
theorem rowC_even' (p : RP) (i : Nat) : rowC p (i * 2) = byC (p.bs i) := by unfold rowC; rw [if_pos (by omega), show i * 2 / 2 = i by omega]
theorem rowC_odd' (p : RP) (i : Nat) : rowC p (i * 2 + 1) = boC (p.sf i) := by unfold rowC; rw [if_neg (by omega), show (i * 2 + 1) / 2 = i by omega]
theorem rcells_set {R : RS} {p' : RP} {j : Nat} {v' : Value} (hj : j < 8) (e1 : p'.cap = R.p.cap) (e2 : p'.left = R.p.left) (e3 : p'.done = R.p.done) (e4 : p'.armed = R.p.armed) (e5 : p'.down = R.p.down) : (rCells R).setIfInBounds j v' = rCells ⟨p', upd R.v j v'⟩ := by
  unfold rCells
  simp only [e1, e2, e3, e4, e5]
  rcases (by omega : j = 0 ∨ j = 1 ∨ j = 2 ∨ j = 3 ∨ j = 4 ∨ j = 5 ∨ j = 6 ∨ j = 7) with rfl | rfl | rfl | rfl | rfl | rfl | rfl | rfl <;> simp [upd]
/-- Behind an append to a row and the store of its slice. -/
theorem rput {base g j : Nat} {R : RS} {p' : RP} {w2 w3 : World} {v' : Value} (hj : j < 8) (hR : RefAt base g w2 R) (h1 : w3.ownsRow base (rowT j) 1 v' (rowC p' j).length (rowC p' j)) (h2 : w2.grownBy w3 (R.v j).ownBlock) (h3 : v'.ownBlock = (R.v j).ownBlock ∨ v'.ownBlock = some w2.heap.size)
    (hp : ∀ k, k ≠ j → rowC p' k = rowC R.p k) (e1 : p'.cap = R.p.cap) (e2 : p'.left = R.p.left) (e3 : p'.done = R.p.done) (e4 : p'.armed = R.p.armed) (e5 : p'.down = R.p.down) :
    w3.cell? ⟨g, j, none⟩ = some (R.v j) ∧ w3.frozen? ⟨g, j, none⟩ = false ∧ w2.heap.size ≤ w3.heap.size ∧ RefAt base g (w3.setCell ⟨g, j, none⟩ v') ⟨p', upd R.v j v'⟩ ∧ RTurned g R ⟨p', upd R.v j v'⟩ w2 (w3.setCell ⟨g, j, none⟩ v') := by
  have hlt := hR.lt
  have hbx : w3.heap[g]? = some (.cells (rCells R) 34 (0, 0)) := (h2.block g hlt (fun e => hR.off j hj g e.symm rfl)).trans hR.box
  have hc : w3.cell? ⟨g, j, none⟩ = some (R.v j) := by
    rw [Lib.cell_of_heap hbx]
    rcases (by omega : j = 0 ∨ j = 1 ∨ j = 2 ∨ j = 3 ∨ j = 4 ∨ j = 5 ∨ j = 6 ∨ j = 7) with rfl | rfl | rfl | rfl | rfl | rfl | rfl | rfl <;> rfl
  have hvg : ∀ b, v'.ownBlock = some b → b ≠ g := fun b e => by
    rcases h3 with h | h
    · exact hR.off j hj b (h.symm.trans e)
    · rw [e] at h; injection h with h; omega
  have hns : (w3.setCell ⟨g, j, none⟩ v').heap.size = w3.heap.size := by simp [World.setCell]
  have hsame : ∀ k, k < 8 → k ≠ j → ∀ b, (R.v k).ownBlock = some b → (w3.setCell ⟨g, j, none⟩ v').heap[b]? = w2.heap[b]? := fun k hk hne b e => by
    rw [Below.heap_setCell _ _ _ _ (hR.off k hk b e)]
    exact h2.block b ((hR.row k hk).lt b e).2 (fun e2 => hR.apart k j hk hj hne b e e2.symm)
  have := hR.puts (R' := ⟨p', upd R.v j v'⟩) (w' := w3.setCell ⟨g, j, none⟩ v') h2.os h2.tape h2.output (by rw [hns]; exact h2.size)
    (by rw [Joins.block_setCell (i := j) hbx v', ← rcells_set (v' := v') hj e1 e2 e3 e4 e5])
    (fun k hk => by
      show (w3.setCell ⟨g, j, none⟩ v').ownsRow base (rowT k) 1 (upd R.v j v' k) (rowC p' k).length (rowC p' k)
      by_cases e : k = j
      · rw [e, upd_same]
        exact row_same h1 fun b e => Below.heap_setCell _ _ _ _ (hvg b e)
      · rw [upd_other _ _ e, hp k e]
        exact row_same (hR.row k hk) fun b e2 => hsame k hk e b e2)
    (fun k hk b e => by
      by_cases ek : k = j
      · have e' : v'.ownBlock = some b := by rw [ek] at e; rw [show (RS.v ⟨p', upd R.v j v'⟩ j) = v' from upd_same _ _ _] at e; exact e
        rcases h3 with h | h
        · exact .inl (by rw [ek]; exact h.symm.trans e')
        · rw [e'] at h; injection h with h; exact .inr (by omega)
      · exact .inl (by rw [show (RS.v ⟨p', upd R.v j v'⟩ k) = R.v k from upd_other _ _ ek] at e; exact e))
    (fun b hb hg ho => by
      rw [Below.heap_setCell _ _ _ _ hg]
      exact h2.block b hb (fun e => ho j hj e.symm))
    (fun a k ha hk hne b hb ea ek => by
      by_cases e1 : a = j
      · have e2 : k ≠ j := fun e => hne (e1.trans e.symm)
        rw [show (RS.v ⟨p', upd R.v j v'⟩ k) = R.v k from upd_other _ _ e2] at ek
        have := (hR.row k hk).lt b ek; omega
      · rw [show (RS.v ⟨p', upd R.v j v'⟩ a) = R.v a from upd_other _ _ e1] at ea
        have := (hR.row a ha).lt b ea; omega)
  exact ⟨hc, Lib.frozen_of_heap hbx _, h2.size, this.1, this.2⟩
/-- More bytes, not safe, at the end of a file. -/
def adB (p : RP) (i : Nat) (zs : List UInt8) : RP := { p with bs := upd p.bs i (p.bs i ++ zs) }
def adS (p : RP) (i : Nat) (zs : List Bool) : RP := { p with sf := upd p.sf i (p.sf i ++ zs) }
def raP (p : RP) (i : Nat) (zs : List UInt8) : RP := adS (adB p i zs) i (List.replicate zs.length false)
theorem adB_row {p : RP} {i k : Nat} {zs : List UInt8} (h : k ≠ i * 2) : rowC (adB p i zs) k = rowC p k := by
  unfold rowC adB
  by_cases e : k % 2 = 0
  · rw [if_pos e, if_pos e]
    show byC (upd p.bs i _ (k / 2)) = _
    rw [upd_other _ _ (by omega)]
  · rw [if_neg e, if_neg e]
theorem adS_row {p : RP} {i k : Nat} {zs : List Bool} (h : k ≠ i * 2 + 1) : rowC (adS p i zs) k = rowC p k := by
  unfold rowC adS
  by_cases e : k % 2 = 0
  · rw [if_pos e, if_pos e]
  · rw [if_neg e, if_neg e]
    show boC (upd p.sf i _ (k / 2)) = _
    rw [upd_other _ _ (by omega)]
theorem adB_own {p : RP} {i : Nat} {zs : List UInt8} : rowC (adB p i zs) (i * 2) = rowC p (i * 2) ++ byC zs := by
  rw [rowC_even', rowC_even']
  show byC (upd p.bs i _ i) = _
  rw [upd_same]
  simp [byC]
theorem adS_own {p : RP} {i : Nat} {zs : List Bool} : rowC (adS p i zs) (i * 2 + 1) = rowC p (i * 2 + 1) ++ boC zs := by
  rw [rowC_odd', rowC_odd']
  show boC (upd p.sf i _ i) = _
  rw [upd_same]
  simp [boC]
theorem raP_nil {p : RP} {i : Nat} : raP p i [] = p := by
  unfold raP adS adB
  simp only [List.append_nil, List.length_nil, List.replicate_zero]
  rw [upd_self, upd_self]
theorem upd_upd {α : Type} (f : Nat → α) (i : Nat) (x y : α) : upd (upd f i x) i y = upd f i y := by
  funext j
  by_cases h : j = i
  · rw [h, upd_same, upd_same]
  · rw [upd_other _ _ h, upd_other _ _ h, upd_other _ _ h]
theorem raP_snoc {p : RP} {i : Nat} {zs : List UInt8} {y : UInt8} : adS (adB (raP p i zs) i [y]) i [false] = raP p i (zs ++ [y]) := by
  unfold raP adS adB
  simp only [upd_same, upd_upd, List.append_assoc, List.length_append, List.length_cons, List.length_nil]
  rw [List.replicate_succ', ]
theorem cells_one_at (w : World) (x : Value) (t : TypeId) (H : Nat) (hH : w.heap.size = H) : ∀ j u, [x][j]? = some u → (w.alloc (.cells #[x] t)).cell? ((⟨H, 0, none⟩ : Addr).add j) = some u := by
  subst hH
  exact cell_one_new w x t
theorem bool_info : (Try.prog.info? 4).map (fun i => (i.zero, i.size, i.bytes)) = some (some (.bool false), 1, 1) := by kernel_rfl
/-- What holds ahead of round k of the loop. -/
def AppI (base g : Nat) (R : RS) (i : Nat) (ys : List UInt8) (w wr : World) (k : Nat) : Prop := ∃ R' : RS, R'.p = raP R.p i (ys.take k) ∧ RefAt base g wr R' ∧ RTurned g R R' w wr
set_option maxHeartbeats 6400000 in
set_option maxRecDepth 100000 in
theorem rappend_loop {base g : Nat} {R : RS} (i : Nat) (A : Option Addr) (c : Nat) (ys : List UInt8) (w : World) (hi4 : i < 4) (hR : RefAt base g w R) (hO : R.p.Ok) (hd : R.p.done ≤ 1000000000000) (hl0 : R.p.armed = true → 0 ≤ R.p.left)
    (hY : ∀ (R' : RS) w', RTurned g R R' w w' → BytesAt w'.heap.size w' A ys) (hwr : wrE R.p i = 0) (hroom : R.p.used + ys.length ≤ 1073741824) (hcap : ¬ R.p.cap < (R.p.used : Int) + ys.length) :
    Calls Try.prog 21 #[vD g, .int .i64 i, .slice A ys.length c] w fun e w' => e = .returned (.int .i64 (rcE R.p)) ∧ ∃ R' : RS, R'.p = rcP (raP R.p i ys) ∧ RefAt base g w' R' ∧ RTurned g R R' w w' := by
  have HW := hide (wrong_any (i : Int) w hR)
  rw [hwr] at HW
  have HU := hide (fun w' (h : Below w.heap.size w w') => rused_any w' (hR.below h) hO.used)
  have HR := hide hR
  have HY := hide hY
  have hI0 : (0 : Int) ≤ (i : Int) := by omega
  have hI1 : (i : Int) < 4 := by omega
  have hus := hO.used
  have hwrap : IntKind.i64.wrap ((R.p.used : Int) + (ys.length : Int)) = (R.p.used : Int) + (ys.length : Int) := by
    unfold IntKind.wrap
    simp [IntKind.signed, IntKind.bits]
    omega
  have hbl : (R.p.bs i).length ≤ R.p.used ∧ (R.p.sf i).length = (R.p.bs i).length := by
    refine ⟨?_, hO.len i hi4⟩
    unfold RP.used
    rcases (by omega : i = 0 ∨ i = 1 ∨ i = 2 ∨ i = 3) with rfl | rfl | rfl | rfl <;> omega
  have HBl := hide hbl
  have HCm := hide (fun (R' : RS) w' (x1 : R'.p = raP R.p i ys) (x2 : RefAt base g w' R') => rcommand_any w' x2 (by rw [x1]; exact hO.done0) (by rw [x1]; exact hd) (by rw [x1]; exact hl0) (by rw [x1]; exact hO.left1))
  obtain ⟨q0, qi, qz0, qz1, qz2⟩ := info_parts u8_info
  obtain ⟨r0, ri, rz0, rz1, rz2⟩ := info_parts bool_info
  clear hR hO hY hwr hbl
  go_enter Try.func21, Try.ntmps21
  go_wp2_with fail
  refine HW.out.mono ?_
  rintro e w1 ⟨rfl, hb1⟩
  have HB1 := hide hb1
  clear hb1
  obtain ⟨c8, c9, c10, c11, c12⟩ := (HR.out.below HB1.out).nums
  go_wp2_with fail
  have qc8 := fun d os => cell_regrown c8 d os
  refine wp_region_quiet_below (by kernel_rfl) (by kernel_rfl) ?_
  repeat (go_big_quiet_step (first
    | (go_at_call 11; exact Calls.regrown_of (HU.out _ (then_below HB1.out (below_regrown _ _ _))))))
  refine wpQuiet_nil ?_
  intro _ hw'
  obtain ⟨⟨dq, osq⟩, hw''⟩ := hw'
  subst hw''
  have HB2 := hide (show Below w.heap.size w (Go.Sort.grow (redrawn w1 dq) osq) from then_below HB1.out (below_regrown w1 dq osq))
  generalize Go.Sort.grow (redrawn w1 dq) osq = w2 at *
  clear qc8 c8 c9 c10 c11 c12
  focus
    have HI := hide (show AppI base g R i ys w w2 0 from ⟨R, by rw [List.take_zero, raP_nil], HR.out.below HB2.out, RTurned.of_below HB2.out⟩)
    clear HU HW HB1 HB2
    go_wp2_with fail
    go_loopw [8] (fun iv wr => ∃ k : Nat, k ≤ ys.length ∧ iv = .int .i64 k ∧ AppI base g R i ys w wr k) (fun iv _ => ys.length - (intOf iv).toNat)
    case atStart => exact ⟨0, Nat.zero_le _, rfl, HI.out⟩
    case round =>
      obtain ⟨k, hk, rfl, R1, e1, hR1, hT1⟩ := hrel
      have HR1 := hide hR1
      have HT1 := hide hT1
      have HE1 := hide e1
      clear e1 hT1 HI
      by_cases hlt : k < ys.length
      · have HK := hide hlt
        obtain ⟨b, off, rfl, hbb, hcb⟩ := (HY.out _ _ HT1.out) k hlt
        have HYk := hide (show ys.take (k + 1) = ys.take k ++ [ys.getD k 0] by rw [List.take_add_one, List.getElem?_eq_getElem hlt, List.getD_eq_getElem?_getD, List.getElem?_eq_getElem hlt]; rfl)
        generalize ys.getD k 0 = y at *
        have cv := hR1.at (j := i * 2) (by omega)
        have fv := hR1.frozen (i * 2)
        have hlen1 : (rowC R1.p (i * 2)).length ≤ 1073741824 := by
          rw [HE1.out, rowC_even', byC_len]
          show (upd R.p.bs i (R.p.bs i ++ ys.take k) i).length ≤ _
          rw [upd_same, List.length_append, List.length_take]
          have := HBl.out.1
          omega
        have hown1 := hR1.row (i * 2) (by omega)
        rw [rowT_even'] at hown1
        have hsz1 := hR1.hg
        have hlt1 := hR1.lt
        have HOwn := hide ((hown1.drew).alloc (.cells #[.int .u8 y.toNat] 5))
        clear hown1 hR1
        go_wp2_with fail
        go_region_law (refine step_append_lies _ (by rfl) _ _ _ (by rfl) base 5 q0 (.int .u8 0) 1 1 Try.underlying28 qi qz0 qz1 qz2 rfl (by decide) (R1.v (i * 2)) (rowC R1.p (i * 2)).length (rowC R1.p (i * 2)) (by rfl) HOwn.out ⟨wr.heap.size, 0, none⟩ 1 1 [.int .u8 y.toNat] (by rfl) (by rfl) (cells_one_at _ _ _ _ rfl) (by simp [Value.oneCell']) (by decide) (by unfold maxLen; omega) (by omega) (by simp; omega) _ rfl ?_; intro gg cg w3 hown3 hgrow3 hat3 hlt3; obtain ⟨q6, qf, qs, qR, qT⟩ := rput (j := i * 2) (p' := adB R1.p i [y]) (v' := .slice (some ⟨gg, 0, none⟩) ((rowC R1.p (i * 2)).length + 1) cg) (by omega) (HR1.out.below (((Below.refl _ _).alloc (Nat.le_refl _) (.cells #[.int .u8 y.toNat] 5)).drew)) (by rw [rowT_even', adB_own]; simpa [byC] using hown3) hgrow3 (hat3.elim (fun h => Or.inl h.symm) (fun h => Or.inr (congrArg some h))) (fun k hk => adB_row hk) rfl rfl rfl rfl rfl; have HR2 := hide qR; have HT2 := hide ((RTurned.of_below (R := R1) (((Below.refl wr.heap.size wr).alloc (Nat.le_refl _) (.cells #[.int .u8 y.toNat] 5)).drew)).trans qT); clear hown3 hgrow3 hat3 qR qT)
        all_goals
          clear cv fv hcb q6 qf HOwn
          generalize hW4 : w3.setCell ⟨g, i * 2, none⟩ (.slice (some ⟨gg, 0, none⟩) ((rowC R1.p (i * 2)).length + 1) cg) = w4 at *
          have HR2b := hide (show ∃ R4 : RS, R4.p = adB R1.p i [y] ∧ RefAt base g w4 R4 ∧ RTurned g R1 R4 wr w4 from ⟨_, rfl, HR2.out, HT2.out⟩)
          clear HR2 HT2 hW4
          obtain ⟨R4, hP4, hR4, hT4⟩ := HR2b.out
          have HP4 := hide hP4
          have HR2 := hide hR4
          have HT2 := hide hT4
          have cv2 := hR4.at (j := i * 2 + 1) (by omega)
          have fv2 := hR4.frozen (i * 2 + 1)
          have hown2 := hR4.row (i * 2 + 1) (by omega)
          rw [rowT_odd'] at hown2
          have hlen2 : (rowC R4.p (i * 2 + 1)).length ≤ 1073741824 := by
            rw [hP4, adB_row (by omega), HE1.out, rowC_odd', boC_len]
            show (upd R.p.sf i (R.p.sf i ++ List.replicate (ys.take k).length false) i).length ≤ _
            rw [upd_same, List.length_append, List.length_replicate, List.length_take]
            have h1 := HBl.out.1
            have h2 := HBl.out.2
            omega
          have hlt2 := hR4.lt
          have HOwn2 := hide ((hown2.drew).alloc (.cells #[.bool false] 4))
          clear hown2 HR2b hP4 hR4 hT4
          go_wp2_with fail
          go_region_law (refine step_append_lies _ (by rfl) _ _ _ (by rfl) base 4 r0 (.bool false) 1 1 Try.underlying29 ri rz0 rz1 rz2 rfl (by decide) (R4.v (i * 2 + 1)) (rowC R4.p (i * 2 + 1)).length (rowC R4.p (i * 2 + 1)) (by rfl) HOwn2.out ⟨w4.heap.size, 0, none⟩ 1 1 [.bool false] (by rfl) (by rfl) (cells_one_at _ _ _ _ rfl) (by simp [Value.oneCell']) (by decide) (by unfold maxLen; omega) (by omega) (by simp; omega) _ rfl ?_; intro gh ch w5 hown5 hgrow5 hat5 hlt5; obtain ⟨q6, qf, qs5, qR, qT⟩ := rput (j := i * 2 + 1) (p' := adS R4.p i [false]) (v' := .slice (some ⟨gh, 0, none⟩) ((rowC R4.p (i * 2 + 1)).length + 1) ch) (by omega) (HR2.out.below (((Below.refl _ _).alloc (Nat.le_refl _) (.cells #[.bool false] 4)).drew)) (by rw [rowT_odd', adS_own]; simpa [boC] using hown5) hgrow5 (hat5.elim (fun h => Or.inl h.symm) (fun h => Or.inr (congrArg some h))) (fun k hk => adS_row hk) rfl rfl rfl rfl rfl; have HR5 := hide qR; have HT5 := hide (HT2.out.trans ((RTurned.of_below (R := R4) (((Below.refl w4.heap.size w4).alloc (Nat.le_refl _) (.cells #[.bool false] 4)).drew)).trans qT)); clear hown5 hgrow5 hat5 qR qT)
          all_goals
            go_wp2_with fail
            go_roundw
            case rel => exact ⟨k + 1, HK.out, by go_num, ⟨_, by rw [HYk.out, ← raP_snoc, ← HE1.out, ← HP4.out], HR5.out, HT1.out.trans HT5.out⟩⟩
            case measure => have := HK.out; simp only [intOf]; omega
      · obtain rfl : k = ys.length := by omega
        have HC2 := hide (HCm.out R1 wr (by rw [HE1.out, List.take_length]) HR1.out)
        clear HY HCm
        go_wp2_with fail
        refine HC2.out.mono ?_
        rintro e w5 ⟨rfl, R5, e5, -, hR5, hT5⟩
        have HF := hide (show ∃ R' : RS, R'.p = rcP (raP R.p i ys) ∧ RefAt base g w5 R' ∧ RTurned g R R' w w5 from ⟨R5, by rw [e5, HE1.out, List.take_length], hR5, HT1.out.trans hT5⟩)
        have HV := hide (show rcE R1.p = rcE R.p by rw [HE1.out]; rfl)
        clear e5 hR5 hT5
        go_wp2_with fail
        go_ret
        exact ⟨ret_int HV.out, HF.out⟩
end Go.Proofs.Ytpjibiimakclfab
