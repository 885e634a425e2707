/-
  The walk of TableOrder.
-/
import Derived.Test.YtaoeofnfmlckiaaDoorTOrderA
namespace Go.Proofs.YtaoeofnfmlckiaaDoor.tableOrder
open Go.RowKit

/-- The rows from by on, then the rows ahead of it. -/
def rot (hs : List RH) (k : Nat) : List RH := hs.drop k ++ hs.take k
def bck (hs : List RH) (k : Nat) : List RH := (rot hs k).reverse
theorem rot_len (hs : List RH) (k : Nat) : (rot hs k).length = hs.length := by unfold rot; rw [List.length_append, List.length_drop, List.length_take]; omega
theorem bck_len (hs : List RH) (k : Nat) : (bck hs k).length = hs.length := by unfold bck; rw [List.length_reverse, rot_len]
theorem rot_mem {hs : List RH} {k : Nat} {h : RH} (hh : h ∈ rot hs k) : h ∈ hs := by
  unfold rot at hh
  rcases List.mem_append.1 hh with h1 | h1
  · exact List.mem_of_mem_drop h1
  · exact List.mem_of_mem_take h1
theorem bck_mem {hs : List RH} {k : Nat} {h : RH} (hh : h ∈ bck hs k) : h ∈ hs := rot_mem (List.mem_reverse.1 hh)
theorem bck_perm (hs : List RH) (k : Nat) : (rowsOf hs).Perm (rowsOf (bck hs k)) := by
  unfold rowsOf
  refine List.Perm.map _ ?_
  unfold bck rot
  refine List.Perm.trans ?_ (List.reverse_perm _).symm
  refine List.Perm.trans ?_ (List.perm_append_comm (l₁ := hs.take k) (l₂ := hs.drop k))
  rw [List.take_append_drop]
theorem bck_at {hs : List RH} {k j : Nat} (hj : j < hs.length) : (rot hs k).getD (hs.length - 1 - j) dH = (bck hs k).getD j dH := by
  unfold bck
  rw [List.getD_eq_getElem?_getD, List.getD_eq_getElem?_getD, List.getElem?_reverse (by rw [rot_len]; exact hj), rot_len]

abbrev Done (S A : Option Addr) (c cap : Nat) (cs : List (ByteArray × Int)) (hs : List RH) (by' : Int) (w : World) : Prop :=
  Calls Tryd.prog 4 #[vTab S cs.length c A hs.length cap, .int .i64 by'] w fun e w' => e = .returned (.bool true) ∧ Below w.heap.size w w'

set_option maxHeartbeats 6400000 in
set_option maxRecDepth 100000 in
theorem tableOrder_walk (S : Option Addr) (c : Nat) (cs : List (ByteArray × Int)) (A : Option Addr) (cap : Nat) (hs : List RH) (by' : Int) (w : World)
    (hC : ColsAt w.heap.size w S cs) (hw : Wf cs) (hn : S = none → c = 0) (hR : RowsAt w.heap.size w A hs) (hv : WfT (rowsOf hs)) (_hnA : A = none → cap = 0) (hcap : hs.length ≤ cap) (_hb0 : -9223372036854775808 ≤ by') (_hb1 : by' ≤ 9223372036854775807) (hT : Tab w) : Done S A c cap cs hs by' w := by
  have hal := boxW_below w (.slice S cs.length c) (.slice A hs.length cap)
  have HBox := hide (fun w' => boxW_at (w := w) (a := .slice S cs.length c) (b := .slice A hs.length cap) (w' := w'))
  have HWE := hide (show boxW w (.slice S cs.length c) (.slice A hs.length cap) = w.alloc (.cells #[.slice S cs.length c, .slice A hs.length cap] 26) from rfl)
  have HC := hide (hC.on hal); have HR := hide (hR.on hal)
  generalize boxW w (.slice S cs.length c) (.slice A hs.length cap) = W at *
  have HL := hide hal; have HW := hide hw; have HV := hide hv; have HN := hide hn
  have HAw := hide (aw_later hT)
  have HTW := hide hal.size
  have HSm := hide (small_any S A c cap cs hs W HC.out HR.out hw hv)
  clear hC hw hR hv hT hal hn
  cases hsm : smallT cs (rowsOf hs)
  · have HS := hide hsm; clear hsm
    go_enter Tryd.func4, Tryd.ntmps4
    go_wp2_with fail
    rw [← HWE.out]
    refine HSm.out.mono ?_
    rintro e w1 ⟨rfl, hb1⟩
    rw [HS.out]
    have hq1 := then_below HL.out hb1
    go_wp2_with (go_at_call 9; refine (HAw.out _ hq1).mono ?_; rintro e wa ⟨rfl, hba⟩)
    go_ret
    exact ⟨rfl, then_below hq1 hba⟩
  obtain ⟨hlc, hlr, hlv⟩ := smallT_yes hsm
  rw [rowsOf_len] at hlr
  have HS := hide hsm; have HLV := hide hlv; clear hsm hlv
  by_cases hl0 : (hs.length : Int) = 0
  · have hl1 : ((hs.length : Int) == 0) = true := by rw [beq_iff_eq]; exact hl0
    clear hl0
    go_enter Tryd.func4, Tryd.ntmps4
    go_wp2_with fail
    rw [← HWE.out]
    refine HSm.out.mono ?_
    rintro e w1 ⟨rfl, hb1⟩
    rw [HS.out]
    have hq1 := then_below HL.out hb1
    obtain ⟨b0, b1, bz⟩ := HBox.out _ hb1
    go_wp2_with (go_at_call 9; refine (HAw.out _ hq1).mono ?_; rintro e wa ⟨rfl, hba⟩)
    go_ret
    exact ⟨rfl, then_below hq1 hba⟩
  have hl1 : ((hs.length : Int) == 0) = false := by rw [beq_eq_false_iff_ne]; exact hl0
  by_cases hneg : by' < 0
  · go_enter Tryd.func4, Tryd.ntmps4
    go_wp2_with fail
    rw [← HWE.out]
    refine HSm.out.mono ?_
    rintro e w1 ⟨rfl, hb1⟩
    rw [HS.out]
    have hq1 := then_below HL.out hb1
    obtain ⟨b0, b1, bz⟩ := HBox.out _ hb1
    go_wp2_with (go_at_call 9; refine (HAw.out _ hq1).mono ?_; rintro e wa ⟨rfl, hba⟩)
    go_ret
    exact ⟨rfl, then_below hq1 hba⟩
  by_cases hbig : (hs.length : Int) ≤ by'
  · go_enter Tryd.func4, Tryd.ntmps4
    go_wp2_with fail
    rw [← HWE.out]
    refine HSm.out.mono ?_
    rintro e w1 ⟨rfl, hb1⟩
    rw [HS.out]
    have hq1 := then_below HL.out hb1
    obtain ⟨b0, b1, bz⟩ := HBox.out _ hb1
    go_wp2_with (go_at_call 9; refine (HAw.out _ hq1).mono ?_; rintro e wa ⟨rfl, hba⟩)
    go_ret
    exact ⟨rfl, then_below hq1 hba⟩
  obtain ⟨k, rfl⟩ : ∃ k : Nat, by' = k := ⟨by'.toNat, by omega⟩
  have hk : k < hs.length := by omega
  have hk0 : (0 : Int) ≤ (k : Int) := by omega
  have hk1 : (k : Int) ≤ (hs.length : Int) := by omega
  have hk2 : (hs.length : Int) ≤ (cap : Int) := by omega
  have hk3 : (k : Int) ≤ (cap : Int) := by omega
  have hk4 : ¬ cap = k := by omega
  obtain ⟨b, off, rfl, -, -⟩ := HR.out.1 k hk
  have HMk := hide (fun w' (h : Below W.heap.size W w') => (make_any S (some ⟨b, off, none⟩) c cap cs hs w' (HC.out.on h) HN.out (HR.out.on h) HW.out HV.out (by omega) (fun x hx => by have := HLV.out x hx; omega)).mono fun e w1 hh => made_of hh)
  have HMb := hide (fun A' d w' (h : Below W.heap.size W w') (hA : RowsAt w'.heap.size w' A' (bck hs k)) => (make_any S A' c d cs (bck hs k) w' (HC.out.on h) HN.out hA HW.out ⟨by rw [rowsOf_len, bck_len]; unfold maxLen; omega, fun r hr => HV.out.2 r ((bck_perm hs k).mem_iff.2 hr)⟩ (by omega) (fun x hx => by have := HLV.out x ((bck_perm hs k).mem_iff.2 hx); omega)).mono fun e w1 hh =>
    (by have := made_of hh; unfold Made at this; rw [← madeAs_perm (bck_perm hs k), ← checkT_perm (bck_perm hs k)] at this; exact this : Made cs (rowsOf hs) w' e w1))
  have hzz : (checkT cs (rowsOf hs) == checkT cs (rowsOf hs)) = true := by simp
  clear hneg hbig hl0
  go_enter Tryd.func4, Tryd.ntmps4
  go_wp2_with fail
  rw [← HWE.out]
  refine HSm.out.mono ?_
  rintro e w1 ⟨rfl, hb1⟩
  rw [HS.out]
  obtain ⟨b0, b1, bz⟩ := HBox.out _ hb1
  have HB1 := hide hb1; clear hb1
  go_wp2_with fail
  refine (HMk.out _ HB1.out).mono ?_
  rintro e w3 ⟨⟨Sm, cm, Am, dm, nm, ds, rfl, hSm, hAm, hma⟩, hb3⟩
  have hal3 := Joins.below_alloc1 w3 (.cells #[.slice Sm ds.length cm, .slice Am nm.length dm] 26)
  have HQ3 := hide (then_below (then_below HB1.out hb3) hal3)
  have HSm3 := hide (hSm.on hal3); have HAm3 := hide (hAm.on hal3); have HMA := hide hma
  have t0 : (w3.alloc (.cells #[.slice Sm ds.length cm, .slice Am nm.length dm] 26)).cell? ⟨w3.heap.size, 0, none⟩ = some (.slice Sm ds.length cm) := by simp
  have t1 : (w3.alloc (.cells #[.slice Sm ds.length cm, .slice Am nm.length dm] 26)).cell? ⟨w3.heap.size, 1, none⟩ = some (.slice Am nm.length dm) := by simp
  have tz : w3.heap.size < (w3.alloc (.cells #[.slice Sm ds.length cm, .slice Am nm.length dm] 26)).heap.size := by simp
  clear hb3 hSm hAm hma b0 b1 bz HMk HB1
  go_wp2_with fail
  generalize hW3 : w3.alloc (.cells #[.slice Sm ds.length cm, .slice Am nm.length dm] 26) = W3 at *
  generalize w3.heap.size = P at *
  generalize hTt : w.heap.size = T at *
  have HR3 := hide (HR.out.on HQ3.out)
  have HALL := hide (fun w' (h : Below W3.heap.size W3 w') => (⟨(HBox.out _ (then_below HQ3.out h)).1, (HBox.out _ (then_below HQ3.out h)).2.1, (HBox.out _ (then_below HQ3.out h)).2.2, (h.cell (p := ⟨P, 0, none⟩) tz).trans t0, (h.cell (p := ⟨P, 1, none⟩) tz).trans t1, Nat.lt_of_lt_of_le tz h.size, h⟩ :
    w'.cell? ⟨T, 0, none⟩ = some (.slice S cs.length c) ∧ w'.cell? ⟨T, 1, none⟩ = some (.slice (some ⟨b, off, none⟩) hs.length cap) ∧ T < w'.heap.size ∧ w'.cell? ⟨P, 0, none⟩ = some (.slice Sm ds.length cm) ∧ w'.cell? ⟨P, 1, none⟩ = some (.slice Am nm.length dm) ∧ P < w'.heap.size ∧ Below W3.heap.size W3 w'))
  clear t0 t1 tz hW3
  have hcell : ∀ w', Below W3.heap.size W3 w' → ∀ j, j < hs.length → w'.cell? ⟨b, off + j, none⟩ = some (hdr (hs.getD j dH)) := fun w' h j hj => by
    obtain ⟨b', off', e, _, h0⟩ := (HR3.out.below h).1 j hj
    obtain ⟨rfl, rfl⟩ : b = b' ∧ off = off' := by simpa using e
    exact h0
  have hld : (hs.drop k).length = hs.length - k := List.length_drop
  have hlt : (hs.take k).length = k := by rw [List.length_take]; omega
  have HCd := hide (fun w' (h : Below W3.heap.size W3 w') j (hj : j < (hs.drop k).length) => (by
    have := hcell w' h (k + j) (by omega)
    rw [← Nat.add_assoc] at this
    rw [this, List.getD_eq_getElem?_getD, List.getD_eq_getElem?_getD, List.getElem?_drop] : w'.cell? ⟨b, off + k + j, none⟩ = some (hdr ((hs.drop k).getD j dH))))
  have HCt := hide (fun w' (h : Below W3.heap.size W3 w') j (hj : j < (hs.take k).length) => (by
    rw [hcell w' h j (by omega), List.getD_eq_getElem?_getD, List.getD_eq_getElem?_getD, List.getElem?_take_of_lt (by omega)] : w'.cell? ⟨b, off + j, none⟩ = some (hdr ((hs.take k).getD j dH))))
  have HLd := hide hld; have HLt := hide hlt
  clear hcell hld hlt
  go_region_held3 (fun w' => w'.cell? ⟨T, 0, none⟩ = some (.slice S cs.length c) ∧ w'.cell? ⟨T, 1, none⟩ = some (.slice (some ⟨b, off, none⟩) hs.length cap) ∧ T < w'.heap.size ∧ w'.cell? ⟨P, 0, none⟩ = some (.slice Sm ds.length cm) ∧ w'.cell? ⟨P, 1, none⟩ = some (.slice Am nm.length dm) ∧ P < w'.heap.size ∧ Below W3.heap.size W3 w')
    ((refine HALL.out _ ?_; first | assumption | exact (Below.refl _ _).drew | ((try go_split_ands); first | assumption | exact alloc_after (by assumption) _ | exact Below.trans (by assumption) (by assumption) | exact after_below (by assumption) (by assumption))))
    (first
      | ((try go_split_ands); refine step_rows rfl (.tmp 41) (.tmp 45) rfl W3.heap.size (.slice (some ⟨_, 0, none⟩) 0 0) 0 [] (hs.drop k) rfl (own_rows0 _ _ (Nat.le_refl _)) b (off + k) (cap - k) (by rw [HLd.out]; rfl) (HCd.out _ (by assumption)) (by rw [HLd.out]; omega) (by exact Below.size (by assumption)) ?_; intro v5 w5 hown5 hbA)
      | ((try go_split_ands); refine step_rows rfl (.tmp 46) (.tmp 50) rfl W3.heap.size v5 (0 + (hs.drop k).length) ([] ++ hs.drop k) (hs.take k) rfl hown5 b off cap (by rw [HLt.out]; rfl) (HCt.out _ (by assumption)) (by rw [HLd.out, HLt.out]; omega) (by exact Below.size (by assumption)) ?_; intro v6 w6 hown6 hbB))
  go_split_ands
  have hb6 : Below W3.heap.size W3 w6 := by assumption
  have hrl := rot_len hs k
  obtain ⟨A6, c6, hv6, hA6, -⟩ := rows_of_row (hs := rot hs k) (B := W3.heap.size) (by
    have : 0 + (hs.drop k).length + (hs.take k).length = (rot hs k).length := by unfold rot; rw [List.length_append]; omega
    rw [← this]; exact hown6) (fun h hh => (HR3.out.2 h (rot_mem hh)).below hb6) hb6.size
  rw [hrl] at hv6
  subst hv6
  have HA6 := hide hA6; have HB6 := hide hb6; have HRL := hide hrl
  have HBE := hide (fun j (hj : j < hs.length) => bck_at (k := k) hj)
  have HBL := hide (bck_len hs k)
  clear hA6 hb6 hrl hown5 hown6 hbA hbB
  obtain ⟨i0, hi, hz0, hz1, hz2⟩ := info_parts row_info
  go_wp2_with fail
  go_loopw [8, 54] (fun v i wr => ∃ j : Nat, j ≤ hs.length ∧ i = .int .i64 j ∧ wr.ownsRow w6.heap.size 43 1 v j (((bck hs k).take j).map hdr) ∧ Below w6.heap.size w6 wr) (fun _ i _ => hs.length - (intOf i).toNat)
  case atStart => exact ⟨0, Nat.zero_le _, rfl, World.ownsRow_nil _ _ _ _, Below.refl _ _⟩
  case round =>
    obtain ⟨j, hj, rfl, hown, hbw⟩ := hrel
    have hs0 := hbw.size
    by_cases hlt : j < hs.length
    · have hidx : ((hs.length : Int) - 1 - (j : Int)) = ((hs.length - 1 - j : Nat) : Int) := by omega
      obtain ⟨b', off', A', c', r, rfl, hb', c0, hr, -, hg⟩ := (HA6.out.below hbw).at (k := hs.length - 1 - j) (by rw [HRL.out]; omega)
      have hbe := HBE.out j hlt
      rw [hg] at hbe
      have HTk := hide (show (bck hs k).take (j + 1) = (bck hs k).take j ++ [(A', c', r)] by rw [take_row (by rw [HBL.out]; exact hlt), ← hbe])
      clear hg hbe hr
      go_wp2_with (at_builtin; go_must (refine wpList_append_own _ rfl _ _ 24 rfl w6.heap.size 43 i0 (.slice none 0 0) 1 24 Tryd.underlying24 hi hz0 hz1 hz2 rfl (by decide) _ j _ rfl (hown.alloc _) ⟨wr.heap.size, 0, none⟩ 1 1 [hdr (A', c', r)] rfl rfl (hdr_new _ _ (A', c', r) _ rfl) (hdr_one _) (by unfold maxLen; omega) (by omega) (by simp; omega) ?_))
      intro v7 w7 hown7 hgrow7 _
      have hs7 := hgrow7.size
      simp at hs7
      go_wp2_with fail
      go_roundw
      case rel => exact ⟨j + 1, by omega, by go_num, by rw [HTk.out, List.map_append, List.map_take]; exact hown7, (hbw.alloc hs0 _).grown hgrow7 (by simp; omega) (fun j hj => (hown.lt j hj).1)⟩
      case measure => simp [intOf]; omega
    · obtain rfl : j = hs.length := by omega
      rw [List.take_of_length_le (by rw [HBL.out]; exact Nat.le_refl _), ← HBL.out] at hown
      have hw3 := after_below hbw HB6.out
      obtain ⟨A7, c7, hv7, hA7, -⟩ := rows_of_row hown (B := W3.heap.size) (fun h hh => (HR3.out.2 h (bck_mem hh)).below hw3) hw3.size
      subst hv7
      have ⟨q0, q1, q2, q3, q4, q5, _⟩ := HALL.out _ hw3
      have HW3 := hide hw3; have HA7 := hide hA7
      clear hown hbw hw3 hA7
      go_wp2_with fail
      refine (HMb.out _ _ _ (after_below HW3.out HQ3.out) HA7.out).mono ?_
      rintro e w8 ⟨⟨Sn, cn, An, dn, nn, ds2, rfl, hSn, hAn, hna⟩, hb8⟩
      have hal8 := Joins.below_alloc1 w8 (.cells #[.slice Sn ds2.length cn, .slice An nn.length dn] 26)
      have hw8 := after_below hal8 (after_below hb8 HW3.out)
      have ⟨e1, e2⟩ : ds2 = ds ∧ rowsOf nn = rowsOf nm := by have := hna.trans HMA.out.symm; simpa using this
      have hdl : ds2.length ≤ maxLen := by
        have := congrArg (fun x => x.1.length) hna
        simp only at this
        rw [this]
        unfold madeAs maxLen
        split
        · simp only; omega
        · simp
      have hwn : WfT (rowsOf nn) := by have := congrArg Prod.snd hna; simp only at this; rw [this]; exact madeAs_wft HV.out
      have HEq := hide ((tabEqual_any Sm Am Sn An cm dm cn dn ds ds2 nm nn _ (HSm3.out.on hw8) (HAm3.out.on hw8) (hSn.on hal8) (hAn.on hal8) hdl hwn).mono fun e w1 hh => (⟨by rw [hh.1, e1, e2, sameC_iff.2 rfl, sameRs_self]; rfl, hh.2⟩ : e = .returned (.bool true) ∧ Below (w8.alloc (.cells #[.slice Sn ds2.length cn, .slice An nn.length dn] 26)).heap.size (w8.alloc (.cells #[.slice Sn ds2.length cn, .slice An nn.length dn] 26)) w1))
      have ⟨r0, r1, r2, r3, r4, r5, _⟩ := HALL.out _ hw8
      have HW8 := hide hw8
      clear q0 q1 q2 q3 q4 q5 hSn hAn hna hal8 hw8 e1 e2 hdl hwn hb8
      go_wp2_with fail
      refine HEq.out.mono ?_
      rintro e w9 ⟨rfl, hb9⟩
      have hq := hide (HL.out.trans (Below.mono (after_below (after_below hb9 HW8.out) HQ3.out) HTW.out))
      have hsz9 := hide (Nat.le_trans HTW.out (after_below (after_below hb9 HW8.out) HQ3.out).size)
      clear hb9 r0 r1 r2 r3 r4 r5
      go_wp2_with fail
      refine (HAw.out _ hq.out).mono ?_
      rintro e wh ⟨rfl, hbh⟩
      go_wp2_with fail
      go_ret
      have hfin := hq.out.trans (hbh.mono hsz9.out)
      rw [← hTt] at hfin
      exact ⟨rfl, hfin⟩
end Go.Proofs.YtaoeofnfmlckiaaDoor.tableOrder
