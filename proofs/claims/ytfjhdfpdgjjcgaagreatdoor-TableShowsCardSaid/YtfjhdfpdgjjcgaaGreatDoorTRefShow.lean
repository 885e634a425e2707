/-
  The document's text of a table.
-/
import Derived.Test.YtfjhdfpdgjjcgaaGreatDoorZT
import Derived.Test.YtfjhdfpdgjjcgaaGreatDoorTShowM
import Derived.Test.YtfjhdfpdgjjcgaaGreatDoorTRows
import Derived.Test.YtfjhdfpdgjjcgaaGreatDoorZS
import Derived.Test.YtfjhdfpdgjjcgaaGreatDoorZV
namespace Go.Proofs.YtfjhdfpdgjjcgaaGreatDoor
open Go.RowKit

theorem good_at {vs : List (Int × Int × ByteArray)} (h : ∀ v ∈ vs, Good v) {j : Nat} (hj : j < vs.length) : Good (vs.getD j (0, 0, ⟨#[]⟩)) := by
  rw [List.getD_eq_getElem?_getD, List.getElem?_eq_getElem hj]; exact h _ (List.getElem_mem hj)

set_option maxHeartbeats 3200000 in
set_option maxRecDepth 100000 in
theorem refShowT_any (S A : Option Addr) (c cap : Nat) (cs : List (ByteArray × Int)) (hs : List RH) (w : World) (hC : ColsAt w.heap.size w S cs) (hR : RowsAt w.heap.size w A hs) (hl : cs.length ≤ 20) (hn : ∀ c ∈ cs, c.1.size ≤ 100) (hlr : hs.length ≤ 4096)
    (hg : ∀ r ∈ rowsOf hs, (∀ v ∈ r, Good v) ∧ WfR r ∧ r.length ≤ 16) :
    Calls Tryz.prog 22 #[.slice S cs.length c, .slice A hs.length cap] w fun e w' => e = .returned (.string ⟨(showX cs (rowsOf hs)).toArray⟩) ∧ Below w.heap.size w w' := by
  have HR := hide hR; have HG := hide hg
  have HS := hide (refShow_any S c cs w hC (by omega) hn)
  have hcl : (showC cs).length ≤ 3000 := by
    have h1 := showK_len hn cs.length
    unfold showC
    rw [List.length_append, List.length_singleton]
    omega
  have HX := hide (show showX cs (rowsOf hs) = (showC cs ++ [10]) ++ linesX (rowsOf hs) from rfl)
  have HLX := hide (fun k => (linesX_len (rs := (rowsOf hs).take k) (fun r hr => (hg r (List.mem_of_mem_take hr)).2)))
  generalize showX cs (rowsOf hs) = res at HX ⊢
  clear hC hR hg hn
  go_enter Tryz.func22, Tryz.ntmps22
  go_wp2_with fail
  refine HS.out.mono ?_
  rintro e w1 ⟨rfl, hb1⟩
  have HB1 := hide hb1
  have hh : (showC cs ++ [10]).length ≤ 3001 := by rw [List.length_append]; simp; omega
  have HH := hide (show (⟨(showC cs).toArray⟩ ++ ⟨#[10]⟩ : ByteArray) = ⟨(showC cs ++ [10]).toArray⟩ from cat_eq (showC cs) [10])
  have hsz : (⟨(showC cs).toArray⟩ : ByteArray).size = (showC cs).length := size_of _
  clear hb1
  generalize hhd : showC cs ++ [10] = hd at *
  go_wp2_with fail
  rw [HH.out]
  go_loopw [5, 6, 7] (fun v i _ wr => ∃ k : Nat, k ≤ hs.length ∧ i = .int .i64 k ∧ v = .string ⟨(hd ++ linesX ((rowsOf hs).take k)).toArray⟩ ∧ Below w.heap.size w wr) (fun _ i _ _ => hs.length - (intOf i).toNat)
  case atStart => exact ⟨0, Nat.zero_le _, rfl, by simp [linesX], HB1.out⟩
  case round =>
    obtain ⟨k, hk, rfl, rfl, hbw⟩ := hrel
    by_cases hlt : k < hs.length
    · obtain ⟨b, off, A', c', r, rfl, hb, c0, hr, -, hgk⟩ := (HR.out.below hbw).at hlt
      have hrk0 := rowsOf_at hlt
      rw [hgk] at hrk0
      have hrk : (rowsOf hs).getD k [] = r := hrk0
      clear hrk0
      have hgr := HG.out r (by rw [← hrk, List.getD_eq_getElem?_getD, List.getElem?_eq_getElem (by rw [rowsOf_len]; exact hlt)]; exact List.getElem_mem _)
      have HGR := hide hgr.1
      have hlr16 := hgr.2.2
      have HLT := hide (linesX_take (rs := rowsOf hs) (k := k) (by rw [rowsOf_len]; exact hlt))
      rw [hrk] at HLT
      have hpl := HLX.out k
      rw [List.length_take, rowsOf_len] at hpl
      have hpl2 : (hd ++ linesX ((rowsOf hs).take k)).length ≤ 10000000 := by
        rw [List.length_append]
        have : min k hs.length ≤ 4096 := by omega
        omega
      have HKL := hide (lineK_len (vs := r) (fun v hv => (hgr.1 v hv).2.2))
      have HLr := hide (show lineX r = lineK r r.length from rfl)
      have HAT := hide (fun w2 (h2 : Below w.heap.size w w2) => (by
        obtain ⟨b', off', A2, c2, r2, e1, _, c0', hr', -, hg'⟩ := (HR.out.below h2).at hlt
        rw [hgk] at hg'
        simp only [Prod.mk.injEq] at hg'
        obtain ⟨rfl, rfl, rfl⟩ := hg'
        obtain ⟨rfl, rfl⟩ : b = b' ∧ off = off' := by simpa using e1
        exact ⟨c0', hr'⟩ : w2.cell? ⟨b, off + k, none⟩ = some (.slice A' r.length c') ∧ RowAt w.heap.size w2 A' r))
      generalize hpre : hd ++ linesX ((rowsOf hs).take k) = pre at *
      have HPRE := hide hpre
      clear hgk hrk hgr hr hpl hpre
      go_wp2_with fail
      clear c0
      obtain ⟨wa, hwa⟩ : ∃ wa : World, wa = wr := ⟨_, rfl⟩
      subst hwa
      go_loopw [5, 7] (fun v j w2 => ∃ m : Nat, m ≤ r.length ∧ j = .int .i64 m ∧ v = .string ⟨(pre ++ lineK r m).toArray⟩ ∧ Below w.heap.size w w2) (fun _ j _ => r.length - (intOf j).toNat)
      case atStart => exact ⟨0, Nat.zero_le _, rfl, by simp [lineK], hbw⟩
      case round =>
        obtain ⟨m, hm, rfl, rfl, hb2⟩ := hrel
        have hkl := HKL.out m hm
        have hpk : (pre ++ lineK r m).length ≤ 10003000 := by rw [List.length_append]; omega
        obtain ⟨c0, hr2⟩ := HAT.out _ hb2
        by_cases hlt2 : m < r.length
        · obtain ⟨b3, off3, rfl, hb3, g0, g1, g2⟩ := hr2 m hlt2
          have hgm := good_at HGR.out hlt2
          have HL := hide (show lineK r (m + 1) = lineK r m ++ ((if 0 < m then [44, 32] else []) ++ showL (r.getD m (0, 0, ⟨#[]⟩))) from rfl)
          have hsl := showL_len hgm.2.2
          generalize hv : r.getD m (0, 0, ⟨#[]⟩) = v at *
          have HSV := hide (fun w' => refShowV_any v.1 v.2.1 v.2.2 w' hgm.2.2 hgm.1)
          rw [show showV v.1 v.2.1 v.2.2 = showL v from rfl] at HSV
          clear hgm hr2 hv
          generalize showL v = sv at *
          generalize hpp : pre ++ lineK r m = pp at *
          have HPP := hide hpp
          clear hpp
          have hsz1 : (⟨pp.toArray⟩ : ByteArray).size = pp.length := size_of _
          have hsz2 : (⟨sv.toArray⟩ : ByteArray).size = sv.length := size_of _
          by_cases h0 : 0 < m
          all_goals
            have H0 := hide h0
            go_wp2_with fail
            refine (HSV.out _).mono ?_
            rintro e w3 ⟨rfl, hb4⟩
            have hq := hide (hb2.trans (hb4.mono hb2.size))
            clear hb4
            go_wp2_with fail
            go_roundw
            case rel =>
              refine ⟨m + 1, by omega, by go_num, text_data ?_, hq.out⟩
              have h0' := H0.out
              rw [HL.out, ← List.append_assoc, HPP.out]
              simp_all
            case measure => simp [intOf]; omega
        · obtain rfl : m = r.length := by omega
          rw [← HLr.out]
          have hsz1 : (⟨(pre ++ lineX r).toArray⟩ : ByteArray).size = (pre ++ lineX r).length := size_of _
          rw [← HLr.out] at hpk
          have HT := hide (show (⟨(pre ++ lineX r).toArray⟩ ++ ⟨#[10]⟩ : ByteArray) = ⟨(hd ++ linesX ((rowsOf hs).take (k + 1))).toArray⟩ by
            rw [show (⟨#[10]⟩ : ByteArray) = ⟨([10] : List UInt8).toArray⟩ from rfl, cat_eq, HLT.out, ← HPRE.out]; simp)
          generalize pre ++ lineX r = pp at *
          go_wp2_with fail
          rw [HT.out]
          go_roundw
          case rel => exact ⟨k + 1, by omega, by go_num, rfl, hb2⟩
          case measure => simp [intOf]; omega
    · obtain rfl : k = hs.length := by omega
      rw [List.take_of_length_le (by rw [rowsOf_len]; exact Nat.le_refl _), ← HX.out]
      go_wp2_with fail
      go_ret
      exact ⟨rfl, hbw⟩
end Go.Proofs.YtfjhdfpdgjjcgaaGreatDoor
