/-
  The walk of ExprTypes.
-/
import Derived.Test.YtohdjhhaceeahaaDoorMTypes
import Derived.Test.YtohdjhhaceeahaaDoorMPlain
import Derived.Test.YtohdjhhaceeahaaDoorMAwake
import Derived.Deep.RegionLaw
namespace Go.Proofs.YtohdjhhaceeahaaDoor
open Go.RowKit

theorem build_any (l : List PL) (b off c : Nat) (w : World) (h1 : 0 < l.length) (h2 : l.length ≤ 300) (h3 : l.length ≤ c) (hP : PlainsAt w.heap.size w (some ⟨b, off, none⟩) l) :
    Calls Tryd.prog 10 #[.slice (some ⟨b, off, none⟩) l.length c, .int .i64 0] w fun e w' => (∃ x, e = .returned (.tuple #[vX x, .int .i64 ((nodeP 60 l).2 : Nat)]) ∧ stripX x = (nodeP 60 l).1 ∧ LiesX w'.heap.size w' x ∧ newX w.heap.size x) ∧ Below w.heap.size w w' :=
  build_ok 60 l b off c 0 w (Nat.le_refl _) (by omega) h1 h2 h3 hP
theorem tree_sz {l : List PL} {x : XT} (h : stripX x = (nodeP 60 l).1) (h0 : 0 < l.length) (h1 : l.length ≤ 300) : szX x ≤ 1000000 := by
  have hne : l ≠ [] := by intro e; rw [e] at h0; simp at h0
  have h2 := nodeP_sz 60 l hne
  have h3 := (nodeP_bound 60 l hne).2
  have h4 := szX_strip x
  rw [h, h2] at h4
  omega
theorem kids_wf {l m : List PL} {node : List PL → XT × Nat} (hn : ∀ m', (∀ p ∈ m', p ∈ l) → m' ≠ [] → wfX (node m').1) (hm : ∀ p ∈ m, p ∈ l) : ∀ (r a : Nat), wfXs (kidsP node m r a).1
  | 0, _ => trivial
  | r + 1, a => by
    unfold kidsP
    split
    · rename_i h
      exact ⟨hn _ (fun p hp => hm p (List.mem_of_mem_drop hp)) (by intro e; have := congrArg List.length e; simp at this; omega), kids_wf hn hm r _⟩
    · trivial
theorem node_wf {l : List PL} (hw : ∀ p ∈ l, p.v.2.2.size ≤ maxLen) : ∀ (f : Nat) (m : List PL), (∀ p ∈ m, p ∈ l) → m ≠ [] → wfX (nodeP f m).1
  | 0, m, hm, hne => by
    refine ⟨hw _ (hm _ ?_), trivial⟩
    cases m
    · exact absurd rfl hne
    · exact List.mem_cons_self
  | f + 1, m, hm, hne => by
    refine ⟨hw _ (hm _ ?_), kids_wf (fun m' h1 h2 => node_wf hw f m' h1 h2) hm _ _⟩
    cases m
    · exact absurd rfl hne
    · exact List.mem_cons_self
theorem eq_self (x : XT) : eqX x x = true := eqX_iff.2 rfl
set_option maxHeartbeats 3200000 in
set_option maxRecDepth 100000 in
theorem exprTypes_walk (A : Option Addr) (c : Nat) (l : List PL) (S : Option Addr) (k : Nat) (cs : List (ByteArray × Int)) (w : World) (hP : PlainsAt w.heap.size w A l ∧ l.length ≤ c) (hw : wfP l) (hC : ColsAt w.heap.size w S cs) (hwc : Wf cs) (hR : Rls w) (hM : Cmps w) :
    Calls Tryd.prog 3 #[.slice A l.length c, .slice S cs.length k] w fun e w' => e = .returned (.bool true) ∧ Below w.heap.size w w' := by
  have HSm := hide (small_any A c l w hP.1 hw)
  have HSs := hide (fun w' (h : Below w.heap.size w w') => smallSchema_any S k cs w' (hC.on h) hwc.1 (fun j hj => (hwc.at hj).1))
  have HAw := hide (fun w' (h : Below w.heap.size w w') => awake_any w' (hR.stays h) (hM.stays h))
  have HP := hide hP.1
  have HC := hide hP.2
  have HW := hide hw
  have HCs := hide hC
  have HWc := hide hwc
  have HR := hide hR
  cases hg : smallP l
  · rw [hg] at HSm
    clear hP hw hC hwc hR hM HSs
    go_enter Tryd.func3, Tryd.ntmps3
    go_wp2_with fail
    refine HSm.out.mono ?_
    rintro e w1 ⟨rfl, hb1⟩
    have HB1 := hide hb1
    clear hb1
    go_wp2_with fail
    refine (HAw.out _ HB1.out).mono ?_
    rintro e w2 ⟨rfl, hb2⟩
    have HB2 := hide (then_below HB1.out hb2)
    clear hb2
    go_wp2_with fail
    go_ret
    exact ⟨rfl, HB2.out⟩
  cases hs : smallC cs
  · rw [hg] at HSm
    rw [hs] at HSs
    clear hP hw hC hwc hR hM
    go_enter Tryd.func3, Tryd.ntmps3
    go_wp2_with fail
    refine HSm.out.mono ?_
    rintro e w1 ⟨rfl, hb1⟩
    have HB1 := hide hb1
    clear hb1
    go_wp2_with fail
    refine (HSs.out _ HB1.out).mono ?_
    rintro e w1 ⟨rfl, hb1⟩
    have HB1b := hide (then_below HB1.out hb1)
    clear hb1
    go_wp2_with fail
    refine (HAw.out _ HB1b.out).mono ?_
    rintro e w2 ⟨rfl, hb2⟩
    have HB2 := hide (then_below HB1b.out hb2)
    clear hb2
    go_wp2_with fail
    go_ret
    exact ⟨rfl, HB2.out⟩
  obtain ⟨h0, h300⟩ := smallP_len hg
  obtain ⟨b, off, rfl, hb, -⟩ := hP.1 0 h0
  have hl2 := smallC_len hs
  have HWf := hide (fun x (h : stripX x = (nodeP 60 l).1) => (wfX_strip x).1 (h ▸ (node_wf (fun p hp => by have := (smallP_at hg hp).2.2; unfold maxLen; omega) 60 l (fun p hp => hp) (by intro e; rw [e] at h0; simp at h0))))
  rw [hg] at HSm
  rw [hs] at HSs
  clear hP hw hC hwc hR hM hg hs
  go_enter Tryd.func3, Tryd.ntmps3
  go_wp2_with fail
  refine HSm.out.mono ?_
  rintro e w1 ⟨rfl, hb1⟩
  have HB1 := hide hb1
  clear hb1
  go_wp2_with fail
  refine (HSs.out _ HB1.out).mono ?_
  rintro e w2 ⟨rfl, hb2⟩
  have HB2 := hide (then_below HB1.out hb2)
  clear hb2
  go_wp2_with fail
  refine (build_any l b off c w2 h0 h300 HC.out (HP.out.on HB2.out)).mono ?_
  rintro e w3 ⟨⟨x, rfl, hst, hlx, -⟩, hb3⟩
  have HB3 := hide (then_below HB2.out hb3)
  have HWx := hide (HWf.out x hst)
  have HSx := hide (tree_sz hst h0 h300)
  have HLx := hide (hlx.on (boxE_below w3 x))
  have HB4 := hide (then_below HB3.out (boxE_below w3 x))
  have HBox := hide (fun w' => boxE_at (w := w3) (x := x) (w' := w'))
  have HWE := hide (show boxE w3 x = w3.alloc (.cells #[.int .i64 x.kind, .string x.name, .int .i64 x.val.1, .int .i64 x.val.2.1, .string x.val.2.2, .string x.op, .slice x.adr x.args.length x.cap] 32) from rfl)
  rw [show vX x = .agg #[.int .i64 x.kind, .string x.name, .int .i64 x.val.1, .int .i64 x.val.2.1, .string x.val.2.2, .string x.op, .slice x.adr x.args.length x.cap] from rfl]
  have HTy := hide (fun w' (h : Below (boxE w3 x).heap.size (boxE w3 x) w') => type_any S k cs x w' HWc.out HSx.out (HLx.out.on h) HWx.out (HCs.out.on (then_below HB4.out h)) (HR.out.stays (then_below HB4.out h)))
  have HTd := hide (fun w' (h : Below (boxE w3 x).heap.size (boxE w3 x) w') => typed_any S k cs x w' HWc.out (by omega) HSx.out (HLx.out.on h) HWx.out (HCs.out.on (then_below HB4.out h)))
  have HSz := hide (fun w' (h : Below (boxE w3 x).heap.size (boxE w3 x) w') => size_any x w' HSx.out (HLx.out.on h))
  have HRf := hide (fun w' (h : Below (boxE w3 x).heap.size (boxE w3 x) w') => ref_ok (szX x) x w' (Nat.le_refl _) HSx.out (HLx.out.on h))
  have HRs := hide (fun (y : XT) w' (hs : stripX y = stripX x) (h : LiesR w'.heap.size w' y) => (refSize_ok (szX x) y w' (by rw [← szX_strip y, hs, szX_strip]; exact Nat.le_refl _) (by rw [← szX_strip y, hs, szX_strip]; exact HSx.out) h).mono fun e w1 (hh : e = .returned (.int .i64 (szX y : Nat)) ∧ Below w'.heap.size w' w1) => (⟨by rw [hh.1, ← szX_strip y, hs, szX_strip], hh.2⟩ : e = .returned (.int .i64 (szX x : Nat)) ∧ Below w'.heap.size w' w1))
  have HEq := hide (fun w' (h : Below (boxE w3 x).heap.size (boxE w3 x) w') => (equal_any x x w' (HLx.out.on h) (HLx.out.on h) HSx.out HSx.out).mono fun e w1 (hh : e = .returned (.bool (eqX x x)) ∧ Below w'.heap.size w' w1) => (⟨by rw [hh.1, eq_self], hh.2⟩ : e = .returned (.bool true) ∧ Below w'.heap.size w' w1))
  rw [show vX x = .agg #[.int .i64 x.kind, .string x.name, .int .i64 x.val.1, .int .i64 x.val.2.1, .string x.val.2.2, .string x.op, .slice x.adr x.args.length x.cap] from rfl] at HTy HSz HRf HEq
  generalize typeTop cs x = q at *
  obtain ⟨q1, q2⟩ := q
  generalize szX x = z at HSz HRs
  clear hst hlx hb3
  obtain ⟨c0, c1, c2, c3, c4, c5, c6, cz⟩ := HBox.out _ (Below.refl _ _)
  go_wp2_with fail
  rw [← HWE.out]
  generalize boxE w3 x = W at *
  clear HWE
  refine (HTy.out _ (Below.refl _ _)).mono ?_
  rintro e w5 ⟨rfl, hb5⟩
  have HB5 := hide hb5
  clear hb5 c0 c1 c2 c3 c4 c5 c6 cz
  obtain ⟨c0, c1, c2, c3, c4, c5, c6, cz⟩ := HBox.out _ HB5.out
  go_wp2_with fail
  refine (HTd.out _ HB5.out).mono ?_
  rintro e w6 ⟨rfl, hb6⟩
  have HB6 := hide (then_below HB5.out hb6)
  clear hb6 c0 c1 c2 c3 c4 c5 c6 cz
  generalize w3.heap.size = P at *
  have HALL := hide (fun w' (h : Below w6.heap.size w6 w') => (⟨(HBox.out _ (then_below HB6.out h)).1, (HBox.out _ (then_below HB6.out h)).2.1, (HBox.out _ (then_below HB6.out h)).2.2.1, (HBox.out _ (then_below HB6.out h)).2.2.2.1, (HBox.out _ (then_below HB6.out h)).2.2.2.2.1, (HBox.out _ (then_below HB6.out h)).2.2.2.2.2.1, (HBox.out _ (then_below HB6.out h)).2.2.2.2.2.2.1, h⟩ : w'.cell? ⟨P, 0, none⟩ = some (.int .i64 x.kind) ∧ w'.cell? ⟨P, 1, none⟩ = some (.string x.name) ∧ w'.cell? ⟨P, 2, none⟩ = some (.int .i64 x.val.1) ∧ w'.cell? ⟨P, 3, none⟩ = some (.int .i64 x.val.2.1) ∧ w'.cell? ⟨P, 4, none⟩ = some (.string x.val.2.2) ∧ w'.cell? ⟨P, 5, none⟩ = some (.string x.op) ∧ w'.cell? ⟨P, 6, none⟩ = some (.slice x.adr x.args.length x.cap) ∧ Below w6.heap.size w6 w'))
  go_wp2_with fail
  have hD : Below w6.heap.size w6 w6.drew := (Below.refl _ _).drew
  obtain ⟨c0, c1, c2, c3, c4, c5, c6, -⟩ := HALL.out _ (Below.refl _ _)
  first
    | (go_region_law (first
      | (go_simp; go_at_call 9; refine (HAw.out _ (then_below HB4.out (after_below hDe HB6.out))).mono ?_; rintro e wE ⟨rfl, hbE⟩; have HBf := hide (then_below HB4.out (after_below (after_below hbE hDe) HB6.out)); clear hbE)
      | (go_simp; go_at_call 16; refine (HEq.out _ (after_below hAB HB6.out)).mono ?_; rintro e wD ⟨rfl, hbD⟩; have hDe := after_below hbD hAB; clear hbD)
      | (go_simp; go_at_call 13; refine (HSz.out _ (after_below hC HB6.out)).mono ?_; rintro e wA ⟨rfl, hbA⟩; have hAB := after_below hbA hC; have ⟨a0, a1, a2, a3, a4, a5, a6, _⟩ := HALL.out _ hAB; clear hbA)
      | (go_simp; go_at_call 13; refine (HSz.out _ (after_below hB HB6.out)).mono ?_; rintro e wA ⟨rfl, hbA⟩; have hA2 := after_below hbA hB; have ⟨a0, a1, a2, a3, a4, a5, a6, _⟩ := HALL.out _ hA2; have HLy2 := hide (HLy.out.on hbA); clear hbA)
      | (go_simp; go_at_call 13; refine (HSz.out _ (after_below hD HB6.out)).mono ?_; rintro e wA ⟨rfl, hbA⟩; have hA := after_below hbA hD; have ⟨a0, a1, a2, a3, a4, a5, a6, _⟩ := HALL.out _ hA; clear hbA)
      | (go_simp; go_at_call 15; refine (HRf.out _ (after_below hA HB6.out)).mono ?_; rintro e wB ⟨⟨y, rfl, hsy, hly, -⟩, hbB⟩; have hA2 := after_below hbB hA; have ⟨b0, b1, b2, b3, b4, b5, b6, _⟩ := HALL.out _ hA2; clear hbB; have HLy2 := hide hly; have HSy := hide hsy; clear hly hsy)
      | (go_simp; go_at_call 15; refine (HRf.out _ (after_below hD HB6.out)).mono ?_; rintro e wB ⟨⟨y, rfl, hsy, hly, -⟩, hbB⟩; have hB := after_below hbB hD; have ⟨b0, b1, b2, b3, b4, b5, b6, _⟩ := HALL.out _ hB; clear hbB; have HLy := hide hly; have HSy := hide hsy; clear hly hsy)
      | (go_simp; go_at_call 14; refine (HRs.out y _ HSy.out HLy2.out).mono ?_; rintro e wC ⟨rfl, hbC⟩; have hAB := after_below hbC hA2; have ⟨d0, d1, d2, d3, d4, d5, d6, _⟩ := HALL.out _ hAB; clear hbC)
      | (go_simp; go_at_call 14; refine (HRs.out y _ HSy.out HLy.out).mono ?_; rintro e wC ⟨rfl, hbC⟩; have hC := after_below hbC hB; have ⟨d0, d1, d2, d3, d4, d5, d6, _⟩ := HALL.out _ hC; clear hbC)))
    | fail
  all_goals
    go_wp2_with fail
    go_ret
    exact ⟨rfl, HBf.out⟩
end Go.Proofs.YtohdjhhaceeahaaDoor
