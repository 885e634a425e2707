/-
  The walk of FrameParses.
-/
import Derived.Test.YtbjcbgomkhdmmaaDoorFTablesW
import Derived.Deep.DeepCutAuto
import Derived.Tactics2
import Derived.Deep.RegionHeld3
namespace Go.Proofs.YtbjcbgomkhdmmaaDoor
open Go.RowKit

theorem InAt.narrow2 {lo : Nat → Prop} {g : Nat} {w : World} {l : List UInt8} {bad : Bool} (h : InAt lo g w l bad) : InAt (fun b => lo b ∧ b < w.heap.size) g w l bad := by
  have hlt := h.lt
  obtain ⟨h0, h1, A, c, h2, h3, h4, h5, h6, h7⟩ := h
  exact ⟨⟨h0, hlt⟩, h1, A, c, h2, h3, h4, h5, h6, fun j hj => by obtain ⟨b, off, e, e1, e2, e3, e4⟩ := h7 j hj; exact ⟨b, off, e, ⟨e1, e3⟩, e2, e3, e4⟩⟩
theorem InAt.turn {lo : Nat → Prop} {g g' : Nat} {w w' : World} {l : List UInt8} {bad : Bool} (h : InAt lo g w l bad) (ho : OnlyG g' w w') (hn : ∀ b, lo b → b ≠ g') : InAt lo g w' l bad := h.keep ho.size fun b hb hl => ho.block b hl (hn b hb)
/-- What is known of a table that was read. -/
structure TabOk (l : List UInt8) (cs : List (ByteArray × Int)) (rs : R3) : Prop where
  full : fullT cs rs = 0
  bytes : tabB cs rs = l
theorem tabP_wf {l r : List UInt8} {cs : List (ByteArray × Int)} {rs : R3} (h : tabP l = some ((cs, rs), r)) (hl : l.length ≤ 1000) : Wf cs ∧ WfT rs ∧ cs.length ≤ 16 ∧ rs.length ≤ 4096 ∧ (∀ x ∈ rs, x.length ≤ 4096) ∧ (∀ x ∈ rs, ∀ v ∈ x, okV v) ∧ ∀ c ∈ cs, Int64 c.2 := by
  unfold tabP at h
  cases hc : colsP l with
  | none => rw [hc] at h; cases h
  | some p =>
    obtain ⟨cs', l2⟩ := p
    rw [hc] at h
    change (rowsQ cs'.length l2).bind _ = _ at h
    cases hr : rowsQ cs'.length l2 with
    | none => rw [hr] at h; cases h
    | some q =>
      obtain ⟨rs', l3⟩ := q
      rw [hr] at h
      change (if fullT cs' rs' = 0 then _ else _) = _ at h
      split at h
      · injection h with h; injection h with h1 h2; injection h1 with h3 h4
        subst h3; subst h4
        obtain ⟨-, b2, b3, -⟩ := colsP_dec hc
        obtain ⟨-, c2, c3, -⟩ := rowsQ_dec hr
        refine ⟨⟨show cs'.length ≤ maxLen by unfold maxLen; omega, fun x hx => ⟨by have := (b3 x hx).1; unfold maxLen; omega, (b3 x hx).2⟩⟩, ⟨show List.length rs' ≤ maxLen by unfold maxLen; omega, fun x hx => okRow.wf (c3 x hx).2 (by rw [(c3 x hx).1]; unfold maxLen; omega)⟩, b2, c2, fun x hx => by rw [(c3 x hx).1]; omega, fun x hx => (c3 x hx).2, fun x hx => (b3 x hx).2⟩
      · cases h
theorem TabRes.any {lo : Nat → Prop} {g : Nat} {w w' : World} {l : List UInt8} {e : Ending} (h : TabRes lo g w l e w') :
    ∃ S c A d cs ns r b, e = .returned (.agg #[.slice S (List.length cs) c, .slice A (List.length ns) d]) ∧ TabN w.heap.size w' S A cs ns ∧ InAt lo g w' r b ∧ OnlyG g w w' ∧ (b = true → cs = [] ∧ ns = [] ∧ r = []) ∧ (b = false → tabP l = some ((cs, rowsOf ns), r)) := by
  rcases h with ⟨S, c, A, d, cs, ns, r, h1, h2, h3, h4, h5⟩ | ⟨h1, h2, h3, h4⟩
  · exact ⟨S, c, A, d, cs, ns, r, false, h1, h3, h4, h5, (fun e => by cases e), fun _ => h2⟩
  · exact ⟨none, 0, none, 0, [], [], [], true, h1, ⟨ColsAt.nil _ _ _, (fun a e => by cases e), ⟨fun j hj => by simp at hj, fun h hh => by simp at hh⟩, (fun a e => by cases e), fun h hh => by simp at hh⟩, h3, h4, fun _ => ⟨rfl, rfl, rfl⟩, fun e => by cases e⟩
theorem ValRes.any {lo : Nat → Prop} {g : Nat} {w w' : World} {l : List UInt8} {e : Ending} (h : ValRes lo g w l e w') :
    ∃ (k n : Int) (s : ByteArray) (r : List UInt8) (b : Bool), e = .returned (vVal k n s) ∧ InAt lo g w' r b ∧ OnlyG g w w' ∧ (b = true → (k = 0 ∧ n = 0 ∧ s = ⟨#[]⟩) ∧ r = []) ∧ (b = false → l = valB (k, n, s) ++ r ∧ okV (k, n, s)) ∧ s.size ≤ maxLen := by
  rcases h with ⟨x, r, h1, h2, h3, h4⟩ | ⟨h1, h2, h3, h4⟩
  · obtain ⟨a1, a2, a3, _⟩ := valR_dec h1
    obtain ⟨k, n, s⟩ := x
    exact ⟨k, n, s, r, false, h2, h3, h4, (fun e => by cases e), (fun _ => ⟨a1, a2⟩), by unfold maxLen; simp only at a3; omega⟩
  · exact ⟨0, 0, ⟨#[]⟩, [], true, h2, h3, h4, (fun _ => ⟨⟨rfl, rfl, rfl⟩, rfl⟩), (fun e => by cases e), nil_max⟩

set_option maxHeartbeats 25600000 in
set_option maxRecDepth 100000 in
theorem frameParses_walk (A : Option Addr) (c : Nat) (l : List UInt8) (w : World) (hB : BytesAt w.heap.size w A l) (hl : l.length ≤ maxLen) (_hnil : A = none → c = 0) (hT : Tab w) :
    Calls Tryd.prog 4 #[.slice A l.length c] w fun e w' => e = .returned (.bool true) ∧ Below w.heap.size w w' := by
  have HAw := hide (fun w' (h : Below w.heap.size w w') => awake_any w' (hT.on h))
  have HB1 := hide (fun (w' : World) o => (Below.refl w'.heap.size w').alloc (Nat.le_refl _) o)
  unfold maxLen at hl
  by_cases h10 : l.length ≤ 1000
  · have h10' : ¬ (1000 : Int) < (l.length : Int) := by omega
    have HN := hide (fun w' (h : Below w.heap.size w w') => newIn_any A c l w' (hB.on h) (by omega))
    have HCb := hide (fun w' (h : Below w.heap.size w w') => conv_bytes A c l w' (hB.on h))
    clear hB hT hl
    go_enter Tryd.func4, Tryd.ntmps4
    go_wp2_with fail
    refine (HN.out w (Below.refl _ _)).mono ?_
    rintro e w1 ⟨g1, rfl, hg1, hI1, hb1⟩
    have HI1 := hide hI1.narrow
    have HL1 := hide hb1
    have hs1 := hb1.size
    have hl1 := hI1.lt
    clear hI1 hb1
    go_wp2_with fail
    refine (HN.out w1 HL1.out).mono ?_
    rintro e w2 ⟨g2, rfl, hg2, hI2, hb2⟩
    have HI1b := hide (HI1.out.below hb2)
    have HI2 := hide hI2.narrow2
    have HL2 := hide (HL1.out.trans (hb2.mono hs1))
    have hs2 := hb2.size
    have hl2 := hI2.lt
    have HTv := hide (inTable_any w2 HI1b.out (fun b hb => Nat.lt_of_lt_of_le hb hs2))
    clear hI2 hb2
    go_wp2_with fail
    refine HTv.out.mono ?_
    intro e w3 hres
    obtain ⟨S, cc, A2, dd, cs, ns, r1, b1, rfl, htn, hI3, ho3, hbt, hgt⟩ := hres.any
    have HI3 := hide hI3
    have HI2b := hide (HI2.out.turn ho3 (fun b hb => by have := hb.1; omega))
    have HL3 := hide (HL2.out.trans (ho3.below hg1 HL2.out.size))
    have hs3 := ho3.size
    have HTn := hide htn
    have HVv := hide (inValue_any w3 HI2b.out (fun b hb => Nat.lt_of_lt_of_le hb.2 hs3))
    have HBt := hide hbt
    have HGt := hide hgt
    clear hI3 ho3 htn hres hbt hgt
    go_wp2_with fail
    refine HVv.out.mono ?_
    intro e w4 hres
    obtain ⟨k0, n0, s0, r2, b2, rfl, hI4, ho4, hbv, hgv, hsz⟩ := hres.any
    have HI4 := hide hI4
    have HI3b := hide (HI3.out.turn ho4 (fun b hb => by omega))
    have HL4 := hide (HL3.out.trans (ho4.below (Nat.le_trans hs1 hg2) HL3.out.size))
    have hs4 := ho4.size
    have HTn4 := hide (HTn.out.kept ho4.size fun b hb hlt => ho4.block b hlt (by omega))
    have HBv := hide hbv
    have HGv := hide hgv
    have HSz := hide hsz
    clear hI4 ho4 hres hbv hgv hsz
    go_upto_region 5 with fail
    have HB5 := hide ((Joins.below_alloc2 w4 (.cells #[.slice S cs.length cc, .slice A2 ns.length dd] 27) (.cells #[.int .i64 k0, .int .i64 n0, .string s0] 36)))
    have HI4b := hide (HI4.out.below HB5.out)
    have HI3c := hide (HI3b.out.below HB5.out)
    have HL5 := hide (HL4.out.trans (HB5.out.mono HL4.out.size))
    have HTn5 := hide (HTn4.out.below HB5.out)
    have HCl0 : ((((w4.alloc (.cells #[.slice S cs.length cc, .slice A2 ns.length dd] 27)).alloc (.cells #[.int .i64 k0, .int .i64 n0, .string s0] 36)).cell? ⟨w4.heap.size, 0, none⟩ = some (.slice S cs.length cc) ∧ ((w4.alloc (.cells #[.slice S cs.length cc, .slice A2 ns.length dd] 27)).alloc (.cells #[.int .i64 k0, .int .i64 n0, .string s0] 36)).cell? ⟨w4.heap.size, 1, none⟩ = some (.slice A2 ns.length dd)) ∧ ((w4.alloc (.cells #[.slice S cs.length cc, .slice A2 ns.length dd] 27)).alloc (.cells #[.int .i64 k0, .int .i64 n0, .string s0] 36)).cell? ⟨w4.heap.size + 1, 0, none⟩ = some (.int .i64 k0) ∧ ((w4.alloc (.cells #[.slice S cs.length cc, .slice A2 ns.length dd] 27)).alloc (.cells #[.int .i64 k0, .int .i64 n0, .string s0] 36)).cell? ⟨w4.heap.size + 1, 1, none⟩ = some (.int .i64 n0) ∧ ((w4.alloc (.cells #[.slice S cs.length cc, .slice A2 ns.length dd] 27)).alloc (.cells #[.int .i64 k0, .int .i64 n0, .string s0] 36)).cell? ⟨w4.heap.size + 1, 2, none⟩ = some (.string s0)) := ⟨⟨by simp, by simp⟩, by simp, by simp, by simp⟩
    have hW5s : ((w4.alloc (.cells #[.slice S cs.length cc, .slice A2 ns.length dd] 27)).alloc (.cells #[.int .i64 k0, .int .i64 n0, .string s0] 36)).heap.size = w4.heap.size + 2 := by simp
    generalize hW5 : (w4.alloc (.cells #[.slice S cs.length cc, .slice A2 ns.length dd] 27)).alloc (.cells #[.int .i64 k0, .int .i64 n0, .string s0] 36) = W5 at *
    have HW5 := hide hW5
    have HW5s := hide hW5s
    have HCl := hide (fun w' (h : Below W5.heap.size W5 w') => (⟨⟨(h.cell (p := ⟨w4.heap.size, 0, none⟩) (by simp only; omega)).trans HCl0.1.1, (h.cell (p := ⟨w4.heap.size, 1, none⟩) (by simp only; omega)).trans HCl0.1.2⟩, (h.cell (p := ⟨w4.heap.size + 1, 0, none⟩) (by simp only; omega)).trans HCl0.2.1, (h.cell (p := ⟨w4.heap.size + 1, 1, none⟩) (by simp only; omega)).trans HCl0.2.2.1, (h.cell (p := ⟨w4.heap.size + 1, 2, none⟩) (by simp only; omega)).trans HCl0.2.2.2⟩ : ((w'.cell? ⟨w4.heap.size, 0, none⟩ = some (.slice S cs.length cc) ∧ w'.cell? ⟨w4.heap.size, 1, none⟩ = some (.slice A2 ns.length dd)) ∧ w'.cell? ⟨w4.heap.size + 1, 0, none⟩ = some (.int .i64 k0) ∧ w'.cell? ⟨w4.heap.size + 1, 1, none⟩ = some (.int .i64 n0) ∧ w'.cell? ⟨w4.heap.size + 1, 2, none⟩ = some (.string s0))))
    have HCw := hide (fun w' (h : Below W5.heap.size W5 w') => HCb.out w' (HL5.out.trans (h.mono HL5.out.size)))
    clear HCl0 hW5 hW5s
    go_cut [51] (fun s wx => s = .bool false ∧ Below W5.heap.size W5 wx)
    case first =>
      by_cases hd1 : b1 = false ∧ r1 = []
      · obtain ⟨rfl, rfl⟩ := hd1
        have hp := HGt.out rfl
        obtain ⟨q1, q2, q3, q4, q5, q6, q7⟩ := tabP_wf hp h10
        obtain ⟨q8, q9⟩ := tabP_dec hp
        rw [List.append_nil] at q8
        have HD1 := hide (fun w' (h : Below W5.heap.size W5 w') => done_any w' (HI3c.out.below h))
        have HCk := hide (fun w' (h : Below W5.heap.size W5 w') => (tabCheck_any S A2 cc dd cs ns w' (HTn5.out.below h).c (HTn5.out.below h).r q1 q2).mono fun e w1 (k : e = .returned (.int .i64 (fullT cs (rowsOf ns))) ∧ Below w'.heap.size w' w1) => (⟨by rw [k.1, q9], k.2⟩ : e = .returned (.int .i64 0) ∧ Below w'.heap.size w' w1))
        have HTb := hide (fun w' (h : Below W5.heap.size W5 w') => tableBytes_any S A2 cc dd cs ns w' (HTn5.out.below h).c (HTn5.out.below h).r q7 q6 (by omega) (by rw [rowsOf_len] at q4; omega) q5 q2 (by rw [← q8]; omega))
        unfold OwnRes at HTb
        rw [← q8] at HTb
        clear hp q1 q2 q3 q4 q5 q6 q7 q8 q9
        by_cases hd2 : b2 = false ∧ r2 = []
        · obtain ⟨rfl, rfl⟩ := hd2
          obtain ⟨q1, q2⟩ := HGv.out rfl
          rw [List.append_nil] at q1
          have HD2 := hide (fun w' (h : Below W5.heap.size W5 w') => done_any w' (HI4b.out.below h))
          have HRt := hide (fun w' (_ : Below W5.heap.size W5 w') => (right_any k0 n0 s0 w' HSz.out).mono fun e w1 (k : e = .returned (.bool (rightV k0 n0 s0)) ∧ Below w'.heap.size w' w1) => (⟨by rw [k.1, q2.1], k.2⟩ : e = .returned (.bool true) ∧ Below w'.heap.size w' w1))
          have HRf := hide (fun w' (_ : Below W5.heap.size W5 w') => ref_any k0 n0 s0 w')
          have HRv := hide (fun w' (_ : Below W5.heap.size W5 w') => refValue_any (k0, n0, s0) w' q2)
          unfold OwnRes at HRv
          rw [← q1] at HRv
          clear q1 q2
          clear HAw HB1 HN HCb HI1 HL1 HI1b HI2 HL2 HTv HI3 HI2b HL3 HTn HVv HBt HGt HI4 HI3b HL4 HTn4 HBv HGv HSz HB5 HI4b HI3c HTn5 HW5 HW5s hs1 hl1 hs2 hl2 hs3 hs4 hg1 hg2 h10
          refine wp_region_held_drew (S := fun w' => Below W5.heap.size W5 w') (by kernel_rfl) ((Below.refl _ _).drew) (fun hS => ?_)
          refine wpAnyH_take (i := 0) (oi := ⟨some 19, _, _, _, _, _⟩) (v := ?_) rfl (by kernel_rfl) (by kernel_rfl) (by kernel_rfl) (fun _ _ _ h => h) (Or.inl ⟨by rfl, ?_⟩) hS ?_
          rotate_left 1
          · intro w' hw'
            obtain ⟨⟨c0, c1⟩, c2, c3, c4⟩ := HCl.out w' hw'
            have hcb := HCw.out w' hw'
            go_simp
            all_goals with_reducible rfl
          try simp only [Act.put, List.setIfInBounds_toArray, List.set_cons_zero, List.set_cons_succ]
          refine wpAnyH_ready (rs := [1]) (by kernel_rfl) (by simp) ?_
          refine AllReadyH.cons (o := ⟨some 20, _, _, _, _, _⟩) rfl (fun K hK => ?_) AllReadyH.nil
          go_simp
          go_at_call 19
          refine (HD1.out _ hS).mono ?_
          rintro e w7 ⟨rfl, rfl⟩
          refine hK.out _ _ (hS) (fun hS => ?_)
          clear hK K
          try simp only [Act.put, List.setIfInBounds_toArray, List.set_cons_zero, List.set_cons_succ]
          refine wpAnyH_take (i := 2) (oi := ⟨some 21, _, _, _, _, _⟩) (v := ?_) rfl (by kernel_rfl) (by kernel_rfl) (by kernel_rfl) (fun _ _ _ h => h) (Or.inl ⟨by rfl, ?_⟩) hS ?_
          rotate_left 1
          · intro w' hw'
            obtain ⟨⟨c0, c1⟩, c2, c3, c4⟩ := HCl.out w' hw'
            have hcb := HCw.out w' hw'
            go_simp
            all_goals with_reducible rfl
          try simp only [Act.put, List.setIfInBounds_toArray, List.set_cons_zero, List.set_cons_succ]
          refine wpAnyH_take (i := 3) (oi := ⟨some 22, _, _, _, _, _⟩) (v := ?_) rfl (by kernel_rfl) (by kernel_rfl) (by kernel_rfl) (fun _ _ _ h => h) (Or.inl ⟨by rfl, ?_⟩) hS ?_
          rotate_left 1
          · intro w' hw'
            obtain ⟨⟨c0, c1⟩, c2, c3, c4⟩ := HCl.out w' hw'
            have hcb := HCw.out w' hw'
            go_simp
            all_goals with_reducible rfl
          try simp only [Act.put, List.setIfInBounds_toArray, List.set_cons_zero, List.set_cons_succ]
          refine wpAnyH_ready (rs := [4]) (by kernel_rfl) (by simp) ?_
          refine AllReadyH.cons (o := ⟨some 23, _, _, _, _, _⟩) rfl (fun K hK => ?_) AllReadyH.nil
          go_simp
          go_at_call 6
          refine (HCk.out _ hS).mono ?_
          rintro e w7 ⟨rfl, hb7⟩
          refine hK.out _ _ (hS.trans (hb7.mono hS.size)) (fun hS => ?_)
          clear hK K
          try simp only [Act.put, List.setIfInBounds_toArray, List.set_cons_zero, List.set_cons_succ]
          refine wpAnyH_take (i := 5) (oi := ⟨some 24, _, _, _, _, _⟩) (v := ?_) rfl (by kernel_rfl) (by kernel_rfl) (by kernel_rfl) (fun _ _ _ h => h) (Or.inl ⟨by rfl, ?_⟩) hS ?_
          rotate_left 1
          · intro w' hw'
            obtain ⟨⟨c0, c1⟩, c2, c3, c4⟩ := HCl.out w' hw'
            have hcb := HCw.out w' hw'
            go_simp
            all_goals with_reducible rfl
          try simp only [Act.put, List.setIfInBounds_toArray, List.set_cons_zero, List.set_cons_succ]
          refine wpAnyH_take (i := 6) (oi := ⟨some 25, _, _, _, _, _⟩) (v := ?_) rfl (by kernel_rfl) (by kernel_rfl) (by kernel_rfl) (fun _ _ _ h => h) (Or.inl ⟨by rfl, ?_⟩) hS ?_
          rotate_left 1
          · intro w' hw'
            obtain ⟨⟨c0, c1⟩, c2, c3, c4⟩ := HCl.out w' hw'
            have hcb := HCw.out w' hw'
            go_simp
            all_goals with_reducible rfl
          try simp only [Act.put, List.setIfInBounds_toArray, List.set_cons_zero, List.set_cons_succ]
          refine wpAnyH_take (i := 7) (oi := ⟨some 26, _, _, _, _, _⟩) (v := ?_) rfl (by kernel_rfl) (by kernel_rfl) (by kernel_rfl) (fun _ _ _ h => h) (Or.inl ⟨by rfl, ?_⟩) hS ?_
          rotate_left 1
          · intro w' hw'
            obtain ⟨⟨c0, c1⟩, c2, c3, c4⟩ := HCl.out w' hw'
            have hcb := HCw.out w' hw'
            go_simp
            all_goals with_reducible rfl
          try simp only [Act.put, List.setIfInBounds_toArray, List.set_cons_zero, List.set_cons_succ]
          refine wpAnyH_take (i := 10) (oi := ⟨some 29, _, _, _, _, _⟩) (v := ?_) rfl (by kernel_rfl) (by kernel_rfl) (by kernel_rfl) (fun _ _ _ h => h) (Or.inl ⟨by rfl, ?_⟩) hS ?_
          rotate_left 1
          · intro w' hw'
            obtain ⟨⟨c0, c1⟩, c2, c3, c4⟩ := HCl.out w' hw'
            have hcb := HCw.out w' hw'
            go_simp
            all_goals with_reducible rfl
          try simp only [Act.put, List.setIfInBounds_toArray, List.set_cons_zero, List.set_cons_succ]
          refine wpAnyH_take (i := 11) (oi := ⟨some 30, _, _, _, _, _⟩) (v := ?_) rfl (by kernel_rfl) (by kernel_rfl) (by kernel_rfl) (fun _ _ _ h => h) (Or.inl ⟨by rfl, ?_⟩) hS ?_
          rotate_left 1
          · intro w' hw'
            obtain ⟨⟨c0, c1⟩, c2, c3, c4⟩ := HCl.out w' hw'
            have hcb := HCw.out w' hw'
            go_simp
            all_goals with_reducible rfl
          try simp only [Act.put, List.setIfInBounds_toArray, List.set_cons_zero, List.set_cons_succ]
          refine wpAnyH_ready (rs := [8]) (by kernel_rfl) (by simp) ?_
          refine AllReadyH.cons (o := ⟨some 27, _, _, _, _, _⟩) rfl (fun K hK => ?_) AllReadyH.nil
          go_simp
          go_at_call 14
          refine (HTb.out _ hS).mono ?_
          rintro e w7 ⟨v7, rfl, hr7, hb7⟩
          have hcv7 := row_conv hr7 rfl
          obtain ⟨A7, c7, rfl, -⟩ := row_slice hr7
          refine hK.out _ _ (hS.trans (hb7.mono hS.size)) (fun hS => ?_)
          clear hK K
          try simp only [Act.put, List.setIfInBounds_toArray, List.set_cons_zero, List.set_cons_succ]
          refine wpAnyH_ready (rs := [9]) (by kernel_rfl) (by simp) ?_
          refine AllReadyH.cons (o := ⟨some 28, _, _, _, _, _⟩) rfl (fun K hK => ?_) AllReadyH.nil
          go_simp
          refine hK.out _ _ hS (fun hS => ?_)
          clear hK K
          try simp only [Act.put, List.setIfInBounds_toArray, List.set_cons_zero, List.set_cons_succ]
          refine wpAnyH_take (i := 12) (oi := ⟨some 31, _, _, _, _, _⟩) (v := ?_) rfl (by kernel_rfl) (by kernel_rfl) (by kernel_rfl) (fun _ _ _ h => h) (Or.inl ⟨by rfl, ?_⟩) hS ?_
          rotate_left 1
          · intro w' hw'
            obtain ⟨⟨c0, c1⟩, c2, c3, c4⟩ := HCl.out w' hw'
            have hcb := HCw.out w' hw'
            go_simp
            all_goals with_reducible rfl
          try simp only [Act.put, List.setIfInBounds_toArray, List.set_cons_zero, List.set_cons_succ]
          refine wpAnyH_take (i := 13) (oi := ⟨some 32, _, _, _, _, _⟩) (v := ?_) rfl (by kernel_rfl) (by kernel_rfl) (by kernel_rfl) (fun _ _ _ h => h) (Or.inl ⟨by rfl, ?_⟩) hS ?_
          rotate_left 1
          · intro w' hw'
            obtain ⟨⟨c0, c1⟩, c2, c3, c4⟩ := HCl.out w' hw'
            have hcb := HCw.out w' hw'
            go_simp
            all_goals with_reducible rfl
          try simp only [Act.put, List.setIfInBounds_toArray, List.set_cons_zero, List.set_cons_succ]
          refine wpAnyH_take (i := 14) (oi := ⟨some 33, _, _, _, _, _⟩) (v := ?_) rfl (by kernel_rfl) (by kernel_rfl) (by kernel_rfl) (fun _ _ _ h => h) (Or.inl ⟨by rfl, ?_⟩) hS ?_
          rotate_left 1
          · intro w' hw'
            obtain ⟨⟨c0, c1⟩, c2, c3, c4⟩ := HCl.out w' hw'
            have hcb := HCw.out w' hw'
            go_simp
            all_goals with_reducible rfl
          try simp only [Act.put, List.setIfInBounds_toArray, List.set_cons_zero, List.set_cons_succ]
          refine wpAnyH_take (i := 15) (oi := ⟨some 34, _, _, _, _, _⟩) (v := ?_) rfl (by kernel_rfl) (by kernel_rfl) (by kernel_rfl) (fun _ _ _ h => h) (Or.inl ⟨by rfl, ?_⟩) hS ?_
          rotate_left 1
          · intro w' hw'
            obtain ⟨⟨c0, c1⟩, c2, c3, c4⟩ := HCl.out w' hw'
            have hcb := HCw.out w' hw'
            go_simp
            all_goals with_reducible rfl
          try simp only [Act.put, List.setIfInBounds_toArray, List.set_cons_zero, List.set_cons_succ]
          refine wpAnyH_take (i := 16) (oi := ⟨some 35, _, _, _, _, _⟩) (v := ?_) rfl (by kernel_rfl) (by kernel_rfl) (by kernel_rfl) (fun _ _ _ h => h) (Or.inl ⟨by rfl, ?_⟩) hS ?_
          rotate_left 1
          · intro w' hw'
            obtain ⟨⟨c0, c1⟩, c2, c3, c4⟩ := HCl.out w' hw'
            have hcb := HCw.out w' hw'
            go_simp
            all_goals with_reducible rfl
          try simp only [Act.put, List.setIfInBounds_toArray, List.set_cons_zero, List.set_cons_succ]
          refine wpAnyH_ready (rs := [17]) (by kernel_rfl) (by simp) ?_
          refine AllReadyH.cons (o := ⟨some 36, _, _, _, _, _⟩) rfl (fun K hK => ?_) AllReadyH.nil
          go_simp
          go_at_call 19
          refine (HD2.out _ hS).mono ?_
          rintro e w7 ⟨rfl, rfl⟩
          refine hK.out _ _ (hS) (fun hS => ?_)
          clear hK K
          try simp only [Act.put, List.setIfInBounds_toArray, List.set_cons_zero, List.set_cons_succ]
          refine wpAnyH_take (i := 18) (oi := ⟨some 37, _, _, _, _, _⟩) (v := ?_) rfl (by kernel_rfl) (by kernel_rfl) (by kernel_rfl) (fun _ _ _ h => h) (Or.inl ⟨by rfl, ?_⟩) hS ?_
          rotate_left 1
          · intro w' hw'
            obtain ⟨⟨c0, c1⟩, c2, c3, c4⟩ := HCl.out w' hw'
            have hcb := HCw.out w' hw'
            go_simp
            all_goals with_reducible rfl
          try simp only [Act.put, List.setIfInBounds_toArray, List.set_cons_zero, List.set_cons_succ]
          refine wpAnyH_take (i := 19) (oi := ⟨some 38, _, _, _, _, _⟩) (v := ?_) rfl (by kernel_rfl) (by kernel_rfl) (by kernel_rfl) (fun _ _ _ h => h) (Or.inl ⟨by rfl, ?_⟩) hS ?_
          rotate_left 1
          · intro w' hw'
            obtain ⟨⟨c0, c1⟩, c2, c3, c4⟩ := HCl.out w' hw'
            have hcb := HCw.out w' hw'
            go_simp
            all_goals with_reducible rfl
          try simp only [Act.put, List.setIfInBounds_toArray, List.set_cons_zero, List.set_cons_succ]
          refine wpAnyH_ready (rs := [20]) (by kernel_rfl) (by simp) ?_
          refine AllReadyH.cons (o := ⟨some 39, _, _, _, _, _⟩) rfl (fun K hK => ?_) AllReadyH.nil
          go_simp
          go_at_call 8
          refine (HRt.out _ hS).mono ?_
          rintro e w7 ⟨rfl, hb7⟩
          refine hK.out _ _ (hS.trans (hb7.mono hS.size)) (fun hS => ?_)
          clear hK K
          try simp only [Act.put, List.setIfInBounds_toArray, List.set_cons_zero, List.set_cons_succ]
          refine wpAnyH_take (i := 21) (oi := ⟨some 40, _, _, _, _, _⟩) (v := ?_) rfl (by kernel_rfl) (by kernel_rfl) (by kernel_rfl) (fun _ _ _ h => h) (Or.inl ⟨by rfl, ?_⟩) hS ?_
          rotate_left 1
          · intro w' hw'
            obtain ⟨⟨c0, c1⟩, c2, c3, c4⟩ := HCl.out w' hw'
            have hcb := HCw.out w' hw'
            go_simp
            all_goals with_reducible rfl
          try simp only [Act.put, List.setIfInBounds_toArray, List.set_cons_zero, List.set_cons_succ]
          refine wpAnyH_take (i := 22) (oi := ⟨some 41, _, _, _, _, _⟩) (v := ?_) rfl (by kernel_rfl) (by kernel_rfl) (by kernel_rfl) (fun _ _ _ h => h) (Or.inl ⟨by rfl, ?_⟩) hS ?_
          rotate_left 1
          · intro w' hw'
            obtain ⟨⟨c0, c1⟩, c2, c3, c4⟩ := HCl.out w' hw'
            have hcb := HCw.out w' hw'
            go_simp
            all_goals with_reducible rfl
          try simp only [Act.put, List.setIfInBounds_toArray, List.set_cons_zero, List.set_cons_succ]
          refine wpAnyH_take (i := 23) (oi := ⟨some 42, _, _, _, _, _⟩) (v := ?_) rfl (by kernel_rfl) (by kernel_rfl) (by kernel_rfl) (fun _ _ _ h => h) (Or.inl ⟨by rfl, ?_⟩) hS ?_
          rotate_left 1
          · intro w' hw'
            obtain ⟨⟨c0, c1⟩, c2, c3, c4⟩ := HCl.out w' hw'
            have hcb := HCw.out w' hw'
            go_simp
            all_goals with_reducible rfl
          try simp only [Act.put, List.setIfInBounds_toArray, List.set_cons_zero, List.set_cons_succ]
          refine wpAnyH_take (i := 27) (oi := ⟨some 46, _, _, _, _, _⟩) (v := ?_) rfl (by kernel_rfl) (by kernel_rfl) (by kernel_rfl) (fun _ _ _ h => h) (Or.inl ⟨by rfl, ?_⟩) hS ?_
          rotate_left 1
          · intro w' hw'
            obtain ⟨⟨c0, c1⟩, c2, c3, c4⟩ := HCl.out w' hw'
            have hcb := HCw.out w' hw'
            go_simp
            all_goals with_reducible rfl
          try simp only [Act.put, List.setIfInBounds_toArray, List.set_cons_zero, List.set_cons_succ]
          refine wpAnyH_take (i := 28) (oi := ⟨some 47, _, _, _, _, _⟩) (v := ?_) rfl (by kernel_rfl) (by kernel_rfl) (by kernel_rfl) (fun _ _ _ h => h) (Or.inl ⟨by rfl, ?_⟩) hS ?_
          rotate_left 1
          · intro w' hw'
            obtain ⟨⟨c0, c1⟩, c2, c3, c4⟩ := HCl.out w' hw'
            have hcb := HCw.out w' hw'
            go_simp
            all_goals with_reducible rfl
          try simp only [Act.put, List.setIfInBounds_toArray, List.set_cons_zero, List.set_cons_succ]
          refine wpAnyH_ready (rs := [24]) (by kernel_rfl) (by simp) ?_
          refine AllReadyH.cons (o := ⟨some 43, _, _, _, _, _⟩) rfl (fun K hK => ?_) AllReadyH.nil
          go_simp
          go_at_call 11
          refine (HRf.out _ hS).mono ?_
          rintro e w7 ⟨rfl, hb7⟩
          refine hK.out _ _ (hS.trans (hb7.mono hS.size)) (fun hS => ?_)
          clear hK K
          try simp only [Act.put, List.setIfInBounds_toArray, List.set_cons_zero, List.set_cons_succ]
          refine wpAnyH_ready (rs := [25]) (by kernel_rfl) (by simp) ?_
          refine AllReadyH.cons (o := ⟨some 44, _, _, _, _, _⟩) rfl (fun K hK => ?_) AllReadyH.nil
          go_simp
          go_at_call 10
          refine (HRv.out _ hS).mono ?_
          rintro e w7 ⟨v8, rfl, hr8, hb7⟩
          have hcv8 := row_conv hr8 rfl
          obtain ⟨A8, c8, rfl, -⟩ := row_slice hr8
          refine hK.out _ _ (hS.trans (hb7.mono hS.size)) (fun hS => ?_)
          clear hK K
          try simp only [Act.put, List.setIfInBounds_toArray, List.set_cons_zero, List.set_cons_succ]
          refine wpAnyH_ready (rs := [26]) (by kernel_rfl) (by simp) ?_
          refine AllReadyH.cons (o := ⟨some 45, _, _, _, _, _⟩) rfl (fun K hK => ?_) AllReadyH.nil
          go_simp
          refine hK.out _ _ hS (fun hS => ?_)
          clear hK K
          try simp only [Act.put, List.setIfInBounds_toArray, List.set_cons_zero, List.set_cons_succ]
          refine wpAnyH_take (i := 29) (oi := ⟨some 48, _, _, _, _, _⟩) (v := ?_) rfl (by kernel_rfl) (by kernel_rfl) (by kernel_rfl) (fun _ _ _ h => h) (Or.inl ⟨by rfl, ?_⟩) hS ?_
          rotate_left 1
          · intro w' hw'
            obtain ⟨⟨c0, c1⟩, c2, c3, c4⟩ := HCl.out w' hw'
            have hcb := HCw.out w' hw'
            go_simp
            all_goals with_reducible rfl
          try simp only [Act.put, List.setIfInBounds_toArray, List.set_cons_zero, List.set_cons_succ]
          refine wpAnyH_take (i := 30) (oi := ⟨some 49, _, _, _, _, _⟩) (v := ?_) rfl (by kernel_rfl) (by kernel_rfl) (by kernel_rfl) (fun _ _ _ h => h) (Or.inl ⟨by rfl, ?_⟩) hS ?_
          rotate_left 1
          · intro w' hw'
            obtain ⟨⟨c0, c1⟩, c2, c3, c4⟩ := HCl.out w' hw'
            have hcb := HCw.out w' hw'
            go_simp
            all_goals with_reducible rfl
          try simp only [Act.put, List.setIfInBounds_toArray, List.set_cons_zero, List.set_cons_succ]
          refine wpAnyH_take (i := 31) (oi := ⟨some 50, _, _, _, _, _⟩) (v := ?_) rfl (by kernel_rfl) (by kernel_rfl) (by kernel_rfl) (fun _ _ _ h => h) (Or.inl ⟨by rfl, ?_⟩) hS ?_
          rotate_left 1
          · intro w' hw'
            obtain ⟨⟨c0, c1⟩, c2, c3, c4⟩ := HCl.out w' hw'
            have hcb := HCw.out w' hw'
            go_simp
            all_goals with_reducible rfl
          try simp only [Act.put, List.setIfInBounds_toArray, List.set_cons_zero, List.set_cons_succ]
          refine wpAnyH_take (i := 32) (oi := ⟨some 51, _, _, _, _, _⟩) (v := ?_) rfl (by kernel_rfl) (by kernel_rfl) (by kernel_rfl) (fun _ _ _ h => h) (Or.inl ⟨by rfl, ?_⟩) hS ?_
          rotate_left 1
          · intro w' hw'
            obtain ⟨⟨c0, c1⟩, c2, c3, c4⟩ := HCl.out w' hw'
            have hcb := HCw.out w' hw'
            go_simp
            all_goals with_reducible rfl
          try simp only [Act.put, List.setIfInBounds_toArray, List.set_cons_zero, List.set_cons_succ]
          refine wpAnyH_done (by kernel_rfl) ?_ _
          go_wp2_with fail
          go_meet
          exact ⟨rfl, hS⟩
        · have hd2' : (!b2 && r2.isEmpty) = false := by
            cases b2
            · cases r2
              · exact absurd ⟨rfl, rfl⟩ hd2
              · rfl
            · rfl
          have HD2 := hide (fun w' (h : Below W5.heap.size W5 w') => (done_any w' (HI4b.out.below h)).mono fun e w1 (k : e = .returned (.bool (!b2 && r2.isEmpty)) ∧ w' = w1) => (⟨by rw [k.1, hd2'], k.2⟩ : e = .returned (.bool false) ∧ w' = w1))
          clear hd2 hd2'
          clear HAw HB1 HN HCb HI1 HL1 HI1b HI2 HL2 HTv HI3 HI2b HL3 HTn HVv HBt HGt HI4 HI3b HL4 HTn4 HBv HGv HSz HB5 HI4b HI3c HTn5 HW5 HW5s hs1 hl1 hs2 hl2 hs3 hs4 hg1 hg2 h10
          refine wp_region_held_drew (S := fun w' => Below W5.heap.size W5 w') (by kernel_rfl) ((Below.refl _ _).drew) (fun hS => ?_)
          refine wpAnyH_take (i := 0) (oi := ⟨some 19, _, _, _, _, _⟩) (v := ?_) rfl (by kernel_rfl) (by kernel_rfl) (by kernel_rfl) (fun _ _ _ h => h) (Or.inl ⟨by rfl, ?_⟩) hS ?_
          rotate_left 1
          · intro w' hw'
            obtain ⟨⟨c0, c1⟩, c2, c3, c4⟩ := HCl.out w' hw'
            have hcb := HCw.out w' hw'
            go_simp
            all_goals with_reducible rfl
          try simp only [Act.put, List.setIfInBounds_toArray, List.set_cons_zero, List.set_cons_succ]
          refine wpAnyH_ready (rs := [1]) (by kernel_rfl) (by simp) ?_
          refine AllReadyH.cons (o := ⟨some 20, _, _, _, _, _⟩) rfl (fun K hK => ?_) AllReadyH.nil
          go_simp
          go_at_call 19
          refine (HD1.out _ hS).mono ?_
          rintro e w7 ⟨rfl, rfl⟩
          refine hK.out _ _ (hS) (fun hS => ?_)
          clear hK K
          try simp only [Act.put, List.setIfInBounds_toArray, List.set_cons_zero, List.set_cons_succ]
          refine wpAnyH_take (i := 2) (oi := ⟨some 21, _, _, _, _, _⟩) (v := ?_) rfl (by kernel_rfl) (by kernel_rfl) (by kernel_rfl) (fun _ _ _ h => h) (Or.inl ⟨by rfl, ?_⟩) hS ?_
          rotate_left 1
          · intro w' hw'
            obtain ⟨⟨c0, c1⟩, c2, c3, c4⟩ := HCl.out w' hw'
            have hcb := HCw.out w' hw'
            go_simp
            all_goals with_reducible rfl
          try simp only [Act.put, List.setIfInBounds_toArray, List.set_cons_zero, List.set_cons_succ]
          refine wpAnyH_take (i := 3) (oi := ⟨some 22, _, _, _, _, _⟩) (v := ?_) rfl (by kernel_rfl) (by kernel_rfl) (by kernel_rfl) (fun _ _ _ h => h) (Or.inl ⟨by rfl, ?_⟩) hS ?_
          rotate_left 1
          · intro w' hw'
            obtain ⟨⟨c0, c1⟩, c2, c3, c4⟩ := HCl.out w' hw'
            have hcb := HCw.out w' hw'
            go_simp
            all_goals with_reducible rfl
          try simp only [Act.put, List.setIfInBounds_toArray, List.set_cons_zero, List.set_cons_succ]
          refine wpAnyH_ready (rs := [4]) (by kernel_rfl) (by simp) ?_
          refine AllReadyH.cons (o := ⟨some 23, _, _, _, _, _⟩) rfl (fun K hK => ?_) AllReadyH.nil
          go_simp
          go_at_call 6
          refine (HCk.out _ hS).mono ?_
          rintro e w7 ⟨rfl, hb7⟩
          refine hK.out _ _ (hS.trans (hb7.mono hS.size)) (fun hS => ?_)
          clear hK K
          try simp only [Act.put, List.setIfInBounds_toArray, List.set_cons_zero, List.set_cons_succ]
          refine wpAnyH_take (i := 5) (oi := ⟨some 24, _, _, _, _, _⟩) (v := ?_) rfl (by kernel_rfl) (by kernel_rfl) (by kernel_rfl) (fun _ _ _ h => h) (Or.inl ⟨by rfl, ?_⟩) hS ?_
          rotate_left 1
          · intro w' hw'
            obtain ⟨⟨c0, c1⟩, c2, c3, c4⟩ := HCl.out w' hw'
            have hcb := HCw.out w' hw'
            go_simp
            all_goals with_reducible rfl
          try simp only [Act.put, List.setIfInBounds_toArray, List.set_cons_zero, List.set_cons_succ]
          refine wpAnyH_take (i := 6) (oi := ⟨some 25, _, _, _, _, _⟩) (v := ?_) rfl (by kernel_rfl) (by kernel_rfl) (by kernel_rfl) (fun _ _ _ h => h) (Or.inl ⟨by rfl, ?_⟩) hS ?_
          rotate_left 1
          · intro w' hw'
            obtain ⟨⟨c0, c1⟩, c2, c3, c4⟩ := HCl.out w' hw'
            have hcb := HCw.out w' hw'
            go_simp
            all_goals with_reducible rfl
          try simp only [Act.put, List.setIfInBounds_toArray, List.set_cons_zero, List.set_cons_succ]
          refine wpAnyH_take (i := 7) (oi := ⟨some 26, _, _, _, _, _⟩) (v := ?_) rfl (by kernel_rfl) (by kernel_rfl) (by kernel_rfl) (fun _ _ _ h => h) (Or.inl ⟨by rfl, ?_⟩) hS ?_
          rotate_left 1
          · intro w' hw'
            obtain ⟨⟨c0, c1⟩, c2, c3, c4⟩ := HCl.out w' hw'
            have hcb := HCw.out w' hw'
            go_simp
            all_goals with_reducible rfl
          try simp only [Act.put, List.setIfInBounds_toArray, List.set_cons_zero, List.set_cons_succ]
          refine wpAnyH_take (i := 10) (oi := ⟨some 29, _, _, _, _, _⟩) (v := ?_) rfl (by kernel_rfl) (by kernel_rfl) (by kernel_rfl) (fun _ _ _ h => h) (Or.inl ⟨by rfl, ?_⟩) hS ?_
          rotate_left 1
          · intro w' hw'
            obtain ⟨⟨c0, c1⟩, c2, c3, c4⟩ := HCl.out w' hw'
            have hcb := HCw.out w' hw'
            go_simp
            all_goals with_reducible rfl
          try simp only [Act.put, List.setIfInBounds_toArray, List.set_cons_zero, List.set_cons_succ]
          refine wpAnyH_take (i := 11) (oi := ⟨some 30, _, _, _, _, _⟩) (v := ?_) rfl (by kernel_rfl) (by kernel_rfl) (by kernel_rfl) (fun _ _ _ h => h) (Or.inl ⟨by rfl, ?_⟩) hS ?_
          rotate_left 1
          · intro w' hw'
            obtain ⟨⟨c0, c1⟩, c2, c3, c4⟩ := HCl.out w' hw'
            have hcb := HCw.out w' hw'
            go_simp
            all_goals with_reducible rfl
          try simp only [Act.put, List.setIfInBounds_toArray, List.set_cons_zero, List.set_cons_succ]
          refine wpAnyH_ready (rs := [8]) (by kernel_rfl) (by simp) ?_
          refine AllReadyH.cons (o := ⟨some 27, _, _, _, _, _⟩) rfl (fun K hK => ?_) AllReadyH.nil
          go_simp
          go_at_call 14
          refine (HTb.out _ hS).mono ?_
          rintro e w7 ⟨v7, rfl, hr7, hb7⟩
          have hcv7 := row_conv hr7 rfl
          obtain ⟨A7, c7, rfl, -⟩ := row_slice hr7
          refine hK.out _ _ (hS.trans (hb7.mono hS.size)) (fun hS => ?_)
          clear hK K
          try simp only [Act.put, List.setIfInBounds_toArray, List.set_cons_zero, List.set_cons_succ]
          refine wpAnyH_ready (rs := [9]) (by kernel_rfl) (by simp) ?_
          refine AllReadyH.cons (o := ⟨some 28, _, _, _, _, _⟩) rfl (fun K hK => ?_) AllReadyH.nil
          go_simp
          refine hK.out _ _ hS (fun hS => ?_)
          clear hK K
          try simp only [Act.put, List.setIfInBounds_toArray, List.set_cons_zero, List.set_cons_succ]
          refine wpAnyH_take (i := 12) (oi := ⟨some 31, _, _, _, _, _⟩) (v := ?_) rfl (by kernel_rfl) (by kernel_rfl) (by kernel_rfl) (fun _ _ _ h => h) (Or.inl ⟨by rfl, ?_⟩) hS ?_
          rotate_left 1
          · intro w' hw'
            obtain ⟨⟨c0, c1⟩, c2, c3, c4⟩ := HCl.out w' hw'
            have hcb := HCw.out w' hw'
            go_simp
            all_goals with_reducible rfl
          try simp only [Act.put, List.setIfInBounds_toArray, List.set_cons_zero, List.set_cons_succ]
          refine wpAnyH_take (i := 13) (oi := ⟨some 32, _, _, _, _, _⟩) (v := ?_) rfl (by kernel_rfl) (by kernel_rfl) (by kernel_rfl) (fun _ _ _ h => h) (Or.inl ⟨by rfl, ?_⟩) hS ?_
          rotate_left 1
          · intro w' hw'
            obtain ⟨⟨c0, c1⟩, c2, c3, c4⟩ := HCl.out w' hw'
            have hcb := HCw.out w' hw'
            go_simp
            all_goals with_reducible rfl
          try simp only [Act.put, List.setIfInBounds_toArray, List.set_cons_zero, List.set_cons_succ]
          refine wpAnyH_take (i := 14) (oi := ⟨some 33, _, _, _, _, _⟩) (v := ?_) rfl (by kernel_rfl) (by kernel_rfl) (by kernel_rfl) (fun _ _ _ h => h) (Or.inl ⟨by rfl, ?_⟩) hS ?_
          rotate_left 1
          · intro w' hw'
            obtain ⟨⟨c0, c1⟩, c2, c3, c4⟩ := HCl.out w' hw'
            have hcb := HCw.out w' hw'
            go_simp
            all_goals with_reducible rfl
          try simp only [Act.put, List.setIfInBounds_toArray, List.set_cons_zero, List.set_cons_succ]
          refine wpAnyH_take (i := 15) (oi := ⟨some 34, _, _, _, _, _⟩) (v := ?_) rfl (by kernel_rfl) (by kernel_rfl) (by kernel_rfl) (fun _ _ _ h => h) (Or.inl ⟨by rfl, ?_⟩) hS ?_
          rotate_left 1
          · intro w' hw'
            obtain ⟨⟨c0, c1⟩, c2, c3, c4⟩ := HCl.out w' hw'
            have hcb := HCw.out w' hw'
            go_simp
            all_goals with_reducible rfl
          try simp only [Act.put, List.setIfInBounds_toArray, List.set_cons_zero, List.set_cons_succ]
          refine wpAnyH_take (i := 16) (oi := ⟨some 35, _, _, _, _, _⟩) (v := ?_) rfl (by kernel_rfl) (by kernel_rfl) (by kernel_rfl) (fun _ _ _ h => h) (Or.inl ⟨by rfl, ?_⟩) hS ?_
          rotate_left 1
          · intro w' hw'
            obtain ⟨⟨c0, c1⟩, c2, c3, c4⟩ := HCl.out w' hw'
            have hcb := HCw.out w' hw'
            go_simp
            all_goals with_reducible rfl
          try simp only [Act.put, List.setIfInBounds_toArray, List.set_cons_zero, List.set_cons_succ]
          refine wpAnyH_ready (rs := [17]) (by kernel_rfl) (by simp) ?_
          refine AllReadyH.cons (o := ⟨some 36, _, _, _, _, _⟩) rfl (fun K hK => ?_) AllReadyH.nil
          go_simp
          go_at_call 19
          refine (HD2.out _ hS).mono ?_
          rintro e w7 ⟨rfl, rfl⟩
          refine hK.out _ _ (hS) (fun hS => ?_)
          clear hK K
          try simp only [Act.put, List.setIfInBounds_toArray, List.set_cons_zero, List.set_cons_succ]
          refine wpAnyH_take (i := 18) (oi := ⟨some 37, _, _, _, _, _⟩) (v := ?_) rfl (by kernel_rfl) (by kernel_rfl) (by kernel_rfl) (fun _ _ _ h => h) (Or.inl ⟨by rfl, ?_⟩) hS ?_
          rotate_left 1
          · intro w' hw'
            obtain ⟨⟨c0, c1⟩, c2, c3, c4⟩ := HCl.out w' hw'
            have hcb := HCw.out w' hw'
            go_simp
            all_goals with_reducible rfl
          try simp only [Act.put, List.setIfInBounds_toArray, List.set_cons_zero, List.set_cons_succ]
          refine wpAnyH_take (i := 19) (oi := ⟨some 38, _, _, _, _, _⟩) (v := undef) rfl (by kernel_rfl) (by kernel_rfl) (by kernel_rfl) (fun _ _ _ h => h) (Or.inr ⟨by rfl, rfl⟩) hS ?_
          try simp only [Act.put, List.setIfInBounds_toArray, List.set_cons_zero, List.set_cons_succ]
          refine wpAnyH_take (i := 20) (oi := ⟨some 39, _, _, _, _, _⟩) (v := undef) rfl (by kernel_rfl) (by kernel_rfl) (by kernel_rfl) (fun _ _ _ h => h) (Or.inr ⟨by rfl, rfl⟩) hS ?_
          try simp only [Act.put, List.setIfInBounds_toArray, List.set_cons_zero, List.set_cons_succ]
          refine wpAnyH_take (i := 21) (oi := ⟨some 40, _, _, _, _, _⟩) (v := undef) rfl (by kernel_rfl) (by kernel_rfl) (by kernel_rfl) (fun _ _ _ h => h) (Or.inr ⟨by rfl, rfl⟩) hS ?_
          try simp only [Act.put, List.setIfInBounds_toArray, List.set_cons_zero, List.set_cons_succ]
          refine wpAnyH_take (i := 22) (oi := ⟨some 41, _, _, _, _, _⟩) (v := undef) rfl (by kernel_rfl) (by kernel_rfl) (by kernel_rfl) (fun _ _ _ h => h) (Or.inr ⟨by rfl, rfl⟩) hS ?_
          try simp only [Act.put, List.setIfInBounds_toArray, List.set_cons_zero, List.set_cons_succ]
          refine wpAnyH_take (i := 23) (oi := ⟨some 42, _, _, _, _, _⟩) (v := undef) rfl (by kernel_rfl) (by kernel_rfl) (by kernel_rfl) (fun _ _ _ h => h) (Or.inr ⟨by rfl, rfl⟩) hS ?_
          try simp only [Act.put, List.setIfInBounds_toArray, List.set_cons_zero, List.set_cons_succ]
          refine wpAnyH_take (i := 24) (oi := ⟨some 43, _, _, _, _, _⟩) (v := undef) rfl (by kernel_rfl) (by kernel_rfl) (by kernel_rfl) (fun _ _ _ h => h) (Or.inr ⟨by rfl, rfl⟩) hS ?_
          try simp only [Act.put, List.setIfInBounds_toArray, List.set_cons_zero, List.set_cons_succ]
          refine wpAnyH_take (i := 25) (oi := ⟨some 44, _, _, _, _, _⟩) (v := undef) rfl (by kernel_rfl) (by kernel_rfl) (by kernel_rfl) (fun _ _ _ h => h) (Or.inr ⟨by rfl, rfl⟩) hS ?_
          try simp only [Act.put, List.setIfInBounds_toArray, List.set_cons_zero, List.set_cons_succ]
          refine wpAnyH_take (i := 26) (oi := ⟨some 45, _, _, _, _, _⟩) (v := undef) rfl (by kernel_rfl) (by kernel_rfl) (by kernel_rfl) (fun _ _ _ h => h) (Or.inr ⟨by rfl, rfl⟩) hS ?_
          try simp only [Act.put, List.setIfInBounds_toArray, List.set_cons_zero, List.set_cons_succ]
          refine wpAnyH_take (i := 27) (oi := ⟨some 46, _, _, _, _, _⟩) (v := undef) rfl (by kernel_rfl) (by kernel_rfl) (by kernel_rfl) (fun _ _ _ h => h) (Or.inr ⟨by rfl, rfl⟩) hS ?_
          try simp only [Act.put, List.setIfInBounds_toArray, List.set_cons_zero, List.set_cons_succ]
          refine wpAnyH_take (i := 28) (oi := ⟨some 47, _, _, _, _, _⟩) (v := undef) rfl (by kernel_rfl) (by kernel_rfl) (by kernel_rfl) (fun _ _ _ h => h) (Or.inr ⟨by rfl, rfl⟩) hS ?_
          try simp only [Act.put, List.setIfInBounds_toArray, List.set_cons_zero, List.set_cons_succ]
          refine wpAnyH_take (i := 29) (oi := ⟨some 48, _, _, _, _, _⟩) (v := undef) rfl (by kernel_rfl) (by kernel_rfl) (by kernel_rfl) (fun _ _ _ h => h) (Or.inr ⟨by rfl, rfl⟩) hS ?_
          try simp only [Act.put, List.setIfInBounds_toArray, List.set_cons_zero, List.set_cons_succ]
          refine wpAnyH_take (i := 30) (oi := ⟨some 49, _, _, _, _, _⟩) (v := undef) rfl (by kernel_rfl) (by kernel_rfl) (by kernel_rfl) (fun _ _ _ h => h) (Or.inr ⟨by rfl, rfl⟩) hS ?_
          try simp only [Act.put, List.setIfInBounds_toArray, List.set_cons_zero, List.set_cons_succ]
          refine wpAnyH_take (i := 31) (oi := ⟨some 50, _, _, _, _, _⟩) (v := ?_) rfl (by kernel_rfl) (by kernel_rfl) (by kernel_rfl) (fun _ _ _ h => h) (Or.inl ⟨by rfl, ?_⟩) hS ?_
          rotate_left 1
          · intro w' hw'
            obtain ⟨⟨c0, c1⟩, c2, c3, c4⟩ := HCl.out w' hw'
            have hcb := HCw.out w' hw'
            go_simp
            all_goals with_reducible rfl
          try simp only [Act.put, List.setIfInBounds_toArray, List.set_cons_zero, List.set_cons_succ]
          refine wpAnyH_take (i := 32) (oi := ⟨some 51, _, _, _, _, _⟩) (v := ?_) rfl (by kernel_rfl) (by kernel_rfl) (by kernel_rfl) (fun _ _ _ h => h) (Or.inl ⟨by rfl, ?_⟩) hS ?_
          rotate_left 1
          · intro w' hw'
            obtain ⟨⟨c0, c1⟩, c2, c3, c4⟩ := HCl.out w' hw'
            have hcb := HCw.out w' hw'
            go_simp
            all_goals with_reducible rfl
          try simp only [Act.put, List.setIfInBounds_toArray, List.set_cons_zero, List.set_cons_succ]
          refine wpAnyH_done (by kernel_rfl) ?_ _
          go_wp2_with fail
          go_meet
          exact ⟨rfl, hS⟩
      · have hd1' : (!b1 && r1.isEmpty) = false := by
          cases b1
          · cases r1
            · exact absurd ⟨rfl, rfl⟩ hd1
            · rfl
          · rfl
        have HD1 := hide (fun w' (h : Below W5.heap.size W5 w') => (done_any w' (HI3c.out.below h)).mono fun e w1 (k : e = .returned (.bool (!b1 && r1.isEmpty)) ∧ w' = w1) => (⟨by rw [k.1, hd1'], k.2⟩ : e = .returned (.bool false) ∧ w' = w1))
        clear hd1 hd1'
        by_cases hd2 : b2 = false ∧ r2 = []
        · obtain ⟨rfl, rfl⟩ := hd2
          obtain ⟨q1, q2⟩ := HGv.out rfl
          rw [List.append_nil] at q1
          have HD2 := hide (fun w' (h : Below W5.heap.size W5 w') => done_any w' (HI4b.out.below h))
          have HRt := hide (fun w' (_ : Below W5.heap.size W5 w') => (right_any k0 n0 s0 w' HSz.out).mono fun e w1 (k : e = .returned (.bool (rightV k0 n0 s0)) ∧ Below w'.heap.size w' w1) => (⟨by rw [k.1, q2.1], k.2⟩ : e = .returned (.bool true) ∧ Below w'.heap.size w' w1))
          have HRf := hide (fun w' (_ : Below W5.heap.size W5 w') => ref_any k0 n0 s0 w')
          have HRv := hide (fun w' (_ : Below W5.heap.size W5 w') => refValue_any (k0, n0, s0) w' q2)
          unfold OwnRes at HRv
          rw [← q1] at HRv
          clear q1 q2
          clear HAw HB1 HN HCb HI1 HL1 HI1b HI2 HL2 HTv HI3 HI2b HL3 HTn HVv HBt HGt HI4 HI3b HL4 HTn4 HBv HGv HSz HB5 HI4b HI3c HTn5 HW5 HW5s hs1 hl1 hs2 hl2 hs3 hs4 hg1 hg2 h10
          refine wp_region_held_drew (S := fun w' => Below W5.heap.size W5 w') (by kernel_rfl) ((Below.refl _ _).drew) (fun hS => ?_)
          refine wpAnyH_take (i := 0) (oi := ⟨some 19, _, _, _, _, _⟩) (v := ?_) rfl (by kernel_rfl) (by kernel_rfl) (by kernel_rfl) (fun _ _ _ h => h) (Or.inl ⟨by rfl, ?_⟩) hS ?_
          rotate_left 1
          · intro w' hw'
            obtain ⟨⟨c0, c1⟩, c2, c3, c4⟩ := HCl.out w' hw'
            have hcb := HCw.out w' hw'
            go_simp
            all_goals with_reducible rfl
          try simp only [Act.put, List.setIfInBounds_toArray, List.set_cons_zero, List.set_cons_succ]
          refine wpAnyH_ready (rs := [1]) (by kernel_rfl) (by simp) ?_
          refine AllReadyH.cons (o := ⟨some 20, _, _, _, _, _⟩) rfl (fun K hK => ?_) AllReadyH.nil
          go_simp
          go_at_call 19
          refine (HD1.out _ hS).mono ?_
          rintro e w7 ⟨rfl, rfl⟩
          refine hK.out _ _ (hS) (fun hS => ?_)
          clear hK K
          try simp only [Act.put, List.setIfInBounds_toArray, List.set_cons_zero, List.set_cons_succ]
          refine wpAnyH_take (i := 2) (oi := ⟨some 21, _, _, _, _, _⟩) (v := ?_) rfl (by kernel_rfl) (by kernel_rfl) (by kernel_rfl) (fun _ _ _ h => h) (Or.inl ⟨by rfl, ?_⟩) hS ?_
          rotate_left 1
          · intro w' hw'
            obtain ⟨⟨c0, c1⟩, c2, c3, c4⟩ := HCl.out w' hw'
            have hcb := HCw.out w' hw'
            go_simp
            all_goals with_reducible rfl
          try simp only [Act.put, List.setIfInBounds_toArray, List.set_cons_zero, List.set_cons_succ]
          refine wpAnyH_take (i := 3) (oi := ⟨some 22, _, _, _, _, _⟩) (v := undef) rfl (by kernel_rfl) (by kernel_rfl) (by kernel_rfl) (fun _ _ _ h => h) (Or.inr ⟨by rfl, rfl⟩) hS ?_
          try simp only [Act.put, List.setIfInBounds_toArray, List.set_cons_zero, List.set_cons_succ]
          refine wpAnyH_take (i := 4) (oi := ⟨some 23, _, _, _, _, _⟩) (v := undef) rfl (by kernel_rfl) (by kernel_rfl) (by kernel_rfl) (fun _ _ _ h => h) (Or.inr ⟨by rfl, rfl⟩) hS ?_
          try simp only [Act.put, List.setIfInBounds_toArray, List.set_cons_zero, List.set_cons_succ]
          refine wpAnyH_take (i := 5) (oi := ⟨some 24, _, _, _, _, _⟩) (v := undef) rfl (by kernel_rfl) (by kernel_rfl) (by kernel_rfl) (fun _ _ _ h => h) (Or.inr ⟨by rfl, rfl⟩) hS ?_
          try simp only [Act.put, List.setIfInBounds_toArray, List.set_cons_zero, List.set_cons_succ]
          refine wpAnyH_take (i := 6) (oi := ⟨some 25, _, _, _, _, _⟩) (v := undef) rfl (by kernel_rfl) (by kernel_rfl) (by kernel_rfl) (fun _ _ _ h => h) (Or.inr ⟨by rfl, rfl⟩) hS ?_
          try simp only [Act.put, List.setIfInBounds_toArray, List.set_cons_zero, List.set_cons_succ]
          refine wpAnyH_take (i := 7) (oi := ⟨some 26, _, _, _, _, _⟩) (v := undef) rfl (by kernel_rfl) (by kernel_rfl) (by kernel_rfl) (fun _ _ _ h => h) (Or.inr ⟨by rfl, rfl⟩) hS ?_
          try simp only [Act.put, List.setIfInBounds_toArray, List.set_cons_zero, List.set_cons_succ]
          refine wpAnyH_take (i := 8) (oi := ⟨some 27, _, _, _, _, _⟩) (v := undef) rfl (by kernel_rfl) (by kernel_rfl) (by kernel_rfl) (fun _ _ _ h => h) (Or.inr ⟨by rfl, rfl⟩) hS ?_
          try simp only [Act.put, List.setIfInBounds_toArray, List.set_cons_zero, List.set_cons_succ]
          refine wpAnyH_take (i := 9) (oi := ⟨some 28, _, _, _, _, _⟩) (v := undef) rfl (by kernel_rfl) (by kernel_rfl) (by kernel_rfl) (fun _ _ _ h => h) (Or.inr ⟨by rfl, rfl⟩) hS ?_
          try simp only [Act.put, List.setIfInBounds_toArray, List.set_cons_zero, List.set_cons_succ]
          refine wpAnyH_take (i := 10) (oi := ⟨some 29, _, _, _, _, _⟩) (v := undef) rfl (by kernel_rfl) (by kernel_rfl) (by kernel_rfl) (fun _ _ _ h => h) (Or.inr ⟨by rfl, rfl⟩) hS ?_
          try simp only [Act.put, List.setIfInBounds_toArray, List.set_cons_zero, List.set_cons_succ]
          refine wpAnyH_take (i := 11) (oi := ⟨some 30, _, _, _, _, _⟩) (v := undef) rfl (by kernel_rfl) (by kernel_rfl) (by kernel_rfl) (fun _ _ _ h => h) (Or.inr ⟨by rfl, rfl⟩) hS ?_
          try simp only [Act.put, List.setIfInBounds_toArray, List.set_cons_zero, List.set_cons_succ]
          refine wpAnyH_take (i := 12) (oi := ⟨some 31, _, _, _, _, _⟩) (v := undef) rfl (by kernel_rfl) (by kernel_rfl) (by kernel_rfl) (fun _ _ _ h => h) (Or.inr ⟨by rfl, rfl⟩) hS ?_
          try simp only [Act.put, List.setIfInBounds_toArray, List.set_cons_zero, List.set_cons_succ]
          refine wpAnyH_take (i := 13) (oi := ⟨some 32, _, _, _, _, _⟩) (v := undef) rfl (by kernel_rfl) (by kernel_rfl) (by kernel_rfl) (fun _ _ _ h => h) (Or.inr ⟨by rfl, rfl⟩) hS ?_
          try simp only [Act.put, List.setIfInBounds_toArray, List.set_cons_zero, List.set_cons_succ]
          refine wpAnyH_take (i := 14) (oi := ⟨some 33, _, _, _, _, _⟩) (v := ?_) rfl (by kernel_rfl) (by kernel_rfl) (by kernel_rfl) (fun _ _ _ h => h) (Or.inl ⟨by rfl, ?_⟩) hS ?_
          rotate_left 1
          · intro w' hw'
            obtain ⟨⟨c0, c1⟩, c2, c3, c4⟩ := HCl.out w' hw'
            have hcb := HCw.out w' hw'
            go_simp
            all_goals with_reducible rfl
          try simp only [Act.put, List.setIfInBounds_toArray, List.set_cons_zero, List.set_cons_succ]
          refine wpAnyH_take (i := 15) (oi := ⟨some 34, _, _, _, _, _⟩) (v := ?_) rfl (by kernel_rfl) (by kernel_rfl) (by kernel_rfl) (fun _ _ _ h => h) (Or.inl ⟨by rfl, ?_⟩) hS ?_
          rotate_left 1
          · intro w' hw'
            obtain ⟨⟨c0, c1⟩, c2, c3, c4⟩ := HCl.out w' hw'
            have hcb := HCw.out w' hw'
            go_simp
            all_goals with_reducible rfl
          try simp only [Act.put, List.setIfInBounds_toArray, List.set_cons_zero, List.set_cons_succ]
          refine wpAnyH_take (i := 16) (oi := ⟨some 35, _, _, _, _, _⟩) (v := ?_) rfl (by kernel_rfl) (by kernel_rfl) (by kernel_rfl) (fun _ _ _ h => h) (Or.inl ⟨by rfl, ?_⟩) hS ?_
          rotate_left 1
          · intro w' hw'
            obtain ⟨⟨c0, c1⟩, c2, c3, c4⟩ := HCl.out w' hw'
            have hcb := HCw.out w' hw'
            go_simp
            all_goals with_reducible rfl
          try simp only [Act.put, List.setIfInBounds_toArray, List.set_cons_zero, List.set_cons_succ]
          refine wpAnyH_ready (rs := [17]) (by kernel_rfl) (by simp) ?_
          refine AllReadyH.cons (o := ⟨some 36, _, _, _, _, _⟩) rfl (fun K hK => ?_) AllReadyH.nil
          go_simp
          go_at_call 19
          refine (HD2.out _ hS).mono ?_
          rintro e w7 ⟨rfl, rfl⟩
          refine hK.out _ _ (hS) (fun hS => ?_)
          clear hK K
          try simp only [Act.put, List.setIfInBounds_toArray, List.set_cons_zero, List.set_cons_succ]
          refine wpAnyH_take (i := 18) (oi := ⟨some 37, _, _, _, _, _⟩) (v := ?_) rfl (by kernel_rfl) (by kernel_rfl) (by kernel_rfl) (fun _ _ _ h => h) (Or.inl ⟨by rfl, ?_⟩) hS ?_
          rotate_left 1
          · intro w' hw'
            obtain ⟨⟨c0, c1⟩, c2, c3, c4⟩ := HCl.out w' hw'
            have hcb := HCw.out w' hw'
            go_simp
            all_goals with_reducible rfl
          try simp only [Act.put, List.setIfInBounds_toArray, List.set_cons_zero, List.set_cons_succ]
          refine wpAnyH_take (i := 19) (oi := ⟨some 38, _, _, _, _, _⟩) (v := ?_) rfl (by kernel_rfl) (by kernel_rfl) (by kernel_rfl) (fun _ _ _ h => h) (Or.inl ⟨by rfl, ?_⟩) hS ?_
          rotate_left 1
          · intro w' hw'
            obtain ⟨⟨c0, c1⟩, c2, c3, c4⟩ := HCl.out w' hw'
            have hcb := HCw.out w' hw'
            go_simp
            all_goals with_reducible rfl
          try simp only [Act.put, List.setIfInBounds_toArray, List.set_cons_zero, List.set_cons_succ]
          refine wpAnyH_ready (rs := [20]) (by kernel_rfl) (by simp) ?_
          refine AllReadyH.cons (o := ⟨some 39, _, _, _, _, _⟩) rfl (fun K hK => ?_) AllReadyH.nil
          go_simp
          go_at_call 8
          refine (HRt.out _ hS).mono ?_
          rintro e w7 ⟨rfl, hb7⟩
          refine hK.out _ _ (hS.trans (hb7.mono hS.size)) (fun hS => ?_)
          clear hK K
          try simp only [Act.put, List.setIfInBounds_toArray, List.set_cons_zero, List.set_cons_succ]
          refine wpAnyH_take (i := 21) (oi := ⟨some 40, _, _, _, _, _⟩) (v := ?_) rfl (by kernel_rfl) (by kernel_rfl) (by kernel_rfl) (fun _ _ _ h => h) (Or.inl ⟨by rfl, ?_⟩) hS ?_
          rotate_left 1
          · intro w' hw'
            obtain ⟨⟨c0, c1⟩, c2, c3, c4⟩ := HCl.out w' hw'
            have hcb := HCw.out w' hw'
            go_simp
            all_goals with_reducible rfl
          try simp only [Act.put, List.setIfInBounds_toArray, List.set_cons_zero, List.set_cons_succ]
          refine wpAnyH_take (i := 22) (oi := ⟨some 41, _, _, _, _, _⟩) (v := ?_) rfl (by kernel_rfl) (by kernel_rfl) (by kernel_rfl) (fun _ _ _ h => h) (Or.inl ⟨by rfl, ?_⟩) hS ?_
          rotate_left 1
          · intro w' hw'
            obtain ⟨⟨c0, c1⟩, c2, c3, c4⟩ := HCl.out w' hw'
            have hcb := HCw.out w' hw'
            go_simp
            all_goals with_reducible rfl
          try simp only [Act.put, List.setIfInBounds_toArray, List.set_cons_zero, List.set_cons_succ]
          refine wpAnyH_take (i := 23) (oi := ⟨some 42, _, _, _, _, _⟩) (v := ?_) rfl (by kernel_rfl) (by kernel_rfl) (by kernel_rfl) (fun _ _ _ h => h) (Or.inl ⟨by rfl, ?_⟩) hS ?_
          rotate_left 1
          · intro w' hw'
            obtain ⟨⟨c0, c1⟩, c2, c3, c4⟩ := HCl.out w' hw'
            have hcb := HCw.out w' hw'
            go_simp
            all_goals with_reducible rfl
          try simp only [Act.put, List.setIfInBounds_toArray, List.set_cons_zero, List.set_cons_succ]
          refine wpAnyH_take (i := 27) (oi := ⟨some 46, _, _, _, _, _⟩) (v := ?_) rfl (by kernel_rfl) (by kernel_rfl) (by kernel_rfl) (fun _ _ _ h => h) (Or.inl ⟨by rfl, ?_⟩) hS ?_
          rotate_left 1
          · intro w' hw'
            obtain ⟨⟨c0, c1⟩, c2, c3, c4⟩ := HCl.out w' hw'
            have hcb := HCw.out w' hw'
            go_simp
            all_goals with_reducible rfl
          try simp only [Act.put, List.setIfInBounds_toArray, List.set_cons_zero, List.set_cons_succ]
          refine wpAnyH_take (i := 28) (oi := ⟨some 47, _, _, _, _, _⟩) (v := ?_) rfl (by kernel_rfl) (by kernel_rfl) (by kernel_rfl) (fun _ _ _ h => h) (Or.inl ⟨by rfl, ?_⟩) hS ?_
          rotate_left 1
          · intro w' hw'
            obtain ⟨⟨c0, c1⟩, c2, c3, c4⟩ := HCl.out w' hw'
            have hcb := HCw.out w' hw'
            go_simp
            all_goals with_reducible rfl
          try simp only [Act.put, List.setIfInBounds_toArray, List.set_cons_zero, List.set_cons_succ]
          refine wpAnyH_ready (rs := [24]) (by kernel_rfl) (by simp) ?_
          refine AllReadyH.cons (o := ⟨some 43, _, _, _, _, _⟩) rfl (fun K hK => ?_) AllReadyH.nil
          go_simp
          go_at_call 11
          refine (HRf.out _ hS).mono ?_
          rintro e w7 ⟨rfl, hb7⟩
          refine hK.out _ _ (hS.trans (hb7.mono hS.size)) (fun hS => ?_)
          clear hK K
          try simp only [Act.put, List.setIfInBounds_toArray, List.set_cons_zero, List.set_cons_succ]
          refine wpAnyH_ready (rs := [25]) (by kernel_rfl) (by simp) ?_
          refine AllReadyH.cons (o := ⟨some 44, _, _, _, _, _⟩) rfl (fun K hK => ?_) AllReadyH.nil
          go_simp
          go_at_call 10
          refine (HRv.out _ hS).mono ?_
          rintro e w7 ⟨v8, rfl, hr8, hb7⟩
          have hcv8 := row_conv hr8 rfl
          obtain ⟨A8, c8, rfl, -⟩ := row_slice hr8
          refine hK.out _ _ (hS.trans (hb7.mono hS.size)) (fun hS => ?_)
          clear hK K
          try simp only [Act.put, List.setIfInBounds_toArray, List.set_cons_zero, List.set_cons_succ]
          refine wpAnyH_ready (rs := [26]) (by kernel_rfl) (by simp) ?_
          refine AllReadyH.cons (o := ⟨some 45, _, _, _, _, _⟩) rfl (fun K hK => ?_) AllReadyH.nil
          go_simp
          refine hK.out _ _ hS (fun hS => ?_)
          clear hK K
          try simp only [Act.put, List.setIfInBounds_toArray, List.set_cons_zero, List.set_cons_succ]
          refine wpAnyH_take (i := 29) (oi := ⟨some 48, _, _, _, _, _⟩) (v := ?_) rfl (by kernel_rfl) (by kernel_rfl) (by kernel_rfl) (fun _ _ _ h => h) (Or.inl ⟨by rfl, ?_⟩) hS ?_
          rotate_left 1
          · intro w' hw'
            obtain ⟨⟨c0, c1⟩, c2, c3, c4⟩ := HCl.out w' hw'
            have hcb := HCw.out w' hw'
            go_simp
            all_goals with_reducible rfl
          try simp only [Act.put, List.setIfInBounds_toArray, List.set_cons_zero, List.set_cons_succ]
          refine wpAnyH_take (i := 30) (oi := ⟨some 49, _, _, _, _, _⟩) (v := ?_) rfl (by kernel_rfl) (by kernel_rfl) (by kernel_rfl) (fun _ _ _ h => h) (Or.inl ⟨by rfl, ?_⟩) hS ?_
          rotate_left 1
          · intro w' hw'
            obtain ⟨⟨c0, c1⟩, c2, c3, c4⟩ := HCl.out w' hw'
            have hcb := HCw.out w' hw'
            go_simp
            all_goals with_reducible rfl
          try simp only [Act.put, List.setIfInBounds_toArray, List.set_cons_zero, List.set_cons_succ]
          refine wpAnyH_take (i := 31) (oi := ⟨some 50, _, _, _, _, _⟩) (v := ?_) rfl (by kernel_rfl) (by kernel_rfl) (by kernel_rfl) (fun _ _ _ h => h) (Or.inl ⟨by rfl, ?_⟩) hS ?_
          rotate_left 1
          · intro w' hw'
            obtain ⟨⟨c0, c1⟩, c2, c3, c4⟩ := HCl.out w' hw'
            have hcb := HCw.out w' hw'
            go_simp
            all_goals with_reducible rfl
          try simp only [Act.put, List.setIfInBounds_toArray, List.set_cons_zero, List.set_cons_succ]
          refine wpAnyH_take (i := 32) (oi := ⟨some 51, _, _, _, _, _⟩) (v := ?_) rfl (by kernel_rfl) (by kernel_rfl) (by kernel_rfl) (fun _ _ _ h => h) (Or.inl ⟨by rfl, ?_⟩) hS ?_
          rotate_left 1
          · intro w' hw'
            obtain ⟨⟨c0, c1⟩, c2, c3, c4⟩ := HCl.out w' hw'
            have hcb := HCw.out w' hw'
            go_simp
            all_goals with_reducible rfl
          try simp only [Act.put, List.setIfInBounds_toArray, List.set_cons_zero, List.set_cons_succ]
          refine wpAnyH_done (by kernel_rfl) ?_ _
          go_wp2_with fail
          go_meet
          exact ⟨rfl, hS⟩
        · have hd2' : (!b2 && r2.isEmpty) = false := by
            cases b2
            · cases r2
              · exact absurd ⟨rfl, rfl⟩ hd2
              · rfl
            · rfl
          have HD2 := hide (fun w' (h : Below W5.heap.size W5 w') => (done_any w' (HI4b.out.below h)).mono fun e w1 (k : e = .returned (.bool (!b2 && r2.isEmpty)) ∧ w' = w1) => (⟨by rw [k.1, hd2'], k.2⟩ : e = .returned (.bool false) ∧ w' = w1))
          clear hd2 hd2'
          clear HAw HB1 HN HCb HI1 HL1 HI1b HI2 HL2 HTv HI3 HI2b HL3 HTn HVv HBt HGt HI4 HI3b HL4 HTn4 HBv HGv HSz HB5 HI4b HI3c HTn5 HW5 HW5s hs1 hl1 hs2 hl2 hs3 hs4 hg1 hg2 h10
          refine wp_region_held_drew (S := fun w' => Below W5.heap.size W5 w') (by kernel_rfl) ((Below.refl _ _).drew) (fun hS => ?_)
          refine wpAnyH_take (i := 0) (oi := ⟨some 19, _, _, _, _, _⟩) (v := ?_) rfl (by kernel_rfl) (by kernel_rfl) (by kernel_rfl) (fun _ _ _ h => h) (Or.inl ⟨by rfl, ?_⟩) hS ?_
          rotate_left 1
          · intro w' hw'
            obtain ⟨⟨c0, c1⟩, c2, c3, c4⟩ := HCl.out w' hw'
            have hcb := HCw.out w' hw'
            go_simp
            all_goals with_reducible rfl
          try simp only [Act.put, List.setIfInBounds_toArray, List.set_cons_zero, List.set_cons_succ]
          refine wpAnyH_ready (rs := [1]) (by kernel_rfl) (by simp) ?_
          refine AllReadyH.cons (o := ⟨some 20, _, _, _, _, _⟩) rfl (fun K hK => ?_) AllReadyH.nil
          go_simp
          go_at_call 19
          refine (HD1.out _ hS).mono ?_
          rintro e w7 ⟨rfl, rfl⟩
          refine hK.out _ _ (hS) (fun hS => ?_)
          clear hK K
          try simp only [Act.put, List.setIfInBounds_toArray, List.set_cons_zero, List.set_cons_succ]
          refine wpAnyH_take (i := 2) (oi := ⟨some 21, _, _, _, _, _⟩) (v := ?_) rfl (by kernel_rfl) (by kernel_rfl) (by kernel_rfl) (fun _ _ _ h => h) (Or.inl ⟨by rfl, ?_⟩) hS ?_
          rotate_left 1
          · intro w' hw'
            obtain ⟨⟨c0, c1⟩, c2, c3, c4⟩ := HCl.out w' hw'
            have hcb := HCw.out w' hw'
            go_simp
            all_goals with_reducible rfl
          try simp only [Act.put, List.setIfInBounds_toArray, List.set_cons_zero, List.set_cons_succ]
          refine wpAnyH_take (i := 3) (oi := ⟨some 22, _, _, _, _, _⟩) (v := undef) rfl (by kernel_rfl) (by kernel_rfl) (by kernel_rfl) (fun _ _ _ h => h) (Or.inr ⟨by rfl, rfl⟩) hS ?_
          try simp only [Act.put, List.setIfInBounds_toArray, List.set_cons_zero, List.set_cons_succ]
          refine wpAnyH_take (i := 4) (oi := ⟨some 23, _, _, _, _, _⟩) (v := undef) rfl (by kernel_rfl) (by kernel_rfl) (by kernel_rfl) (fun _ _ _ h => h) (Or.inr ⟨by rfl, rfl⟩) hS ?_
          try simp only [Act.put, List.setIfInBounds_toArray, List.set_cons_zero, List.set_cons_succ]
          refine wpAnyH_take (i := 5) (oi := ⟨some 24, _, _, _, _, _⟩) (v := undef) rfl (by kernel_rfl) (by kernel_rfl) (by kernel_rfl) (fun _ _ _ h => h) (Or.inr ⟨by rfl, rfl⟩) hS ?_
          try simp only [Act.put, List.setIfInBounds_toArray, List.set_cons_zero, List.set_cons_succ]
          refine wpAnyH_take (i := 6) (oi := ⟨some 25, _, _, _, _, _⟩) (v := undef) rfl (by kernel_rfl) (by kernel_rfl) (by kernel_rfl) (fun _ _ _ h => h) (Or.inr ⟨by rfl, rfl⟩) hS ?_
          try simp only [Act.put, List.setIfInBounds_toArray, List.set_cons_zero, List.set_cons_succ]
          refine wpAnyH_take (i := 7) (oi := ⟨some 26, _, _, _, _, _⟩) (v := undef) rfl (by kernel_rfl) (by kernel_rfl) (by kernel_rfl) (fun _ _ _ h => h) (Or.inr ⟨by rfl, rfl⟩) hS ?_
          try simp only [Act.put, List.setIfInBounds_toArray, List.set_cons_zero, List.set_cons_succ]
          refine wpAnyH_take (i := 8) (oi := ⟨some 27, _, _, _, _, _⟩) (v := undef) rfl (by kernel_rfl) (by kernel_rfl) (by kernel_rfl) (fun _ _ _ h => h) (Or.inr ⟨by rfl, rfl⟩) hS ?_
          try simp only [Act.put, List.setIfInBounds_toArray, List.set_cons_zero, List.set_cons_succ]
          refine wpAnyH_take (i := 9) (oi := ⟨some 28, _, _, _, _, _⟩) (v := undef) rfl (by kernel_rfl) (by kernel_rfl) (by kernel_rfl) (fun _ _ _ h => h) (Or.inr ⟨by rfl, rfl⟩) hS ?_
          try simp only [Act.put, List.setIfInBounds_toArray, List.set_cons_zero, List.set_cons_succ]
          refine wpAnyH_take (i := 10) (oi := ⟨some 29, _, _, _, _, _⟩) (v := undef) rfl (by kernel_rfl) (by kernel_rfl) (by kernel_rfl) (fun _ _ _ h => h) (Or.inr ⟨by rfl, rfl⟩) hS ?_
          try simp only [Act.put, List.setIfInBounds_toArray, List.set_cons_zero, List.set_cons_succ]
          refine wpAnyH_take (i := 11) (oi := ⟨some 30, _, _, _, _, _⟩) (v := undef) rfl (by kernel_rfl) (by kernel_rfl) (by kernel_rfl) (fun _ _ _ h => h) (Or.inr ⟨by rfl, rfl⟩) hS ?_
          try simp only [Act.put, List.setIfInBounds_toArray, List.set_cons_zero, List.set_cons_succ]
          refine wpAnyH_take (i := 12) (oi := ⟨some 31, _, _, _, _, _⟩) (v := undef) rfl (by kernel_rfl) (by kernel_rfl) (by kernel_rfl) (fun _ _ _ h => h) (Or.inr ⟨by rfl, rfl⟩) hS ?_
          try simp only [Act.put, List.setIfInBounds_toArray, List.set_cons_zero, List.set_cons_succ]
          refine wpAnyH_take (i := 13) (oi := ⟨some 32, _, _, _, _, _⟩) (v := undef) rfl (by kernel_rfl) (by kernel_rfl) (by kernel_rfl) (fun _ _ _ h => h) (Or.inr ⟨by rfl, rfl⟩) hS ?_
          try simp only [Act.put, List.setIfInBounds_toArray, List.set_cons_zero, List.set_cons_succ]
          refine wpAnyH_take (i := 14) (oi := ⟨some 33, _, _, _, _, _⟩) (v := ?_) rfl (by kernel_rfl) (by kernel_rfl) (by kernel_rfl) (fun _ _ _ h => h) (Or.inl ⟨by rfl, ?_⟩) hS ?_
          rotate_left 1
          · intro w' hw'
            obtain ⟨⟨c0, c1⟩, c2, c3, c4⟩ := HCl.out w' hw'
            have hcb := HCw.out w' hw'
            go_simp
            all_goals with_reducible rfl
          try simp only [Act.put, List.setIfInBounds_toArray, List.set_cons_zero, List.set_cons_succ]
          refine wpAnyH_take (i := 15) (oi := ⟨some 34, _, _, _, _, _⟩) (v := ?_) rfl (by kernel_rfl) (by kernel_rfl) (by kernel_rfl) (fun _ _ _ h => h) (Or.inl ⟨by rfl, ?_⟩) hS ?_
          rotate_left 1
          · intro w' hw'
            obtain ⟨⟨c0, c1⟩, c2, c3, c4⟩ := HCl.out w' hw'
            have hcb := HCw.out w' hw'
            go_simp
            all_goals with_reducible rfl
          try simp only [Act.put, List.setIfInBounds_toArray, List.set_cons_zero, List.set_cons_succ]
          refine wpAnyH_take (i := 16) (oi := ⟨some 35, _, _, _, _, _⟩) (v := ?_) rfl (by kernel_rfl) (by kernel_rfl) (by kernel_rfl) (fun _ _ _ h => h) (Or.inl ⟨by rfl, ?_⟩) hS ?_
          rotate_left 1
          · intro w' hw'
            obtain ⟨⟨c0, c1⟩, c2, c3, c4⟩ := HCl.out w' hw'
            have hcb := HCw.out w' hw'
            go_simp
            all_goals with_reducible rfl
          try simp only [Act.put, List.setIfInBounds_toArray, List.set_cons_zero, List.set_cons_succ]
          refine wpAnyH_ready (rs := [17]) (by kernel_rfl) (by simp) ?_
          refine AllReadyH.cons (o := ⟨some 36, _, _, _, _, _⟩) rfl (fun K hK => ?_) AllReadyH.nil
          go_simp
          go_at_call 19
          refine (HD2.out _ hS).mono ?_
          rintro e w7 ⟨rfl, rfl⟩
          refine hK.out _ _ (hS) (fun hS => ?_)
          clear hK K
          try simp only [Act.put, List.setIfInBounds_toArray, List.set_cons_zero, List.set_cons_succ]
          refine wpAnyH_take (i := 18) (oi := ⟨some 37, _, _, _, _, _⟩) (v := ?_) rfl (by kernel_rfl) (by kernel_rfl) (by kernel_rfl) (fun _ _ _ h => h) (Or.inl ⟨by rfl, ?_⟩) hS ?_
          rotate_left 1
          · intro w' hw'
            obtain ⟨⟨c0, c1⟩, c2, c3, c4⟩ := HCl.out w' hw'
            have hcb := HCw.out w' hw'
            go_simp
            all_goals with_reducible rfl
          try simp only [Act.put, List.setIfInBounds_toArray, List.set_cons_zero, List.set_cons_succ]
          refine wpAnyH_take (i := 19) (oi := ⟨some 38, _, _, _, _, _⟩) (v := undef) rfl (by kernel_rfl) (by kernel_rfl) (by kernel_rfl) (fun _ _ _ h => h) (Or.inr ⟨by rfl, rfl⟩) hS ?_
          try simp only [Act.put, List.setIfInBounds_toArray, List.set_cons_zero, List.set_cons_succ]
          refine wpAnyH_take (i := 20) (oi := ⟨some 39, _, _, _, _, _⟩) (v := undef) rfl (by kernel_rfl) (by kernel_rfl) (by kernel_rfl) (fun _ _ _ h => h) (Or.inr ⟨by rfl, rfl⟩) hS ?_
          try simp only [Act.put, List.setIfInBounds_toArray, List.set_cons_zero, List.set_cons_succ]
          refine wpAnyH_take (i := 21) (oi := ⟨some 40, _, _, _, _, _⟩) (v := undef) rfl (by kernel_rfl) (by kernel_rfl) (by kernel_rfl) (fun _ _ _ h => h) (Or.inr ⟨by rfl, rfl⟩) hS ?_
          try simp only [Act.put, List.setIfInBounds_toArray, List.set_cons_zero, List.set_cons_succ]
          refine wpAnyH_take (i := 22) (oi := ⟨some 41, _, _, _, _, _⟩) (v := undef) rfl (by kernel_rfl) (by kernel_rfl) (by kernel_rfl) (fun _ _ _ h => h) (Or.inr ⟨by rfl, rfl⟩) hS ?_
          try simp only [Act.put, List.setIfInBounds_toArray, List.set_cons_zero, List.set_cons_succ]
          refine wpAnyH_take (i := 23) (oi := ⟨some 42, _, _, _, _, _⟩) (v := undef) rfl (by kernel_rfl) (by kernel_rfl) (by kernel_rfl) (fun _ _ _ h => h) (Or.inr ⟨by rfl, rfl⟩) hS ?_
          try simp only [Act.put, List.setIfInBounds_toArray, List.set_cons_zero, List.set_cons_succ]
          refine wpAnyH_take (i := 24) (oi := ⟨some 43, _, _, _, _, _⟩) (v := undef) rfl (by kernel_rfl) (by kernel_rfl) (by kernel_rfl) (fun _ _ _ h => h) (Or.inr ⟨by rfl, rfl⟩) hS ?_
          try simp only [Act.put, List.setIfInBounds_toArray, List.set_cons_zero, List.set_cons_succ]
          refine wpAnyH_take (i := 25) (oi := ⟨some 44, _, _, _, _, _⟩) (v := undef) rfl (by kernel_rfl) (by kernel_rfl) (by kernel_rfl) (fun _ _ _ h => h) (Or.inr ⟨by rfl, rfl⟩) hS ?_
          try simp only [Act.put, List.setIfInBounds_toArray, List.set_cons_zero, List.set_cons_succ]
          refine wpAnyH_take (i := 26) (oi := ⟨some 45, _, _, _, _, _⟩) (v := undef) rfl (by kernel_rfl) (by kernel_rfl) (by kernel_rfl) (fun _ _ _ h => h) (Or.inr ⟨by rfl, rfl⟩) hS ?_
          try simp only [Act.put, List.setIfInBounds_toArray, List.set_cons_zero, List.set_cons_succ]
          refine wpAnyH_take (i := 27) (oi := ⟨some 46, _, _, _, _, _⟩) (v := undef) rfl (by kernel_rfl) (by kernel_rfl) (by kernel_rfl) (fun _ _ _ h => h) (Or.inr ⟨by rfl, rfl⟩) hS ?_
          try simp only [Act.put, List.setIfInBounds_toArray, List.set_cons_zero, List.set_cons_succ]
          refine wpAnyH_take (i := 28) (oi := ⟨some 47, _, _, _, _, _⟩) (v := undef) rfl (by kernel_rfl) (by kernel_rfl) (by kernel_rfl) (fun _ _ _ h => h) (Or.inr ⟨by rfl, rfl⟩) hS ?_
          try simp only [Act.put, List.setIfInBounds_toArray, List.set_cons_zero, List.set_cons_succ]
          refine wpAnyH_take (i := 29) (oi := ⟨some 48, _, _, _, _, _⟩) (v := undef) rfl (by kernel_rfl) (by kernel_rfl) (by kernel_rfl) (fun _ _ _ h => h) (Or.inr ⟨by rfl, rfl⟩) hS ?_
          try simp only [Act.put, List.setIfInBounds_toArray, List.set_cons_zero, List.set_cons_succ]
          refine wpAnyH_take (i := 30) (oi := ⟨some 49, _, _, _, _, _⟩) (v := undef) rfl (by kernel_rfl) (by kernel_rfl) (by kernel_rfl) (fun _ _ _ h => h) (Or.inr ⟨by rfl, rfl⟩) hS ?_
          try simp only [Act.put, List.setIfInBounds_toArray, List.set_cons_zero, List.set_cons_succ]
          refine wpAnyH_take (i := 31) (oi := ⟨some 50, _, _, _, _, _⟩) (v := ?_) rfl (by kernel_rfl) (by kernel_rfl) (by kernel_rfl) (fun _ _ _ h => h) (Or.inl ⟨by rfl, ?_⟩) hS ?_
          rotate_left 1
          · intro w' hw'
            obtain ⟨⟨c0, c1⟩, c2, c3, c4⟩ := HCl.out w' hw'
            have hcb := HCw.out w' hw'
            go_simp
            all_goals with_reducible rfl
          try simp only [Act.put, List.setIfInBounds_toArray, List.set_cons_zero, List.set_cons_succ]
          refine wpAnyH_take (i := 32) (oi := ⟨some 51, _, _, _, _, _⟩) (v := ?_) rfl (by kernel_rfl) (by kernel_rfl) (by kernel_rfl) (fun _ _ _ h => h) (Or.inl ⟨by rfl, ?_⟩) hS ?_
          rotate_left 1
          · intro w' hw'
            obtain ⟨⟨c0, c1⟩, c2, c3, c4⟩ := HCl.out w' hw'
            have hcb := HCw.out w' hw'
            go_simp
            all_goals with_reducible rfl
          try simp only [Act.put, List.setIfInBounds_toArray, List.set_cons_zero, List.set_cons_succ]
          refine wpAnyH_done (by kernel_rfl) ?_ _
          go_wp2_with fail
          go_meet
          exact ⟨rfl, hS⟩
    case rest =>
      obtain ⟨rfl, hbx⟩ := hcut
      have HX := hide hbx
      obtain ⟨⟨c0, c1⟩, c2, c3, c4⟩ := HCl.out _ hbx
      have HLx := hide (HL5.out.trans (hbx.mono HL5.out.size))
      have HI3x := hide (HI3c.out.below hbx)
      have HI4x := hide (HI4b.out.below hbx)
      have HB1x := hide (bad_any _ HI3x.out)
      have HB2x := hide (bad_any _ HI4x.out)
      clear hbx
      cases b1
      · cases b2
        · go_wp2_with fail
          refine HB1x.out.mono ?_
          rintro e w7 ⟨rfl, rfl⟩
          go_wp2_with fail
          refine HB2x.out.mono ?_
          rintro e w8 ⟨rfl, rfl⟩
          have HLy := HLx
          have HA2 := hide (HAw.out _ HLy.out)
          go_wp2_with fail
          refine HA2.out.mono ?_
          rintro e w9 ⟨rfl, hb9⟩
          have HF := hide (HLy.out.trans (hb9.mono HLy.out.size))
          clear hb9
          go_wp2_with fail
          go_ret
          exact ⟨rfl, HF.out⟩
        · obtain ⟨⟨rfl, rfl, rfl⟩, rfl⟩ := HBv.out rfl
          have hneq : ∀ w, (binOp .neq 36 (vVal 0 0 ⟨#[]⟩) (vVal 0 0 ⟨#[]⟩)).run Tryd.prog w = .ok (.bool false) w := fun w => by rw [run_neq_val]; simp
          have hgd := run_guard_neq 0 0 0 0 ⟨#[]⟩ ⟨#[]⟩
          go_wp2_with fail
          refine HB1x.out.mono ?_
          rintro e w7 ⟨rfl, rfl⟩
          go_wp2_with fail
          refine HB2x.out.mono ?_
          rintro e w8 ⟨rfl, rfl⟩
          have HLy := HLx
          have HA2 := hide (HAw.out _ HLy.out)
          go_wp2_with fail
          refine HA2.out.mono ?_
          rintro e w9 ⟨rfl, hb9⟩
          have HF := hide (HLy.out.trans (hb9.mono HLy.out.size))
          clear hb9
          go_wp2_with fail
          go_ret
          exact ⟨rfl, HF.out⟩
      · cases b2
        · obtain ⟨rfl, rfl, rfl⟩ := HBt.out rfl
          have HIn := hide (inInt_any _ HI3x.out)
          unfold IntRes at HIn
          go_wp2_with fail
          refine HB1x.out.mono ?_
          rintro e w7 ⟨rfl, rfl⟩
          go_wp2_with fail
          refine HIn.out.mono ?_
          rintro e w8 ⟨rfl, hI8, ho8⟩
          have HI8 := hide (HI4x.out.turn ho8 (fun b hb => by have := hb.1; omega))
          have HLy := hide (HLx.out.trans (ho8.below hg1 HLx.out.size))
          have HXb := hide (show w8.cell? ⟨w4.heap.size + 1, 0, none⟩ = some (.int .i64 k0) ∧ w8.cell? ⟨w4.heap.size + 1, 1, none⟩ = some (.int .i64 n0) ∧ w8.cell? ⟨w4.heap.size + 1, 2, none⟩ = some (.string s0) from by
            have hbl := ho8.block (w4.heap.size + 1) (by have := HX.out.size; have := HW5s.out; omega) (by omega)
            refine ⟨?_, ?_, ?_⟩ <;> (first | (rw [World.cell?_of_block hbl]; assumption)))
          obtain ⟨d2, d3, d4⟩ := HXb.out
          have HB2y := hide (bad_any w8 HI8.out)
          have hn0 : intN [] = 0 := rfl
          rw [hn0]
          clear hI8 ho8 c2 c3 c4 hn0
          go_wp2_with fail
          refine HB2y.out.mono ?_
          rintro e w7 ⟨rfl, rfl⟩
          have HA2 := hide (HAw.out _ HLy.out)
          go_wp2_with fail
          refine HA2.out.mono ?_
          rintro e w9 ⟨rfl, hb9⟩
          have HF := hide (HLy.out.trans (hb9.mono HLy.out.size))
          clear hb9
          go_wp2_with fail
          go_ret
          exact ⟨rfl, HF.out⟩
        · obtain ⟨rfl, rfl, rfl⟩ := HBt.out rfl
          have HIn := hide (inInt_any _ HI3x.out)
          unfold IntRes at HIn
          obtain ⟨⟨rfl, rfl, rfl⟩, rfl⟩ := HBv.out rfl
          have hneq : ∀ w, (binOp .neq 36 (vVal 0 0 ⟨#[]⟩) (vVal 0 0 ⟨#[]⟩)).run Tryd.prog w = .ok (.bool false) w := fun w => by rw [run_neq_val]; simp
          have hgd := run_guard_neq 0 0 0 0 ⟨#[]⟩ ⟨#[]⟩
          go_wp2_with fail
          refine HB1x.out.mono ?_
          rintro e w7 ⟨rfl, rfl⟩
          go_wp2_with fail
          refine HIn.out.mono ?_
          rintro e w8 ⟨rfl, hI8, ho8⟩
          have HI8 := hide (HI4x.out.turn ho8 (fun b hb => by have := hb.1; omega))
          have HLy := hide (HLx.out.trans (ho8.below hg1 HLx.out.size))
          have HXb := hide (show w8.cell? ⟨w4.heap.size + 1, 0, none⟩ = some (.int .i64 0) ∧ w8.cell? ⟨w4.heap.size + 1, 1, none⟩ = some (.int .i64 0) ∧ w8.cell? ⟨w4.heap.size + 1, 2, none⟩ = some (.string ⟨#[]⟩) from by
            have hbl := ho8.block (w4.heap.size + 1) (by have := HX.out.size; have := HW5s.out; omega) (by omega)
            refine ⟨?_, ?_, ?_⟩ <;> (first | (rw [World.cell?_of_block hbl]; assumption)))
          obtain ⟨d2, d3, d4⟩ := HXb.out
          have HB2y := hide (bad_any w8 HI8.out)
          have hn0 : intN [] = 0 := rfl
          rw [hn0]
          clear hI8 ho8 c2 c3 c4 hn0
          go_wp2_with fail
          refine HB2y.out.mono ?_
          rintro e w7 ⟨rfl, rfl⟩
          have HA2 := hide (HAw.out _ HLy.out)
          go_wp2_with fail
          refine HA2.out.mono ?_
          rintro e w9 ⟨rfl, hb9⟩
          have HF := hide (HLy.out.trans (hb9.mono HLy.out.size))
          clear hb9
          go_wp2_with fail
          go_ret
          exact ⟨rfl, HF.out⟩
  · have h10' : (1000 : Int) < (l.length : Int) := by omega
    have HA2 := hide (HAw.out w (Below.refl _ _))
    clear h10 hB hT
    go_enter Tryd.func4, Tryd.ntmps4
    go_wp2_with fail
    refine HA2.out.mono ?_
    rintro e w6 ⟨rfl, hb6⟩
    have HF := hide hb6
    clear hb6
    go_wp2_with fail
    go_ret
    exact ⟨rfl, HF.out⟩
end Go.Proofs.YtbjcbgomkhdmmaaDoor
