/-
  Whether rows, lists of rows and tables are one; how often a row is there.
-/
import Derived.Test.YtbjcbgomkhdmmaaDoorTRows
import Derived.Test.YtbjcbgomkhdmmaaDoorTDefs
import Derived.Test.YtbjcbgomkhdmmaaDoorSFind
namespace Go.Proofs.YtbjcbgomkhdmmaaDoor
open Go.RowKit

/-- != of two values. -/
theorem run_neq_val (k n l m : Int) (s t : ByteArray) (w : World) : (binOp .neq 36 (vVal k n s) (vVal l m t)).run Tryd.prog w = .ok (.bool (!(k == l && (n == m && s.toList == t.toList)))) w := by
  have h2 := Tryd.underlying9
  have h3 := Tryd.underlying3
  have hf := val_fieldsL
  rw [run_neq_struct, run_equalIn_agg w 9999 36 _ _ val_fields val_stood]
  generalize (Tryd.prog.fieldsOf 36).toList = fs at hf
  rcases fs with _ | ⟨f, _ | ⟨g, _ | ⟨h, _ | ⟨_, _⟩⟩⟩⟩ <;> simp at hf
  obtain ⟨⟨f1, f2, f3⟩, ⟨g1, g2, g3⟩, k1, k2, k3⟩ := hf
  simp [Op.eqFields, f1, f2, f3, g1, g2, g3, k1, k2, k3, go_sem]
  split
  · split
    · split <;> simp_all
    · simp_all
  · simp_all
theorem run_guard_neq (k n l m : Int) (s t : ByteArray) (u v : Operand) (w : World) : (eqGuard .neq 36 u v (vVal k n s) (vVal l m t)).run Tryd.prog w = .ok () w := run_eqGuard_agg w .neq _ u v _ _ val_guard

def sameRw (xs ys : List (Int × Int × ByteArray)) : Bool := decide (cmpR xs ys = 0)
theorem sameRw_iff {xs ys : List (Int × Int × ByteArray)} : sameRw xs ys = true ↔ xs = ys := by unfold sameRw; rw [decide_eq_true_iff]; exact cmpR_zero xs ys
theorem sameRw_len {xs ys : List (Int × Int × ByteArray)} (h : ¬ xs.length = ys.length) : sameRw xs ys = false := by
  rw [Bool.eq_false_iff, Ne, sameRw_iff]; intro e; exact h (by rw [e])
theorem sameRw_not {xs ys : List (Int × Int × ByteArray)} {k : Nat} (h : ¬ xs.getD k (0, 0, ⟨#[]⟩) = ys.getD k (0, 0, ⟨#[]⟩)) : sameRw xs ys = false := by
  rw [Bool.eq_false_iff, Ne, sameRw_iff]; intro e; exact h (by rw [e])
def preV (xs ys : List (Int × Int × ByteArray)) (k : Nat) : Prop := ∀ j, j < k → xs.getD j (0, 0, ⟨#[]⟩) = ys.getD j (0, 0, ⟨#[]⟩)
theorem preV_succ {xs ys : List (Int × Int × ByteArray)} {k : Nat} (h : preV xs ys k) (hm : xs.getD k (0, 0, ⟨#[]⟩) = ys.getD k (0, 0, ⟨#[]⟩)) : preV xs ys (k + 1) := fun j hj => by
  by_cases e : j = k
  · subst e; exact hm
  · exact h j (by omega)
theorem sameRw_yes {xs ys : List (Int × Int × ByteArray)} (hl : xs.length = ys.length) (h : preV xs ys xs.length) : sameRw xs ys = true := by
  rw [sameRw_iff]
  refine List.ext_getElem hl fun j h1 h2 => ?_
  have := h j h1
  rwa [List.getD_eq_getElem?_getD, List.getElem?_eq_getElem h1, List.getD_eq_getElem?_getD, List.getElem?_eq_getElem h2] at this

set_option maxHeartbeats 1600000 in
set_option maxRecDepth 100000 in
theorem valsEqual_any (A A' : Option Addr) (cap cap' : Nat) (xs ys : List (Int × Int × ByteArray)) (w : World) (hX : RowAt w.heap.size w A xs) (hY : RowAt w.heap.size w A' ys) (hly : ys.length ≤ maxLen) :
    Calls Tryd.prog 52 #[.slice A xs.length cap, .slice A' ys.length cap'] w fun e w' => e = .returned (.bool (sameRw xs ys)) ∧ Below w.heap.size w w' := by
  unfold maxLen at hly
  by_cases hlen : xs.length = ys.length
  · have hne : ((xs.length : Int) != (ys.length : Int)) = false := by rw [bne_eq_false_iff_eq, hlen]
    have HL := hide hlen
    have hle : xs.length ≤ ys.length := by omega
    clear hlen
    have HX := hide hX; have HY := hide hY; clear hX hY
    go_enter Tryd.func52, Tryd.ntmps52
    go_wp2_with fail
    go_loopw [13] (fun i wr => ∃ k : Nat, k ≤ xs.length ∧ i = .int .i64 k ∧ preV xs ys k ∧ Below w.heap.size w wr) (fun i _ => xs.length - (intOf i).toNat)
    case atStart => exact ⟨0, Nat.zero_le _, rfl, fun j h => by omega, Below.refl _ _⟩
    case round =>
      obtain ⟨k, hk, rfl, hp, hbw⟩ := hrel
      have HP := hide hp; clear hp
      by_cases hlt : k < xs.length
      · have hlt2 : k < ys.length := by omega
        obtain ⟨b, off, rfl, hb, h0, h1, h2⟩ := HX.out.below hbw k hlt
        obtain ⟨b2, off2, rfl, hb2, g0, g1, g2⟩ := HY.out.below hbw k hlt2
        have HM := hide (fun h => preV_succ (k := k) HP.out h)
        have HN := hide (fun h => sameRw_not (xs := xs) (ys := ys) (k := k) h)
        generalize xs.getD k (0, 0, ⟨#[]⟩) = c at h0 h1 h2 HM HN
        generalize ys.getD k (0, 0, ⟨#[]⟩) = d at g0 g1 g2 HM HN
        obtain ⟨k1, n1, s1⟩ := c
        obtain ⟨k2, n2, s2⟩ := d
        have hgd := run_guard_neq k1 n1 k2 n2 s1 s2
        have hneq0 := run_neq_val k1 n1 k2 n2 s1 s2
        cases he : (k1 == k2 && (n1 == n2 && s1.toList == s2.toList))
        all_goals
          have HE := hide he
          have hneq := fun w => (hneq0 w).trans (by rw [he])
          clear hneq0 he
          go_wp2_with fail
          go_quiet (fail)
          go_wp2_with fail
          first
            | (go_ret
               refine ⟨ret_bool (HN.out fun e => ?_).symm, below_drewN hbw _⟩
               have he := HE.out
               simp only [Prod.mk.injEq] at e
               obtain ⟨rfl, rfl, rfl⟩ := e
               simp at he)
            | (go_roundw
               case rel =>
                 refine ⟨k + 1, by omega, by go_num, HM.out ?_, below_drewN hbw _⟩
                 have he := HE.out
                 simp only [Bool.and_eq_true, beq_iff_eq] at he
                 obtain ⟨e1, e2, e3⟩ := he
                 rw [Lib.toList_data, Lib.toList_data] at e3
                 rw [e1, e2, of_data e3, ← of_data (s := s2) rfl]
               case measure => simp [intOf]; omega)
      · go_wp2_with fail
        go_ret
        exact ⟨ret_bool (sameRw_yes HL.out (by have := HP.out; rw [show k = xs.length by omega] at this; exact this)).symm, hbw⟩
  · have hne : ((xs.length : Int) != (ys.length : Int)) = true := by rw [bne_iff_ne]; omega
    have HR := hide (sameRw_len hlen)
    clear hlen
    go_enter Tryd.func52, Tryd.ntmps52
    go_wp2_with fail
    go_ret
    exact ⟨ret_bool HR.out.symm, Below.refl _ _⟩

theorem sameRow_any (A A' : Option Addr) (cap cap' : Nat) (xs ys : List (Int × Int × ByteArray)) (w : World) (hX : RowAt w.heap.size w A xs) (hY : RowAt w.heap.size w A' ys) (hly : ys.length ≤ maxLen) :
    Calls Tryd.prog 39 #[.slice A xs.length cap, .slice A' ys.length cap'] w fun e w' => e = .returned (.bool (sameRw xs ys)) ∧ Below w.heap.size w w' := by
  have HC := hide (valsEqual_any A A' cap cap' xs ys w hX hY hly)
  clear hX hY hly
  go_enter Tryd.func39, Tryd.ntmps39
  go_wp2_with fail
  refine HC.out.mono ?_
  rintro e w' ⟨rfl, hb⟩
  go_wp2_with fail
  go_ret
  exact ⟨rfl, hb⟩

/-- Two lists of rows are one. -/
def preS2 (rs ss : R3) (k : Nat) : Prop := ∀ j, j < k → sameRw (rs.getD j []) (ss.getD j []) = true
instance preS2.dec (rs ss : R3) (k : Nat) : Decidable (preS2 rs ss k) := by unfold preS2; infer_instance
def sameRs (rs ss : R3) : Bool := decide (rs.length = ss.length) && decide (preS2 rs ss rs.length)
theorem sameRs_iff {rs ss : R3} : sameRs rs ss = true ↔ rs = ss := by
  unfold sameRs
  rw [Bool.and_eq_true, decide_eq_true_iff, decide_eq_true_iff]
  constructor
  · rintro ⟨hl, h⟩
    refine List.ext_getElem hl fun j h1 h2 => ?_
    have := sameRw_iff.1 (h j h1)
    rwa [List.getD_eq_getElem?_getD, List.getElem?_eq_getElem h1, List.getD_eq_getElem?_getD, List.getElem?_eq_getElem h2] at this
  · rintro rfl
    exact ⟨rfl, fun j _ => sameRw_iff.2 rfl⟩
theorem sameRs_self (rs : R3) : sameRs rs rs = true := sameRs_iff.2 rfl
theorem preS2_succ {rs ss : R3} {k : Nat} (h : preS2 rs ss k) (hc : sameRw (rs.getD k []) (ss.getD k []) = true) : preS2 rs ss (k + 1) := fun j hj => by
  by_cases e : j = k
  · subst e; exact hc
  · exact h j (by omega)
theorem sameRs_len {rs ss : R3} (h : ¬ rs.length = ss.length) : sameRs rs ss = false := by unfold sameRs; simp [h]
theorem sameRs_no {rs ss : R3} {k : Nat} (hk : k < rs.length) (h : sameRw (rs.getD k []) (ss.getD k []) = false) : sameRs rs ss = false := by
  unfold sameRs
  have : ¬ preS2 rs ss rs.length := fun hp => by have := hp k hk; rw [h] at this; cases this
  simp [this]
theorem sameRs_yes {rs ss : R3} (h : rs.length = ss.length) (hp : preS2 rs ss rs.length) : sameRs rs ss = true := by unfold sameRs; rw [decide_eq_true h, decide_eq_true hp]; rfl

set_option maxHeartbeats 1600000 in
set_option maxRecDepth 100000 in
theorem equalFunc_any (A B : Option Addr) (c d : Nat) (hs gs : List RH) (w : World) (hX : RowsAt w.heap.size w A hs) (hY : RowsAt w.heap.size w B gs) (hv : WfT (rowsOf gs)) :
    Calls Tryd.prog 38 #[.slice A hs.length c, .slice B gs.length d, .func (.func 39) #[] #[]] w fun e w' =>
      e = .returned (.bool (sameRs (rowsOf hs) (rowsOf gs))) ∧ Below w.heap.size w w' := by
  have hl := hv.1
  rw [rowsOf_len] at hl
  unfold maxLen at hl
  have h1 := rowsOf_len hs
  have h2 := rowsOf_len gs
  by_cases hlen : hs.length = gs.length
  · have hne : ((hs.length : Int) != (gs.length : Int)) = false := by rw [bne_eq_false_iff_eq, hlen]
    have HL := hide hlen
    have hle : hs.length ≤ gs.length := by omega
    have HX := hide hX; have HY := hide hY; have HV := hide hv
    have HL1 := hide h1; have HL2 := hide h2
    clear hX hY hv hlen h1 h2
    go_enter Tryd.func38, Tryd.ntmps38
    go_wp2_with fail
    go_loopw [17] (fun i wr => ∃ k : Nat, k ≤ hs.length ∧ i = .int .i64 k ∧ preS2 (rowsOf hs) (rowsOf gs) k ∧ Below w.heap.size w wr) (fun i _ => hs.length - (intOf i).toNat)
    case atStart => exact ⟨0, Nat.zero_le _, rfl, fun j h => by omega, Below.refl _ _⟩
    case round =>
      obtain ⟨k, hk, rfl, hp, hbw⟩ := hrel
      have HP := hide hp; clear hp
      have hs0 := hbw.size
      by_cases hlt : k < hs.length
      · obtain ⟨b, off, A1, c1, r1, rfl, hb, d1, hr1, -, hg1⟩ := (HX.out.below hbw).at hlt
        obtain ⟨b', off', A2, c2, r2, rfl, hb', d2, hr2, -, hg2⟩ := (HY.out.below hbw).at (show k < gs.length by omega)
        have hw2 := HV.out.at (show k < gs.length by omega)
        rw [hg2] at hw2
        have hk1 := rowsOf_at hlt
        have hk2 := rowsOf_at (show k < gs.length by omega)
        rw [hg1] at hk1
        rw [hg2] at hk2
        have HC := hide (sameRow_any A1 A2 c1 c2 r1 r2 wr (hr1.mono hs0) (hr2.mono hs0) hw2.1)
        have HK1 := hide hk1; have HK2 := hide hk2
        clear hr1 hr2 hg1 hg2 hw2 hk1 hk2
        cases hsm : sameRw r1 r2
        all_goals
          have HS := hide hsm
          clear hsm
          go_wp2_with (go_at_call 39; refine HC.out.mono ?_; rintro e w2 ⟨rfl, hb2⟩; rw [HS.out])
          have hq2 := hbw.trans (hb2.mono hs0)
          first
            | (go_ret
               exact ⟨ret_bool (sameRs_no (k := k) (by rw [HL1.out]; exact hlt) (by rw [HK1.out, HK2.out]; exact HS.out)).symm, hq2⟩)
            | (go_roundw
               case rel => exact ⟨k + 1, by omega, by go_num, preS2_succ HP.out (by rw [HK1.out, HK2.out]; exact HS.out), hq2⟩
               case measure => simp [intOf]; omega)
      · go_wp2_with fail
        go_ret
        exact ⟨ret_bool (sameRs_yes (by rw [HL1.out, HL2.out]; exact HL.out) (by have := HP.out; rw [HL1.out, show hs.length = k by omega]; exact this)).symm, hbw⟩
  · have hne : ((hs.length : Int) != (gs.length : Int)) = true := by rw [bne_iff_ne]; omega
    have HR := hide (sameRs_len (rs := rowsOf hs) (ss := rowsOf gs) (by omega))
    clear hlen hX hY hv h1 h2
    go_enter Tryd.func38, Tryd.ntmps38
    go_wp2_with fail
    go_ret
    exact ⟨ret_bool HR.out.symm, Below.refl _ _⟩

abbrev vTab (S : Option Addr) (n c : Nat) (A : Option Addr) (m d : Nat) : Value := .agg #[.slice S n c, .slice A m d]
set_option maxHeartbeats 1600000 in
set_option maxRecDepth 100000 in
theorem tabEqual_any (S A T B : Option Addr) (c d c' d' : Nat) (cs cs' : List (ByteArray × Int)) (hs gs : List RH) (w : World) (hC : ColsAt w.heap.size w S cs) (hR : RowsAt w.heap.size w A hs) (hC' : ColsAt w.heap.size w T cs') (hR' : RowsAt w.heap.size w B gs)
    (hl : cs'.length ≤ maxLen) (hv : WfT (rowsOf gs)) :
    Calls Tryd.prog 18 #[vTab S cs.length c A hs.length d, vTab T cs'.length c' B gs.length d'] w fun e w' => e = .returned (.bool (sameC cs cs' && sameRs (rowsOf hs) (rowsOf gs))) ∧ Below w.heap.size w w' := by
  have hal : Below w.heap.size w ((w.alloc (.cells #[.slice S cs.length c, .slice A hs.length d] 27)).alloc (.cells #[.slice T cs'.length c', .slice B gs.length d'] 27)) := Joins.below_alloc2 w _ _
  have HE := hide (equal_any S T c c' cs cs' _ (hC.on hal) (hC'.on hal) hl)
  have HR := hide (hR.on hal); have HR' := hide (hR'.on hal); have HV := hide hv
  have HL := hide hal
  clear hC hR hC' hR' hl hv hal
  cases hs1 : sameC cs cs'
  all_goals
    have HS := hide hs1
    clear hs1
    go_enter Tryd.func18, Tryd.ntmps18
    go_wp2_with fail
    refine HE.out.mono ?_
    rintro e w1 ⟨rfl, hb1⟩
    rw [HS.out]
    have hp1 := (hb1.cell (p := ⟨w.heap.size, 1, none⟩) (by simp; omega)).trans (by simp : _ = some (.slice A hs.length d))
    have hp2 := (hb1.cell (p := ⟨w.heap.size + 1, 1, none⟩) (by simp)).trans (by simp : _ = some (.slice B gs.length d'))
    have hz1 := hb1.size
    simp at hz1
    have HQ := hide (equalFunc_any A B d d' hs gs w1 (HR.out.on hb1) (HR'.out.on hb1) HV.out)
    have HB1 := hide (then_below HL.out hb1)
    clear hb1
    go_wp2_with (go_at_call 38; refine HQ.out.mono ?_; rintro e w2 ⟨rfl, hb2⟩)
    go_ret
    first
      | exact ⟨ret_bool (by simp), HB1.out⟩
      | exact ⟨ret_bool (by simp), then_below HB1.out hb2⟩

/-- How often a row is there. -/
def countR (rs : R3) (r : List (Int × Int × ByteArray)) : Nat := rs.countP fun x => sameRw x r
theorem countR_snoc (rs : R3) (x r : List (Int × Int × ByteArray)) : countR (rs ++ [x]) r = countR rs r + (if sameRw x r = true then 1 else 0) := by
  unfold countR; rw [List.countP_append, List.countP_singleton]
theorem countR_le (rs : R3) (r : List (Int × Int × ByteArray)) : countR rs r ≤ rs.length := List.countP_le_length ..
end Go.Proofs.YtbjcbgomkhdmmaaDoor
