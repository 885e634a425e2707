/-
  Equal of a slice of columns.
-/
import Derived.Test.YtbjcbgomkhdmmaaDoorSCheck
namespace Go.Proofs.YtbjcbgomkhdmmaaDoor
open Go.RowKit

theorem col_fields : Tryd.prog.underlying 53 = some (.struct (Tryd.prog.fieldsOf 53)) := by kernel_rfl
theorem col_stood : Tryd.prog.stoodInHeld 53 = false := by kernel_rfl
theorem col_guard : Tryd.prog.eqGuardType Tryd.prog.depth 53 = false := by kernel_rfl
theorem col_fieldsL : (Tryd.prog.fieldsOf 53).toList.map (fun f => (f.type, f.offset, decide (f.name ≠ "_"))) = [(9, 0, true), (3, 1, true)] := by kernel_rfl
/-- != of two columns. -/
theorem run_neq_col (a b : ByteArray) (x y : Int) (w : World) : (binOp .neq 53 (vCol a x) (vCol b y)).run Tryd.prog w = .ok (.bool (!(a.toList == b.toList && x == y))) w := by
  have h2 := Tryd.underlying9
  have h3 := Tryd.underlying3
  have hf := col_fieldsL
  rw [run_neq_struct, run_equalIn_agg w 9999 53 _ _ col_fields col_stood]
  generalize (Tryd.prog.fieldsOf 53).toList = fs at hf
  rcases fs with _ | ⟨f, _ | ⟨g, _ | ⟨_, _⟩⟩⟩ <;> simp at hf
  obtain ⟨⟨f1, f2, f3⟩, g1, g2, g3⟩ := hf
  simp [Op.eqFields, f1, f2, f3, g1, g2, g3, go_sem]
  split
  · split <;> simp_all
  · simp_all
theorem run_guard_col (a b : ByteArray) (x y : Int) (u v : Operand) (w : World) : (eqGuard .neq 53 u v (vCol a x) (vCol b y)).run Tryd.prog w = .ok () w := run_eqGuard_agg w .neq _ u v _ _ col_guard

/-- Two lists of columns are one. -/
def sameC (xs ys : List (ByteArray × Int)) : Bool := decide (xs.map (fun c => (c.1.data.toList, c.2)) = ys.map (fun c => (c.1.data.toList, c.2)))
theorem pair_data {c d : ByteArray × Int} : (c.1.data.toList, c.2) = (d.1.data.toList, d.2) ↔ c = d := by
  constructor
  · intro h
    obtain ⟨a, n⟩ := c; obtain ⟨b, m⟩ := d
    simp only [Prod.mk.injEq] at h ⊢
    exact ⟨by rw [of_data h.1, ← of_data (s := b) rfl], h.2⟩
  · rintro rfl; rfl
theorem sameC_iff {xs ys : List (ByteArray × Int)} : sameC xs ys = true ↔ xs = ys := by
  unfold sameC
  rw [decide_eq_true_iff]
  exact ⟨fun h => List.map_inj_right (f := fun c : ByteArray × Int => (c.1.data.toList, c.2)) (fun x y e => pair_data.1 e) |>.1 h, fun h => by rw [h]⟩
def preE (xs ys : List (ByteArray × Int)) (k : Nat) : Prop := ∀ j, j < k → xs.getD j (⟨#[]⟩, 0) = ys.getD j (⟨#[]⟩, 0)
theorem preE_succ {xs ys : List (ByteArray × Int)} {k : Nat} (h : preE xs ys k) (hm : xs.getD k (⟨#[]⟩, 0) = ys.getD k (⟨#[]⟩, 0)) : preE xs ys (k + 1) := fun j hj => by
  by_cases e : j = k
  · subst e; exact hm
  · exact h j (by omega)
theorem sameC_len {xs ys : List (ByteArray × Int)} (h : ¬ xs.length = ys.length) : sameC xs ys = false := by
  rw [Bool.eq_false_iff, Ne, sameC_iff]; intro e; exact h (by rw [e])
theorem sameC_not {xs ys : List (ByteArray × Int)} {k : Nat} (h : ¬ xs.getD k (⟨#[]⟩, 0) = ys.getD k (⟨#[]⟩, 0)) : sameC xs ys = false := by
  rw [Bool.eq_false_iff, Ne, sameC_iff]; intro e; exact h (by rw [e])
theorem sameC_yes {xs ys : List (ByteArray × Int)} (hl : xs.length = ys.length) (h : preE xs ys xs.length) : sameC xs ys = true := by
  rw [sameC_iff]
  refine List.ext_getElem hl fun j h1 h2 => ?_
  have := h j h1
  rwa [List.getD_eq_getElem?_getD, List.getElem?_eq_getElem h1, List.getD_eq_getElem?_getD, List.getElem?_eq_getElem h2] at this

set_option maxHeartbeats 800000 in
set_option maxRecDepth 100000 in
theorem sliceEqual_any (A A' : Option Addr) (cap cap' : Nat) (xs ys : List (ByteArray × Int)) (w : World) (hX : ColsAt w.heap.size w A xs) (hY : ColsAt w.heap.size w A' ys) (hly : ys.length ≤ maxLen) :
    Calls Tryd.prog 51 #[.slice A xs.length cap, .slice A' ys.length cap'] w fun e w' => e = .returned (.bool (sameC xs ys)) ∧ Below w.heap.size w w' := by
  unfold maxLen at hly
  by_cases hlen : xs.length = ys.length
  · have hne : ((xs.length : Int) != (ys.length : Int)) = false := by rw [bne_eq_false_iff_eq, hlen]
    have HL := hide hlen
    have hle : xs.length ≤ ys.length := by omega
    clear hlen
    have HX := hide hX; have HY := hide hY; clear hX hY
    go_enter Tryd.func51, Tryd.ntmps51
    go_wp2
    go_loopw [13] (fun i wr => ∃ k : Nat, k ≤ xs.length ∧ i = .int .i64 k ∧ preE xs ys k ∧ Below w.heap.size w wr) (fun i _ => xs.length - (intOf i).toNat)
    case atStart => exact ⟨0, Nat.zero_le _, rfl, fun j h => by omega, Below.refl _ _⟩
    case round =>
      obtain ⟨k, hk, rfl, hp, hbw⟩ := hrel
      have HP := hide hp; clear hp
      by_cases hlt : k < xs.length
      · have hlt2 : k < ys.length := by omega
        obtain ⟨b, off, rfl, hb, h0, h1⟩ := HX.out.below hbw k hlt
        obtain ⟨b2, off2, rfl, hb2, g0, g1⟩ := HY.out.below hbw k hlt2
        have HM := hide (fun h => preE_succ (k := k) HP.out h)
        have HN := hide (fun h => sameC_not (xs := xs) (ys := ys) (k := k) h)
        generalize hcol : xs.getD k (⟨#[]⟩, 0) = c at h0 h1 HM HN
        generalize hcol2 : ys.getD k (⟨#[]⟩, 0) = d at g0 g1 HM HN
        obtain ⟨nm, ty⟩ := c
        obtain ⟨nm2, ty2⟩ := d
        clear hcol hcol2
        have hneq := run_neq_col nm nm2 ty ty2
        have hgd := run_guard_col nm nm2 ty ty2
        go_wp2
        go_quiet (fail)
        go_wp2
        · have he : (!nm.toList == nm2.toList) = true ∨ (!ty == ty2) = true := by assumption
          go_ret
          refine ⟨ret_bool (HN.out fun e => ?_).symm, below_drewN hbw _⟩
          simp only [Prod.mk.injEq] at e
          obtain ⟨rfl, rfl⟩ := e
          simp at he
        · have he : (!nm.toList == nm2.toList) = false ∧ (!ty == ty2) = false := by assumption
          go_roundw
          case rel =>
            refine ⟨k + 1, by omega, by go_num, HM.out ?_, below_drewN hbw _⟩
            obtain ⟨e1, e2⟩ := he
            rw [Lib.toList_data, Lib.toList_data] at e1
            exact pair_data.1 (by simp only [Prod.mk.injEq]; exact ⟨by simpa using e1, by simpa using e2⟩)
          case measure => simp [intOf]; omega
      · go_wp2
        go_ret
        exact ⟨ret_bool (sameC_yes HL.out (by have := HP.out; rw [show k = xs.length by omega] at this; exact this)).symm, hbw⟩
  · have hne : ((xs.length : Int) != (ys.length : Int)) = true := by rw [bne_iff_ne]; omega
    have HR := hide (sameC_len hlen)
    clear hlen
    go_enter Tryd.func51, Tryd.ntmps51
    go_wp2
    go_ret
    exact ⟨ret_bool HR.out.symm, Below.refl _ _⟩

theorem equal_any (A A' : Option Addr) (cap cap' : Nat) (xs ys : List (ByteArray × Int)) (w : World) (hX : ColsAt w.heap.size w A xs) (hY : ColsAt w.heap.size w A' ys) (hly : ys.length ≤ maxLen) :
    Calls Tryd.prog 37 #[.slice A xs.length cap, .slice A' ys.length cap'] w fun e w' => e = .returned (.bool (sameC xs ys)) ∧ Below w.heap.size w w' := by
  have HC := hide (sliceEqual_any A A' cap cap' xs ys w hX hY hly)
  clear hX hY hly
  go_enter Tryd.func37, Tryd.ntmps37
  go_wp2_with (go_at_call 51; refine HC.out.mono ?_; rintro e w' ⟨rfl, hb⟩)
  go_ret
  exact ⟨rfl, hb⟩
end Go.Proofs.YtbjcbgomkhdmmaaDoor
