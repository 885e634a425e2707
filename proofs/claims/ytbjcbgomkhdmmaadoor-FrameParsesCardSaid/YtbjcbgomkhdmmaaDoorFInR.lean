/-
  The decoder: a row's values.
-/
import Derived.Test.YtbjcbgomkhdmmaaDoorFInV
import Derived.Test.YtbjcbgomkhdmmaaDoorFRef
import Derived.Laws.MakeOwn
namespace Go.Proofs.YtbjcbgomkhdmmaaDoor
open Go.RowKit

theorem ValRes.one {lo : Nat → Prop} {g : Nat} {w w' : World} {l : List UInt8} {e : Ending} (h : ValRes lo g w l e w') :
    ∃ (x : V3) (r : List UInt8) (b : Bool), e = .returned (vVal x.1 x.2.1 x.2.2) ∧ InAt lo g w' r b ∧ OnlyG g w w' ∧ ((valR l = some (x, r) ∧ b = false) ∨ (valR l = none ∧ r = [] ∧ b = true)) := by
  rcases h with ⟨x, r, h1, h2, h3, h4⟩ | ⟨h1, h2, h3, h4⟩
  · exact ⟨x, r, false, h2, h3, h4, .inl ⟨h1, rfl⟩⟩
  · exact ⟨(0, 0, ⟨#[]⟩), [], true, h2, h3, h4, .inr ⟨h1, rfl, rfl⟩⟩
/-- Behind k values: they are read, or there were none. -/
def RowSt (l : List UInt8) (k : Nat) (vs : List V3) (rl : List UInt8) (b : Bool) : Prop := (rowP k l = some (vs, rl) ∧ b = false) ∨ (rowP k l = none ∧ rl = [] ∧ b = true)
theorem RowSt.step {l rl r : List UInt8} {k : Nat} {vs : List V3} {x : V3} {b b' : Bool} (h : RowSt l k vs rl b) (hv : (valR rl = some (x, r) ∧ b' = false) ∨ (valR rl = none ∧ r = [] ∧ b' = true)) : RowSt l (k + 1) (vs ++ [x]) r b' := by
  rcases h with ⟨h1, _⟩ | ⟨h1, h2, _⟩
  · rcases hv with ⟨h3, h4⟩ | ⟨h3, h4, h5⟩
    · exact .inl ⟨rowP_step h1 h3, h4⟩
    · exact .inr ⟨rowP_stop h1 h3, h4, h5⟩
  · rcases hv with ⟨h3, h4⟩ | ⟨h3, h4, h5⟩
    · rw [h2, valR_nil] at h3; cases h3
    · exact .inr ⟨rowP_none h1 _ (Nat.le_succ _), h4, h5⟩
def RowRes (lo : Nat → Prop) (g : Nat) (w : World) (wd : Nat) (l : List UInt8) (e : Ending) (w' : World) : Prop :=
  ∃ A c vs rl b, e = .returned (.slice A wd c) ∧ vs.length = wd ∧ RowAt w'.heap.size w' A vs ∧ (A = none → c = 0) ∧ (∀ a, A = some a → w.heap.size ≤ a.block) ∧ InAt lo g w' rl b ∧ OnlyG g w w' ∧ RowSt l wd vs rl b
set_option maxHeartbeats 3200000 in
set_option maxRecDepth 100000 in
theorem inRow_any {lo : Nat → Prop} {g : Nat} {l : List UInt8} (wd : Nat) (w : World) (hI : InAt lo g w l false) (hlo : ∀ b, lo b → b < w.heap.size) (hwd : wd ≤ 64) :
    Calls Tryd.prog 50 #[vI g, .int .i64 wd] w (RowRes lo g w wd l) := by
  have hglt := hI.lt
  have HI := hide hI
  have HLo := hide hlo
  have HB1 := hide (fun (w' : World) o => (Below.refl w'.heap.size w').alloc (Nat.le_refl _) o)
  obtain ⟨i0, hi, hz0, hz1, hz2⟩ := info_parts val_info
  have HVal := hide (fun (w' : World) rl b (h : InAt lo g w' rl b) (hs : w.heap.size ≤ w'.heap.size) => inValue_any w' h (fun b hb => Nat.lt_of_lt_of_le (HLo.out b hb) hs))
  clear hI hlo
  unfold RowRes
  go_enter Tryd.func50, Tryd.ntmps50
  go_wp2_with (at_make; go_must (refine wpList_make_own _ rfl _ _ 22 rfl w.heap.size 36 i0 (.agg #[.int .i64 0, .int .i64 0, .string ⟨#[]⟩]) 3 Tryd.underlying22 hi hz0 hz1 .i64 .i64 wd wd rfl rfl rfl (by rw [hz2]; omega) (by unfold maxLen; omega) (Nat.le_refl _) ?_))
  intro w1 hown hgrow
  have hb1 : Below w.heap.size w w1 := (Below.refl _ _).grown hgrow (Nat.le_refl _) (fun j hj => by cases hj)
  have HO := hide hown
  have HL := hide hb1
  clear hown hgrow hb1
  go_wp2_with fail
  go_loopw [5, 9] (fun v i wr => ∃ (k : Nat) (vs : List V3) (rl : List UInt8) (b : Bool), k ≤ wd ∧ i = .int .i64 k ∧ vs.length = k ∧ wr.ownsRow w.heap.size 36 3 v k (valCells vs) ∧ OnlyG g w wr ∧ InAt lo g wr rl b ∧ RowSt l k vs rl b) (fun _ i _ => wd - (intOf i).toNat)
  case atStart => exact ⟨0, [], l, false, Nat.zero_le _, rfl, rfl, HO.out, OnlyG.of_below HL.out, HI.out.below HL.out, .inl ⟨rfl, rfl⟩⟩
  case round =>
    obtain ⟨k, vs, rl, b, hk, rfl, hvl, hown, hog, hin, hst⟩ := hrel
    clear HO HL
    have hsz := hog.size
    by_cases hlt : k < wd
    · have HLt := hide hlt
      have HC := hide (HVal.out wr rl b hin hsz)
      have HOw := hide hown
      have HOg := hide hog
      have HSt := hide hst
      have HVl := hide hvl
      clear hown hog hin hst hvl hk
      go_wp2_with fail
      refine HC.out.mono ?_
      intro e w3 hres
      obtain ⟨x, r, b', rfl, hI3, ho3, hv3⟩ := hres.one
      have HSt3 := hide (HSt.out.step hv3)
      have HOw3 := hide (row_keep HOw.out fun b e => ho3.block b (HOw.out.lt b e).2 (by have := (HOw.out.lt b e).1; omega))
      have HOg3 := hide (HOg.out.trans ho3)
      have hs3 := HOg3.out.size
      have HI3 := hide hI3
      obtain ⟨x0, x1, x2⟩ := x
      clear hI3 ho3 hv3
      go_wp2_with (at_builtin; go_must (refine wpList_append_own _ rfl _ _ 22 rfl w.heap.size 36 i0 (.agg #[.int .i64 0, .int .i64 0, .string ⟨#[]⟩]) 3 32 Tryd.underlying22 hi hz0 hz1 hz2 rfl (by decide) _ _ _ rfl (HOw3.out.alloc _) ⟨w3.heap.size, 0, none⟩ 1 1 [.int .i64 x0, .int .i64 x1, .string x2] rfl rfl (val_new _ _ (x0, x1, x2) _ (by simp)) (val_one (x0, x1, x2)) (by unfold maxLen; omega) (by omega) (by simp; omega) ?_))
      intro v4 w4 hown4 hgrow4 _
      have hb4 : Below w.heap.size w3 w4 := ((HB1.out w3 (.cells #[.int .i64 x0, .int .i64 x1, .string x2] 36)).mono hs3).trans ((Below.refl _ _).grown hgrow4 (by simp; omega) (fun j hj => (HOw3.out.lt j hj).1))
      have HA := hide (show v4 = v4 ∧ w4.ownsRow w.heap.size 36 3 v4 (k + 1) (valCells (vs ++ [(x0, x1, x2)])) ∧ OnlyG g w w4 ∧ InAt lo g w4 r b' from ⟨rfl, by rw [valCells_snoc]; exact hown4, HOg3.out.on hb4, HI3.out.on HLo.out hb4⟩)
      clear hown4 hgrow4 hb4
      go_wp2_with fail
      go_roundw
      case rel => exact ⟨k + 1, vs ++ [(x0, x1, x2)], r, b', HLt.out, by go_num, by rw [List.length_append, HVl.out]; rfl, HA.out.2.1, HA.out.2.2.1, HA.out.2.2.2, HSt3.out⟩
      case measure => have := HLt.out; simp [intOf]; omega
    · obtain rfl : k = wd := by omega
      rw [← hvl] at hown
      obtain ⟨A1, c1, rfl, hA1, hn1, hnew⟩ := row_new hown
      have HA := hide (show vs.length = k ∧ RowAt wr.heap.size wr A1 vs ∧ (A1 = none → c1 = 0) ∧ (∀ a, A1 = some a → w.heap.size ≤ a.block) ∧ InAt lo g wr rl b ∧ OnlyG g w wr ∧ RowSt l k vs rl b from ⟨hvl, hA1, hn1, hnew, hin, hog, hst⟩)
      have HVl := hide hvl
      clear hown hA1 hn1 hnew hin hog hst
      rw [hvl]
      clear hvl hk hlt
      go_wp2_with fail
      go_ret
      exact ⟨A1, c1, vs, rl, b, rfl, HA.out⟩
end Go.Proofs.YtbjcbgomkhdmmaaDoor
