/-
  Types of a slice of columns.
-/
import Derived.Test.YtheeihdbeefkkaaDoorSPick
namespace Go.Proofs.YtheeihdbeefkkaaDoor
open Go.RowKit

def typesOf (cs : List (ByteArray × Int)) : List Int := cs.map (·.2)
theorem typesOf_take {cs : List (ByteArray × Int)} {k : Nat} (hk : k < cs.length) : intCells ((typesOf cs).take (k + 1)) = intCells ((typesOf cs).take k) ++ [.int .i64 (cs.getD k (⟨#[]⟩, 0)).2] := by
  unfold typesOf intCells
  rw [List.take_succ_eq_append_getElem (by rw [List.length_map]; exact hk), List.map_append, List.map_singleton, List.getElem_map, List.getD_eq_getElem?_getD, List.getElem?_eq_getElem hk]; rfl

def TypesV (cs : List (ByteArray × Int)) (w : World) (e : Ending) (w' : World) : Prop :=
  (∃ A c, e = .returned (.slice A (typesOf cs).length c) ∧ IntsAt w'.heap.size w' A (typesOf cs)) ∧ Below w.heap.size w w'

set_option maxHeartbeats 1600000 in
set_option maxRecDepth 100000 in
theorem types_any (A : Option Addr) (cap : Nat) (cs : List (ByteArray × Int)) (w : World) (hC : ColsAt w.heap.size w A cs) (hl : cs.length ≤ 65536) :
    Calls Tryd.prog 19 #[.slice A cs.length cap] w (TypesV cs w) := by
  have HC := hide hC; clear hC
  obtain ⟨i1, hi', hy0, hy1, hy2⟩ := info_parts int_info
  have HLI : Hid ((typesOf cs).length = cs.length) := hide (by unfold typesOf; rw [List.length_map])
  go_enter Tryd.func19, Tryd.ntmps19
  go_wp2_with (at_make; go_must (refine wpList_make_own _ rfl _ _ 36 rfl w.heap.size 3 i1 (.int .i64 0) 1 Tryd.underlying36 hi' hy0 hy1 .i64 .i64 _ cs.length rfl rfl rfl (by rw [hy2]; omega) (by unfold maxLen; omega) (Nat.le_refl _) ?_))
  intro w1 hown1 hgrow1
  have hb1 : Below w.heap.size w w1 := (Below.refl _ _).grown hgrow1 (Nat.le_refl _) (by simp)
  have hs1 := hb1.size
  have HB1 := hide hb1; have HO1 := hide hown1
  clear hgrow1 hown1
  go_wp2
  go_loopw [3, 11] (fun v i wr => ∃ k : Nat, k ≤ cs.length ∧ i = .int .i64 k ∧ wr.ownsRow w.heap.size 3 1 v k (intCells ((typesOf cs).take k)) ∧ Below w.heap.size w wr) (fun _ i _ => cs.length - (intOf i).toNat)
  case atStart => exact ⟨0, Nat.zero_le _, rfl, HO1.out, HB1.out⟩
  case round =>
    obtain ⟨k, hk, rfl, hrow, hbw⟩ := hrel
    by_cases hlt : k < cs.length
    · obtain ⟨b, off, rfl, hb, h0, h1⟩ := HC.out.below hbw k hlt
      have HT := hide (typesOf_take hlt)
      generalize cs.getD k (⟨#[]⟩, 0) = c at h0 h1 HT
      have hs := hbw.size
      go_wp2_with (at_builtin; go_must (refine wpList_append_own _ rfl _ _ 36 rfl w.heap.size 3 i1 (.int .i64 0) 1 8 Tryd.underlying36 hi' hy0 hy1 hy2 rfl (by decide) _ _ _ rfl ((hrow.alloc _).alloc _) ⟨wr.heap.size + 1, 0, none⟩ 1 1 [.int .i64 c.2] rfl rfl (int_new _ _ _ _ (by simp)) (int_one _) (by unfold maxLen; omega) (by omega) (by simp; omega) ?_))
      intro v' w2 hown' hgrow _
      have hs2 := hgrow.size
      simp at hs2
      go_wp2
      go_roundw
      case rel =>
        refine ⟨k + 1, by omega, by go_num, ?_, ?_⟩
        · rw [HT.out]; exact hown'
        · exact (((hbw.alloc hs _).alloc (by simp; omega) _).grown hgrow (by simp; omega) (fun j hj => (hrow.lt j hj).1))
      case measure => simp [intOf]; omega
    · obtain rfl : k = cs.length := by omega
      have HP := hide (show ∀ e w', ((∃ A c, e = Ending.returned (.slice A (typesOf cs).length c) ∧ IntsAt w'.heap.size w' A (typesOf cs)) ∧ Below w.heap.size w w') → TypesV cs w e w' from fun _ _ h => h)
      generalize typesOf cs = I at hrow HLI HP
      rw [← HLI.out, List.take_length] at hrow
      obtain ⟨A', c', rfl, hA⟩ := ints_of_row hrow
      go_wp2
      go_ret
      exact HP.out _ _ ⟨⟨A', c', rfl, hA⟩, hbw⟩
end Go.Proofs.YtheeihdbeefkkaaDoor
