/-
  The digest of a table: that of its text's bytes. The two ways of writing a table's text are one.
-/
import Derived.Test.YtfjhdfpdgjjcgaaGreatDoorTShow
import Derived.Test.YtfjhdfpdgjjcgaaGreatDoorZT
import Derived.Test.YtfjhdfpdgjjcgaaGreatDoorTDig
import Derived.Test.YtfjhdfpdgjjcgaaGreatDoorTBox
import Derived.Test.YtfjhdfpdgjjcgaaGreatDoorZV
import Derived.Lib.ConvBytes
namespace Go.Proofs.YtfjhdfpdgjjcgaaGreatDoor
open Go.RowKit

theorem lineK_join (vs : List (Int × Int × ByteArray)) : ∀ k, k ≤ vs.length → lineK vs k = joinL [44, 32] ((vs.take k).map showL)
  | 0, _ => rfl
  | k + 1, hk => by
    have ih := lineK_join vs k (by omega)
    unfold lineK
    rw [ih, take_val (by omega), List.map_append, List.map_singleton]
    by_cases h0 : 0 < k
    · rw [if_pos h0, joinL_snoc _ _ _ (by simp; exact ⟨by omega, by rintro rfl; simp at hk⟩)]
    · obtain rfl : k = 0 := by omega
      rfl
theorem lineX_L (vs : List (Int × Int × ByteArray)) : lineX vs = lineL vs := by
  unfold lineX lineL
  rw [lineK_join vs _ (Nat.le_refl _), List.take_length]
theorem showX_T (cs : List (ByteArray × Int)) (rs : R3) : showX cs rs = showT cs rs := by
  unfold showX showT linesX linesL
  simp only [lineX_L, List.append_assoc, List.singleton_append]

set_option maxHeartbeats 1600000 in
set_option maxRecDepth 100000 in
theorem tabDigest_any (S A : Option Addr) (c d : Nat) (cs : List (ByteArray × Int)) (hs : List RH) (l : List UInt8) (w : World) (hC : ColsAt w.heap.size w S cs) (hR : RowsAt w.heap.size w A hs) (hw : Wf cs) (hv : WfT (rowsOf hs)) (hT : Tab w)
    (hl : l = if fullT cs (rowsOf hs) = 0 then showX cs (rowsOf hs) else []) (hll : l.length ≤ maxLen) :
    Calls Tryz.prog 19 #[vTab S cs.length c A hs.length d] w fun e w' => e = .returned (.int .u64 (digL l : Nat)) ∧ Below w.heap.size w w' := by
  have hal := boxW_below w (.slice S cs.length c) (.slice A hs.length d)
  have HBox := hide (fun w' => boxW_at (w := w) (a := .slice S cs.length c) (b := .slice A hs.length d) (w' := w'))
  have HWE := hide (show boxW w (.slice S cs.length c) (.slice A hs.length d) = w.alloc (.cells #[.slice S cs.length c, .slice A hs.length d] 26) from rfl)
  have HSh := hide (tabShow_any S A c d cs hs _ (hC.on hal) (hR.on hal) hw hv (hT.stays hal (Nat.le_refl _)))
  rw [← hl] at HSh
  have HL := hide hal
  generalize boxW w (.slice S cs.length c) (.slice A hs.length d) = W at *
  have hcv : ∀ w, (convert 9 71 (.string ⟨l.toArray⟩)).run Tryz.prog w = .ok (.slice (some ⟨w.heap.size, 0, none⟩) l.length (grownCap w l.length 0 5)) (Lib.bytesWorld w 5 ⟨l.toArray⟩) := fun w => by
    have h := Lib.run_convert_string_bytes (P := Tryz.prog) w 9 71 5 ⟨l.toArray⟩ Tryz.underlying9 Tryz.underlying71 Tryz.underlying5
    rw [size_of] at h
    exact h
  have HD := hide (fun (w' : World) => digest_any (some ⟨w'.heap.size, 0, none⟩) (grownCap w' l.length 0 5) l (Lib.bytesWorld w' 5 ⟨l.toArray⟩) (fun j hj => ⟨w'.heap.size, 0, rfl, by rw [Lib.bytesWorld_size]; omega, by
    have h := Lib.bytesWorld_cell w' 5 ⟨l.toArray⟩ j (by rw [size_of]; exact hj)
    rw [list_of] at h
    rw [Nat.zero_add]
    exact h⟩) hll)
  clear hC hR hw hv hT hal hl hll
  go_enter Tryz.func19, Tryz.ntmps19
  go_wp2_with fail
  rw [← HWE.out]
  refine HSh.out.mono ?_
  rintro e w1 ⟨rfl, hb1⟩
  have HB1 := hide hb1
  clear hb1
  go_wp2_with fail
  refine (HD.out _).mono ?_
  rintro e w2 ⟨rfl, rfl⟩
  go_wp2_with fail
  go_ret
  exact ⟨rfl, then_below (then_below HL.out HB1.out) (below_bytes _ _ _)⟩
end Go.Proofs.YtfjhdfpdgjjcgaaGreatDoor
