/-
  Whether columns are a valid schema: the program's way, by a set of the names that were seen, and the document's, by going over those ahead.
-/
import Derived.Test.YtpohofcfmllghaaDoorSCols
import Derived.Maps.AppendAt
import Derived.Maps.OwnSet
namespace Go.Proofs.YtpohofcfmllghaaDoor
open Go.RowKit Go.Maps

abbrev colAt (cs : List (ByteArray × Int)) (j : Nat) : ByteArray × Int := cs.getD j (⟨#[]⟩, 0)
/-- Stands the name of column k already ahead of it? -/
def twice (cs : List (ByteArray × Int)) (k : Nat) : Bool := (cs.take k).any fun c => c.1.data.toList == (cs.getD k (⟨#[]⟩, 0)).1.data.toList
def badC (cs : List (ByteArray × Int)) (k : Nat) : Int :=
  if nameB (cs.getD k (⟨#[]⟩, 0)).1 then if (cs.getD k (⟨#[]⟩, 0)).2 = 1 ∨ (cs.getD k (⟨#[]⟩, 0)).2 = 2 then if twice cs k then 14 else 0 else 12 else 13
def clean (cs : List (ByteArray × Int)) (k : Nat) : Prop := ∀ j, j < k → badC cs j = 0
instance clean.dec (cs : List (ByteArray × Int)) (k : Nat) : Decidable (clean cs k) := by unfold clean; infer_instance
def firstBad (cs : List (ByteArray × Int)) : Nat → Int
  | 0 => 0
  | n + 1 => if firstBad cs n = 0 then badC cs n else firstBad cs n
/-- The error that columns have, or 0. -/
def checkC (cs : List (ByteArray × Int)) : Int := if 1 ≤ cs.length ∧ cs.length ≤ 16 then firstBad cs cs.length else 31

theorem firstBad_clean {cs : List (ByteArray × Int)} : ∀ {n : Nat}, clean cs n → firstBad cs n = 0
  | 0, _ => rfl
  | n + 1, h => by unfold firstBad; rw [if_pos (firstBad_clean fun j hj => h j (by omega))]; exact h n (by omega)
theorem clean_of {cs : List (ByteArray × Int)} : ∀ {n : Nat}, firstBad cs n = 0 → clean cs n
  | 0, _ => fun j hj => by omega
  | n + 1, h => fun j hj => by
    unfold firstBad at h
    split at h
    · by_cases e : j = n
      · subst e; exact h
      · exact clean_of (by assumption) j (by omega)
    · exact absurd h (by assumption)
theorem firstBad_at {cs : List (ByteArray × Int)} {k : Nat} (h : clean cs k) (hb : badC cs k ≠ 0) : ∀ {n : Nat}, k < n → firstBad cs n = badC cs k
  | 0, hk => by omega
  | n + 1, hk => by
    unfold firstBad
    by_cases e : k = n
    · subst e; rw [if_pos (firstBad_clean h)]
    · rw [firstBad_at h hb (by omega : k < n), if_neg hb]
theorem checkC_at {cs : List (ByteArray × Int)} {k : Nat} (h1 : 1 ≤ cs.length) (h2 : cs.length ≤ 16) (h : clean cs k) (hk : k < cs.length) {v : Int} (hb : badC cs k = v) (hv : v ≠ 0) : checkC cs = v := by
  unfold checkC; rw [if_pos ⟨h1, h2⟩, firstBad_at h (by rw [hb]; exact hv) hk, hb]
theorem checkC_zero {cs : List (ByteArray × Int)} (h1 : 1 ≤ cs.length) (h2 : cs.length ≤ 16) (h : clean cs cs.length) : checkC cs = 0 := by
  unfold checkC; rw [if_pos ⟨h1, h2⟩, firstBad_clean h]
theorem clean_succ {cs : List (ByteArray × Int)} {k : Nat} (h : clean cs k) (hb : badC cs k = 0) : clean cs (k + 1) := fun j hj => by
  by_cases e : j = k
  · subst e; exact hb
  · exact h j (by omega)
theorem checkC_len {cs : List (ByteArray × Int)} (h : ¬ (1 ≤ cs.length ∧ cs.length ≤ 16)) : checkC cs = 31 := by unfold checkC; rw [if_neg h]
theorem checkC_ok {cs : List (ByteArray × Int)} (h : checkC cs = 0) : 1 ≤ cs.length ∧ cs.length ≤ 16 ∧ clean cs cs.length := by
  unfold checkC at h
  split at h
  · exact ⟨by omega, by omega, clean_of h⟩
  · omega
theorem checkC_ok_iff {cs : List (ByteArray × Int)} : checkC cs = 0 ↔ 1 ≤ cs.length ∧ cs.length ≤ 16 ∧ clean cs cs.length := ⟨checkC_ok, fun ⟨a, b, c⟩ => checkC_zero a b c⟩
theorem badC_name {cs : List (ByteArray × Int)} {k : Nat} (h : badC cs k = 0) : nameB (cs.getD k (⟨#[]⟩, 0)).1 = true ∧ ((cs.getD k (⟨#[]⟩, 0)).2 = 1 ∨ (cs.getD k (⟨#[]⟩, 0)).2 = 2) ∧ twice cs k = false := by
  unfold badC at h
  split at h
  · split at h
    · split at h
      · omega
      · rename_i a b c; exact ⟨a, b, by simpa using c⟩
    · omega
  · omega

/-- The names seen behind k rounds. -/
def seenL (cs : List (ByteArray × Int)) (k : Nat) : List Lit := (cs.take k).map fun c => Lit.string c.1.data.toList
def Seen {H : Type} (cs : List (ByteArray × Int)) (k : Nat) : DataW H := setOf (.agg []) (seenL cs k)
theorem Seen_zero {H : Type} (cs : List (ByteArray × Int)) : Seen (H := H) cs 0 = .map [] := by simp [Seen, seenL, setOf]
theorem Seen_succ {H : Type} {cs : List (ByteArray × Int)} {k : Nat} (hk : k < cs.length) : Seen (H := H) cs (k + 1) = (Seen cs k).put (.string (cs.getD k (⟨#[]⟩, 0)).1.data.toList) (.agg []) := by
  unfold Seen seenL; rw [take_col hk, List.map_append, List.map_singleton, setOf_snoc]
theorem has_Seen {H : Type} (cs : List (ByteArray × Int)) (k : Nat) : Maps.has (Seen (H := H) cs k) (.string (cs.getD k (⟨#[]⟩, 0)).1.data.toList) = twice cs k := by
  unfold Seen seenL twice
  rw [has_setOf _ _ _ (fun y hy => by obtain ⟨_, _, rfl⟩ := List.mem_map.1 hy; trivial), List.any_map]
  rfl

theorem keyS : Keyed Tryd.prog 9 := string_keyed Tryd.underlying9
theorem zeroU (w : World) : (zeroValue 70).run Tryd.prog w = .ok (.agg #[]) w := by kernel_rfl

set_option maxHeartbeats 1600000 in
set_option maxRecDepth 100000 in
theorem check_any (A : Option Addr) (cap : Nat) (cs : List (ByteArray × Int)) (w : World) (hC : ColsAt w.heap.size w A cs) (hw : Wf cs) :
    Calls Tryd.prog 23 #[.slice A cs.length cap] w fun e w' => e = .returned (.int .i64 (checkC cs)) ∧ Below w.heap.size w w' := by
  have hl := hw.1
  unfold maxLen at hl
  by_cases hlen : ¬ (1 ≤ cs.length ∧ cs.length ≤ 16)
  · have HR := hide (checkC_len hlen)
    by_cases h0 : cs.length = 0
    · have hb : ((cs.length : Int) == 0) = true := by simp [h0]
      go_enter Tryd.func23, Tryd.ntmps23
      go_wp2
      all_goals go_ret
      all_goals exact ⟨ret_int HR.out.symm, by first | exact Below.refl _ _ | go_grown⟩
    · have hb : ((cs.length : Int) == 0) = false := by simp [h0]
      have h16 : (16 : Int) < cs.length := by omega
      clear h0
      go_enter Tryd.func23, Tryd.ntmps23
      go_wp2
      all_goals go_ret
      all_goals exact ⟨ret_int HR.out.symm, by first | exact Below.refl _ _ | go_grown⟩
  have h1 : 1 ≤ cs.length := by omega
  have h2 : cs.length ≤ 16 := by omega
  have hb : ((cs.length : Int) == 0) = false := by rw [beq_eq_false_iff_ne]; omega
  clear hlen
  have HC := hide hC; have HW := hide hw; clear hC hw
  have hmm := @run_makeMap Tryd.prog
  go_enter Tryd.func23, Tryd.ntmps23
  go_wp2
  go_loopw [19] (fun i wr => ∃ k : Nat, k ≤ cs.length ∧ i = .int .i64 k ∧ clean cs k ∧ wr.ownsMap Tryd.prog 9 unitElem w.heap.size k (Seen (H := Unit) cs k) ∧ Below w.heap.size w wr ∧ w.heap.size + 1 ≤ wr.heap.size)
    (fun i _ => cs.length - (intOf i).toNat)
  case atStart => exact ⟨0, Nat.zero_le _, rfl, fun j hj => by omega, by rw [Seen_zero]; exact World.ownsMap_made _ _ _ _, (Below.refl _ _).alloc (Nat.le_refl _) _, by simp⟩
  case round =>
    obtain ⟨k, hk, rfl, hcl, hown, hbw, hws⟩ := hrel
    have HCL := hide hcl; clear hcl
    by_cases hlt : k < cs.length
    · obtain ⟨b, off, rfl, hb0, c0, c1⟩ := HC.out.below hbw k hlt
      have hsz := (HW.out.at hlt).1
      have HH := hide (has_Seen (H := Unit) cs k)
      have HS := hide (Seen_succ (H := Unit) hlt)
      have HB := hide (show badC cs k = if nameB (cs.getD k (⟨#[]⟩, 0)).1 then if (cs.getD k (⟨#[]⟩, 0)).2 = 1 ∨ (cs.getD k (⟨#[]⟩, 0)).2 = 2 then if twice cs k then 14 else 0 else 12 else 13 from rfl)
      generalize hcol : cs.getD k (⟨#[]⟩, 0) = c at c0 c1 HH HS HB hsz
      obtain ⟨nm, ty⟩ := c
      clear hcol
      have hkey : keyOf Tryd.prog 9 (.string nm) = some (.string nm.data.toList) := WideMaps.keyOf_string_mk Tryd.underlying9 hsz
      go_wp2_with (first
        | (go_at_call 31; refine (name_any nm _ hsz).mono ?_; rintro e w' ⟨rfl, rfl⟩)
        | (at_lookup; refine wpList_lookup_own_unit _ rfl _ _ 68 rfl 9 70 keyS Tryd.underlying68 (zeroU _) w.heap.size k _ rfl (hown.alloc _) _ _ rfl hkey ?_)
        | (at_mapUpdate; refine wpList_mapUpdate_own _ rfl _ _ _ 68 rfl 9 70 keyS Tryd.underlying68 (unitElem (H := Unit)) w.heap.size k _ rfl ((hown.alloc _).alloc _) (by unfold maxLen; omega) _ _ _ rfl rfl hkey _ [] unitElem_mk ?_; intro w1 hown1 hgrow1))
      all_goals first
        | (go_ret
           exact ⟨ret_int (checkC_at h1 h2 HCL.out hlt (by rw [HB.out]; have hH := HH.out; simp_all) (by decide)).symm, by first | exact (hbw.alloc hbw.size _) | exact ((hbw.alloc hbw.size _).alloc (by have := hbw.size; simp; omega) _)⟩)
        | (have hs := hgrow1.size
           simp at hs
           go_roundw
           case rel =>
             refine ⟨k + 1, by omega, by go_num, clean_succ HCL.out (by rw [HB.out]; have hH := HH.out; simp_all), by rw [HS.out]; exact hown1, ?_, by omega⟩
             exact ((hbw.alloc hbw.size _).alloc (by have := hbw.size; simp; omega) _).grown hgrow1 (by have := hbw.size; simp; omega) (fun j hj => by cases hj; exact Nat.le_refl _)
           case measure => simp [intOf]; omega)
    · go_wp2
      go_ret
      exact ⟨ret_int (checkC_zero h1 h2 (by have := HCL.out; rw [show k = cs.length by omega] at this; exact this)).symm, hbw⟩
end Go.Proofs.YtpohofcfmllghaaDoor
