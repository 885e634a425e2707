/-
  Show: the text of a valid value, the empty string of another one.
-/
import Derived.Test.YteaaloejjafhlaaDoorQuote
import Derived.Lib.LaidTab
namespace Go.Proofs.YteaaloejjafhlaaDoor
open Go.RowKit Go.Sort

/-- What strconv.Itoa reads: its table of powers of ten. -/
def Tab (w : World) : Prop := Lib.TabIs Tryd.prog w "internal/strconv.uint64pow10" .u64 Lib.pow10Tab
theorem g_tab : Tryd.prog.globalNamed "internal/strconv.uint64pow10" = some 4 := by kernel_rfl
theorem Tab.stays {w w' : World} {B : Nat} (h : Tab w) (hb : Below B w w') (hB : w.heap.size ≤ B) : Tab w' := Joins.tab_stays g_tab h hb hB

theorem below_grow (w : World) (k : Nat) (os : Array Obj) : Below w.heap.size w (grow (w.drewN k) os) :=
  ⟨rfl, rfl, rfl, by simp [grow], fun j hj => by
    show ((w.heap ++ os)[j]? : Option Obj) = w.heap[j]?
    exact Array.getElem?_append_left hj⟩

theorem itoa_any (n : Int) (w : World) (hn : I64 n) (ht : Tab w) :
    Calls Tryd.prog 33 #[.int .i64 n] w fun e w' => e = .returned (.string ⟨(Lib.itoa n).toArray⟩) ∧ Below w.heap.size w w' := by
  refine (Tryd.strconv_Itoa n hn.1 hn.2 w ht).mono ?_
  rintro e w' ⟨rfl, k, os, rfl⟩
  exact ⟨rfl, below_grow w k os⟩

def showV (k n : Int) (s : ByteArray) : List UInt8 :=
  if rightV k n s then (if k = 1 then Lib.itoa n else if k = 2 then quoteL s.data.toList else [110, 117, 108, 108]) else []

theorem rightV_size {k n : Int} {s : ByteArray} (h : rightV k n s = true) : s.size ≤ 64 := by
  have he : ∀ t : ByteArray, t.toList.isEmpty = true → t.size ≤ 64 := by
    intro t ht
    rw [Lib.toList_data, List.isEmpty_iff] at ht
    have : t.data.toList.length = 0 := by rw [ht]; rfl
    have h2 : t.size = t.data.toList.length := by simp
    omega
  unfold rightV at h
  split at h
  · exact he s (by simp at h; simpa using h.2)
  split at h
  · exact he s h
  split at h
  · unfold rightT at h; simp at h; exact h.2.1
  · cases h

set_option maxHeartbeats 1000000 in
theorem show_any (k n : Int) (s : ByteArray) (w : World) (hs : s.size ≤ maxLen) (hn : I64 n) (ht : Tab w) :
    Calls Tryd.prog 22 #[vVal k n s] w fun e w' => e = .returned (.string ⟨(showV k n s).toArray⟩) ∧ Below w.heap.size w w' := by
  by_cases hr : rightV k n s = true
  · have hs' := rightV_size hr
    have HV : Hid (showV k n s = if k = 1 then Lib.itoa n else if k = 2 then quoteL s.data.toList else [110, 117, 108, 108]) := Lib.hid (by unfold showV; rw [hr]; rfl)
    have HR := Lib.hid hr; clear hr
    have HT := Lib.hid ht; clear ht
    have HN := Lib.hid hn; clear hn
    go_enter Tryd.func22, Tryd.ntmps22
    go_wp2_with fail
    refine (right_any k n s _ hs).mono ?_
    rintro e w1 ⟨rfl, hb⟩
    rw [HR.out]
    obtain ⟨hc, hf⟩ := bcell hb
    have hz : w.heap.size < w1.heap.size := by have := hb.size; simp at this; omega
    have hb0 : Below w.heap.size w w1 := (Joins.below_alloc1 w _).trans (hb.mono (by simp))
    clear hb
    go_wp2_with (first | (go_at_call 33; refine (itoa_any n _ HN.out (Tab.stays HT.out hb0 (Nat.le_refl _))).mono ?_; rintro e w2 ⟨rfl, hb2⟩) | (go_at_call 35; refine (quote_any s _ (by omega)).mono ?_; rintro e w2 ⟨rfl, hb2⟩))
    · rename_i hk
      go_ret
      exact ⟨ret_string (by rw [HV.out, if_pos (by simpa using hk)]), hb0.trans (hb2.mono (by omega))⟩
    · rename_i hk1 hk
      go_ret
      exact ⟨ret_string (by rw [HV.out, if_neg (by simpa using hk1), if_pos (by simpa using hk)]), hb0.trans (hb2.mono (by omega))⟩
    · rename_i hk1 hk
      go_ret
      exact ⟨ret_string (by rw [HV.out, if_neg (by simpa using hk1), if_neg (by simpa using hk)]), hb0⟩
  · have hr' : rightV k n s = false := by simpa using hr
    have HV : Hid (showV k n s = []) := Lib.hid (by unfold showV; rw [hr']; rfl)
    have HR := Lib.hid hr'; clear hr hr'
    clear ht hn
    go_enter Tryd.func22, Tryd.ntmps22
    go_wp2_with fail
    refine (right_any k n s _ hs).mono ?_
    rintro e w1 ⟨rfl, hb⟩
    rw [HR.out]
    have hb0 : Below w.heap.size w w1 := (Joins.below_alloc1 w _).trans (hb.mono (by simp))
    clear hb
    go_wp2_with fail
    go_ret
    exact ⟨ret_string HV.out.symm, hb0⟩
end Go.Proofs.YteaaloejjafhlaaDoor
