/-
  read and Parse.
-/
import Derived.Test.YtggaflihblhapaaDoorJShow
namespace Go.Proofs.YtggaflihblhapaaDoor
open Go.RowKit Go.Sort CM JM

/-- The three that Cut tells, as a value. -/
abbrev cutV (c : List UInt8 × List UInt8 × Bool) : Value := .tuple #[txt c.1, txt c.2.1, .bool c.2.2]
theorem cut_any (l : List UInt8) (sep : ByteArray) (w : World) (hs : l.length ≤ 1000) (hm : Mx w) : Calls Tryd.prog 74 #[txt l, .string sep] w fun e w' => e = .returned (cutV (Lib.cut l sep.data.toList)) ∧ Below w.heap.size w w' := by
  obtain ⟨m, hm⟩ := hm
  refine (Tryd.strings_Cut ⟨l.toArray⟩ sep m w (by show l.toArray.size < _; rw [List.size_toArray]; omega) hm).mono ?_
  rintro e w' ⟨rfl, n, rfl⟩
  exact ⟨rfl, rfl, rfl, rfl, Nat.le_refl _, fun _ _ => rfl⟩
theorem cut_len (l sep : List UInt8) : (Lib.cut l sep).1.length ≤ l.length ∧ (Lib.cut l sep).2.1.length ≤ l.length := by
  unfold Lib.cut
  split
  · simp; omega
  · simp
set_option maxHeartbeats 4000000 in
theorem read_any' (l : List UInt8) (w : World) (hs : l.length ≤ 1000) (hR : Rs w) : Calls Tryd.prog 49 #[txt l] w fun e w' => e = .returned (vS (readK l) (readA l) (readZ l)) ∧ Below w.heap.size w w' := by
  have hl1 := cut_len l [32]
  have hl2 := cut_len (Lib.cut l [32]).2.1 [46, 46]
  have q0 : Below w.heap.size w (w.alloc (.cells #[.int .i64 0, .int .i64 0, .int .i64 0] 41)) := (Below.refl _ _).alloc (Nat.le_refl _) _
  have HO : Hid (∀ w1, Below (w.alloc (.cells #[.int .i64 0, .int .i64 0, .int .i64 0] 41)).heap.size (w.alloc (.cells #[.int .i64 0, .int .i64 0, .int .i64 0] 41)) w1 → Below w.heap.size w w1) := hide fun w1 h => q0.trans (h.mono q0.size)
  have HB0 := hide (Below.refl (w.alloc (.cells #[.int .i64 0, .int .i64 0, .int .i64 0] 41)).heap.size (w.alloc (.cells #[.int .i64 0, .int .i64 0, .int .i64 0] 41)))
  have HC1 := hide (cut_any l ⟨#[32]⟩ (w.alloc (.cells #[.int .i64 0, .int .i64 0, .int .i64 0] 41)) hs (hR.mx.on q0))
  have HC2 : Hid (∀ w1, Below (w.alloc (.cells #[.int .i64 0, .int .i64 0, .int .i64 0] 41)).heap.size (w.alloc (.cells #[.int .i64 0, .int .i64 0, .int .i64 0] 41)) w1 → Calls Tryd.prog 74 #[txt (Lib.cut l [32]).2.1, .string ⟨#[46, 46]⟩] w1 fun e w' => e = .returned (cutV (Lib.cut (Lib.cut l [32]).2.1 [46, 46])) ∧ Below w1.heap.size w1 w') := hide fun w1 hb => cut_any _ ⟨#[46, 46]⟩ w1 (by omega) (hR.on (HO.out _ hb)).mx
  have HK : Hid (∀ w1, Below (w.alloc (.cells #[.int .i64 0, .int .i64 0, .int .i64 0] 41)).heap.size (w.alloc (.cells #[.int .i64 0, .int .i64 0, .int .i64 0] 41)) w1 → Calls Tryd.prog 75 #[txt (Lib.cut l [32]).1] w1 fun e w' => e = .returned (.int .i64 (readK l)) ∧ Below w1.heap.size w1 w') := hide fun w1 hb => kindOf_any ⟨(Lib.cut l [32]).1.toArray⟩ w1 (hR.on (HO.out _ hb)).wd
  have HA : Hid (∀ w1, Below (w.alloc (.cells #[.int .i64 0, .int .i64 0, .int .i64 0] 41)).heap.size (w.alloc (.cells #[.int .i64 0, .int .i64 0, .int .i64 0] 41)) w1 → Calls Tryd.prog 76 #[txt (Lib.cut (Lib.cut l [32]).2.1 [46, 46]).1] w1 fun e w' => e = .returned (.int .i64 (readA l)) ∧ Below w1.heap.size w1 w') := hide fun w1 hb => number_any' ⟨(Lib.cut (Lib.cut l [32]).2.1 [46, 46]).1.toArray⟩ w1 (by show Array.size _ ≤ _; rw [List.size_toArray]; omega) (hR.on (HO.out _ hb)).errs
  have HZ : Hid (∀ w1, Below (w.alloc (.cells #[.int .i64 0, .int .i64 0, .int .i64 0] 41)).heap.size (w.alloc (.cells #[.int .i64 0, .int .i64 0, .int .i64 0] 41)) w1 → Calls Tryd.prog 76 #[txt (Lib.cut (Lib.cut l [32]).2.1 [46, 46]).2.1] w1 fun e w' => e = .returned (.int .i64 (readZ l)) ∧ Below w1.heap.size w1 w') := hide fun w1 hb => number_any' ⟨(Lib.cut (Lib.cut l [32]).2.1 [46, 46]).2.1.toArray⟩ w1 (by show Array.size _ ≤ _; rw [List.size_toArray]; omega) (hR.on (HO.out _ hb)).errs
  have h1 : (Lib.cut l (⟨#[32]⟩ : ByteArray).data.toList) = Lib.cut l [32] := rfl
  rw [h1] at HC1
  clear h1 hl1 hl2 q0 hR hs
  generalize readK l = K at *
  generalize readA l = A at *
  generalize readZ l = Z at *
  generalize Lib.cut (Lib.cut l [32]).2.1 [46, 46] = c2 at *
  generalize Lib.cut l [32] = c1 at *
  obtain ⟨a1, a2, a3⟩ := c1
  obtain ⟨d1, d2, d3⟩ := c2
  simp only at HC1 HC2 HK HA HZ
  go_enter Tryd.func49, Tryd.ntmps49
  go_wp2_with fail
  refine HC1.out.mono ?_
  rintro e w1 ⟨rfl, hb⟩
  have HB1 := hide (HB0.out.trans hb)
  clear hb
  go_wp2_with fail
  refine (HC2.out _ HB1.out).mono ?_
  rintro e w2 ⟨rfl, hb⟩
  have HB2 := hide (HB1.out.trans (hb.mono HB1.out.size))
  clear hb
  go_wp2_with fail
  refine (HK.out _ HB2.out).mono ?_
  rintro e w3 ⟨rfl, hb⟩
  have HB3 := hide (HB2.out.trans (hb.mono HB2.out.size))
  clear hb
  go_wp2_with fail
  refine (HA.out _ HB3.out).mono ?_
  rintro e w4 ⟨rfl, hb⟩
  have HB4 := hide (HB3.out.trans (hb.mono HB3.out.size))
  clear hb
  go_wp2_with fail
  refine (HZ.out _ HB4.out).mono ?_
  rintro e w5 ⟨rfl, hb⟩
  have HB5 := hide (HB4.out.trans (hb.mono HB4.out.size))
  clear hb
  have cc := fun o => HB5.out.cell (p := ⟨w.heap.size, o, none⟩) (by simp)
  have ff := fun o => HB5.out.frozen (p := ⟨w.heap.size, o, none⟩) (by simp)
  have e0 := cc 0; have e1 := cc 1; have e2 := cc 2
  simp at e0 e1 e2
  have zz : w.heap.size < w5.heap.size := by have := HB5.out.size; simp at this; omega
  clear cc
  have HF := hide (HO.out _ HB5.out)
  go_wp2_with fail
  refine bodyPost_ret (v := vS K A Z) (by simp [results, Tryd.results49, go_sem, e0, e1, e2]) rfl ⟨rfl, ((HF.out.setCell (Nat.le_refl _) _).setCell (Nat.le_refl _) _).setCell (Nat.le_refl _) _⟩
/-- What Parse tells of a text. -/
def ParseOut (l : List UInt8) (w : World) (e : Ending) (w' : World) : Prop :=
  ((∃ k a z, okS k a z = true ∧ l = showS k a z ∧ e = .returned (.tuple #[vS k a z, .int .i64 0])) ∨ ((∀ k a z, okS k a z = true → l ≠ showS k a z) ∧ e = .returned (.tuple #[vS 0 0 0, .int .i64 20]))) ∧ Below w.heap.size w w'

set_option maxHeartbeats 4000000 in
theorem parse_far (l : List UInt8) (k a z : Int) (w : World) (hr : ∀ w', Below w.heap.size w w' → Calls Tryd.prog 49 #[txt l] w' fun e w2 => e = .returned (vS k a z) ∧ Below w'.heap.size w' w2)
    (hc : ∀ w', Below w.heap.size w w' → Calls Tryd.prog 19 #[vS k a z] w' fun e w2 => e = .returned (.int .i64 54) ∧ Below w'.heap.size w' w2)
    : Calls Tryd.prog 29 #[txt l] w fun e w' => e = .returned (.tuple #[vS 0 0 0, .int .i64 20]) ∧ Below w.heap.size w w' := by
  have HR := hide hr; have HC := hide hc; 
  have q0 : Below w.heap.size w (w.alloc (.cells #[.int .i64 0, .int .i64 0, .int .i64 0] 41)) := (Below.refl _ _).alloc (Nat.le_refl _) _
  have HO : Hid (∀ w1, Below (w.alloc (.cells #[.int .i64 0, .int .i64 0, .int .i64 0] 41)).heap.size (w.alloc (.cells #[.int .i64 0, .int .i64 0, .int .i64 0] 41)) w1 → Below w.heap.size w w1) := hide fun w1 h => q0.trans (h.mono q0.size)
  have HB0 := hide (Below.refl (w.alloc (.cells #[.int .i64 0, .int .i64 0, .int .i64 0] 41)).heap.size (w.alloc (.cells #[.int .i64 0, .int .i64 0, .int .i64 0] 41)))
  clear hr hc q0
  go_enter Tryd.func29, Tryd.ntmps29
  go_wp2_with fail
  refine (HR.out _ (HO.out _ HB0.out)).mono ?_
  rintro e w1 ⟨rfl, hb⟩
  have HB1 := hide (HB0.out.trans hb)
  clear hb
  go_wp2_with fail
  have q1 : Below (w.alloc (.cells #[.int .i64 0, .int .i64 0, .int .i64 0] 41)).heap.size (w.alloc (.cells #[.int .i64 0, .int .i64 0, .int .i64 0] 41)) (w1.alloc (.cells #[.int .i64 k, .int .i64 a, .int .i64 z] 41)) := HB1.out.alloc HB1.out.size _
  refine (HC.out _ (HO.out _ q1)).mono ?_
  rintro e w2 ⟨rfl, hb⟩
  obtain ⟨⟨c0, c1, c2⟩, hs⟩ := box_stays hb
  have HB2 := hide (q1.trans (hb.mono q1.size))
  clear hb q1
  have HB3 := HB2
  obtain ⟨w3, hw3⟩ : ∃ w3, w3 = w2 := ⟨_, rfl⟩
  subst hw3
  have cc := fun o => HB3.out.cell (p := ⟨w.heap.size, o, none⟩) (by simp)
  have ff := fun o => HB3.out.frozen (p := ⟨w.heap.size, o, none⟩) (by simp)
  have e0 := cc 0; have e1 := cc 1; have e2 := cc 2
  simp at e0 e1 e2
  have zz : w.heap.size < w3.heap.size := by have := HB3.out.size; simp at this; omega
  clear cc
  have HF := hide (HO.out _ HB3.out)
  go_wp2_with fail
  refine bodyPost_ret (v := .tuple #[vS 0 0 0, .int .i64 20]) (by simp [results, Tryd.results29, go_sem, e0, e1, e2]) rfl ⟨rfl, ((HF.out.setCell (Nat.le_refl _) _).setCell (Nat.le_refl _) _).setCell (Nat.le_refl _) _⟩
set_option maxHeartbeats 4000000 in
theorem parse_oth (l t : List UInt8) (k a z : Int) (w : World) (hr : ∀ w', Below w.heap.size w w' → Calls Tryd.prog 49 #[txt l] w' fun e w2 => e = .returned (vS k a z) ∧ Below w'.heap.size w' w2)
    (hc : ∀ w', Below w.heap.size w w' → Calls Tryd.prog 19 #[vS k a z] w' fun e w2 => e = .returned (.int .i64 0) ∧ Below w'.heap.size w' w2)
    (hs : ∀ w', Below w.heap.size w w' → Calls Tryd.prog 28 #[vS k a z] w' fun e w2 => e = .returned (txt t) ∧ Below w'.heap.size w' w2)
    (hq : (t == l) = false) : Calls Tryd.prog 29 #[txt l] w fun e w' => e = .returned (.tuple #[vS 0 0 0, .int .i64 20]) ∧ Below w.heap.size w w' := by
  have HR := hide hr; have HC := hide hc; have HS := hide hs
  have q0 : Below w.heap.size w (w.alloc (.cells #[.int .i64 0, .int .i64 0, .int .i64 0] 41)) := (Below.refl _ _).alloc (Nat.le_refl _) _
  have HO : Hid (∀ w1, Below (w.alloc (.cells #[.int .i64 0, .int .i64 0, .int .i64 0] 41)).heap.size (w.alloc (.cells #[.int .i64 0, .int .i64 0, .int .i64 0] 41)) w1 → Below w.heap.size w w1) := hide fun w1 h => q0.trans (h.mono q0.size)
  have HB0 := hide (Below.refl (w.alloc (.cells #[.int .i64 0, .int .i64 0, .int .i64 0] 41)).heap.size (w.alloc (.cells #[.int .i64 0, .int .i64 0, .int .i64 0] 41)))
  clear hr hc hs q0
  go_enter Tryd.func29, Tryd.ntmps29
  go_wp2_with fail
  refine (HR.out _ (HO.out _ HB0.out)).mono ?_
  rintro e w1 ⟨rfl, hb⟩
  have HB1 := hide (HB0.out.trans hb)
  clear hb
  go_wp2_with fail
  have q1 : Below (w.alloc (.cells #[.int .i64 0, .int .i64 0, .int .i64 0] 41)).heap.size (w.alloc (.cells #[.int .i64 0, .int .i64 0, .int .i64 0] 41)) (w1.alloc (.cells #[.int .i64 k, .int .i64 a, .int .i64 z] 41)) := HB1.out.alloc HB1.out.size _
  refine (HC.out _ (HO.out _ q1)).mono ?_
  rintro e w2 ⟨rfl, hb⟩
  obtain ⟨⟨c0, c1, c2⟩, hs⟩ := box_stays hb
  have HB2 := hide (q1.trans (hb.mono q1.size))
  clear hb q1
  go_wp2_with fail
  refine (HS.out _ (HO.out _ HB2.out)).mono ?_
  rintro e w3 ⟨rfl, hb⟩
  have d0 := (hb.cell (p := ⟨w1.heap.size, 0, none⟩) hs).trans c0
  have d1 := (hb.cell (p := ⟨w1.heap.size, 1, none⟩) hs).trans c1
  have d2 := (hb.cell (p := ⟨w1.heap.size, 2, none⟩) hs).trans c2
  have HB3 := hide (HB2.out.trans (hb.mono HB2.out.size))
  clear hb c0 c1 c2 hs
  have cc := fun o => HB3.out.cell (p := ⟨w.heap.size, o, none⟩) (by simp)
  have ff := fun o => HB3.out.frozen (p := ⟨w.heap.size, o, none⟩) (by simp)
  have e0 := cc 0; have e1 := cc 1; have e2 := cc 2
  simp at e0 e1 e2
  have zz : w.heap.size < w3.heap.size := by have := HB3.out.size; simp at this; omega
  clear cc
  have HF := hide (HO.out _ HB3.out)
  go_wp2_with fail
  refine bodyPost_ret (v := .tuple #[vS 0 0 0, .int .i64 20]) (by simp [results, Tryd.results29, go_sem, e0, e1, e2]) rfl ⟨rfl, ((HF.out.setCell (Nat.le_refl _) _).setCell (Nat.le_refl _) _).setCell (Nat.le_refl _) _⟩
set_option maxHeartbeats 4000000 in
theorem parse_yes (l t : List UInt8) (k a z : Int) (w : World) (hr : ∀ w', Below w.heap.size w w' → Calls Tryd.prog 49 #[txt l] w' fun e w2 => e = .returned (vS k a z) ∧ Below w'.heap.size w' w2)
    (hc : ∀ w', Below w.heap.size w w' → Calls Tryd.prog 19 #[vS k a z] w' fun e w2 => e = .returned (.int .i64 0) ∧ Below w'.heap.size w' w2)
    (hs : ∀ w', Below w.heap.size w w' → Calls Tryd.prog 28 #[vS k a z] w' fun e w2 => e = .returned (txt t) ∧ Below w'.heap.size w' w2)
    (hq : (t == l) = true) : Calls Tryd.prog 29 #[txt l] w fun e w' => e = .returned (.tuple #[vS k a z, .int .i64 0]) ∧ Below w.heap.size w w' := by
  have HR := hide hr; have HC := hide hc; have HS := hide hs
  have q0 : Below w.heap.size w (w.alloc (.cells #[.int .i64 0, .int .i64 0, .int .i64 0] 41)) := (Below.refl _ _).alloc (Nat.le_refl _) _
  have HO : Hid (∀ w1, Below (w.alloc (.cells #[.int .i64 0, .int .i64 0, .int .i64 0] 41)).heap.size (w.alloc (.cells #[.int .i64 0, .int .i64 0, .int .i64 0] 41)) w1 → Below w.heap.size w w1) := hide fun w1 h => q0.trans (h.mono q0.size)
  have HB0 := hide (Below.refl (w.alloc (.cells #[.int .i64 0, .int .i64 0, .int .i64 0] 41)).heap.size (w.alloc (.cells #[.int .i64 0, .int .i64 0, .int .i64 0] 41)))
  clear hr hc hs q0
  go_enter Tryd.func29, Tryd.ntmps29
  go_wp2_with fail
  refine (HR.out _ (HO.out _ HB0.out)).mono ?_
  rintro e w1 ⟨rfl, hb⟩
  have HB1 := hide (HB0.out.trans hb)
  clear hb
  go_wp2_with fail
  have q1 : Below (w.alloc (.cells #[.int .i64 0, .int .i64 0, .int .i64 0] 41)).heap.size (w.alloc (.cells #[.int .i64 0, .int .i64 0, .int .i64 0] 41)) (w1.alloc (.cells #[.int .i64 k, .int .i64 a, .int .i64 z] 41)) := HB1.out.alloc HB1.out.size _
  refine (HC.out _ (HO.out _ q1)).mono ?_
  rintro e w2 ⟨rfl, hb⟩
  obtain ⟨⟨c0, c1, c2⟩, hs⟩ := box_stays hb
  have HB2 := hide (q1.trans (hb.mono q1.size))
  clear hb q1
  go_wp2_with fail
  refine (HS.out _ (HO.out _ HB2.out)).mono ?_
  rintro e w3 ⟨rfl, hb⟩
  have d0 := (hb.cell (p := ⟨w1.heap.size, 0, none⟩) hs).trans c0
  have d1 := (hb.cell (p := ⟨w1.heap.size, 1, none⟩) hs).trans c1
  have d2 := (hb.cell (p := ⟨w1.heap.size, 2, none⟩) hs).trans c2
  have HB3 := hide (HB2.out.trans (hb.mono HB2.out.size))
  clear hb c0 c1 c2 hs
  have cc := fun o => HB3.out.cell (p := ⟨w.heap.size, o, none⟩) (by simp)
  have ff := fun o => HB3.out.frozen (p := ⟨w.heap.size, o, none⟩) (by simp)
  have e0 := cc 0; have e1 := cc 1; have e2 := cc 2
  simp at e0 e1 e2
  have zz : w.heap.size < w3.heap.size := by have := HB3.out.size; simp at this; omega
  clear cc
  have HF := hide (HO.out _ HB3.out)
  go_wp2_with fail
  refine bodyPost_ret (v := .tuple #[vS k a z, .int .i64 0]) (by simp [results, Tryd.results29, go_sem, e0, e1, e2]) rfl ⟨rfl, ((HF.out.setCell (Nat.le_refl _) _).setCell (Nat.le_refl _) _).setCell (Nat.le_refl _) _⟩
theorem parse_any (l : List UInt8) (w : World) (hs : l.length ≤ 1000) (hR : Rs w) : Calls Tryd.prog 29 #[txt l] w (ParseOut l w) := by
  have hr := fun w' (hb : Below w.heap.size w w') => read_any' l w' hs (hR.on hb)
  have hz := (num_bd (Lib.cut (Lib.cut l [32]).2.1 [46, 46]).2.1).2
  have hsh := fun w' (hb : Below w.heap.size w w') => show_any' (readK l) (readA l) (readZ l) w' (hR.on hb) hz
  have hc := fun w' (hb : Below w.heap.size w w') => check_any (readK l) (readA l) (readZ l) w' (hR.on hb).mon hz
  have hno : (okS (readK l) (readA l) (readZ l) = false ∨ showS (readK l) (readA l) (readZ l) ≠ l) → ∀ k a z, okS k a z = true → l ≠ showS k a z := by
    rintro h k a z hok rfl
    obtain ⟨h1, h2, h3⟩ := show_back hok
    rw [h1, h2, h3] at h
    rcases h with h | h
    · rw [hok] at h; cases h
    · exact h rfl
  cases hq : okS (readK l) (readA l) (readZ l)
  · rw [chE_no hq] at hc
    exact (parse_far l _ _ _ w hr hc).mono fun e w' hh => ⟨.inr ⟨hno (.inl hq), hh.1⟩, hh.2⟩
  · rw [chE_yes hq] at hc
    by_cases he : showS (readK l) (readA l) (readZ l) = l
    · exact (parse_yes l _ _ _ _ w hr hc hsh (by simpa using he)).mono fun e w' hh => ⟨.inl ⟨_, _, _, hq, he.symm, hh.1⟩, hh.2⟩
    · exact (parse_oth l _ _ _ _ w hr hc hsh (by simpa using he)).mono fun e w' hh => ⟨.inr ⟨hno (.inr he), hh.1⟩, hh.2⟩
end Go.Proofs.YtggaflihblhapaaDoor
