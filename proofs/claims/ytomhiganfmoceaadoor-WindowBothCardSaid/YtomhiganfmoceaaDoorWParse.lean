/-
  read and Parse of a mapping's text.
-/
import Derived.Test.YtomhiganfmoceaaDoorWShow
import Derived.Test.YtomhiganfmoceaaDoorWRef
namespace Go.Proofs.YtomhiganfmoceaaDoor
open Go.RowKit Go.Sort CM JM WM

set_option maxHeartbeats 4000000 in
theorem mread_any (l : List UInt8) (w : World) (hs : l.length ≤ 1000) (hR : Rw w) : Calls Tryd.prog 37 #[txt l] w fun e w' => e = .returned (vM (readMk l) (readMn l)) ∧ Below w.heap.size w w' := by
  have hl1 := cut_len l [32]
  have q0 : Below w.heap.size w (w.alloc (.cells #[.int .i64 0, .int .i64 0] 23)) := (Below.refl _ _).alloc (Nat.le_refl _) _
  have HO : Hid (∀ w1, Below (w.alloc (.cells #[.int .i64 0, .int .i64 0] 23)).heap.size (w.alloc (.cells #[.int .i64 0, .int .i64 0] 23)) w1 → Below w.heap.size w w1) := hide fun w1 h => q0.trans (h.mono q0.size)
  have HB0 := hide (Below.refl (w.alloc (.cells #[.int .i64 0, .int .i64 0] 23)).heap.size (w.alloc (.cells #[.int .i64 0, .int .i64 0] 23)))
  have HC1 := hide (cut_any l ⟨#[32]⟩ (w.alloc (.cells #[.int .i64 0, .int .i64 0] 23)) hs (hR.mx.on q0))
  have HK : Hid (∀ w1, Below (w.alloc (.cells #[.int .i64 0, .int .i64 0] 23)).heap.size (w.alloc (.cells #[.int .i64 0, .int .i64 0] 23)) w1 → Calls Tryd.prog 50 #[txt (Lib.cut l [32]).1] w1 fun e w' => e = .returned (.int .i64 (readMk l)) ∧ Below w1.heap.size w1 w') := hide fun w1 hb => mkindOf_any ⟨(Lib.cut l [32]).1.toArray⟩ w1 (hR.on (HO.out _ hb)).wd
  have HA : Hid (∀ w1, Below (w.alloc (.cells #[.int .i64 0, .int .i64 0] 23)).heap.size (w.alloc (.cells #[.int .i64 0, .int .i64 0] 23)) w1 → Calls Tryd.prog 49 #[txt (Lib.cut l [32]).2.1] w1 fun e w' => ∃ x : Value, e = .returned (.tuple #[.int .i64 (readMn l), x]) ∧ Below w1.heap.size w1 w') := hide fun w1 hb => atoi_any ⟨(Lib.cut l [32]).2.1.toArray⟩ w1 (by show Array.size _ ≤ _; rw [List.size_toArray]; omega) (hR.on (HO.out _ hb)).errs
  have h1 : (Lib.cut l (⟨#[32]⟩ : ByteArray).data.toList) = Lib.cut l [32] := rfl
  rw [h1] at HC1
  clear h1 hl1 q0 hR hs
  generalize readMk l = K at *
  generalize readMn l = A at *
  generalize Lib.cut l [32] = c1 at *
  obtain ⟨a1, a2, a3⟩ := c1
  simp only at HC1 HK HA
  go_enter Tryd.func37, Tryd.ntmps37
  go_wp2_with fail
  refine HC1.out.mono ?_
  rintro e w1 ⟨rfl, hb⟩
  have HB1 := hide (HB0.out.trans hb)
  clear hb
  go_wp2_with fail
  refine (HA.out _ HB1.out).mono ?_
  rintro e w2 ⟨x, rfl, hb⟩
  have HB2 := hide (HB1.out.trans (hb.mono HB1.out.size))
  clear hb
  go_wp2_with fail
  refine (HK.out _ HB2.out).mono ?_
  rintro e w3 ⟨rfl, hb⟩
  have HB3 := hide (HB2.out.trans (hb.mono HB2.out.size))
  clear hb
  have cc := fun o => HB3.out.cell (p := ⟨w.heap.size, o, none⟩) (by simp)
  have ff := fun o => HB3.out.frozen (p := ⟨w.heap.size, o, none⟩) (by simp)
  have e0 := cc 0; have e1 := cc 1
  simp at e0 e1
  have zz : w.heap.size < w3.heap.size := by have := HB3.out.size; simp at this; omega
  clear cc
  have HF := hide (HO.out _ HB3.out)
  go_wp2_with fail
  refine bodyPost_ret (v := vM K A) (by simp [results, Tryd.results37, go_sem, e0, e1]) rfl ⟨rfl, (HF.out.setCell (Nat.le_refl _) _).setCell (Nat.le_refl _) _⟩
/-- What Parse tells of a text. -/
def MParseOut (l : List UInt8) (w : World) (e : Ending) (w' : World) : Prop :=
  ((∃ k n, formB k n = true ∧ l = showM k n ∧ e = .returned (.tuple #[vM k n, .int .i64 0])) ∨ ((∀ k n, formB k n = true → l ≠ showM k n) ∧ e = .returned (.tuple #[vM 0 0, .int .i64 20]))) ∧ Below w.heap.size w w'
theorem mb_stays {w w1 : World} {k n : Int} (hb : Below (w.alloc (.cells #[.int .i64 k, .int .i64 n] 23)).heap.size (w.alloc (.cells #[.int .i64 k, .int .i64 n] 23)) w1) : (w1.cell? ⟨w.heap.size, 0, none⟩ = some (.int .i64 k) ∧ w1.cell? ⟨w.heap.size, 1, none⟩ = some (.int .i64 n)) ∧ w.heap.size < w1.heap.size := by
  have h1 : (w.alloc (.cells #[.int .i64 k, .int .i64 n] 23)).cell? ⟨w.heap.size, 0, none⟩ = some (.int .i64 k) ∧ (w.alloc (.cells #[.int .i64 k, .int .i64 n] 23)).cell? ⟨w.heap.size, 1, none⟩ = some (.int .i64 n) := by constructor <;> simp
  have hs : w.heap.size < (w.alloc (.cells #[.int .i64 k, .int .i64 n] 23)).heap.size := by simp
  exact ⟨⟨(hb.cell (p := ⟨w.heap.size, 0, none⟩) hs).trans h1.1, (hb.cell (p := ⟨w.heap.size, 1, none⟩) hs).trans h1.2⟩, Nat.lt_of_lt_of_le hs hb.size⟩

set_option maxHeartbeats 4000000 in
theorem mparse_far (l : List UInt8) (k n : Int) (w : World) (hr : ∀ w', Below w.heap.size w w' → Calls Tryd.prog 37 #[txt l] w' fun e w2 => e = .returned (vM k n) ∧ Below w'.heap.size w' w2)
    (hc : ∀ w', Below w.heap.size w w' → Calls Tryd.prog 22 #[vM k n] w' fun e w2 => e = .returned (.bool false) ∧ Below w'.heap.size w' w2)
    : Calls Tryd.prog 20 #[txt l] w fun e w' => e = .returned (.tuple #[vM 0 0, .int .i64 20]) ∧ Below w.heap.size w w' := by
  have HR := hide hr; have HC := hide hc
  have q0 : Below w.heap.size w (w.alloc (.cells #[.int .i64 0, .int .i64 0] 23)) := (Below.refl _ _).alloc (Nat.le_refl _) _
  have HO : Hid (∀ w1, Below (w.alloc (.cells #[.int .i64 0, .int .i64 0] 23)).heap.size (w.alloc (.cells #[.int .i64 0, .int .i64 0] 23)) w1 → Below w.heap.size w w1) := hide fun w1 h => q0.trans (h.mono q0.size)
  have HB0 := hide (Below.refl (w.alloc (.cells #[.int .i64 0, .int .i64 0] 23)).heap.size (w.alloc (.cells #[.int .i64 0, .int .i64 0] 23)))
  clear hr hc q0
  go_enter Tryd.func20, Tryd.ntmps20
  go_wp2_with fail
  refine (HR.out _ (HO.out _ HB0.out)).mono ?_
  rintro e w1 ⟨rfl, hb⟩
  have HB1 := hide (HB0.out.trans hb)
  clear hb
  go_wp2_with fail
  have q1 : Below (w.alloc (.cells #[.int .i64 0, .int .i64 0] 23)).heap.size (w.alloc (.cells #[.int .i64 0, .int .i64 0] 23)) (w1.alloc (.cells #[.int .i64 k, .int .i64 n] 23)) := HB1.out.alloc HB1.out.size _
  refine (HC.out _ (HO.out _ q1)).mono ?_
  rintro e w2 ⟨rfl, hb⟩
  obtain ⟨⟨c0, c1⟩, hs⟩ := mb_stays hb
  have HB2 := hide (q1.trans (hb.mono q1.size))
  clear hb q1
  have cc := fun o => HB2.out.cell (p := ⟨w.heap.size, o, none⟩) (by simp)
  have ff := fun o => HB2.out.frozen (p := ⟨w.heap.size, o, none⟩) (by simp)
  have e0 := cc 0; have e1 := cc 1
  simp at e0 e1
  have zz : w.heap.size < w2.heap.size := by have := HB2.out.size; simp at this; omega
  clear cc
  have HF := hide (HO.out _ HB2.out)
  go_wp2_with fail
  refine bodyPost_ret (v := .tuple #[vM 0 0, .int .i64 20]) (by simp [results, Tryd.results20, go_sem, e0, e1]) rfl ⟨rfl, (HF.out.setCell (Nat.le_refl _) _).setCell (Nat.le_refl _) _⟩

set_option maxHeartbeats 4000000 in
theorem mparse_oth (l t : List UInt8) (k n : Int) (w : World) (hr : ∀ w', Below w.heap.size w w' → Calls Tryd.prog 37 #[txt l] w' fun e w2 => e = .returned (vM k n) ∧ Below w'.heap.size w' w2)
    (hc : ∀ w', Below w.heap.size w w' → Calls Tryd.prog 22 #[vM k n] w' fun e w2 => e = .returned (.bool true) ∧ Below w'.heap.size w' w2)
    (hs : ∀ w', Below w.heap.size w w' → Calls Tryd.prog 18 #[vM k n] w' fun e w2 => e = .returned (txt t) ∧ Below w'.heap.size w' w2)
    (hq : (t == l) = false)
    : Calls Tryd.prog 20 #[txt l] w fun e w' => e = .returned (.tuple #[vM 0 0, .int .i64 20]) ∧ Below w.heap.size w w' := by
  have HR := hide hr; have HC := hide hc; have HS := hide hs
  have q0 : Below w.heap.size w (w.alloc (.cells #[.int .i64 0, .int .i64 0] 23)) := (Below.refl _ _).alloc (Nat.le_refl _) _
  have HO : Hid (∀ w1, Below (w.alloc (.cells #[.int .i64 0, .int .i64 0] 23)).heap.size (w.alloc (.cells #[.int .i64 0, .int .i64 0] 23)) w1 → Below w.heap.size w w1) := hide fun w1 h => q0.trans (h.mono q0.size)
  have HB0 := hide (Below.refl (w.alloc (.cells #[.int .i64 0, .int .i64 0] 23)).heap.size (w.alloc (.cells #[.int .i64 0, .int .i64 0] 23)))
  clear hr hc hs q0
  go_enter Tryd.func20, Tryd.ntmps20
  go_wp2_with fail
  refine (HR.out _ (HO.out _ HB0.out)).mono ?_
  rintro e w1 ⟨rfl, hb⟩
  have HB1 := hide (HB0.out.trans hb)
  clear hb
  go_wp2_with fail
  have q1 : Below (w.alloc (.cells #[.int .i64 0, .int .i64 0] 23)).heap.size (w.alloc (.cells #[.int .i64 0, .int .i64 0] 23)) (w1.alloc (.cells #[.int .i64 k, .int .i64 n] 23)) := HB1.out.alloc HB1.out.size _
  refine (HC.out _ (HO.out _ q1)).mono ?_
  rintro e w2 ⟨rfl, hb⟩
  obtain ⟨⟨c0, c1⟩, hs⟩ := mb_stays hb
  have HB2 := hide (q1.trans (hb.mono q1.size))
  clear hb q1
  go_wp2_with fail
  refine (HS.out _ (HO.out _ HB2.out)).mono ?_
  rintro e w3 ⟨rfl, hb⟩
  have d0 := (hb.cell (p := ⟨w1.heap.size, 0, none⟩) hs).trans c0
  have d1 := (hb.cell (p := ⟨w1.heap.size, 1, none⟩) hs).trans c1
  have HB3 := hide (HB2.out.trans (hb.mono HB2.out.size))
  clear hb c0 c1 hs
  have cc := fun o => HB3.out.cell (p := ⟨w.heap.size, o, none⟩) (by simp)
  have ff := fun o => HB3.out.frozen (p := ⟨w.heap.size, o, none⟩) (by simp)
  have e0 := cc 0; have e1 := cc 1
  simp at e0 e1
  have zz : w.heap.size < w3.heap.size := by have := HB3.out.size; simp at this; omega
  clear cc
  have HF := hide (HO.out _ HB3.out)
  go_wp2_with fail
  refine bodyPost_ret (v := .tuple #[vM 0 0, .int .i64 20]) (by simp [results, Tryd.results20, go_sem, e0, e1]) rfl ⟨rfl, (HF.out.setCell (Nat.le_refl _) _).setCell (Nat.le_refl _) _⟩

set_option maxHeartbeats 4000000 in
theorem mparse_yes (l t : List UInt8) (k n : Int) (w : World) (hr : ∀ w', Below w.heap.size w w' → Calls Tryd.prog 37 #[txt l] w' fun e w2 => e = .returned (vM k n) ∧ Below w'.heap.size w' w2)
    (hc : ∀ w', Below w.heap.size w w' → Calls Tryd.prog 22 #[vM k n] w' fun e w2 => e = .returned (.bool true) ∧ Below w'.heap.size w' w2)
    (hs : ∀ w', Below w.heap.size w w' → Calls Tryd.prog 18 #[vM k n] w' fun e w2 => e = .returned (txt t) ∧ Below w'.heap.size w' w2)
    (hq : (t == l) = true)
    : Calls Tryd.prog 20 #[txt l] w fun e w' => e = .returned (.tuple #[vM k n, .int .i64 0]) ∧ Below w.heap.size w w' := by
  have HR := hide hr; have HC := hide hc; have HS := hide hs
  have q0 : Below w.heap.size w (w.alloc (.cells #[.int .i64 0, .int .i64 0] 23)) := (Below.refl _ _).alloc (Nat.le_refl _) _
  have HO : Hid (∀ w1, Below (w.alloc (.cells #[.int .i64 0, .int .i64 0] 23)).heap.size (w.alloc (.cells #[.int .i64 0, .int .i64 0] 23)) w1 → Below w.heap.size w w1) := hide fun w1 h => q0.trans (h.mono q0.size)
  have HB0 := hide (Below.refl (w.alloc (.cells #[.int .i64 0, .int .i64 0] 23)).heap.size (w.alloc (.cells #[.int .i64 0, .int .i64 0] 23)))
  clear hr hc hs q0
  go_enter Tryd.func20, Tryd.ntmps20
  go_wp2_with fail
  refine (HR.out _ (HO.out _ HB0.out)).mono ?_
  rintro e w1 ⟨rfl, hb⟩
  have HB1 := hide (HB0.out.trans hb)
  clear hb
  go_wp2_with fail
  have q1 : Below (w.alloc (.cells #[.int .i64 0, .int .i64 0] 23)).heap.size (w.alloc (.cells #[.int .i64 0, .int .i64 0] 23)) (w1.alloc (.cells #[.int .i64 k, .int .i64 n] 23)) := HB1.out.alloc HB1.out.size _
  refine (HC.out _ (HO.out _ q1)).mono ?_
  rintro e w2 ⟨rfl, hb⟩
  obtain ⟨⟨c0, c1⟩, hs⟩ := mb_stays hb
  have HB2 := hide (q1.trans (hb.mono q1.size))
  clear hb q1
  go_wp2_with fail
  refine (HS.out _ (HO.out _ HB2.out)).mono ?_
  rintro e w3 ⟨rfl, hb⟩
  have d0 := (hb.cell (p := ⟨w1.heap.size, 0, none⟩) hs).trans c0
  have d1 := (hb.cell (p := ⟨w1.heap.size, 1, none⟩) hs).trans c1
  have HB3 := hide (HB2.out.trans (hb.mono HB2.out.size))
  clear hb c0 c1 hs
  have cc := fun o => HB3.out.cell (p := ⟨w.heap.size, o, none⟩) (by simp)
  have ff := fun o => HB3.out.frozen (p := ⟨w.heap.size, o, none⟩) (by simp)
  have e0 := cc 0; have e1 := cc 1
  simp at e0 e1
  have zz : w.heap.size < w3.heap.size := by have := HB3.out.size; simp at this; omega
  clear cc
  have HF := hide (HO.out _ HB3.out)
  go_wp2_with fail
  refine bodyPost_ret (v := .tuple #[vM k n, .int .i64 0]) (by simp [results, Tryd.results20, go_sem, e0, e1]) rfl ⟨rfl, (HF.out.setCell (Nat.le_refl _) _).setCell (Nat.le_refl _) _⟩

theorem mparse_any (l : List UInt8) (w : World) (hs : l.length ≤ 1000) (hR : Rw w) : Calls Tryd.prog 20 #[txt l] w (MParseOut l w) := by
  have hr := fun w' (hb : Below w.heap.size w w') => mread_any l w' hs (hR.on hb)
  have hsh := fun w' (hb : Below w.heap.size w w') => mshow_any (readMk l) (readMn l) w' (hR.on hb).ra
  have hc := fun w' (_ : Below w.heap.size w w') => formed_any (readMk l) (readMn l) w'
  have hno : (formB (readMk l) (readMn l) = false ∨ showM (readMk l) (readMn l) ≠ l) → ∀ k n, formB k n = true → l ≠ showM k n := by
    rintro h k n hok rfl
    obtain ⟨h1, h2⟩ := show_backM hok
    rw [h1, h2] at h
    rcases h with h | h
    · rw [hok] at h; cases h
    · exact h rfl
  cases hq : formB (readMk l) (readMn l)
  · rw [hq] at hc
    exact (mparse_far l _ _ w hr hc).mono fun e w' hh => ⟨.inr ⟨hno (.inl hq), hh.1⟩, hh.2⟩
  · rw [hq] at hc
    by_cases he : showM (readMk l) (readMn l) = l
    · exact (mparse_yes l _ _ _ w hr hc hsh (by simpa using he)).mono fun e w' hh => ⟨.inl ⟨_, _, hq, he.symm, hh.1⟩, hh.2⟩
    · exact (mparse_oth l _ _ _ w hr hc hsh (by simpa using he)).mono fun e w' hh => ⟨.inr ⟨hno (.inr he), hh.1⟩, hh.2⟩
/-- What Parse tells of a mapping's own text. -/
theorem mparse_text (k n : Int) (w : World) (hq : formB k n = true) (hR : Rw w) : Calls Tryd.prog 20 #[txt (showM k n)] w fun e w' => e = .returned (.tuple #[vM k n, .int .i64 0]) ∧ Below w.heap.size w w' := by
  obtain ⟨hk, h0, h1⟩ := form_kind hq
  have hlen : (showM k n).length ≤ 1000 := by
    have := Lib.itoa_length_le n (by omega) (by omega)
    have := (kindW_word hk).2.2
    unfold showM textM
    rw [if_pos hq]
    split
    · omega
    · rw [List.length_append, List.length_cons]; omega
  refine (mparse_any (showM k n) w hlen hR).mono ?_
  rintro e w' ⟨⟨k', n', hf, he, rfl⟩ | ⟨hno, -⟩, hb⟩
  · obtain ⟨a1, a2⟩ := show_backM hf
    obtain ⟨b1, b2⟩ := show_backM hq
    rw [← he] at a1 a2
    rw [b1] at a1
    rw [b2] at a2
    subst a1 a2
    exact ⟨rfl, hb⟩
  · exact absurd rfl (hno k n hq)
end Go.Proofs.YtomhiganfmoceaaDoor
