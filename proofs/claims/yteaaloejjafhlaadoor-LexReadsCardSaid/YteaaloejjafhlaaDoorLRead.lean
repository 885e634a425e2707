/-
  readWord and readNumber.
-/
import Derived.Test.YteaaloejjafhlaaDoorLWord
namespace Go.Proofs.YteaaloejjafhlaaDoor
open Go.RowKit Go.Sort LM

abbrev txt (l : List UInt8) : Value := .string ⟨l.toArray⟩
/-- A token as a value. -/
abbrev vT (k : Int) (t : List UInt8) (n a : Int) : Value := .agg #[.int .i64 k, txt t, .int .i64 n, .int .i64 a]
/-- What a read tells. -/
def outR (at' : Nat) : Rd → Ending
  | .ok k t n m => .returned (.tuple #[vT k t n 0, .int .i64 ((at' + m : Nat) : Int), .int .i64 0])
  | .no z => .returned (.tuple #[vT 0 [] 0 0, .int .i64 0, .int .i64 z])
theorem ext_rest (s : ByteArray) (a m : Nat) : s.extract a (a + m) = ⟨((rest s a).take m).toArray⟩ := by
  refine of_data ?_
  rw [Lib.extract_data]
  unfold rest
  congr 1
  omega
theorem pre_in (p : UInt8 → Bool) (s : ByteArray) (a : Nat) (h : a ≤ s.size) : a + pre p (rest s a) ≤ s.size := by
  have := pre_le p (rest s a)
  rw [rest_len] at this; omega
abbrev boxT (w : World) : World := w.alloc (.cells #[.int .i64 0, .string ⟨#[]⟩, .int .i64 0, .int .i64 0] 33)
theorem boxT_below (w : World) : Below w.heap.size w (boxT w) := (Below.refl _ _).alloc (Nat.le_refl _) _
theorem boxT_cells {w w1 : World} (hb : Below (boxT w).heap.size (boxT w) w1) : (w1.cell? ⟨w.heap.size, 0, none⟩ = some (.int .i64 0) ∧ w1.cell? ⟨w.heap.size, 1, none⟩ = some (.string ⟨#[]⟩) ∧ w1.cell? ⟨w.heap.size, 2, none⟩ = some (.int .i64 0) ∧ w1.cell? ⟨w.heap.size, 3, none⟩ = some (.int .i64 0)) ∧ (∀ o, w1.frozen? ⟨w.heap.size, o, none⟩ = false) ∧ w.heap.size < w1.heap.size := by
  have hs : w.heap.size < (boxT w).heap.size := by simp
  exact ⟨⟨(hb.cell (p := ⟨w.heap.size, 0, none⟩) hs).trans (by simp), (hb.cell (p := ⟨w.heap.size, 1, none⟩) hs).trans (by simp), (hb.cell (p := ⟨w.heap.size, 2, none⟩) hs).trans (by simp), (hb.cell (p := ⟨w.heap.size, 3, none⟩) hs).trans (by simp)⟩, fun o => (hb.frozen (p := ⟨w.heap.size, o, none⟩) hs).trans (by simp), Nat.lt_of_lt_of_le hs hb.size⟩
theorem clone_any (s : ByteArray) (w : World) (hs : s.size ≤ 140737488355328) : Calls Tryd.prog 41 #[.string s] w fun e w' => e = .returned (.string s) ∧ Below w.heap.size w w' := by
  have HC := hide (fun w => Tryd.stringslite_Clone s w (by omega))
  go_enter Tryd.func41, Tryd.ntmps41
  go_wp2_with fail
  refine (HC.out _).mono ?_
  rintro e w1 ⟨rfl, hb⟩
  have HB := hide hb
  clear hb
  go_wp2_with fail
  go_ret
  exact ⟨rfl, HB.out⟩
set_option maxHeartbeats 2000000 in
theorem word_any (s : ByteArray) (at' : Nat) (w : World) (hs : s.size ≤ 140737488355328) (ha : at' < s.size) :
    Calls Tryd.prog 28 #[.string s, .int .i64 at'] w fun e w' => e = outR at' (wordR (rest s at')) ∧ Below w.heap.size w w' := by
  have HR := hide (fun w1 => wordRun_any s at' w1 hs (by omega))
  have hi := pre_in worP s at' (by omega)
  have HX := hide (ext_rest s at' (pre worP (rest s at')))
  have HW : Hid (wordR (rest s at') = if 16 < pre worP (rest s at') then .no 50 else .ok 1 ((rest s at').take (pre worP (rest s at'))) 0 (pre worP (rest s at'))) := hide rfl
  generalize wordR (rest s at') = W at *
  generalize pre worP (rest s at') = m at *
  generalize (rest s at').take m = t at *
  have HB0 := hide (boxT_below w)
  by_cases hm : 16 < m
  · rw [if_pos hm] at HW
    obtain rfl := HW.out
    clear HW HX
    go_enter Tryd.func28, Tryd.ntmps28
    go_wp2_with fail
    refine (HR.out _).mono ?_
    rintro e w1 ⟨rfl, rfl⟩
    go_wp2_with fail
    refine bodyPost_ret (v := .tuple #[vT 0 [] 0 0, .int .i64 0, .int .i64 50]) (by simp [results, Tryd.results28, go_sem]) rfl ⟨rfl, ?_⟩
    go_grown
  · rw [if_neg hm] at HW
    obtain rfl := HW.out
    clear HW
    have HC := hide (fun w1 => clone_any ⟨t.toArray⟩ w1 (by rw [← HX.out]; simp; omega))
    rw [← HX.out] at HC
    go_enter Tryd.func28, Tryd.ntmps28
    go_wp2_with fail
    refine (HR.out _).mono ?_
    rintro e w1 ⟨rfl, rfl⟩
    go_wp2_with fail
    refine (HC.out _).mono ?_
    rintro e w2 ⟨rfl, hb⟩
    obtain ⟨⟨c0, c1, c2, c3⟩, ff, hz⟩ := boxT_cells hb
    have HB := hide (HB0.out.trans (hb.mono HB0.out.size))
    rw [HX.out]
    clear hb HX
    have f0 := ff 0; have f1 := ff 1; have f2 := ff 2; have f3 := ff 3
    clear ff
    go_wp2_with fail
    refine bodyPost_ret (v := .tuple #[vT 1 t 0 0, .int .i64 ((at' + m : Nat) : Int), .int .i64 0]) (by simp [results, Tryd.results28, go_sem, c0, c1, c2, c3]) rfl ⟨rfl, ?_⟩
    have := HB.out
    go_grown
set_option maxHeartbeats 2000000 in
theorem num_any (s : ByteArray) (at' : Nat) (w : World) (hE : Errs w) (hs : s.size ≤ 140737488355328) (ha : at' < s.size) (hd : digP s[at'] = true) :
    Calls Tryd.prog 30 #[.string s, .int .i64 at'] w fun e w' => e = outR at' (numR (rest s at')) ∧ Below w.heap.size w w' := by
  have HR := hide (fun w1 => digRun_any s at' w1 hs (by omega))
  have hi := pre_in digP s at' (by omega)
  have HX := hide (ext_rest s at' (pre digP (rest s at')))
  have hne : (rest s at').take (pre digP (rest s at')) ≠ [] := by rw [rest_at ha]; exact take_pre_ne hd
  have hp : 0 < pre digP (rest s at') := by rw [rest_at ha]; exact pre_pos hd
  have HA := hide (atoi_dig hne (pre_all digP (rest s at')))
  have HB0 := hide (boxT_below w)
  have HEs := hide hE
  have HW : Hid (numR (rest s at') = if s[at'] = 48 ∧ 1 < pre digP (rest s at') then .no 50 else if valN ((rest s at').take (pre digP (rest s at'))) < 9223372036854775808 then .ok 2 [] (valN ((rest s at').take (pre digP (rest s at'))) : Nat) (pre digP (rest s at')) else .no 10) := hide (by
    unfold numR
    have : ((rest s at').head? = some 48) = (s[at'] = 48) := by rw [rest_at ha]; simp
    simp only [this])
  clear hne hE hd
  generalize numR (rest s at') = W at *
  generalize pre digP (rest s at') = m at *
  generalize (rest s at').take m = t at *
  by_cases hz : s[at'] = 48 ∧ 1 < m
  · rw [if_pos hz] at HW
    obtain rfl := HW.out
    have t1 : ((s[at'].toNat : Int) == 48) = true := byte_is s[at'] 48 (by decide) hz.1
    have hm := hz.2
    clear HW HX HA hz
    go_enter Tryd.func30, Tryd.ntmps30
    go_wp2_with fail
    refine (HR.out _).mono ?_
    rintro e w1 ⟨rfl, rfl⟩
    go_wp2_with fail
    refine bodyPost_ret (v := .tuple #[vT 0 [] 0 0, .int .i64 0, .int .i64 50]) (by simp [results, Tryd.results30, go_sem]) rfl ⟨rfl, ?_⟩
    go_grown
  rw [if_neg hz] at HW
  have hz' : ((s[at'].toNat : Int) == 48) = false ∨ ((s[at'].toNat : Int) == 48) = true ∧ ¬ 1 < m := by
    by_cases h : s[at'] = 48
    · exact Or.inr ⟨byte_is s[at'] 48 (by decide) h, fun h2 => hz ⟨h, h2⟩⟩
    · exact Or.inl (byte_not s[at'] 48 (by decide) h)
  clear hz
  by_cases hv : valN t < 9223372036854775808
  · rw [if_pos hv] at HW HA
    obtain rfl := HW.out
    have HC := hide (fun w1 => atoi_ok ⟨t.toArray⟩ (valN t : Nat) w1 (by rw [← HX.out]; simp; omega) (by rw [list_of]; exact HA.out))
    rw [← HX.out] at HC
    clear HW HX HA
    generalize valN t = v at *
    rcases hz' with t1 | ⟨t1, hm⟩
    all_goals
      go_enter Tryd.func30, Tryd.ntmps30
      go_wp2_with fail
      refine (HR.out _).mono ?_
      rintro e w1 ⟨rfl, rfl⟩
      go_wp2_with fail
      refine (HC.out _).mono ?_
      rintro e w2 ⟨rfl, hb⟩
      obtain ⟨⟨c0, c1, c2, c3⟩, ff, hz⟩ := boxT_cells hb
      have HB := hide (HB0.out.trans (hb.mono HB0.out.size))
      clear hb
      have f0 := ff 0; have f1 := ff 1; have f2 := ff 2; have f3 := ff 3
      clear ff
      go_wp2_with fail
      refine bodyPost_ret (v := .tuple #[vT 2 [] (v : Nat) 0, .int .i64 ((at' + m : Nat) : Int), .int .i64 0]) (by simp [results, Tryd.results30, go_sem, c0, c1, c2, c3]) rfl ⟨rfl, ?_⟩
      have := HB.out
      go_grown
  · rw [if_neg hv] at HW HA
    obtain rfl := HW.out
    have HC := hide (fun w1 (hE : Errs w1) => atoi_no ⟨t.toArray⟩ w1 (by rw [← HX.out]; simp; omega) hE (by rw [list_of, HA.out]; intro v h; cases h))
    rw [← HX.out] at HC
    have HE1 := hide (HEs.out.stays HB0.out (Nat.le_refl _))
    clear HW HX HA hv
    rcases hz' with t1 | ⟨t1, hm⟩
    all_goals
      go_enter Tryd.func30, Tryd.ntmps30
      go_wp2_with fail
      refine (HR.out _).mono ?_
      rintro e w1 ⟨rfl, rfl⟩
      go_wp2_with fail
      refine (HC.out _ HE1.out).mono ?_
      rintro e w2 ⟨z, ty, a, rfl, hb⟩
      obtain ⟨⟨c0, c1, c2, c3⟩, ff, hz⟩ := boxT_cells hb
      have HB := hide (HB0.out.trans (hb.mono HB0.out.size))
      clear hb
      have f0 := ff 0; have f1 := ff 1; have f2 := ff 2; have f3 := ff 3
      clear ff
      go_wp2_with fail
      refine bodyPost_ret (v := .tuple #[vT 0 [] 0 0, .int .i64 0, .int .i64 10]) (by simp [results, Tryd.results30, go_sem, c0, c1, c2, c3]) rfl ⟨rfl, ?_⟩
      have := HB.out
      go_grown
end Go.Proofs.YteaaloejjafhlaaDoor
