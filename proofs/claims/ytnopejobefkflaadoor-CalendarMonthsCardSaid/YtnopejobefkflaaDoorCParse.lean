/-
  Parse.
-/
import Derived.Test.YtnopejobefkflaaDoorCRead
import Derived.Test.YtnopejobefkflaaDoorCShow
namespace Go.Proofs.YtnopejobefkflaaDoor
open Go.RowKit Go.Sort CM

theorem num_parts {n : Int} (h0 : 0 ≤ n) (h1 : n < 2147483648) : numV ((textL n).take 4) = Y n ∧ numV (((textL n).drop 5).take 2) = K n + 1 ∧ numV (((textL n).drop 8).take 2) = D n ∧ numV (((textL n).drop 11).take 2) = n / 60 % 24 ∧ numV (((textL n).drop 14).take 2) = n % 60 := by
  have hk := (K_spec h0).1
  have hd := D_bd h0
  have hy0 := Y_lo h0
  have hy1 := Y_hi h0 h1
  refine ⟨?_, ?_, ?_, ?_, ?_⟩
  · rw [show (textL n).take 4 = two (Y n / 100) ++ two (Y n % 100) from rfl, numV_ok (atoi_four (by omega) (by omega) (by omega) (by omega))]; omega
  · exact numV_ok (atoi_two (by omega) (by omega))
  · exact numV_ok (atoi_two (by omega) (by omega))
  · exact numV_ok (atoi_two (by omega) (by omega))
  · exact numV_ok (atoi_two (by omega) (by omega))
/-- What Parse tells of a text. -/
def ParseOut (l : List UInt8) (w : World) (e : Ending) (w' : World) : Prop :=
  ((∃ n, 0 ≤ n ∧ n < 2147483648 ∧ l = textL n ∧ e = .returned (.tuple #[vDate n, .int .i64 0])) ∨ ((∀ n, 0 ≤ n → n < 2147483648 → l ≠ textL n) ∧ e = .returned (.tuple #[vD 0 0 0 0 0 0, .int .i64 20]))) ∧ Below w.heap.size w w'
theorem run_neq_txt (s t : ByteArray) (w : World) : (binOp .neq 9 (.string s) (.string t)).run Tryd.prog w = .ok (.bool (!(s.toList == t.toList))) w := by
  simp [go_sem]
set_option maxHeartbeats 1000000 in
theorem parse_len (s : ByteArray) (w : World) (h : s.size ≠ 16) : Calls Tryd.prog 18 #[.string s] w (ParseOut s.data.toList w) := by
  have H1 : Hid (∀ n, 0 ≤ n → n < 2147483648 → s.data.toList ≠ textL n) := hide (fun n _ _ e => h (by have := congrArg List.length e; rw [textL_len] at this; simpa using this))
  have h' : ((s.size : Int) != 16) = true := by simp; omega
  clear h
  go_enter Tryd.func18, Tryd.ntmps18
  go_wp2_with fail
  go_returns
  exact ⟨.inr ⟨H1.out, rfl⟩, by go_grown⟩
set_option maxHeartbeats 2000000 in
theorem box_kept {w w' : World} {a b c f g k : Int} (hb : Below (w.alloc (.cells #[.int .i64 a, .int .i64 b, .int .i64 c, .int .i64 f, .int .i64 g, .int .i64 k] 23)).heap.size (w.alloc (.cells #[.int .i64 a, .int .i64 b, .int .i64 c, .int .i64 f, .int .i64 g, .int .i64 k] 23)) w') :
    w'.cell? ⟨w.heap.size, 0, none⟩ = some (.int .i64 a) ∧ w'.cell? ⟨w.heap.size, 1, none⟩ = some (.int .i64 b) ∧ w'.cell? ⟨w.heap.size, 2, none⟩ = some (.int .i64 c) ∧ w'.cell? ⟨w.heap.size, 3, none⟩ = some (.int .i64 f) ∧ w'.cell? ⟨w.heap.size, 4, none⟩ = some (.int .i64 g) ∧ w'.cell? ⟨w.heap.size, 5, none⟩ = some (.int .i64 k) := by
  refine ⟨?_, ?_, ?_, ?_, ?_, ?_⟩
  all_goals
    rw [hb.cell (p := ⟨w.heap.size, _, none⟩) (by simp)]
    simp
set_option maxHeartbeats 2000000 in
theorem parse_good (s : ByteArray) (w : World) (hs : s.size = 16) (y m d h mi n a b c f g k : Int) (t : ByteArray) (hq : (t.toList == s.toList) = true)
    (hR : ∀ w', Below w.heap.size w w' → Calls Tryd.prog 32 #[.string s] w' fun e w2 => e = .returned (vD y m d h mi 0) ∧ Below w'.heap.size w' w2)
    (hG : ∀ w', Below w.heap.size w w' → Calls Tryd.prog 29 #[vD y m d h mi 0] w' fun e w2 => e = .returned (.int .i64 n) ∧ Below w'.heap.size w' w2)
    (hO : ∀ w', Below w.heap.size w w' → Calls Tryd.prog 10 #[.int .i64 n] w' fun e w2 => e = .returned (.tuple #[vD a b c f g k, .int .i64 0]) ∧ Below w'.heap.size w' w2)
    (hS : ∀ w', Below w.heap.size w w' → Calls Tryd.prog 17 #[vD a b c f g k] w' fun e w2 => e = .returned (.string t) ∧ Below w'.heap.size w' w2) :
    Calls Tryd.prog 18 #[.string s] w fun e w' => e = .returned (.tuple #[vD a b c f g k, .int .i64 0]) ∧ Below w.heap.size w w' := by
  have HR := hide hR; have HG := hide hG; have HO := hide hO; have HS := hide hS
  clear hR hG hO hS
  have HB0 := hide (Below.refl (w.alloc (.cells #[.int .i64 0, .int .i64 0, .int .i64 0, .int .i64 0, .int .i64 0, .int .i64 0] 23)).heap.size (w.alloc (.cells #[.int .i64 0, .int .i64 0, .int .i64 0, .int .i64 0, .int .i64 0, .int .i64 0] 23)))
  have h16 : ((s.size : Int) != 16) = false := by simp; omega
  clear hs
  go_enter Tryd.func18, Tryd.ntmps18
  go_wp2_with fail
  refine (HR.out _ (((Below.refl w.heap.size w).alloc (Nat.le_refl _) _).trans (Below.mono HB0.out (Nat.le_trans (Nat.le_succ _) (Nat.le_of_eq (by simp)))))).mono ?_
  rintro e w1 ⟨rfl, hb1⟩
  have HB1 := hide (HB0.out.trans (hb1.mono (Nat.le_trans (Nat.le_of_eq (by simp)) HB0.out.size)))
  clear hb1
  go_wp2_with fail
  refine (HG.out _ (((Below.refl w.heap.size w).alloc (Nat.le_refl _) _).trans (Below.mono HB1.out (Nat.le_trans (Nat.le_succ _) (Nat.le_of_eq (by simp)))))).mono ?_
  rintro e w2 ⟨rfl, hb2⟩
  have HB2 := hide (HB1.out.trans (hb2.mono (Nat.le_trans (Nat.le_of_eq (by simp)) HB1.out.size)))
  clear hb2
  go_wp2_with fail
  refine (HO.out _ (((Below.refl w.heap.size w).alloc (Nat.le_refl _) _).trans (Below.mono HB2.out (Nat.le_trans (Nat.le_succ _) (Nat.le_of_eq (by simp)))))).mono ?_
  rintro e w3 ⟨rfl, hb3⟩
  have HB3 := hide (HB2.out.trans (hb3.mono (Nat.le_trans (Nat.le_of_eq (by simp)) HB2.out.size)))
  clear hb3
  go_wp2_with fail
  refine (HS.out _ ((((Below.refl w.heap.size w).alloc (Nat.le_refl _) _).trans (Below.mono (HB3.out.alloc HB3.out.size _) (Nat.le_trans (Nat.le_succ _) (Nat.le_of_eq (by simp))))))).mono ?_
  rintro e w4 ⟨rfl, hb4⟩
  obtain ⟨d0, d1, d2, d3, d4, d5⟩ := box_kept hb4
  have HB4 := hide ((HB3.out.alloc HB3.out.size _).trans (hb4.mono (by have := HB3.out.size; simp at this ⊢; omega)))
  clear hb4
  have cc := fun o => HB4.out.cell (p := ⟨w.heap.size, o, none⟩) (by simp)
  have ff := fun o => HB4.out.frozen (p := ⟨w.heap.size, o, none⟩) (by simp)
  have e0 := cc 0; have e1 := cc 1; have e2 := cc 2; have e3 := cc 3; have e4 := cc 4; have e5 := cc 5
  simp at e0 e1 e2 e3 e4 e5
  have zz : w.heap.size < w4.heap.size := by have := HB4.out.size; simp at this; omega
  clear cc
  have HF := hide ((((Below.refl w.heap.size w).alloc (Nat.le_refl _) _).trans (Below.mono HB4.out (Nat.le_trans (Nat.le_succ _) (Nat.le_of_eq (by simp))))))
  go_wp2_with fail
  refine bodyPost_ret (v := .tuple #[vD a b c f g k, .int .i64 0]) (by simp [results, Tryd.results18, go_sem, e0, e1, e2, e3, e4, e5]) rfl ⟨rfl, ((((((HF.out.setCell (Nat.le_refl _) _).setCell (Nat.le_refl _) _).setCell (Nat.le_refl _) _).setCell (Nat.le_refl _) _).setCell (Nat.le_refl _) _).setCell (Nat.le_refl _) _)⟩
set_option maxHeartbeats 4000000 in
theorem parse_bad (s : ByteArray) (w : World) (hs : s.size = 16) (y m d h mi : Int)
    (hR : ∀ w', Below w.heap.size w w' → Calls Tryd.prog 32 #[.string s] w' fun e w2 => e = .returned (vD y m d h mi 0) ∧ Below w'.heap.size w' w2)
    (hG : ∀ w', Below w.heap.size w w' → Calls Tryd.prog 29 #[vD y m d h mi 0] w' (SomeInt w'))
    (hO : ∀ (n : Int), (∃ (a b c f g k : Int) (t : ByteArray), (t.toList == s.toList) = false ∧ (∀ w', Below w.heap.size w w' → Calls Tryd.prog 10 #[.int .i64 n] w' fun e w2 => e = .returned (.tuple #[vD a b c f g k, .int .i64 0]) ∧ Below w'.heap.size w' w2) ∧ ∀ w', Below w.heap.size w w' → Calls Tryd.prog 17 #[vD a b c f g k] w' fun e w2 => e = .returned (.string t) ∧ Below w'.heap.size w' w2) ∨
      ∀ w', Below w.heap.size w w' → Calls Tryd.prog 10 #[.int .i64 n] w' fun e w2 => e = .returned (.tuple #[vD 0 0 0 0 0 0, .int .i64 30]) ∧ Below w'.heap.size w' w2) :
    Calls Tryd.prog 18 #[.string s] w fun e w' => e = .returned (.tuple #[vD 0 0 0 0 0 0, .int .i64 20]) ∧ Below w.heap.size w w' := by
  have HR := hide hR; have HG := hide hG; have HO := hide hO
  clear hR hG hO
  have HB0 := hide (Below.refl (w.alloc (.cells #[.int .i64 0, .int .i64 0, .int .i64 0, .int .i64 0, .int .i64 0, .int .i64 0] 23)).heap.size (w.alloc (.cells #[.int .i64 0, .int .i64 0, .int .i64 0, .int .i64 0, .int .i64 0, .int .i64 0] 23)))
  have h16 : ((s.size : Int) != 16) = false := by simp; omega
  clear hs
  go_enter Tryd.func18, Tryd.ntmps18
  go_wp2_with fail
  refine (HR.out _ (((Below.refl w.heap.size w).alloc (Nat.le_refl _) _).trans (Below.mono HB0.out (Nat.le_trans (Nat.le_succ _) (Nat.le_of_eq (by simp)))))).mono ?_
  rintro e w1 ⟨rfl, hb1⟩
  have HB1 := hide (HB0.out.trans (hb1.mono (Nat.le_trans (Nat.le_of_eq (by simp)) HB0.out.size)))
  clear hb1
  go_wp2_with fail
  refine (HG.out _ (((Below.refl w.heap.size w).alloc (Nat.le_refl _) _).trans (Below.mono HB1.out (Nat.le_trans (Nat.le_succ _) (Nat.le_of_eq (by simp)))))).mono ?_
  rintro e w2 ⟨n, rfl, hb2⟩
  have HB2 := hide (HB1.out.trans (hb2.mono (Nat.le_trans (Nat.le_of_eq (by simp)) HB1.out.size)))
  clear hb2
  rcases HO.out n with ⟨a, b, c, f, g, k, t, hq, hO, hS⟩ | hO
  · have HO' := hide hO; have HS := hide hS
    clear hO hS
    go_wp2_with fail
    refine (HO'.out _ (((Below.refl w.heap.size w).alloc (Nat.le_refl _) _).trans (Below.mono HB2.out (Nat.le_trans (Nat.le_succ _) (Nat.le_of_eq (by simp)))))).mono ?_
    rintro e w3 ⟨rfl, hb3⟩
    have HB3 := hide (HB2.out.trans (hb3.mono (Nat.le_trans (Nat.le_of_eq (by simp)) HB2.out.size)))
    clear hb3
    have cc := fun o => HB3.out.cell (p := ⟨w.heap.size, o, none⟩) (by simp)
    have ff := fun o => HB3.out.frozen (p := ⟨w.heap.size, o, none⟩) (by simp)
    have e0 := cc 0; have e1 := cc 1; have e2 := cc 2; have e3 := cc 3; have e4 := cc 4; have e5 := cc 5
    simp at e0 e1 e2 e3 e4 e5
    have zz : w.heap.size < w3.heap.size := by have := HB3.out.size; simp at this; omega
    clear cc
    go_wp2_with fail
    refine (HS.out _ ((((Below.refl w.heap.size w).alloc (Nat.le_refl _) _).trans (Below.mono (HB3.out.alloc HB3.out.size _) (Nat.le_trans (Nat.le_succ _) (Nat.le_of_eq (by simp))))))).mono ?_
    rintro e w4 ⟨rfl, hb4⟩
    obtain ⟨d0, d1, d2, d3, d4, d5⟩ := box_kept hb4
    have HB4 := hide ((HB3.out.alloc HB3.out.size _).trans (hb4.mono (by have := HB3.out.size; simp at this ⊢; omega)))
    clear hb4
    have cc := fun o => HB4.out.cell (p := ⟨w.heap.size, o, none⟩) (by simp)
    have ff := fun o => HB4.out.frozen (p := ⟨w.heap.size, o, none⟩) (by simp)
    have e0 := cc 0; have e1 := cc 1; have e2 := cc 2; have e3 := cc 3; have e4 := cc 4; have e5 := cc 5
    simp at e0 e1 e2 e3 e4 e5
    have zz : w.heap.size < w4.heap.size := by have := HB4.out.size; simp at this; omega
    clear cc
    have HF := hide ((((Below.refl w.heap.size w).alloc (Nat.le_refl _) _).trans (Below.mono HB4.out (Nat.le_trans (Nat.le_succ _) (Nat.le_of_eq (by simp))))))
    go_wp2_with fail
    refine bodyPost_ret (v := .tuple #[vD 0 0 0 0 0 0, .int .i64 20]) (by simp [results, Tryd.results18, go_sem, e0, e1, e2, e3, e4, e5]) rfl ⟨rfl, ((((((HF.out.setCell (Nat.le_refl _) _).setCell (Nat.le_refl _) _).setCell (Nat.le_refl _) _).setCell (Nat.le_refl _) _).setCell (Nat.le_refl _) _).setCell (Nat.le_refl _) _)⟩
  · have HO' := hide hO
    clear hO
    go_wp2_with fail
    refine (HO'.out _ (((Below.refl w.heap.size w).alloc (Nat.le_refl _) _).trans (Below.mono HB2.out (Nat.le_trans (Nat.le_succ _) (Nat.le_of_eq (by simp)))))).mono ?_
    rintro e w3 ⟨rfl, hb3⟩
    have HB3 := hide (HB2.out.trans (hb3.mono (Nat.le_trans (Nat.le_of_eq (by simp)) HB2.out.size)))
    clear hb3
    obtain ⟨w4, hw4⟩ : ∃ w4, w4 = w3.alloc (.cells #[.int .i64 0, .int .i64 0, .int .i64 0, .int .i64 0, .int .i64 0, .int .i64 0] 23) := ⟨_, rfl⟩
    have HB4 := hide (show Below (w.alloc (.cells #[.int .i64 0, .int .i64 0, .int .i64 0, .int .i64 0, .int .i64 0, .int .i64 0] 23)).heap.size (w.alloc (.cells #[.int .i64 0, .int .i64 0, .int .i64 0, .int .i64 0, .int .i64 0, .int .i64 0] 23)) w4 by rw [hw4]; exact HB3.out.alloc HB3.out.size _)
    have HWE := hide hw4
    clear hw4
    have cc := fun o => HB4.out.cell (p := ⟨w.heap.size, o, none⟩) (by simp)
    have ff := fun o => HB4.out.frozen (p := ⟨w.heap.size, o, none⟩) (by simp)
    have e0 := cc 0; have e1 := cc 1; have e2 := cc 2; have e3 := cc 3; have e4 := cc 4; have e5 := cc 5
    simp at e0 e1 e2 e3 e4 e5
    have zz : w.heap.size < w4.heap.size := by have := HB4.out.size; simp at this; omega
    clear cc
    have HF := hide ((((Below.refl w.heap.size w).alloc (Nat.le_refl _) _).trans (Below.mono HB4.out (Nat.le_trans (Nat.le_succ _) (Nat.le_of_eq (by simp))))))
    go_wp2_with (first | (guard_target =~ wpList _ _ _ (Oper.mk _ (Op.build _ _) _ _ _ _ :: _) _ _; rw [← HWE.out]) | fail)
    refine bodyPost_ret (v := .tuple #[vD 0 0 0 0 0 0, .int .i64 20]) (by simp [results, Tryd.results18, go_sem, e0, e1, e2, e3, e4, e5]) rfl ⟨rfl, ((((((HF.out.setCell (Nat.le_refl _) _).setCell (Nat.le_refl _) _).setCell (Nat.le_refl _) _).setCell (Nat.le_refl _) _).setCell (Nat.le_refl _) _).setCell (Nat.le_refl _) _)⟩
theorem txt_beq (t s : ByteArray) : (t.toList == s.toList) = decide (t.data.toList = s.data.toList) := by
  rw [Lib.toList_data, Lib.toList_data, Bool.eq_iff_iff]; simp
theorem parse_any (s : ByteArray) (w : World) (ht : Tab w) (hM : Mon w) (hE : Errs w) : Calls Tryd.prog 18 #[.string s] w (ParseOut s.data.toList w) := by
  by_cases hs : s.size = 16
  · have hR := fun w' (hb : Below w.heap.size w w') => read_any s w' hs (hE.on hb)
    by_cases hn : ∃ n, 0 ≤ n ∧ n < 2147483648 ∧ s.data.toList = textL n
    · obtain ⟨n, h0, h1, hl⟩ := hn
      obtain ⟨e1, e2, e3, e4, e5⟩ := num_parts h0 h1
      rw [hl, e1, e2, e3, e4, e5] at hR
      exact (parse_good s w hs _ _ _ _ _ n _ _ _ _ _ _ ⟨(textL n).toArray⟩ (by rw [txt_beq]; simp [hl]) hR (fun w' hb => guess_yes 0 w' (hM.on hb) h0 h1) (fun w' hb => of_yes n w' h0 h1 (hM.on hb)) (fun w' hb => show_yes w' (ht.on hb) (hM.on hb) h0 h1)).mono
        fun e w' hh => ⟨.inl ⟨n, h0, h1, hl, hh.1⟩, hh.2⟩
    · refine (parse_bad s w hs _ _ _ _ _ hR (fun w' hb => guess_some _ _ _ _ _ _ w' (hM.on hb)) fun n => ?_).mono fun e w' hh => ⟨.inr ⟨fun n h0 h1 hl => hn ⟨n, h0, h1, hl⟩, hh.1⟩, hh.2⟩
      by_cases hr : 0 ≤ n ∧ n < 2147483648
      · exact .inl ⟨_, _, _, _, _, _, ⟨(textL n).toArray⟩, by rw [txt_beq]; simp; exact fun hl => hn ⟨n, hr.1, hr.2, hl.symm⟩, fun w' hb => of_yes n w' hr.1 hr.2 (hM.on hb), fun w' hb => show_yes w' (ht.on hb) (hM.on hb) hr.1 hr.2⟩
      · exact .inr fun w' _ => of_no n w' (by omega)
  · exact parse_len s w hs
end Go.Proofs.YtnopejobefkflaaDoor
