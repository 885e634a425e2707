/-
  read: the numbers of a text.
-/
import Derived.Test.YtnopejobefkflaaDoorCTwo
import Derived.Deep.DeepCutAuto
import Derived.Tactics2
import Derived.Deep.RegionHeld3
namespace Go.Proofs.YtnopejobefkflaaDoor
open Go.RowKit Go.Sort CM

set_option maxHeartbeats 4000000 in
set_option maxRecDepth 100000 in
theorem read_any (s : ByteArray) (w : World) (hs : s.size = 16) (hE : Errs w) : Calls Tryd.prog 32 #[.string s] w fun e w' => e = .returned (vD (numV (s.data.toList.take 4)) (numV ((s.data.toList.drop 5).take 2)) (numV ((s.data.toList.drop 8).take 2)) (numV ((s.data.toList.drop 11).take 2)) (numV ((s.data.toList.drop 14).take 2)) 0) ∧ Below w.heap.size w w' := by
  have HZ0 : Hid ((s.extract 0 4).size ≤ 1000) := hide (by simp; omega)
  have HZ1 : Hid ((s.extract 5 7).size ≤ 1000) := hide (by simp; omega)
  have HZ2 : Hid ((s.extract 8 10).size ≤ 1000) := hide (by simp; omega)
  have HZ3 : Hid ((s.extract 11 13).size ≤ 1000) := hide (by simp; omega)
  have HZ4 : Hid ((s.extract 14 16).size ≤ 1000) := hide (by simp; omega)
  have HN := hide (fun (t : ByteArray) (w' : World) (hb : Below (w.heap.size + 1) (w.alloc (.cells #[.int .i64 0, .int .i64 0, .int .i64 0, .int .i64 0, .int .i64 0, .int .i64 0] 23)) w') (ht : t.size ≤ 1000) => number_any t w' ht (hE.stays (((Below.refl w.heap.size w).alloc (Nat.le_refl _) _).trans (hb.mono (Nat.le_succ _))) (Nat.le_refl _)))
  have HB0 := hide (show Below (w.heap.size + 1) (w.alloc (.cells #[.int .i64 0, .int .i64 0, .int .i64 0, .int .i64 0, .int .i64 0, .int .i64 0] 23)) ((w.alloc (.cells #[.int .i64 0, .int .i64 0, .int .i64 0, .int .i64 0, .int .i64 0, .int .i64 0] 23)).drew) from (Below.refl _ _).drew)
  have b0 : (4 : Int) ≤ s.size := by omega
  have b1 : (7 : Int) ≤ s.size := by omega
  have b2 : (10 : Int) ≤ s.size := by omega
  have b3 : (13 : Int) ≤ s.size := by omega
  have b4 : (16 : Int) ≤ s.size := by omega
  clear hs hE
  go_enter Tryd.func32, Tryd.ntmps32
  go_upto_region 1 with fail
  refine wp_region_held_drew (S := fun w' => Below w.heap.size w w') (by kernel_rfl) (((((Below.refl w.heap.size w).alloc (Nat.le_refl _) _)).trans ((HB0.out).mono (Nat.le_succ _)))) (fun hS => ?_)
  refine wpAnyH_take (i := 0) (oi := ⟨some 3, _, _, _, _, _⟩) (v := ?_) rfl (by kernel_rfl) (by kernel_rfl) (by kernel_rfl) (fun _ _ _ h => h) (Or.inl ⟨by rfl, ?_⟩) hS ?_
  rotate_left 1
  · intro w' hw'
    skip
    go_simp
    all_goals with_reducible rfl
  try simp only [Act.put, List.setIfInBounds_toArray, List.set_cons_zero, List.set_cons_succ]
  refine wpAnyH_take (i := 1) (oi := ⟨some 4, _, _, _, _, _⟩) (v := ?_) rfl (by kernel_rfl) (by kernel_rfl) (by kernel_rfl) (fun _ _ _ h => h) (Or.inl ⟨by rfl, ?_⟩) hS ?_
  rotate_left 1
  · intro w' hw'
    skip
    go_simp
    all_goals with_reducible rfl
  try simp only [Act.put, List.setIfInBounds_toArray, List.set_cons_zero, List.set_cons_succ]
  refine wpAnyH_take (i := 3) (oi := ⟨some 6, _, _, _, _, _⟩) (v := ?_) rfl (by kernel_rfl) (by kernel_rfl) (by kernel_rfl) (fun _ _ _ h => h) (Or.inl ⟨by rfl, ?_⟩) hS ?_
  rotate_left 1
  · intro w' hw'
    skip
    go_simp
    all_goals with_reducible rfl
  try simp only [Act.put, List.setIfInBounds_toArray, List.set_cons_zero, List.set_cons_succ]
  refine wpAnyH_take (i := 4) (oi := ⟨some 7, _, _, _, _, _⟩) (v := ?_) rfl (by kernel_rfl) (by kernel_rfl) (by kernel_rfl) (fun _ _ _ h => h) (Or.inl ⟨by rfl, ?_⟩) hS ?_
  rotate_left 1
  · intro w' hw'
    skip
    go_simp
    all_goals with_reducible rfl
  try simp only [Act.put, List.setIfInBounds_toArray, List.set_cons_zero, List.set_cons_succ]
  refine wpAnyH_take (i := 6) (oi := ⟨some 9, _, _, _, _, _⟩) (v := ?_) rfl (by kernel_rfl) (by kernel_rfl) (by kernel_rfl) (fun _ _ _ h => h) (Or.inl ⟨by rfl, ?_⟩) hS ?_
  rotate_left 1
  · intro w' hw'
    skip
    go_simp
    all_goals with_reducible rfl
  try simp only [Act.put, List.setIfInBounds_toArray, List.set_cons_zero, List.set_cons_succ]
  refine wpAnyH_take (i := 7) (oi := ⟨some 10, _, _, _, _, _⟩) (v := ?_) rfl (by kernel_rfl) (by kernel_rfl) (by kernel_rfl) (fun _ _ _ h => h) (Or.inl ⟨by rfl, ?_⟩) hS ?_
  rotate_left 1
  · intro w' hw'
    skip
    go_simp
    all_goals with_reducible rfl
  try simp only [Act.put, List.setIfInBounds_toArray, List.set_cons_zero, List.set_cons_succ]
  refine wpAnyH_take (i := 9) (oi := ⟨some 12, _, _, _, _, _⟩) (v := ?_) rfl (by kernel_rfl) (by kernel_rfl) (by kernel_rfl) (fun _ _ _ h => h) (Or.inl ⟨by rfl, ?_⟩) hS ?_
  rotate_left 1
  · intro w' hw'
    skip
    go_simp
    all_goals with_reducible rfl
  try simp only [Act.put, List.setIfInBounds_toArray, List.set_cons_zero, List.set_cons_succ]
  refine wpAnyH_take (i := 10) (oi := ⟨some 13, _, _, _, _, _⟩) (v := ?_) rfl (by kernel_rfl) (by kernel_rfl) (by kernel_rfl) (fun _ _ _ h => h) (Or.inl ⟨by rfl, ?_⟩) hS ?_
  rotate_left 1
  · intro w' hw'
    skip
    go_simp
    all_goals with_reducible rfl
  try simp only [Act.put, List.setIfInBounds_toArray, List.set_cons_zero, List.set_cons_succ]
  refine wpAnyH_take (i := 12) (oi := ⟨some 15, _, _, _, _, _⟩) (v := ?_) rfl (by kernel_rfl) (by kernel_rfl) (by kernel_rfl) (fun _ _ _ h => h) (Or.inl ⟨by rfl, ?_⟩) hS ?_
  rotate_left 1
  · intro w' hw'
    skip
    go_simp
    all_goals with_reducible rfl
  try simp only [Act.put, List.setIfInBounds_toArray, List.set_cons_zero, List.set_cons_succ]
  refine wpAnyH_take (i := 13) (oi := ⟨some 16, _, _, _, _, _⟩) (v := ?_) rfl (by kernel_rfl) (by kernel_rfl) (by kernel_rfl) (fun _ _ _ h => h) (Or.inl ⟨by rfl, ?_⟩) hS ?_
  rotate_left 1
  · intro w' hw'
    skip
    go_simp
    all_goals with_reducible rfl
  try simp only [Act.put, List.setIfInBounds_toArray, List.set_cons_zero, List.set_cons_succ]
  refine wpAnyH_ready (rs := [2]) (by kernel_rfl) (by simp) ?_
  refine AllReadyH.cons (o := ⟨some 5, _, _, _, _, _⟩) rfl (fun K hK => ?_) AllReadyH.nil
  go_simp
  go_at_call 35
  refine (HN.out _ _ (HB0.out) ?_).mono ?_
  · exact HZ0.out
  rintro e w1 ⟨rfl, hb1⟩
  have HB1 := hide ((HB0.out).trans (hb1.mono (by simp)))
  clear hb1
  refine hK.out _ _ (((((Below.refl w.heap.size w).alloc (Nat.le_refl _) _)).trans ((HB1.out).mono (Nat.le_succ _)))) (fun hS => ?_)
  clear hK K
  try simp only [Act.put, List.setIfInBounds_toArray, List.set_cons_zero, List.set_cons_succ]
  refine wpAnyH_ready (rs := [5]) (by kernel_rfl) (by simp) ?_
  refine AllReadyH.cons (o := ⟨some 8, _, _, _, _, _⟩) rfl (fun K hK => ?_) AllReadyH.nil
  go_simp
  go_at_call 35
  refine (HN.out _ _ (HB1.out) ?_).mono ?_
  · exact HZ1.out
  rintro e w2 ⟨rfl, hb2⟩
  have HB2 := hide ((HB1.out).trans (hb2.mono (by have := HB1.out.size; simpa using this)))
  clear hb2
  refine hK.out _ _ (((((Below.refl w.heap.size w).alloc (Nat.le_refl _) _)).trans ((HB2.out).mono (Nat.le_succ _)))) (fun hS => ?_)
  clear hK K
  try simp only [Act.put, List.setIfInBounds_toArray, List.set_cons_zero, List.set_cons_succ]
  refine wpAnyH_ready (rs := [8]) (by kernel_rfl) (by simp) ?_
  refine AllReadyH.cons (o := ⟨some 11, _, _, _, _, _⟩) rfl (fun K hK => ?_) AllReadyH.nil
  go_simp
  go_at_call 35
  refine (HN.out _ _ (HB2.out) ?_).mono ?_
  · exact HZ2.out
  rintro e w3 ⟨rfl, hb3⟩
  have HB3 := hide ((HB2.out).trans (hb3.mono (by have := HB2.out.size; simpa using this)))
  clear hb3
  refine hK.out _ _ (((((Below.refl w.heap.size w).alloc (Nat.le_refl _) _)).trans ((HB3.out).mono (Nat.le_succ _)))) (fun hS => ?_)
  clear hK K
  try simp only [Act.put, List.setIfInBounds_toArray, List.set_cons_zero, List.set_cons_succ]
  refine wpAnyH_ready (rs := [11]) (by kernel_rfl) (by simp) ?_
  refine AllReadyH.cons (o := ⟨some 14, _, _, _, _, _⟩) rfl (fun K hK => ?_) AllReadyH.nil
  go_simp
  go_at_call 35
  refine (HN.out _ _ (HB3.out) ?_).mono ?_
  · exact HZ3.out
  rintro e w4 ⟨rfl, hb4⟩
  have HB4 := hide ((HB3.out).trans (hb4.mono (by have := HB3.out.size; simpa using this)))
  clear hb4
  refine hK.out _ _ (((((Below.refl w.heap.size w).alloc (Nat.le_refl _) _)).trans ((HB4.out).mono (Nat.le_succ _)))) (fun hS => ?_)
  clear hK K
  try simp only [Act.put, List.setIfInBounds_toArray, List.set_cons_zero, List.set_cons_succ]
  refine wpAnyH_ready (rs := [14]) (by kernel_rfl) (by simp) ?_
  refine AllReadyH.cons (o := ⟨some 17, _, _, _, _, _⟩) rfl (fun K hK => ?_) AllReadyH.nil
  go_simp
  go_at_call 35
  refine (HN.out _ _ (HB4.out) ?_).mono ?_
  · exact HZ4.out
  rintro e w5 ⟨rfl, hb5⟩
  have HB5 := hide ((HB4.out).trans (hb5.mono (by have := HB4.out.size; simpa using this)))
  clear hb5
  refine hK.out _ _ (((((Below.refl w.heap.size w).alloc (Nat.le_refl _) _)).trans ((HB5.out).mono (Nat.le_succ _)))) (fun hS => ?_)
  clear hK K
  try simp only [Act.put, List.setIfInBounds_toArray, List.set_cons_zero, List.set_cons_succ]
  refine wpAnyH_ready (rs := [15]) (by kernel_rfl) (by simp) ?_
  refine AllReadyH.cons (o := ⟨some 18, _, _, _, _, _⟩) rfl (fun K hK => ?_) AllReadyH.nil
  go_simp
  refine hK.out _ _ hS (fun hS => ?_)
  clear hK K
  try simp only [Act.put, List.setIfInBounds_toArray, List.set_cons_zero, List.set_cons_succ]
  have cc := fun o => HB5.out.cell (p := ⟨w.heap.size, o, none⟩) (by simp)
  have ff := fun o => HB5.out.frozen (p := ⟨w.heap.size, o, none⟩) (by simp)
  have zz : w.heap.size < w5.heap.size := by have := HB5.out.size; simp at this; omega
  have HS5 := hide hS
  refine wpAnyH_ready (rs := [16]) (by kernel_rfl) (by simp) ?_
  refine AllReadyH.cons (o := ⟨none, _, _, _, _, _⟩) rfl (fun K hK => ?_) AllReadyH.nil
  go_simp
  refine hK.out _ _ ((((((HS5.out.setCell (Nat.le_refl _) _).setCell (Nat.le_refl _) _).setCell (Nat.le_refl _) _).setCell (Nat.le_refl _) _).setCell (Nat.le_refl _) _).setCell (Nat.le_refl _) _) (fun hS => ?_)
  clear hK K
  try simp only [Act.put, List.setIfInBounds_toArray, List.set_cons_zero, List.set_cons_succ]
  refine wpAnyH_done (by kernel_rfl) ?_ _
  have HS6 := hide hS
  clear hS
  go_wp2_with fail
  have e0 := cc 0; have e1 := cc 1; have e2 := cc 2; have e3 := cc 3; have e4 := cc 4; have e5 := cc 5
  simp at e0 e1 e2 e3 e4 e5
  clear cc
  refine bodyPost_ret (v := vD (numV (s.data.toList.take 4)) (numV ((s.data.toList.drop 5).take 2)) (numV ((s.data.toList.drop 8).take 2)) (numV ((s.data.toList.drop 11).take 2)) (numV ((s.data.toList.drop 14).take 2)) 0) (by simp [results, Tryd.results32, go_sem, e0, e1, e2, e3, e4, e5]) rfl ⟨rfl, HS6.out⟩
end Go.Proofs.YtnopejobefkflaaDoor
