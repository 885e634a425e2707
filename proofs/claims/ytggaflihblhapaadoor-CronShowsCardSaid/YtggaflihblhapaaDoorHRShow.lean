/-
  The reference's text of a field.
-/
import Derived.Test.YtggaflihblhapaaDoorHDig
import Derived.Test.YtggaflihblhapaaDoorHShowQ
import Derived.Test.YtggaflihblhapaaDoorHRefR
namespace Go.Proofs.YtggaflihblhapaaDoor
open Go.RowKit Go.Sort CM HM

theorem joinL_snoc (c : UInt8) : ∀ (l : List (List UInt8)) (p : List UInt8), l ≠ [] → joinL c (l ++ [p]) = joinL c l ++ c :: p
  | [], _, h => absurd rfl h
  | [q], p, _ => rfl
  | q :: r :: t, p, _ => by
    show q ++ c :: joinL c ((r :: t) ++ [p]) = (q ++ c :: joinL c (r :: t)) ++ c :: p
    rw [joinL_snoc c (r :: t) p (by simp)]; simp
theorem runT_ne (r : Nat × Nat) : runT r ≠ [] := by
  have hd : ∀ n, digL n ≠ [] := fun n => by unfold digL; split <;> simp
  unfold runT
  split
  · simp
  · exact hd _
/-- The text so far, with one run more. -/
def addR (S : List UInt8) (p q : Nat) : List UInt8 := (if S = [] then [] else S ++ [44]) ++ runT (p, q)
theorem addR_join (l : List (Nat × Nat)) (p q : Nat) : addR (joinL 44 (l.map runT)) p q = joinL 44 ((l ++ [(p, q)]).map runT) := by
  unfold addR
  cases l with
  | nil => rfl
  | cons r t =>
    have h1 : (r :: t).map runT ≠ [] := by simp
    have h2 : joinL 44 ((r :: t).map runT) ≠ [] := join_ne _ h1 (fun p hp => by
      obtain ⟨x, _, rfl⟩ := List.mem_map.1 hp
      exact runT_ne x)
    rw [if_neg h2, List.map_append, List.map_singleton, joinL_snoc 44 _ _ h1]; simp
/-- What the reference's Show tells. -/
def RfOut (s : Nat) (a : Bool) (w : World) (e : Ending) (w' : World) : Prop := e = .returned (txt (showF s a)) ∧ Below w.heap.size w w'
theorem fld_cells (c : Sp) (f : Nat) (w w' : World) (hb : Below (w.heap.size + 1) (w.alloc (.cells (fL c f).toArray 34)) w') : (∀ n, n < 64 → w'.cell? ⟨w.heap.size, n, none⟩ = some (.bool ((c.S f).testBit n))) ∧ w'.cell? ⟨w.heap.size, 64, none⟩ = some (.bool (c.A f)) := by
  have hh : (w.alloc (.cells (fL c f).toArray 34)).heap[w.heap.size]? = some (.cells (fL c f).toArray 34 (0, 0)) := heap_alloc_last w _
  have h2 := (hb.block _ (by omega)).trans hh
  refine ⟨fun n hn => ?_, ?_⟩
  · rw [cell_of_row w' _ n _ _ (0, 0) h2]
    have := fL_at c f (j := n) (by omega)
    rw [fV_has _ _ _ hn] at this
    simpa using this
  · rw [cell_of_row w' _ 64 _ _ (0, 0) h2]
    have := fL_at c f (j := 64) (by omega)
    rw [fV_any] at this
    simpa using this
theorem rshow_star (c : Sp) (f : Nat) (w : World) (ha : c.A f = true) : Calls Tryd.prog 15 #[.agg (fL c f).toArray] w (RfOut (c.S f) (c.A f) w) := by
  have z2 := (fld_cells c f w _ (Below.refl _ _)).2
  rw [ha] at z2 ⊢
  have HR := hide (showF_any (c.S f))
  have HB0 : Hid (∀ o, Below w.heap.size w (w.alloc o)) := hide fun o => (Below.refl _ _).alloc (Nat.le_refl _) _
  clear ha
  generalize (fL c f).toArray = arr at *
  go_enter Tryd.func15, Tryd.ntmps15
  go_wp2_with fail
  go_ret
  exact ⟨by rw [HR.out]; rfl, HB0.out _⟩
set_option maxHeartbeats 4000000 in
set_option maxRecDepth 100000 in
theorem rshow_runs (c : Sp) (f : Nat) (w : World) (hS : c.S f < 18446744073709551616) (ha : c.A f = false) : Calls Tryd.prog 15 #[.agg (fL c f).toArray] w (RfOut (c.S f) (c.A f) w) := by
  have HZ : Hid (∀ w' : World, Below (w.heap.size + 1) (w.alloc (.cells (fL c f).toArray 34)) w' → ∀ n, n < 64 → w'.cell? ⟨w.heap.size, n, none⟩ = some (.bool ((c.S f).testBit n))) := hide fun w' hb => (fld_cells c f w w' hb).1
  have z2 := (fld_cells c f w _ (Below.refl _ _)).2
  rw [ha] at z2 ⊢
  have hh : ∀ m, 64 ≤ m → (c.S f).testBit m = false := fun m hm => bit_hi hS hm
  have HE : Hid (∀ n, n < 64 → (c.S f).testBit n = true → n ≤ runE (c.S f).testBit 64 n ∧ runE (c.S f).testBit 64 n < 64 ∧ (∀ m, n ≤ m → m ≤ runE (c.S f).testBit 64 n → (c.S f).testBit m = true) ∧ (c.S f).testBit (runE (c.S f).testBit 64 n + 1) = false) := hide fun n _ h => runE_spec _ hh 64 n (by omega) h
  have HNil : Hid (∀ k n, 64 ≤ n → runsL (c.S f).testBit k n = []) := hide fun k n hn => runsL_nil _ k n (fun m hm => hh m (by omega))
  have HLen := hide (runsL_len (c.S f).testBit 64 0)
  have HR := hide (showF_runs (c.S f))
  have HO : Hid (∀ o w', Below (w.heap.size + 1) (w.alloc o) w' → Below w.heap.size w w') := hide fun o w' h => by
    have h1 : Below w.heap.size w (w.alloc o) := (Below.refl _ _).alloc (Nat.le_refl _) _
    exact h1.trans (h.mono (Nat.le_succ _))
  have HDg := hide (fun (x : Int) (n : Nat) (w : World) (hx : x = n) (h : n < 100) => (hx ▸ digits_any n w h : Calls Tryd.prog 37 #[.int .i64 x] w fun e w' => e = .returned (txt (digL n)) ∧ Below w.heap.size w w'))
  unfold RfOut
  rw [HR.out]
  clear HR ha hh hS
  generalize c.S f = s at *
  generalize (fL c f).toArray = arr at *
  go_enter Tryd.func15, Tryd.ntmps15
  go_wp2_with fail
  clear z2
  go_loopw [3, 4] (fun v u wr => ∃ (k n : Nat) (done : List (Nat × Nat)) (S : List UInt8), n ≤ 64 ∧ 64 ≤ n + k ∧ Hid (done ++ runsL s.testBit k n = runsL s.testBit 64 0) ∧ Hid (S = joinL 44 (done.map runT)) ∧ u = .int .i64 n ∧ v = txt S ∧ Below (w.heap.size + 1) (w.alloc (.cells arr 34)) wr) (fun _ u _ => 65 - (intOf u).toNat)
  case atStart => exact ⟨64, 0, [], [], by omega, by omega, hide rfl, hide rfl, rfl, rfl, Below.refl _ _⟩
  case round =>
    obtain ⟨k, n, done, S, hn, hk, HD, HS, rfl, rfl, hb⟩ := hrel
    have HB := hide hb
    have hsz : w.heap.size + 1 ≤ wr.heap.size := by have := hb.size; simpa using this
    clear hb
    by_cases hlt : n < 64
    · obtain ⟨k', rfl⟩ : ∃ k', k = k' + 1 := ⟨k - 1, by omega⟩
      have z3 := HZ.out wr HB.out n hlt
      cases hbit : s.testBit n
      · rw [hbit] at z3
        have HD2 : Hid (done ++ runsL s.testBit k' (n + 1) = runsL s.testBit 64 0) := hide (by
          have := HD.out
          rw [show runsL s.testBit (k' + 1) n = runsL s.testBit k' (n + 1) by
            conv => lhs; unfold runsL
            rw [hbit, if_neg (by simp)]] at this
          exact this)
        clear hbit
        go_wp2_with fail
        go_roundw
        case rel => exact ⟨k', n + 1, done, S, by omega, by omega, HD2, HS, by go_num, rfl, HB.out⟩
        case measure => simp [intOf]; omega
      · rw [hbit] at z3
        obtain ⟨e1, e2, e3, e4⟩ := HE.out n hlt hbit
        have HD2 : Hid ((done ++ [(n, runE s.testBit 64 n)]) ++ runsL s.testBit k' (runE s.testBit 64 n + 1) = runsL s.testBit 64 0) := hide (by
          have := HD.out
          rw [show runsL s.testBit (k' + 1) n = (n, runE s.testBit 64 n) :: runsL s.testBit k' (runE s.testBit 64 n + 1) by
            conv => lhs; unfold runsL
            rw [hbit, if_pos rfl]] at this
          rw [List.append_assoc]; exact this)
        have HE3 := hide e3
        have HE4 := hide e4
        generalize runE s.testBit 64 n = E at *
        have hSl : S.length ≤ 400 := by
          have h1 := HLen.out
          rw [← HD2.out] at h1
          simp at h1
          rw [HS.out]
          have h2 := joinL_len 44 5 (done.map runT) (fun p hp => by
            obtain ⟨r, _, rfl⟩ := List.mem_map.1 hp
            exact runT_len r)
          rw [List.length_map] at h2
          have : done.length * (5 + 1) ≤ 64 * (5 + 1) := Nat.mul_le_mul_right _ (by omega)
          omega
        have HS2 : Hid (addR S n E = joinL 44 ((done ++ [(n, E)]).map runT)) := hide (by rw [HS.out]; exact addR_join done n E)
        clear hbit e3 e4
        go_wp2_with fail
        clear z3
        go_loop [5] (fun u => ∃ m : Nat, n ≤ m ∧ m ≤ E ∧ u = .int .i64 m) (fun u => 64 - (intOf u).toNat)
        case atStart => exact ⟨n, Nat.le_refl _, e1, rfl⟩
        case round =>
          obtain ⟨m, hm1, hm2, rfl⟩ := hrel
          by_cases hmE : m < E
          · have z4 := HZ.out wr HB.out (m + 1) (by omega)
            rw [HE3.out (m + 1) (by omega) (by omega)] at z4
            have hlt64 : (m : Int) + 1 < 64 := by omega
            go_wp2_with fail
            go_round
            case rel => exact ⟨m + 1, by omega, by omega, by go_num⟩
            case measure => simp [intOf]; omega
          · obtain rfl : m = E := by omega
            have l1 := digL_len n
            have l2 := digL_len m
            have HDn := hide (fun w => HDg.out n n w rfl (by omega))
            have HDm := hide (fun w => HDg.out m m w rfl (by omega))
            by_cases h63 : (m : Int) + 1 < 64
            · have z4 := HZ.out wr HB.out (m + 1) (by omega)
              rw [HE4.out] at z4
              rcases Nat.lt_or_ge n m with hnm | hnm
              · by_cases hS0 : S = []
                · subst hS0
                  have HX : Hid ((⟨#[]⟩ : ByteArray) ++ ⟨(digL n).toArray⟩ ++ (⟨#[45]⟩ ++ ⟨(digL m).toArray⟩) = ⟨(addR [] n m).toArray⟩) := hide (by
                    unfold addR runT
                    rw [if_pos rfl, if_pos (by show n < m; omega)]
                    apply ByteArray.ext; simp [ByteArray.data_append])
                  generalize digL n = x at *
                  generalize digL m = y at *
                  go_wp2_with fail
                  refine (HDn.out _).mono ?_
                  rintro e w1 ⟨rfl, hb1⟩
                  have HB1 := hide (HB.out.trans (hb1.mono hsz))
                  have hsz1 : w.heap.size + 1 ≤ w1.heap.size := Nat.le_trans hsz hb1.size
                  clear hb1
                  go_wp2_with fail
                  refine (HDm.out _).mono ?_
                  rintro e w2 ⟨rfl, hb2⟩
                  have HB2 := hide (HB1.out.trans (hb2.mono hsz1))
                  clear hb2
                  go_wp2_with fail
                  go_roundw
                  case rel => exact ⟨k', m + 1, done ++ [(n, m)], addR [] n m, by omega, by omega, HD2, hide HS2.out, by go_num, by first | exact congrArg Value.string HX.out | (rw [← HX.out]; simp), HB2.out⟩
                  case measure => simp [intOf]; omega
                · have hS1 : (S == []) = false := by simpa using hS0
                  have HX : Hid ((⟨S.toArray⟩ : ByteArray) ++ ⟨#[44]⟩ ++ ⟨(digL n).toArray⟩ ++ (⟨#[45]⟩ ++ ⟨(digL m).toArray⟩) = ⟨(addR S n m).toArray⟩) := hide (by
                    unfold addR runT
                    rw [if_neg hS0, if_pos (by show n < m; omega)]
                    apply ByteArray.ext; simp [ByteArray.data_append])
                  generalize digL n = x at *
                  generalize digL m = y at *
                  go_wp2_with fail
                  refine (HDn.out _).mono ?_
                  rintro e w1 ⟨rfl, hb1⟩
                  have HB1 := hide (HB.out.trans (hb1.mono hsz))
                  have hsz1 : w.heap.size + 1 ≤ w1.heap.size := Nat.le_trans hsz hb1.size
                  clear hb1
                  go_wp2_with fail
                  refine (HDm.out _).mono ?_
                  rintro e w2 ⟨rfl, hb2⟩
                  have HB2 := hide (HB1.out.trans (hb2.mono hsz1))
                  clear hb2
                  go_wp2_with fail
                  go_roundw
                  case rel => exact ⟨k', m + 1, done ++ [(n, m)], addR S n m, by omega, by omega, HD2, hide HS2.out, by go_num, by first | exact congrArg Value.string HX.out | (rw [← HX.out]; simp), HB2.out⟩
                  case measure => simp [intOf]; omega
              · by_cases hS0 : S = []
                · subst hS0
                  have HX : Hid ((⟨#[]⟩ : ByteArray) ++ ⟨(digL n).toArray⟩ = ⟨(addR [] n m).toArray⟩) := hide (by
                    unfold addR runT
                    rw [if_pos rfl, if_neg (by show ¬ n < m; omega)]
                    apply ByteArray.ext; simp [ByteArray.data_append])
                  generalize digL n = x at *
                  generalize digL m = y at *
                  go_wp2_with fail
                  refine (HDn.out _).mono ?_
                  rintro e w1 ⟨rfl, hb1⟩
                  have HB1 := hide (HB.out.trans (hb1.mono hsz))
                  have hsz1 : w.heap.size + 1 ≤ w1.heap.size := Nat.le_trans hsz hb1.size
                  clear hb1
                  go_wp2_with fail
                  go_roundw
                  case rel => exact ⟨k', m + 1, done ++ [(n, m)], addR [] n m, by omega, by omega, HD2, hide HS2.out, by go_num, by first | exact congrArg Value.string HX.out | (rw [← HX.out]; simp), HB1.out⟩
                  case measure => simp [intOf]; omega
                · have hS1 : (S == []) = false := by simpa using hS0
                  have HX : Hid ((⟨S.toArray⟩ : ByteArray) ++ ⟨#[44]⟩ ++ ⟨(digL n).toArray⟩ = ⟨(addR S n m).toArray⟩) := hide (by
                    unfold addR runT
                    rw [if_neg hS0, if_neg (by show ¬ n < m; omega)]
                    apply ByteArray.ext; simp [ByteArray.data_append])
                  generalize digL n = x at *
                  generalize digL m = y at *
                  go_wp2_with fail
                  refine (HDn.out _).mono ?_
                  rintro e w1 ⟨rfl, hb1⟩
                  have HB1 := hide (HB.out.trans (hb1.mono hsz))
                  have hsz1 : w.heap.size + 1 ≤ w1.heap.size := Nat.le_trans hsz hb1.size
                  clear hb1
                  go_wp2_with fail
                  go_roundw
                  case rel => exact ⟨k', m + 1, done ++ [(n, m)], addR S n m, by omega, by omega, HD2, hide HS2.out, by go_num, by first | exact congrArg Value.string HX.out | (rw [← HX.out]; simp), HB1.out⟩
                  case measure => simp [intOf]; omega
            · have h64 : (64 : Int) ≤ (m : Int) + 1 := by omega
              rcases Nat.lt_or_ge n m with hnm | hnm
              · by_cases hS0 : S = []
                · subst hS0
                  have HX : Hid ((⟨#[]⟩ : ByteArray) ++ ⟨(digL n).toArray⟩ ++ (⟨#[45]⟩ ++ ⟨(digL m).toArray⟩) = ⟨(addR [] n m).toArray⟩) := hide (by
                    unfold addR runT
                    rw [if_pos rfl, if_pos (by show n < m; omega)]
                    apply ByteArray.ext; simp [ByteArray.data_append])
                  generalize digL n = x at *
                  generalize digL m = y at *
                  go_wp2_with fail
                  refine (HDn.out _).mono ?_
                  rintro e w1 ⟨rfl, hb1⟩
                  have HB1 := hide (HB.out.trans (hb1.mono hsz))
                  have hsz1 : w.heap.size + 1 ≤ w1.heap.size := Nat.le_trans hsz hb1.size
                  clear hb1
                  go_wp2_with fail
                  refine (HDm.out _).mono ?_
                  rintro e w2 ⟨rfl, hb2⟩
                  have HB2 := hide (HB1.out.trans (hb2.mono hsz1))
                  clear hb2
                  go_wp2_with fail
                  go_roundw
                  case rel => exact ⟨k', m + 1, done ++ [(n, m)], addR [] n m, by omega, by omega, HD2, hide HS2.out, by go_num, by first | exact congrArg Value.string HX.out | (rw [← HX.out]; simp), HB2.out⟩
                  case measure => simp [intOf]; omega
                · have hS1 : (S == []) = false := by simpa using hS0
                  have HX : Hid ((⟨S.toArray⟩ : ByteArray) ++ ⟨#[44]⟩ ++ ⟨(digL n).toArray⟩ ++ (⟨#[45]⟩ ++ ⟨(digL m).toArray⟩) = ⟨(addR S n m).toArray⟩) := hide (by
                    unfold addR runT
                    rw [if_neg hS0, if_pos (by show n < m; omega)]
                    apply ByteArray.ext; simp [ByteArray.data_append])
                  generalize digL n = x at *
                  generalize digL m = y at *
                  go_wp2_with fail
                  refine (HDn.out _).mono ?_
                  rintro e w1 ⟨rfl, hb1⟩
                  have HB1 := hide (HB.out.trans (hb1.mono hsz))
                  have hsz1 : w.heap.size + 1 ≤ w1.heap.size := Nat.le_trans hsz hb1.size
                  clear hb1
                  go_wp2_with fail
                  refine (HDm.out _).mono ?_
                  rintro e w2 ⟨rfl, hb2⟩
                  have HB2 := hide (HB1.out.trans (hb2.mono hsz1))
                  clear hb2
                  go_wp2_with fail
                  go_roundw
                  case rel => exact ⟨k', m + 1, done ++ [(n, m)], addR S n m, by omega, by omega, HD2, hide HS2.out, by go_num, by first | exact congrArg Value.string HX.out | (rw [← HX.out]; simp), HB2.out⟩
                  case measure => simp [intOf]; omega
              · by_cases hS0 : S = []
                · subst hS0
                  have HX : Hid ((⟨#[]⟩ : ByteArray) ++ ⟨(digL n).toArray⟩ = ⟨(addR [] n m).toArray⟩) := hide (by
                    unfold addR runT
                    rw [if_pos rfl, if_neg (by show ¬ n < m; omega)]
                    apply ByteArray.ext; simp [ByteArray.data_append])
                  generalize digL n = x at *
                  generalize digL m = y at *
                  go_wp2_with fail
                  refine (HDn.out _).mono ?_
                  rintro e w1 ⟨rfl, hb1⟩
                  have HB1 := hide (HB.out.trans (hb1.mono hsz))
                  have hsz1 : w.heap.size + 1 ≤ w1.heap.size := Nat.le_trans hsz hb1.size
                  clear hb1
                  go_wp2_with fail
                  go_roundw
                  case rel => exact ⟨k', m + 1, done ++ [(n, m)], addR [] n m, by omega, by omega, HD2, hide HS2.out, by go_num, by first | exact congrArg Value.string HX.out | (rw [← HX.out]; simp), HB1.out⟩
                  case measure => simp [intOf]; omega
                · have hS1 : (S == []) = false := by simpa using hS0
                  have HX : Hid ((⟨S.toArray⟩ : ByteArray) ++ ⟨#[44]⟩ ++ ⟨(digL n).toArray⟩ = ⟨(addR S n m).toArray⟩) := hide (by
                    unfold addR runT
                    rw [if_neg hS0, if_neg (by show ¬ n < m; omega)]
                    apply ByteArray.ext; simp [ByteArray.data_append])
                  generalize digL n = x at *
                  generalize digL m = y at *
                  go_wp2_with fail
                  refine (HDn.out _).mono ?_
                  rintro e w1 ⟨rfl, hb1⟩
                  have HB1 := hide (HB.out.trans (hb1.mono hsz))
                  have hsz1 : w.heap.size + 1 ≤ w1.heap.size := Nat.le_trans hsz hb1.size
                  clear hb1
                  go_wp2_with fail
                  go_roundw
                  case rel => exact ⟨k', m + 1, done ++ [(n, m)], addR S n m, by omega, by omega, HD2, hide HS2.out, by go_num, by first | exact congrArg Value.string HX.out | (rw [← HX.out]; simp), HB1.out⟩
                  case measure => simp [intOf]; omega
    · obtain rfl : n = 64 := by omega
      have hD := HD.out
      rw [HNil.out k 64 (Nat.le_refl _), List.append_nil] at hD
      have HF : Hid (S = joinL 44 ((runsL s.testBit 64 0).map runT)) := hide (by rw [HS.out, hD])
      clear hD HD HS HNil HE HLen
      go_wp2_with fail
      go_ret
      exact ⟨by rw [← HF.out]; rfl, HO.out _ _ HB.out⟩
theorem rshow_field (c : Sp) (f : Nat) (w : World) (hc : c.wf) (hf : f < 5) : Calls Tryd.prog 15 #[.agg (fL c f).toArray] w fun e w' => e = .returned (txt (showF (c.S f) (c.A f))) ∧ Below w.heap.size w w' := by
  cases ha : c.A f
  · have := rshow_runs c f w (hc f hf) ha
    rw [ha] at this; exact this
  · have := rshow_star c f w ha
    rw [ha] at this; exact this
end Go.Proofs.YtggaflihblhapaaDoor
