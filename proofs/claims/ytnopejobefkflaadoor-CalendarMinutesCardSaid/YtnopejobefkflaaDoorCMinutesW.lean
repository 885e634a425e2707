/-
  The walk of CalendarMinutes.
-/
import Derived.Test.YtnopejobefkflaaDoorCMinutesA
import Derived.Test.YtnopejobefkflaaDoorCMinutesB
namespace Go.Proofs.YtnopejobefkflaaDoor
open Go.RowKit Go.Sort CM

theorem isD_of {y d h mi wd : Int} {k : Nat} (y0 : 2000 ≤ y) (hk : k ≤ 11) (d0 : 1 ≤ d) (d1 : d ≤ dm y (k + 1)) (h0 : 0 ≤ h) (h1 : h ≤ 23) (i0 : 0 ≤ mi) (i1 : mi ≤ 59) (ht : (d - 1 + ys y + cum y k) * 1440 + h * 60 + mi < 2147483648) (hw : wd = (d - 1 + ys y + cum y k + 6) % 7) :
    IsD y ((k : Int) + 1) d h mi wd ((d - 1 + ys y + cum y k) * 1440 + h * 60 + mi) := by
  obtain ⟨a, b, c, e, f, g, i⟩ := parts y0 hk d0 d1 ⟨h0, h1⟩ ⟨i0, i1⟩ ((d - 1 + ys y + cum y k) * 1440 + h * 60 + mi) (by omega)
  exact ⟨a, ht, b.symm, by rw [c], e.symm, f.symm, g.symm, by rw [i, hw]; congr 1; omega⟩
theorem calendarMinutes_walk (y m d h mi wd : Int) (w : World) (ht : Tab w) (hM : Mon w) : Calls Tryd.prog 4 #[vD y m d h mi wd] w fun e w' => e = .returned (.bool true) ∧ Below w.heap.size w w' := by
  have hA := fun w' (hb : Below w.heap.size w w') => awake_any w' (ht.on hb) (hM.on hb)
  by_cases hd : ∃ n, IsD y m d h mi wd n
  · obtain ⟨n, n0, n1, rfl, rfl, rfl, rfl, rfl, rfl⟩ := hd
    exact mins_yes _ _ _ _ _ _ n w n0 n1 (fun w' hb => min_yes w' (hM.on hb) n0 n1) (fun w' _ => rof_any n w' n0 n1) (fun w' _ => ref_any _ _ _ _ _ _ w') hA
  have hd' : ∀ n, ¬ IsD y m d h mi wd n := fun n hn => hd ⟨n, hn⟩
  have hm := fun w' (hb : Below w.heap.size w w') => min_no y m d h mi wd w' (hM.on hb) hd'
  by_cases a0 : y < 2000
  · exact mins_out0 y m d h mi wd w a0 hm hA
  by_cases a1 : 6083 < y
  · exact mins_out1 y m d h mi wd w (by omega) a1 hm hA
  by_cases a2 : m < 1
  · exact mins_out2 y m d h mi wd w (by omega) (by omega) a2 hm hA
  by_cases a3 : 12 < m
  · exact mins_out3 y m d h mi wd w (by omega) (by omega) (by omega) a3 hm hA
  by_cases a4 : d < 1
  · exact mins_out4 y m d h mi wd w (by omega) (by omega) (by omega) (by omega) a4 hm hA
  obtain ⟨k, hk, rfl⟩ : ∃ k : Nat, k ≤ 11 ∧ m = (k : Int) + 1 := ⟨(m - 1).toNat, by omega, by omega⟩
  have hD : (∀ w', Below w.heap.size w w' → Calls Tryd.prog 15 #[.int .i64 y, .int .i64 ((k : Int) + 1)] w' fun e w2 => e = .returned (.int .i64 (dm y (k + 1))) ∧ Below w'.heap.size w' w2) := fun w' _ => (rdays_any y k w' hk).mono fun e w2 hh => ⟨hh.1, hh.2 ▸ Below.refl _ _⟩
  by_cases a5 : dm y (k + 1) < d
  · exact mins_out5 y _ d h mi wd _ w (by omega) (by omega) (by omega) (by omega) (by omega) a5 hm hD hA
  by_cases a6 : h < 0
  · exact mins_out6 y _ d h mi wd _ w (by omega) (by omega) (by omega) (by omega) (by omega) (by omega) a6 hm hD hA
  by_cases a7 : 23 < h
  · exact mins_out7 y _ d h mi wd _ w (by omega) (by omega) (by omega) (by omega) (by omega) (by omega) (by omega) a7 hm hD hA
  by_cases a8 : mi < 0
  · exact mins_out8 y _ d h mi wd _ w (by omega) (by omega) (by omega) (by omega) (by omega) (by omega) (by omega) (by omega) a8 hm hD hA
  by_cases a9 : 59 < mi
  · exact mins_out9 y _ d h mi wd _ w (by omega) (by omega) (by omega) (by omega) (by omega) (by omega) (by omega) (by omega) (by omega) a9 hm hD hA
  refine mins_in y d h mi wd k w (by omega) (by omega) hk (by omega) (by omega) (by omega) (by omega) (by omega) (by omega) ?_ hm hA
  by_cases hf : 2147483648 ≤ (d - 1 + ys y + cum y k) * 1440 + h * 60 + mi
  · exact .inl hf
  · refine .inr ⟨by omega, fun hw => ?_⟩
    exact hd' _ (isD_of (by omega) hk (by omega) (by omega) (by omega) (by omega) (by omega) (by omega) (by omega) hw)
end Go.Proofs.YtnopejobefkflaaDoor
