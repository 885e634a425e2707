/-
  Does a minute match, as the reference asks it.
-/
import Derived.Test.YtldbmkmicaihhaaDoorHRefM
namespace Go.Proofs.YtldbmkmicaihhaaDoor
open Go.RowKit CM HM

set_option maxHeartbeats 2000000 in
theorem rmatch_any (c : Sp) (n : Int) (w : World) (h0 : 0 ≤ n) (h1 : n < 2147483648) : Calls Tryd.prog 18 #[.agg (fCells c), .int .i64 n] w fun e w' => e = .returned (.bool (matB c n)) ∧ Below w.heap.size w w' := by
  have hk := K_spec h0
  have hd := D_bd h0
  obtain ⟨mi, hmi⟩ : ∃ k : Nat, n % 60 = (k : Int) := ⟨(n % 60).toNat, by omega⟩
  obtain ⟨ho, hho⟩ : ∃ k : Nat, n / 60 % 24 = (k : Int) := ⟨(n / 60 % 24).toNat, by omega⟩
  obtain ⟨da, hda⟩ : ∃ k : Nat, D n = (k : Int) := ⟨(D n).toNat, by omega⟩
  obtain ⟨wk, hwk⟩ : ∃ k : Nat, (6 + n / 1440) % 7 = (k : Int) := ⟨((6 + n / 1440) % 7).toNat, by omega⟩
  obtain ⟨mo, hmo⟩ : ∃ k : Nat, (K n : Int) + 1 = (k : Int) := ⟨K n + 1, by omega⟩
  have hb1 : mi < 64 := by omega
  have hb2 : ho < 64 := by omega
  have hb3 : da < 64 := by omega
  have hb4 : wk < 64 := by omega
  have hb5 : mo < 64 := by omega
  have HE : Hid (matB c n = ((c.S 0).testBit mi && ((c.S 1).testBit ho && ((c.S 3).testBit mo && (if (c.A 2 || c.A 4) = true then (c.S 2).testBit da && (c.S 4).testBit wk else (c.S 2).testBit da || (c.S 4).testBit wk))))) := hide (by
    rw [mat_parts, hmi, hho, hda, hwk, show K n + 1 = mo by omega]; rfl)
  have HO : Hid (∀ w, Calls Tryd.prog 35 #[.int .i64 n] w fun e w' => e = .returned (vD (Y n) (mo : Int) (da : Int) (ho : Int) (mi : Int) (wk : Int)) ∧ Below w.heap.size w w') := hide (fun w => by
    have := rof_any n w h0 h1
    rw [vDate, hmi, hho, hda, hwk, hmo] at this
    exact this)
  have HZ : Hid (Row (w.alloc (.cells (fCells c) 35)) w.heap.size c (fun i => i < 325)) := hide ⟨fCells c, fCells_size c, heap_alloc_last w _, fun i hi _ => fCells_at c hi⟩
  clear hk hd hmi hho hda hwk hmo
  generalize Y n = y at *
  generalize matB c n = r at *
  go_enter Tryd.func18, Tryd.ntmps18
  go_wp2_with fail
  refine (HO.out _).mono ?_
  rintro e w1 ⟨rfl, hb⟩
  have HB1 : Hid (Below w.heap.size w w1) := hide (((Below.refl _ _).alloc (Nat.le_refl _) _).trans (Below.mono hb (by simp)))
  have hr := HZ.out.below hb (by simp)
  obtain ⟨W, hW⟩ : ∃ W, W = w1.alloc (.cells #[.int .i64 y, .int .i64 (mo : Int), .int .i64 (da : Int), .int .i64 (ho : Int), .int .i64 (mi : Int), .int .i64 (wk : Int)] 75) := ⟨_, rfl⟩
  have c0 := hr.done (i := mi) (by omega) (by omega)
  have c1 := hr.done (i := 65 + ho) (by omega) (by omega)
  have c3 := hr.done (i := 195 + mo) (by omega) (by omega)
  have c2 := hr.done (i := 130 + da) (by omega) (by omega)
  have c4 := hr.done (i := 260 + wk) (by omega) (by omega)
  have a2 := hr.done (i := 194) (by omega) (by omega)
  have a4 := hr.done (i := 324) (by omega) (by omega)
  rw [show fV c mi = _ by simpa using fV_has c 0 mi hb1] at c0
  rw [show fV c (65 + ho) = _ by simpa using fV_has c 1 ho hb2] at c1
  rw [show fV c (195 + mo) = _ by simpa using fV_has c 3 mo hb5] at c3
  rw [show fV c (130 + da) = _ by simpa using fV_has c 2 da hb3] at c2
  rw [show fV c (260 + wk) = _ by simpa using fV_has c 4 wk hb4] at c4
  rw [show fV c 194 = _ from fV_any c 2] at a2
  rw [show fV c 324 = _ from fV_any c 4] at a4
  have hz : w.heap.size < w1.heap.size := lt_of_cell c0
  clear hr hb
  generalize (c.S 0).testBit mi = b0 at *
  generalize (c.S 1).testBit ho = b1 at *
  generalize (c.S 3).testBit mo = b3 at *
  generalize (c.S 2).testBit da = b2 at *
  generalize (c.S 4).testBit wk = b4 at *
  generalize c.A 2 = x2 at *
  generalize c.A 4 = x4 at *
  have HB2 : Hid (∀ o : Obj, Below w.heap.size w (w1.alloc o)) := hide (fun o => HB1.out.alloc HB1.out.size o)
  clear hW
  cases b0
  · go_wp2_with fail
    go_ret
    exact ⟨ret_bool (by rw [HE.out]; simp), HB2.out _⟩
  · cases b1
    · go_wp2_with fail
      go_ret
      exact ⟨ret_bool (by rw [HE.out]; simp), HB2.out _⟩
    · cases b3
      · go_wp2_with fail
        go_ret
        exact ⟨ret_bool (by rw [HE.out]; simp), HB2.out _⟩
      · cases x2
        · cases x4
          · cases b2
            all_goals
              go_wp2_with fail
              go_region
              all_goals go_wp2_with fail
              all_goals go_ret
              all_goals exact ⟨ret_bool (by rw [HE.out]; simp), (HB2.out _).drew⟩
          · cases b2
            all_goals
              go_wp2_with fail
              go_region
              all_goals go_wp2_with fail
              all_goals go_ret
              all_goals exact ⟨ret_bool (by rw [HE.out]; simp), (HB2.out _).drew⟩
        · cases b2
          all_goals
            go_wp2_with fail
            go_region
            all_goals go_wp2_with fail
            all_goals go_ret
            all_goals exact ⟨ret_bool (by rw [HE.out]; simp), (HB2.out _).drew⟩
end Go.Proofs.YtldbmkmicaihhaaDoor
