/-
  read: the token at a place.
-/
import Derived.Test.YteaaloejjafhlaaDoorLSign
namespace Go.Proofs.YteaaloejjafhlaaDoor
open Go.RowKit Go.Sort LM

/-- What the listed variables hold. -/
structure Lw (w : World) : Prop where
  tab : Tab w
  errs : Errs w
  sg : Sg w
theorem Lw.on {w w' : World} (h : Lw w) (hb : Below w.heap.size w w') : Lw w' := ⟨h.tab.stays hb (Nat.le_refl _), h.errs.stays hb (Nat.le_refl _), h.sg.on hb⟩
/-- What read tells. -/
def outA (at' : Nat) : Rd → Ending
  | .ok k t n m => .returned (.tuple #[vT k t n (at' : Nat), .int .i64 ((at' + m : Nat) : Int), .int .i64 0])
  | .no z => .returned (.tuple #[vT 0 [] 0 (at' : Nat), .int .i64 0, .int .i64 z])
theorem out_both (at' : Nat) (R : Rd) : ∃ k t n a z, outR at' R = .returned (.tuple #[vT k t n 0, .int .i64 a, .int .i64 z]) ∧ outA at' R = .returned (.tuple #[vT k t n (at' : Nat), .int .i64 a, .int .i64 z]) := by
  cases R with
  | ok k t n m => exact ⟨k, t, n, _, 0, rfl, rfl⟩
  | no z => exact ⟨0, [], 0, 0, z, rfl, rfl⟩
theorem tok_at {s : ByteArray} {at' : Nat} (ha : at' < s.size) : tokL (rest s at') = if lowP s[at'] then wordR (rest s at') else if digP s[at'] then numR (rest s at') else if s[at'] = 34 then litR (rest s at') else sgnR (rest s at') := by
  rw [rest_at ha]; rfl
/-- Four cells that may be written. -/
def At4 (w : World) (b : Nat) (x y z u : Value) : Prop := (w.cell? ⟨b, 0, none⟩ = some x ∧ w.cell? ⟨b, 1, none⟩ = some y ∧ w.cell? ⟨b, 2, none⟩ = some z ∧ w.cell? ⟨b, 3, none⟩ = some u) ∧ w.frozen? ⟨b, 0, none⟩ = false ∧ w.frozen? ⟨b, 1, none⟩ = false ∧ w.frozen? ⟨b, 2, none⟩ = false ∧ w.frozen? ⟨b, 3, none⟩ = false
theorem cell_off (w : World) (b i j : Nat) (v : Value) (h : i ≠ j) : (w.setCell ⟨b, j, none⟩ v).cell? ⟨b, i, none⟩ = w.cell? ⟨b, i, none⟩ := World.cell?_setCell_other _ _ _ _ (by intro x; injection x with _ x; exact h x.symm)
theorem At4.set0 {w : World} {b : Nat} {x y z u : Value} (h : At4 w b x y z u) (v : Value) : At4 (w.setCell ⟨b, 0, none⟩ v) b v y z u := by
  obtain ⟨⟨c0, c1, c2, c3⟩, f⟩ := h
  refine ⟨⟨World.cell?_setCell_same' _ _ _ (by rw [c0]; rfl), ?_, ?_, ?_⟩, by simp only [World.frozen?_setCell]; exact f⟩
  · rw [cell_off _ _ _ _ _ (by decide)]; exact c1
  · rw [cell_off _ _ _ _ _ (by decide)]; exact c2
  · rw [cell_off _ _ _ _ _ (by decide)]; exact c3
theorem At4.set1 {w : World} {b : Nat} {x y z u : Value} (h : At4 w b x y z u) (v : Value) : At4 (w.setCell ⟨b, 1, none⟩ v) b x v z u := by
  obtain ⟨⟨c0, c1, c2, c3⟩, f⟩ := h
  refine ⟨⟨?_, World.cell?_setCell_same' _ _ _ (by rw [c1]; rfl), ?_, ?_⟩, by simp only [World.frozen?_setCell]; exact f⟩
  · rw [cell_off _ _ _ _ _ (by decide)]; exact c0
  · rw [cell_off _ _ _ _ _ (by decide)]; exact c2
  · rw [cell_off _ _ _ _ _ (by decide)]; exact c3
theorem At4.set2 {w : World} {b : Nat} {x y z u : Value} (h : At4 w b x y z u) (v : Value) : At4 (w.setCell ⟨b, 2, none⟩ v) b x y v u := by
  obtain ⟨⟨c0, c1, c2, c3⟩, f⟩ := h
  refine ⟨⟨?_, ?_, World.cell?_setCell_same' _ _ _ (by rw [c2]; rfl), ?_⟩, by simp only [World.frozen?_setCell]; exact f⟩
  · rw [cell_off _ _ _ _ _ (by decide)]; exact c0
  · rw [cell_off _ _ _ _ _ (by decide)]; exact c1
  · rw [cell_off _ _ _ _ _ (by decide)]; exact c3
theorem At4.set3 {w : World} {b : Nat} {x y z u : Value} (h : At4 w b x y z u) (v : Value) : At4 (w.setCell ⟨b, 3, none⟩ v) b x y z v := by
  obtain ⟨⟨c0, c1, c2, c3⟩, f⟩ := h
  refine ⟨⟨?_, ?_, ?_, World.cell?_setCell_same' _ _ _ (by rw [c3]; rfl)⟩, by simp only [World.frozen?_setCell]; exact f⟩
  · rw [cell_off _ _ _ _ _ (by decide)]; exact c0
  · rw [cell_off _ _ _ _ _ (by decide)]; exact c1
  · rw [cell_off _ _ _ _ _ (by decide)]; exact c2
/-- A token written into its box, and then its place. -/
theorem box_put {w w2 : World} (k n a : Int) (t : List UInt8) (hb : Below (boxT w).heap.size (boxT w) w2) :
    ∃ w3, (((((w2.setCell ⟨w.heap.size, 0, none⟩ (.int .i64 k)).setCell ⟨w.heap.size, 1, none⟩ (.string ⟨t.toArray⟩)).setCell ⟨w.heap.size, 2, none⟩ (.int .i64 n)).setCell ⟨w.heap.size, 3, none⟩ (.int .i64 0)).setCell ⟨w.heap.size, 3, none⟩ (.int .i64 a)) = w3 ∧
      At4 w3 w.heap.size (.int .i64 k) (txt t) (.int .i64 n) (.int .i64 a) ∧ w.heap.size < w3.heap.size ∧ Below w.heap.size w w3 := by
  obtain ⟨⟨c0, c1, c2, c3⟩, ff, hz⟩ := boxT_cells hb
  have h0 : At4 w2 w.heap.size _ _ _ _ := ⟨⟨c0, c1, c2, c3⟩, ff 0, ff 1, ff 2, ff 3⟩
  refine ⟨_, rfl, ((((h0.set0 _).set1 _).set2 _).set3 _).set3 _, ?_, ?_⟩
  · simpa using hz
  · have hB := (boxT_below w).trans (hb.mono (boxT_below w).size)
    exact ((((hB.setCell (Nat.le_refl _) _).setCell (Nat.le_refl _) _).setCell (Nat.le_refl _) _).setCell (Nat.le_refl _) _).setCell (Nat.le_refl _) _
set_option maxHeartbeats 8000000 in
theorem read_any (s : ByteArray) (at' : Nat) (w : World) (hL : Lw w) (hs : s.size ≤ 140737488355328) (ha : at' < s.size) :
    Calls Tryd.prog 15 #[.string s, .int .i64 at'] w fun e w' => e = outA at' (tokL (rest s at')) ∧ Below w.heap.size w w' := by
  have HB0 := hide (boxT_below w)
  have HLe := hide (letter_any s[at'])
  have HDi := hide (digit_any s[at'])
  have hL1 := hL.on HB0.out
  have HW := hide (word_any s at' (boxT w) hs ha)
  have HN := hide (num_any s at' (boxT w) hL1.errs hs ha)
  have HT := hide (lit_any s at' (boxT w) hL1.tab hL1.errs hs ha)
  have HS := hide (sign_any s at' (boxT w) hL1.sg hs ha)
  have HR := hide (tok_at ha)
  clear hL hL1
  generalize tokL (rest s at') = R at *
  by_cases h1 : lowP s[at'] = true
  · rw [if_pos h1] at HR
    rw [h1] at HLe
    obtain rfl := HR.out
    clear HDi HN HT HS HR h1
    obtain ⟨k, t, n, a, z, e1, e2⟩ := out_both at' (wordR (rest s at'))
    rw [e2]
    rw [e1] at HW
    clear e1 e2
    go_enter Tryd.func15, Tryd.ntmps15
    go_wp2_with fail
    refine (HLe.out _).mono ?_
    rintro e w1 ⟨rfl, rfl⟩
    go_wp2_with fail
    refine HW.out.mono ?_
    rintro e w2 ⟨rfl, hb⟩
    obtain ⟨⟨c0, c1, c2, c3⟩, ff, hz⟩ := boxT_cells hb
    have f0 := ff 0; have f1 := ff 1; have f2 := ff 2; have f3 := ff 3
    obtain ⟨w3, e3, ⟨⟨d0, d1, d2, d3⟩, g0, g1, g2, g3⟩, hz3, hb3⟩ := box_put k n (at' : Int) t hb
    have HB3 := hide hb3
    clear hb ff hb3 HB0
    go_wp2_with (rw [e3]; clear e3 c0 c1 c2 c3 f0 f1 f2 f3 hz)
    refine bodyPost_ret (v := .tuple #[vT k t n (at' : Nat), .int .i64 a, .int .i64 z]) (by simp [results, Tryd.results15, go_sem, d0, d1, d2, d3]) rfl ⟨rfl, ?_⟩
    have := HB3.out
    go_grown
  have h1' : lowP s[at'] = false := by simpa using h1
  rw [if_neg h1] at HR
  rw [h1'] at HLe
  clear h1 h1' HW
  by_cases h2 : digP s[at'] = true
  · rw [if_pos h2] at HR
    rw [h2] at HDi
    obtain rfl := HR.out
    have HN2 := hide (HN.out h2)
    clear HN HT HS HR h2
    obtain ⟨k, t, n, a, z, e1, e2⟩ := out_both at' (numR (rest s at'))
    rw [e2]
    rw [e1] at HN2
    clear e1 e2
    go_enter Tryd.func15, Tryd.ntmps15
    go_wp2_with fail
    refine (HLe.out _).mono ?_
    rintro e w1 ⟨rfl, rfl⟩
    go_wp2_with fail
    refine (HDi.out _).mono ?_
    rintro e w1 ⟨rfl, rfl⟩
    go_wp2_with fail
    refine HN2.out.mono ?_
    rintro e w2 ⟨rfl, hb⟩
    obtain ⟨⟨c0, c1, c2, c3⟩, ff, hz⟩ := boxT_cells hb
    have f0 := ff 0; have f1 := ff 1; have f2 := ff 2; have f3 := ff 3
    obtain ⟨w3, e3, ⟨⟨d0, d1, d2, d3⟩, g0, g1, g2, g3⟩, hz3, hb3⟩ := box_put k n (at' : Int) t hb
    have HB3 := hide hb3
    clear hb ff hb3 HB0
    go_wp2_with (rw [e3]; clear e3 c0 c1 c2 c3 f0 f1 f2 f3 hz)
    refine bodyPost_ret (v := .tuple #[vT k t n (at' : Nat), .int .i64 a, .int .i64 z]) (by simp [results, Tryd.results15, go_sem, d0, d1, d2, d3]) rfl ⟨rfl, ?_⟩
    have := HB3.out
    go_grown
  have h2' : digP s[at'] = false := by simpa using h2
  rw [if_neg h2] at HR
  rw [h2'] at HDi
  clear h2 h2' HN
  by_cases h3 : s[at'] = 34
  · rw [if_pos h3] at HR
    have t1 : ((s[at'].toNat : Int) == 34) = true := byte_is s[at'] 34 (by decide) h3
    obtain rfl := HR.out
    have HN2 := hide (HT.out h3)
    clear HT HS HR h3
    obtain ⟨k, t, n, a, z, e1, e2⟩ := out_both at' (litR (rest s at'))
    rw [e2]
    rw [e1] at HN2
    clear e1 e2
    go_enter Tryd.func15, Tryd.ntmps15
    go_wp2_with fail
    refine (HLe.out _).mono ?_
    rintro e w1 ⟨rfl, rfl⟩
    go_wp2_with fail
    refine (HDi.out _).mono ?_
    rintro e w1 ⟨rfl, rfl⟩
    go_wp2_with fail
    refine HN2.out.mono ?_
    rintro e w2 ⟨rfl, hb⟩
    obtain ⟨⟨c0, c1, c2, c3⟩, ff, hz⟩ := boxT_cells hb
    have f0 := ff 0; have f1 := ff 1; have f2 := ff 2; have f3 := ff 3
    obtain ⟨w3, e3, ⟨⟨d0, d1, d2, d3⟩, g0, g1, g2, g3⟩, hz3, hb3⟩ := box_put k n (at' : Int) t hb
    have HB3 := hide hb3
    clear hb ff hb3 HB0
    go_wp2_with (rw [e3]; clear e3 c0 c1 c2 c3 f0 f1 f2 f3 hz)
    refine bodyPost_ret (v := .tuple #[vT k t n (at' : Nat), .int .i64 a, .int .i64 z]) (by simp [results, Tryd.results15, go_sem, d0, d1, d2, d3]) rfl ⟨rfl, ?_⟩
    have := HB3.out
    go_grown
  · rw [if_neg h3] at HR
    have t1 : ((s[at'].toNat : Int) == 34) = false := byte_not s[at'] 34 (by decide) h3
    obtain rfl := HR.out
    clear HT HR h3
    obtain ⟨k, t, n, a, z, e1, e2⟩ := out_both at' (sgnR (rest s at'))
    rw [e2]
    rw [e1] at HS
    clear e1 e2
    go_enter Tryd.func15, Tryd.ntmps15
    go_wp2_with fail
    refine (HLe.out _).mono ?_
    rintro e w1 ⟨rfl, rfl⟩
    go_wp2_with fail
    refine (HDi.out _).mono ?_
    rintro e w1 ⟨rfl, rfl⟩
    go_wp2_with fail
    refine HS.out.mono ?_
    rintro e w2 ⟨rfl, hb⟩
    obtain ⟨⟨c0, c1, c2, c3⟩, ff, hz⟩ := boxT_cells hb
    have f0 := ff 0; have f1 := ff 1; have f2 := ff 2; have f3 := ff 3
    obtain ⟨w3, e3, ⟨⟨d0, d1, d2, d3⟩, g0, g1, g2, g3⟩, hz3, hb3⟩ := box_put k n (at' : Int) t hb
    have HB3 := hide hb3
    clear hb ff hb3 HB0
    go_wp2_with (rw [e3]; clear e3 c0 c1 c2 c3 f0 f1 f2 f3 hz)
    refine bodyPost_ret (v := .tuple #[vT k t n (at' : Nat), .int .i64 a, .int .i64 z]) (by simp [results, Tryd.results15, go_sem, d0, d1, d2, d3]) rfl ⟨rfl, ?_⟩
    have := HB3.out
    go_grown
end Go.Proofs.YteaaloejjafhlaaDoor
