/-
  readLiteral and readSign.
-/
import Derived.Test.YteaaloejjafhlaaDoorLRead
namespace Go.Proofs.YteaaloejjafhlaaDoor
open Go.RowKit Go.Sort LM

/-- What Parse tells of what begins with a quote. -/
theorem litParse (s : ByteArray) (at' : Nat) (w : World) (hT : Tab w) (hE : Errs w) (hs : s.size ≤ 140737488355328) (ha : at' < s.size) (hc : s[at'] = 34) :
    Calls Tryd.prog 44 #[.string ⟨((rest s at').take (endL s at' - at')).toArray⟩] w fun e w' => e = (match litR (rest s at') with | .ok _ t _ _ => .returned (.tuple #[vVal 2 0 ⟨t.toArray⟩, .int .i64 0]) | .no _ => .returned (.tuple #[vNull, .int .i64 20])) ∧ Below w.heap.size w w' := by
  have hr := rest_at ha
  rw [hc] at hr
  have hlen := rest_len s (at' + 1)
  have hm : endL s at' - at' = min (preS qtF false (rest s (at' + 1)) + 2) (s.size - at') := by unfold endL; omega
  rw [hm, hr]
  unfold litR
  simp only [List.tail_cons]
  generalize rest s (at' + 1) = r at *
  cases hq : litL r with
  | some x =>
    obtain ⟨t, m⟩ := x
    obtain ⟨i1, i2, ⟨r', i3⟩, i4⟩ := lit_some hq
    have hz : (34 :: r : List UInt8) = quoteL t ++ r' := by rw [i3]; unfold quoteL; simp
    have hqt : preS qtF false r = (esc t).length := by rw [i3]; exact qt_esc t r'
    have hl : (quoteL t).length = (esc t).length + 2 := by unfold quoteL; simp
    have hl2 : (esc t).length + 2 ≤ s.size - at' := by rw [i3] at hlen; simp at hlen; omega
    have hv : rightV 2 0 ⟨t.toArray⟩ = true := by
      unfold rightV rightT
      rw [list_of, size_of, i1]
      simp [i2]
    have hsh : showV 2 0 ⟨t.toArray⟩ = (34 :: r).take (min (preS qtF false r + 2) (s.size - at')) := by
      unfold showV
      rw [hv, hqt, Nat.min_eq_left hl2, hz, ← hl, List.take_left]
      simp
    have := parse_right 2 0 ⟨t.toArray⟩ w hv (by unfold I64; omega) hT
    rw [hsh] at this
    exact this
  | none =>
    refine (parse_any ⟨((34 :: r).take (min (preS qtF false r + 2) (s.size - at'))).toArray⟩ w (by rw [size_of, List.length_take]; omega) hT hE).mono ?_
    rintro e w' ⟨h, hb⟩
    refine ⟨?_, hb⟩
    rcases h with ⟨k, n, t, h1, h2, h3, h4, -⟩ | rfl
    · exfalso
      rw [list_of] at h4
      have hhd : (showV k n t).head? = some 34 := by
        rw [h4]
        obtain ⟨j, hj⟩ : ∃ j, min (preS qtF false r + 2) (s.size - at') = j + 1 := ⟨min (preS qtF false r + 2) (s.size - at') - 1, by omega⟩
        rw [hj]; rfl
      rcases rightV_cases h1 with ⟨rfl, rfl, rfl⟩ | ⟨rfl, rfl⟩ | ⟨rfl, rfl, ht⟩
      · have e : showV 0 0 ⟨#[]⟩ = [110, 117, 108, 108] := by unfold showV; rw [h1]; rfl
        rw [e] at hhd; simp at hhd
      · have e : showV 1 n ⟨#[]⟩ = Lib.itoa n := by unfold showV; rw [h1]; rfl
        obtain ⟨c, q, e2, h5⟩ := itoa_head n
        rw [e, e2] at hhd
        injection hhd with hhd
        subst hhd
        revert h5; decide
      · have e : showV 2 0 t = quoteL t.data.toList := by unfold showV; rw [h1]; rfl
        rw [e] at h4
        obtain ⟨D, hD⟩ : ∃ D, D = (34 :: r : List UInt8).drop (min (preS qtF false r + 2) (s.size - at')) := ⟨_, rfl⟩
        have h5 : (34 :: r : List UInt8) = quoteL t.data.toList ++ D := by rw [h4, hD, List.take_append_drop]
        have h6 : r = esc t.data.toList ++ 34 :: D := by
          unfold quoteL at h5
          have h8 := List.tail_eq_of_cons_eq h5
          rw [h8]; simp
        have h7 : t.data.toList.all okByte = true := by
          unfold rightV rightT at h1; simp at h1; simpa using h1.2
        rw [h6, lit_esc _ h7 (by rw [Array.length_toList]; exact ht)] at hq
        cases hq
    · rfl
/-- A value told beside an error. -/
def ValRes (V : Value) (z : Int) (w : World) (e : Ending) (w' : World) : Prop := e = .returned (.tuple #[V, .int .i64 z]) ∧ Below w.heap.size w w'
set_option maxHeartbeats 4000000 in
theorem lit_any (s : ByteArray) (at' : Nat) (w : World) (hT : Tab w) (hE : Errs w) (hs : s.size ≤ 140737488355328) (ha : at' < s.size) (hc : s[at'] = 34) :
    Calls Tryd.prog 31 #[.string s, .int .i64 at'] w fun e w' => e = outR at' (litR (rest s at')) ∧ Below w.heap.size w w' := by
  have HB0 := hide (boxT_below w)
  have HEnd := hide (fun w1 => litEnd_any s at' w1 hs ha)
  have hE1 : at' + 1 ≤ endL s at' ∧ endL s at' ≤ s.size := by unfold endL; omega
  have HX := hide (ext_rest s at' (endL s at' - at'))
  rw [show at' + (endL s at' - at') = endL s at' by omega] at HX
  have HP : Hid (∀ w1, Below w.heap.size w w1 → Calls Tryd.prog 44 #[.string (s.extract at' (endL s at'))] w1 fun e w' => e = (match litR (rest s at') with | .ok _ t _ _ => .returned (.tuple #[vVal 2 0 ⟨t.toArray⟩, .int .i64 0]) | .no _ => .returned (.tuple #[vNull, .int .i64 20])) ∧ Below w1.heap.size w1 w') := hide fun w1 hb => by
    rw [HX.out]
    exact litParse s at' w1 (hT.stays hb (Nat.le_refl _)) (hE.stays hb (Nat.le_refl _)) hs ha hc
  have HQ : Hid ((∃ t m, litR (rest s at') = .ok 3 t 0 m ∧ endL s at' = at' + m) ∨ litR (rest s at') = .no 50) := hide (by
    unfold litR
    have hr := rest_at ha
    have hlen := rest_len s (at' + 1)
    rw [hr, List.tail_cons]
    unfold endL
    generalize rest s (at' + 1) = r at *
    cases hq : litL r with
    | none => exact Or.inr rfl
    | some x =>
      obtain ⟨t, m⟩ := x
      obtain ⟨i1, i2, ⟨r', i3⟩, i4⟩ := lit_some hq
      have hqt : preS qtF false r = (esc t).length := by rw [i3]; exact qt_esc t r'
      refine Or.inl ⟨t, m + 1, rfl, ?_⟩
      rw [i3] at hlen; simp at hlen
      rw [hqt]; omega)
  clear HX hT hE hc
  generalize endL s at' = T at *
  generalize litR (rest s at') = R at *
  obtain ⟨hE1, hE2⟩ := hE1
  rcases HQ.out with ⟨t, m, rfl, hm⟩ | rfl
  · clear HQ
    have HM := hide hm
    clear hm
    go_enter Tryd.func31, Tryd.ntmps31
    go_wp2_with fail
    refine (HEnd.out _).mono ?_
    rintro e w1 ⟨rfl, hb⟩
    have HB := hide (HB0.out.trans (hb.mono HB0.out.size))
    have HBb := hide hb
    clear hb HEnd
    go_wp2_with fail
    refine (HP.out _ HB.out).mono ?_
    rintro e w2 ⟨rfl, hb⟩
    obtain ⟨⟨c0, c1, c2, c3⟩, ff, hz⟩ := boxT_cells (HBb.out.trans (hb.mono HBb.out.size))
    have HB2 := hide (HB.out.trans (hb.mono HB.out.size))
    clear hb
    have f0 := ff 0; have f1 := ff 1; have f2 := ff 2; have f3 := ff 3
    clear ff
    go_wp2_with fail
    refine bodyPost_ret (v := .tuple #[vT 3 t 0 0, .int .i64 (T : Nat), .int .i64 0]) (by simp [results, Tryd.results31, go_sem, c0, c1, c2, c3, hz]) rfl ⟨by rw [HM.out]; rfl, ?_⟩
    have := HB2.out
    go_grown
  · clear HQ
    go_enter Tryd.func31, Tryd.ntmps31
    go_wp2_with fail
    refine (HEnd.out _).mono ?_
    rintro e w1 ⟨rfl, hb⟩
    have HB := hide (HB0.out.trans (hb.mono HB0.out.size))
    have HBb := hide hb
    clear hb HEnd
    go_wp2_with fail
    refine (HP.out _ HB.out).mono ?_
    rintro e w2 ⟨rfl, hb⟩
    obtain ⟨⟨c0, c1, c2, c3⟩, ff, hz⟩ := boxT_cells (HBb.out.trans (hb.mono HBb.out.size))
    have HB2 := hide (HB.out.trans (hb.mono HB.out.size))
    clear hb
    have f0 := ff 0; have f1 := ff 1; have f2 := ff 2; have f3 := ff 3
    clear ff
    go_wp2_with fail
    refine bodyPost_ret (v := .tuple #[vT 0 [] 0 0, .int .i64 0, .int .i64 50]) (by simp [results, Tryd.results31, go_sem, c0, c1, c2, c3, hz]) rfl ⟨rfl, ?_⟩
    have := HB2.out
    go_grown
end Go.Proofs.YteaaloejjafhlaaDoor
