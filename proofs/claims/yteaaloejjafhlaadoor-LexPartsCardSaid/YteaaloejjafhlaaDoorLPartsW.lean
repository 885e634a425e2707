/-
  LexParts: its walk.
-/
import Derived.Test.YteaaloejjafhlaaDoorLShowsW
import Derived.Laws.StructEq
namespace Go.Proofs.YteaaloejjafhlaaDoor.lexParts
open Go.RowKit Go.Sort LM

theorem tok_fields : Tryd.prog.underlying 33 = some (.struct (Tryd.prog.fieldsOf 33)) := by kernel_rfl
theorem tok_stood : Tryd.prog.stoodInHeld 33 = false := by kernel_rfl
theorem tok_guard : Tryd.prog.eqGuardType Tryd.prog.depth 33 = false := by kernel_rfl
theorem tok_fieldsL : (Tryd.prog.fieldsOf 33).toList.map (fun f => (f.type, f.offset, decide (f.name ≠ "_"))) = [(3, 0, true), (9, 1, true), (3, 2, true), (3, 3, true)] := by kernel_rfl
/-- != of a token and itself. -/
theorem run_neq_tok (k n a : Int) (t : List UInt8) (w : World) : (binOp .neq 33 (vT k t n a) (vT k t n a)).run Tryd.prog w = .ok (.bool false) w := by
  have h2 := Tryd.underlying9
  have h3 := Tryd.underlying3
  have hf := tok_fieldsL
  rw [run_neq_struct, run_equalIn_agg w 9999 33 _ _ tok_fields tok_stood]
  generalize (Tryd.prog.fieldsOf 33).toList = fs at hf
  rcases fs with _ | ⟨f, _ | ⟨g, _ | ⟨h, _ | ⟨i, _ | ⟨_, _⟩⟩⟩⟩⟩ <;> simp at hf
  obtain ⟨⟨f1, f2, f3⟩, ⟨g1, g2, g3⟩, ⟨h1, h4, h5⟩, i1, i2, i3⟩ := hf
  simp [Op.eqFields, f1, f2, f3, g1, g2, g3, h1, h4, h5, i1, i2, i3, go_sem]
theorem run_guard_tok (k n a l m b : Int) (t s : List UInt8) (u v : Operand) (w : World) : (eqGuard .neq 33 u v (vT k t n a) (vT l s m b)).run Tryd.prog w = .ok () w := run_eqGuard_agg w .neq _ u v _ _ tok_guard
theorem lexF_in : ∀ (f : Nat) (l : List UInt8) (a : Nat), (lexF f l a).2.1 ≤ a + l.length ∧ ∀ x ∈ (lexF f l a).1, x.at' ≤ a + l.length
  | 0, l, a => ⟨by simp [lexF], fun x h => by simp [lexF] at h⟩
  | f + 1, l, a => by
    by_cases hl : l = []
    · rw [lexF, if_pos hl]
      exact ⟨by simp, fun x h => by simp at h⟩
    rw [lexF, if_neg hl]
    cases ht : tokL l with
    | no z => exact ⟨by simp, fun x h => by simp at h⟩
    | ok k t n m =>
      simp only
      obtain ⟨i1, i2⟩ := lexF_in f ((l.drop m).drop (gap (l.drop m))) (a + m + gap (l.drop m))
      obtain ⟨h1, h2, -⟩ := tok_some ht
      have hg := preS_le skF false (l.drop m)
      rw [List.length_drop] at hg
      have hg' : gap (l.drop m) ≤ l.length - m := hg
      rw [List.length_drop, List.length_drop] at i1 i2
      unfold joinT
      split
      · refine ⟨by
          show (lexF f ((l.drop m).drop (gap (l.drop m))) (a + m + gap (l.drop m))).2.1 ≤ a + l.length
          omega, fun x hx => ?_⟩
        rw [List.mem_append, List.mem_singleton] at hx
        rcases hx with rfl | hx
        · show a ≤ _; omega
        · have := i2 x hx; omega
      · exact ⟨by
          show (lexF f ((l.drop m).drop (gap (l.drop m))) (a + m + gap (l.drop m))).2.1 ≤ a + l.length
          omega, fun x h => by simp at h⟩
theorem lexA_in (l : List UInt8) : (lexA l).2.1 ≤ l.length ∧ ∀ x ∈ (lexA l).1, x.at' ≤ l.length := by
  unfold lexA
  split
  · exact ⟨Nat.zero_le _, fun x h => by simp at h⟩
  · obtain ⟨h1, h2⟩ := lexF_in (l.length + 1) (l.drop (gap l)) (gap l)
    have hg : gap l ≤ l.length := preS_le skF false l
    rw [List.length_drop] at h1 h2
    exact ⟨by omega, fun x hx => by have := h2 x hx; omega⟩

set_option maxRecDepth 100000 in
set_option maxHeartbeats 8000000 in
theorem lexParts_walk (a b : ByteArray) (w : World) (ha : a.size ≤ maxLen) (hb : b.size ≤ maxLen) (hL : Lw w) :
    Calls Tryd.prog 7 #[.string a, .string b] w fun e w' => e = .returned (.bool true) ∧ Below w.heap.size w w' := by
  unfold maxLen at ha hb
  have HA := hide (fun w1 (hb : Below w.heap.size w w1) => awake_any w1 (hL.on hb))
  have HB0 := hide (Below.refl w.heap.size w)
  by_cases hbig : 2000 < a.size
  · go_enter Tryd.func7, Tryd.ntmps7
    go_wp2_with fail
    refine (HA.out _ HB0.out).mono ?_
    rintro e w1 ⟨rfl, hb⟩
    have HB := hide hb
    clear hb
    go_wp2_with fail
    go_ret
    exact ⟨rfl, HB.out⟩
  by_cases hbig2 : 2000 < b.size
  · go_enter Tryd.func7, Tryd.ntmps7
    go_wp2_with fail
    refine (HA.out _ HB0.out).mono ?_
    rintro e w1 ⟨rfl, hb⟩
    have HB := hide hb
    clear hb
    go_wp2_with fail
    go_ret
    exact ⟨rfl, HB.out⟩
  have hal : a.data.toList.length = a.size := Array.length_toList
  have hbl : b.data.toList.length = b.size := Array.length_toList
  have H1 := hide (lex_any (a ++ ⟨#[10]⟩) w hL (by rw [ByteArray.size_append]; show a.size + 1 ≤ _; omega))
  have H2 := hide (fun w1 hL => lex_any b w1 hL (by omega))
  have H3 := hide (fun w1 hL => lex_any ((a ++ ⟨#[10]⟩) ++ b) w1 hL (by rw [ByteArray.size_append, ByteArray.size_append]; show a.size + 1 + b.size ≤ _; omega))
  have e1 : (a ++ ⟨#[10]⟩ : ByteArray).data.toList = a.data.toList ++ [10] := by rw [cat_data]
  have e3 : ((a ++ ⟨#[10]⟩) ++ b : ByteArray).data.toList = a.data.toList ++ 10 :: b.data.toList := by rw [cat_data, cat_data]; simp
  rw [e1] at H1
  rw [e3] at H3
  have hcat := lexA_cat a.data.toList b.data.toList (by omega) (by omega)
  have hf1 := lexA_form (a.data.toList ++ [10])
  have hf2 := lexA_form b.data.toList
  obtain ⟨hp2, hin2⟩ := lexA_in b.data.toList
  have hl1 := (lexA_val (a.data.toList ++ [10])).2.2
  have hl2 := (lexA_val b.data.toList).2.2
  rw [List.length_append, List.length_singleton] at hl1
  rw [hal] at hcat hl1
  rw [hbl] at hp2 hin2 hl2
  generalize lexA (a.data.toList ++ [10]) = X1 at *
  generalize lexA b.data.toList = X2 at *
  generalize lexA (a.data.toList ++ 10 :: b.data.toList) = X3 at *
  obtain ⟨L, p1, z1⟩ := X1
  obtain ⟨M, p2, z2⟩ := X2
  obtain ⟨N, p3, z3⟩ := X3
  simp only at hcat hf1 hf2 hp2 hin2 hl1 hl2
  have HLw := hide hL
  have HCat := hide hcat
  have HIn := hide hin2
  clear hL e1 e3 hcat hin2
  go_enter Tryd.func7, Tryd.ntmps7
  go_wp2_with fail
  refine H1.out.mono ?_
  rintro e w1 ⟨⟨A1, c1, rfl, hA⟩, hb⟩
  simp only at hA ⊢
  have HB1 := hide hb
  have HA1 := hide hA
  clear hb H1 hA
  go_wp2_with fail
  refine (H2.out _ (HLw.out.on HB1.out)).mono ?_
  rintro e w2 ⟨⟨A2, c2, rfl, hA⟩, hb⟩
  simp only at hA ⊢
  have HB2 := hide (HB1.out.trans (hb.mono HB1.out.size))
  have HA2 := hide hA
  have HA12 := hide (HA1.out.on hb)
  clear hb H2 hA HA1
  go_wp2_with fail
  refine (H3.out _ (HLw.out.on HB2.out)).mono ?_
  rintro e w3 ⟨⟨A3, c3, rfl, hA⟩, hb⟩
  simp only at hA ⊢
  have HB3 := hide (HB2.out.trans (hb.mono HB2.out.size))
  have HA3 := hide hA
  have HA13 := hide (HA12.out.on hb)
  have HA23 := hide (HA2.out.on hb)
  clear hb H3 hA HA12 HA2
  by_cases hz1 : z1 = 0
  rotate_left 1
  · have hzb : (z1 != 0) = true := by simpa using hz1
    obtain rfl : z3 = z1 := HCat.out.1 hz1
    clear HCat HIn
    go_wp2_with fail
    refine (HA.out _ HB3.out).mono ?_
    rintro e w4 ⟨rfl, hb⟩
    have HB := hide (HB3.out.trans (hb.mono HB3.out.size))
    clear hb
    go_wp2_with fail
    go_ret
    exact ⟨rfl, HB.out⟩
  subst hz1
  have hX3 := HCat.out.2 rfl
  clear HCat
  by_cases hz2 : z2 = 0
  rotate_left 1
  · have hzb : (z2 != 0) = true := by simpa using hz2
    rw [joinT_no (by exact hz2)] at hX3
    injection hX3 with h1 h2
    injection h2 with h2 h3
    obtain rfl : N = [] := h1
    have h2' : p3 = p2 + (a.size + 1) := h2
    have h3' : z3 = z2 := h3
    subst h3'
    subst h2'
    have t1 : (((p2 + (a.size + 1) : Nat) : Int) == (a.size : Int) + 1 + (p2 : Nat)) = true := by simp; omega
    clear h2 h3 HIn hf2
    simp only [List.length_nil]
    go_wp2_with fail
    refine (HA.out _ HB3.out).mono ?_
    rintro e w4 ⟨rfl, hb⟩
    have HB := hide (HB3.out.trans (hb.mono HB3.out.size))
    clear hb
    go_wp2_with fail
    go_ret
    exact ⟨rfl, HB.out⟩
  subst hz2
  rw [joinT_ok (by rfl)] at hX3
  injection hX3 with h1 h2
  injection h2 with h2 h3
  obtain rfl : N = L ++ M.map (shiftT (a.size + 1)) := h1
  obtain rfl : z3 = 0 := h3
  have HNL : Hid ((L ++ M.map (shiftT (a.size + 1))).length = L.length + M.length) := hide (by rw [List.length_append, List.length_map])
  clear h2 hf1 hf2
  rw [HNL.out]
  go_wp2_with fail
  go_loopw [92] (fun i wr => ∃ j : Nat, i = .int .i64 j ∧ j ≤ L.length + M.length ∧ Hid (Below w3.heap.size w3 wr)) (fun i _ => L.length + M.length - (intOf i).toNat)
  case atStart => exact ⟨0, rfl, Nat.zero_le _, hide (Below.refl _ _)⟩
  case round =>
    obtain ⟨j, rfl, hj, HBs⟩ := hrel
    have hsz := HBs.out.size
    by_cases hlt : j < L.length + M.length
    · have hltN : j < (L ++ M.map (shiftT (a.size + 1))).length := by rw [HNL.out]; exact hlt
      obtain ⟨b3, o3, rfl, hb3, d0, d1, d2, d3⟩ := (HA3.out.below HBs.out).at hltN
      by_cases hj1 : j < L.length
      · obtain ⟨b1, o1, rfl, hb1, c0, c1, c2, c3⟩ := (HA13.out.below HBs.out).at hj1
        have hb1' : b1 < wr.heap.size := by omega
        have eN : (L ++ M.map (shiftT (a.size + 1)))[j] = L[j] := List.getElem_append_left hj1
        rw [eN] at d0 d1 d2 d3
        clear eN HIn HNL HA13 HA23 HA3
        generalize L[j] = x at *
        have hneq := run_neq_tok x.k x.n (x.at' : Nat) x.t
        have hgd := run_guard_tok x.k x.n (x.at' : Nat) x.k x.n (x.at' : Nat) x.t x.t
        go_wp2_with fail
        go_roundw
        case rel => exact ⟨j + 1, by go_num, by omega, hide ((HBs.out.alloc hsz _).alloc (by simp; omega) _)⟩
        case measure => simp [intOf]; omega
      · obtain ⟨i0, rfl⟩ : ∃ i0, j = L.length + i0 := ⟨j - L.length, by omega⟩
        have hi0 : i0 < M.length := by omega
        obtain ⟨b2, o2, rfl, hb2, c0, c1, c2, c3⟩ := (HA23.out.below HBs.out).at hi0
        have hb2' : b2 < wr.heap.size := by omega
        have eN : (L ++ M.map (shiftT (a.size + 1)))[L.length + i0] = shiftT (a.size + 1) M[i0] := by
          rw [List.getElem_append_right (by omega), List.getElem_map]
          congr 2; omega
        rw [eN] at d0 d1 d2 d3
        have hat := HIn.out M[i0] (List.getElem_mem hi0)
        clear eN HIn HNL HA13 HA23 HA3
        generalize M[i0] = x at *
        have e3 : (((shiftT (a.size + 1) x).at' : Nat) : Int) = (x.at' : Int) + ((a.size : Int) + 1) := by show ((x.at' + (a.size + 1) : Nat) : Int) = _; omega
        rw [e3] at d3
        have d0' : wr.cell? ⟨b3, o3 + (L.length + i0) * 4, none⟩ = some (.int .i64 x.k) := d0
        have d1' : wr.cell? ⟨b3, o3 + (L.length + i0) * 4 + 1, none⟩ = some (txt x.t) := d1
        have d2' : wr.cell? ⟨b3, o3 + (L.length + i0) * 4 + 2, none⟩ = some (.int .i64 x.n) := d2
        clear d0 d1 d2 e3
        have hneq := run_neq_tok x.k x.n ((x.at' : Int) + ((a.size : Int) + 1)) x.t
        have hgd := run_guard_tok x.k x.n ((x.at' : Int) + ((a.size : Int) + 1)) x.k x.n ((x.at' : Int) + ((a.size : Int) + 1)) x.t x.t
        go_wp2_with fail
        go_roundw
        case rel => exact ⟨L.length + i0 + 1, by go_num, by omega, hide ((HBs.out.alloc hsz _).alloc (by simp; omega) _)⟩
        case measure => simp [intOf]; omega
    · have HBz := hide (HB3.out.trans (HBs.out.mono HB3.out.size))
      go_wp2_with fail
      refine (HA.out _ HBz.out).mono ?_
      rintro e w4 ⟨rfl, hb⟩
      have HB4 := hide (HBz.out.trans (hb.mono HBz.out.size))
      clear hb
      go_wp2_with fail
      go_ret
      exact ⟨rfl, HB4.out⟩
end Go.Proofs.YteaaloejjafhlaaDoor.lexParts
