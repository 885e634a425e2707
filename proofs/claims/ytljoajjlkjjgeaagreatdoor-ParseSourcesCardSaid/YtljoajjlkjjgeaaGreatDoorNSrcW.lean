/-
  ParseSources: its walk.
-/
import Derived.Test.YtljoajjlkjjgeaaGreatDoorNSrc
import Derived.Test.YtljoajjlkjjgeaaGreatDoorMP3
import Derived.Test.YtljoajjlkjjgeaaGreatDoorNAwake
namespace Go.Proofs.YtljoajjlkjjgeaaGreatDoor
open Go.RowKit Go.Sort LM Go

theorem infoStrS : (Tryz.prog.info? 9).map (fun i => (i.zero, i.size, i.bytes)) = some (some (.string ⟨#[]⟩), 1, 16) := by kernel_rfl
theorem infoColS : (Tryz.prog.info? 45).map (fun i => (i.zero, i.size, i.bytes)) = some (some (.agg #[.string ⟨#[]⟩, .int .i64 0]), 2, 24) := by kernel_rfl
set_option maxHeartbeats 16000000 in
set_option maxRecDepth 100000 in
theorem parseSources_walk (s0 : ByteArray) (l : List ByteArray) (A : Option Addr) (c : Nat) (k a z : Int) (w : World) (fs0 : s0.size ≤ maxLen) (hv : StrL w l (.slice A l.length c)) (_hn : A = none → c = 0) (hl : l.length ≤ maxLen) (hz : ∀ k, ∀ hk : k < l.length, l[k].size ≤ maxLen) (hwf : a ≤ 9223372036854775807 ∧ z ≤ 9223372036854775807) (hL : Lw w) :
    Calls Tryz.prog 3 #[.string s0, .slice A l.length c, .agg #[.int .i64 k, .int .i64 a, .int .i64 z]] w fun e w' => e = .returned (.bool true) ∧ Below w.heap.size w w' := by
  obtain ⟨W0, hW0⟩ : ∃ W0, W0 = w.alloc (.cells #[.int .i64 k, .int .i64 a, .int .i64 z] 24) := ⟨_, rfl⟩
  have hb0 : Below w.heap.size w W0 := by rw [hW0]; exact Joins.below_alloc1 w _
  have hz0 : w.heap.size < W0.heap.size := by rw [hW0]; simp
  have hX0 : HoldB w.heap.size 24 [.int .i64 k, .int .i64 a, .int .i64 z] W0 := by rw [hW0]; exact heap_alloc_new _ _
  have HC := hide (fun w' (hb : Below W0.heap.size W0 w') => (by
    have hh : HoldB w.heap.size 24 [.int .i64 k, .int .i64 a, .int .i64 z] w' := (hb.block _ hz0).trans hX0
    exact ⟨by rw [Lib.cell_of_heap hh 0]; rfl, by rw [Lib.cell_of_heap hh 1]; rfl, by rw [Lib.cell_of_heap hh 2]; rfl, holds_size hh⟩ : w'.cell? ⟨w.heap.size, 0, none⟩ = some (.int .i64 k) ∧ w'.cell? ⟨w.heap.size, 1, none⟩ = some (.int .i64 a) ∧ w'.cell? ⟨w.heap.size, 2, none⟩ = some (.int .i64 z) ∧ w.heap.size < w'.heap.size))
  have HW0 := hide hW0
  have HB0 := hide hb0
  have HG := hide (fun w' (hb : Below W0.heap.size W0 w') => then_below hb0 hb)
  have HS := hide (fun w' (hb : Below W0.heap.size W0 w') (j : Nat) (hj : j < l.length) => (by
    obtain ⟨A', c', e, h⟩ := hv
    injection e with e1 e2 e3
    subst e1
    exact h w' (then_below hb0 hb) j hj : ∃ b off, A = some ⟨b, off, none⟩ ∧ b < w.heap.size ∧ w'.cell? ⟨b, off + j, none⟩ = some (.string l[j])))
  have hv0 : ∀ w1, Below W0.heap.size W0 w1 → StrL w1 l (.slice A l.length c) := fun w1 hb => by
    obtain ⟨A', c', e, h⟩ := hv
    exact ⟨A', c', e, fun wr hr j hj => by
      obtain ⟨b, off, e1, hlt, hc⟩ := h wr (then_below (then_below hb0 hb) hr) j hj
      exact ⟨b, off, e1, Nat.lt_of_lt_of_le hlt (Nat.le_trans hb0.size hb.size), hc⟩⟩
  have HN := hide (fun w1 (_ : Below W0.heap.size W0 w1) => lword_any s0 w1 fs0)
  have HWs := hide (fun w1 (hb : Below W0.heap.size W0 w1) => words_any l (.slice A l.length c) w1 (hv0 w1 hb) hl hz)
  have HAw := hide (fun w1 (hb : Below W0.heap.size W0 w1) => awake_any w1 (hL.on (then_below hb0 hb)))
  have HL := hide (fun w1 (hb : Below W0.heap.size W0 w1) => hL.on (then_below hb0 hb))
  have HR0 := hide (Below.refl W0.heap.size W0)
  clear hW0 hb0 hX0 hv hv0
  by_cases h0 : wordB s0 = true
  rotate_left 1
  · as_aux_lemma =>
      have hf := h0
      rw [Bool.not_eq_true] at hf
      rw [hf] at HN
      clear h0 hf
      go_enter Tryz.func3, Tryz.ntmps3
      go_wp2_with fail
      rw [← HW0.out]
      refine (HN.out _ HR0.out).mono ?_
      rintro e w1 ⟨rfl, hb⟩
      have HD1 := hide (then_below HR0.out hb)
      clear hb
      obtain ⟨y0, y1, y2, ys⟩ := HC.out w1 HD1.out
      go_wp2_with fail
      refine (HAw.out _ HD1.out).mono ?_
      rintro e w8 ⟨rfl, hb⟩
      have HD8 := hide (then_below HD1.out hb)
      clear hb
      go_wp2_with fail
      go_ret
      exact ⟨rfl, HG.out _ HD8.out⟩
  rw [h0] at HN
  by_cases h1 : wordsB l = true
  rotate_left 1
  · as_aux_lemma =>
      have hf := h1
      rw [Bool.not_eq_true] at hf
      rw [hf] at HWs
      clear h1 hf h0
      go_enter Tryz.func3, Tryz.ntmps3
      go_wp2_with fail
      rw [← HW0.out]
      refine (HN.out _ HR0.out).mono ?_
      rintro e w1 ⟨rfl, hb⟩
      have HD1 := hide (then_below HR0.out hb)
      clear hb
      obtain ⟨y0, y1, y2, ys⟩ := HC.out w1 HD1.out
      go_wp2_with fail
      refine (HWs.out _ HD1.out).mono ?_
      rintro e w2 ⟨rfl, hb⟩
      have HD2 := hide (then_below HD1.out hb)
      clear hb y0 y1 y2 ys
      obtain ⟨y0, y1, y2, ys⟩ := HC.out w2 HD2.out
      go_wp2_with fail
      refine (HAw.out _ HD2.out).mono ?_
      rintro e w8 ⟨rfl, hb⟩
      have HD8 := hide (then_below HD2.out hb)
      clear hb
      go_wp2_with fail
      go_ret
      exact ⟨rfl, HG.out _ HD8.out⟩
  rw [h1] at HWs
  by_cases hk : k < 1
  · as_aux_lemma =>
      clear h0 h1 HS
      go_enter Tryz.func3, Tryz.ntmps3
      go_wp2_with fail
      rw [← HW0.out]
      refine (HN.out _ HR0.out).mono ?_
      rintro e w1 ⟨rfl, hb⟩
      have HD1 := hide (then_below HR0.out hb)
      clear hb
      obtain ⟨y0, y1, y2, ys⟩ := HC.out w1 HD1.out
      go_wp2_with fail
      refine (HWs.out _ HD1.out).mono ?_
      rintro e w2 ⟨rfl, hb⟩
      have HD2 := hide (then_below HD1.out hb)
      clear hb y0 y1 y2 ys
      obtain ⟨y0, y1, y2, ys⟩ := HC.out w2 HD2.out
      go_wp2_with fail
      refine (HAw.out _ HD2.out).mono ?_
      rintro e w8 ⟨rfl, hb⟩
      have HD8 := hide (then_below HD2.out hb)
      clear hb
      go_wp2_with fail
      go_ret
      exact ⟨rfl, HG.out _ HD8.out⟩
  have hk1 := Int.not_lt.1 hk
  clear hk
  by_cases hk : 5 < k
  · as_aux_lemma =>
      clear h0 h1 HS
      go_enter Tryz.func3, Tryz.ntmps3
      go_wp2_with fail
      rw [← HW0.out]
      refine (HN.out _ HR0.out).mono ?_
      rintro e w1 ⟨rfl, hb⟩
      have HD1 := hide (then_below HR0.out hb)
      clear hb
      obtain ⟨y0, y1, y2, ys⟩ := HC.out w1 HD1.out
      go_wp2_with fail
      refine (HWs.out _ HD1.out).mono ?_
      rintro e w2 ⟨rfl, hb⟩
      have HD2 := hide (then_below HD1.out hb)
      clear hb y0 y1 y2 ys
      obtain ⟨y0, y1, y2, ys⟩ := HC.out w2 HD2.out
      go_wp2_with fail
      refine (HAw.out _ HD2.out).mono ?_
      rintro e w8 ⟨rfl, hb⟩
      have HD8 := hide (then_below HD2.out hb)
      clear hb
      go_wp2_with fail
      go_ret
      exact ⟨rfl, HG.out _ HD8.out⟩
  have hk5 := Int.not_lt.1 hk
  clear hk
  by_cases hk : a < 0
  · as_aux_lemma =>
      clear h0 h1 HS
      go_enter Tryz.func3, Tryz.ntmps3
      go_wp2_with fail
      rw [← HW0.out]
      refine (HN.out _ HR0.out).mono ?_
      rintro e w1 ⟨rfl, hb⟩
      have HD1 := hide (then_below HR0.out hb)
      clear hb
      obtain ⟨y0, y1, y2, ys⟩ := HC.out w1 HD1.out
      go_wp2_with fail
      refine (HWs.out _ HD1.out).mono ?_
      rintro e w2 ⟨rfl, hb⟩
      have HD2 := hide (then_below HD1.out hb)
      clear hb y0 y1 y2 ys
      obtain ⟨y0, y1, y2, ys⟩ := HC.out w2 HD2.out
      go_wp2_with fail
      refine (HAw.out _ HD2.out).mono ?_
      rintro e w8 ⟨rfl, hb⟩
      have HD8 := hide (then_below HD2.out hb)
      clear hb
      go_wp2_with fail
      go_ret
      exact ⟨rfl, HG.out _ HD8.out⟩
  have ha := Int.not_lt.1 hk
  clear hk
  by_cases hk : z < 0
  · as_aux_lemma =>
      clear h0 h1 HS
      go_enter Tryz.func3, Tryz.ntmps3
      go_wp2_with fail
      rw [← HW0.out]
      refine (HN.out _ HR0.out).mono ?_
      rintro e w1 ⟨rfl, hb⟩
      have HD1 := hide (then_below HR0.out hb)
      clear hb
      obtain ⟨y0, y1, y2, ys⟩ := HC.out w1 HD1.out
      go_wp2_with fail
      refine (HWs.out _ HD1.out).mono ?_
      rintro e w2 ⟨rfl, hb⟩
      have HD2 := hide (then_below HD1.out hb)
      clear hb y0 y1 y2 ys
      obtain ⟨y0, y1, y2, ys⟩ := HC.out w2 HD2.out
      go_wp2_with fail
      refine (HAw.out _ HD2.out).mono ?_
      rintro e w8 ⟨rfl, hb⟩
      have HD8 := hide (then_below HD2.out hb)
      clear hb
      go_wp2_with fail
      go_ret
      exact ⟨rfl, HG.out _ HD8.out⟩
  have hz := Int.not_lt.1 hk
  clear hk
  obtain ⟨i, rfl⟩ : ∃ i : Nat, k = (i : Int) + 1 := ⟨(k - 1).toNat, by omega⟩
  obtain ⟨a, rfl⟩ : ∃ n : Nat, a = (n : Int) := ⟨a.toNat, by omega⟩
  obtain ⟨z, rfl⟩ : ∃ n : Nat, z = (n : Int) := ⟨z.toNat, by omega⟩
  have hi : i < 5 := by omega
  have ha63 : a < 9223372036854775808 := by omega
  have hz63 : z < 9223372036854775808 := by omega
  obtain ⟨hall, hpos, h20⟩ := words_all h1
  have hn0 := nm_word' h0
  have hs0 : s0.size ≤ 16 := by
    have := hn0.len
    have h : s0.data.toList.length = s0.size := Array.length_toList
    omega
  have HQ := hide (fun y (hy : y ∈ parQ false l) => (by
    obtain ⟨u, hu, e⟩ := parQ_mem hy
    rw [e]; exact nm_word' (hall u hu) : Nm y.1))
  have HQl := hide (parQ_len false l)
  have HTk := hide (fun j (hj : j < l.length) => parQ_take (fun y => ba (colT y)) l j hj)
  have HTc := hide (fun j (hj : j < l.length) => parQ_take colV l j hj)
  have Hsz := hide (fun j (hj : j < l.length) => (by
    have := (nm_word' (hall l[j] (List.getElem_mem hj))).len
    have h : l[j].data.toList.length = l[j].size := Array.length_toList
    omega : l[j].size ≤ 16))
  have HOne := hide (fun w1 (hb : Below W0.heap.size W0 w1) (P : Nat → Prop) wv (hw : RepC P w1 ({k := 1, nm := s0, sch := (parQ false l).map colM, sc := (((i : Nat) : Int) + 1, ((a : Nat) : Int), ((z : Nat) : Int))} : Df).enc wv) => (by
    obtain ⟨x, r, e⟩ : ∃ x r, parQ false l = x :: r := by
      cases hq : parQ false l with
      | nil => have := parQ_len false l; rw [hq] at this; simp at this; omega
      | cons x r => exact ⟨x, r, rfl⟩
    have hlr : (x :: r).length = l.length := by rw [← e, parQ_len]
    have h := src_one (s0 := s0) (x := x) (l := r) (i := i) (a := a) (z := z) (wv := wv) (P := P) (HL.out w1 hb) hn0 (fun y hy => HQ.out y (by rw [e]; exact hy)) hi ha63 hz63 (by simp at hlr; omega) (by
      unfold srcD
      rw [ba_data, ← List.map_cons, ← e]; exact hw)
    rw [← e, List.length_map, parQ_len] at h
    exact h : Calls Tryz.prog 13 #[.string (⟨#[115, 111, 117, 114, 99, 101, 32]⟩ ++ s0 ++ ⟨#[40]⟩ ++ ba (joinU [44] ((parQ false l).map colT) l.length) ++ ⟨#[41, 32]⟩ ++ ba (schWords.getD i []) ++ ⟨#[32]⟩ ++ numB a ++ ⟨#[46, 46]⟩ ++ numB z ++ ⟨#[59]⟩), .agg wv.toArray] w1 fun e w' => e = .returned (.bool true) ∧ Below w1.heap.size w1 w'))
  have HJ := hide (fun w1 v (hs : StrL w1 (((parQ false l).map colT).map ba) v) => (by
    have := join_any ((parQ false l).map colT) [44] v w1 hs (by rw [List.length_map, parQ_len]; omega) (by decide) (fun x hx => by
      obtain ⟨y, hy, rfl⟩ := List.mem_map.1 hx
      have := colT_len (HQ.out y hy).len
      omega)
    rw [List.length_map, parQ_len] at this
    exact this : Calls Tryz.prog 11 #[v, .string (ba [44])] w1 fun e w' => e = .returned (.string (ba (joinU [44] ((parQ false l).map colT) l.length))) ∧ Below w1.heap.size w1 w'))
  have hJl : (ba (joinU [44] ((parQ false l).map colT) l.length)).size ≤ 25000 := by
    rw [ba_size]
    have := joinU_len (by' := [44]) (l := (parQ false l).map colT) (by decide) (fun x hx => by
      obtain ⟨y, hy, rfl⟩ := List.mem_map.1 hx
      have := colT_len (HQ.out y hy).len
      omega) l.length (by rw [List.length_map, parQ_len]; omega)
    omega
  have HKw := hide (show ([.string ⟨#[]⟩, .string ⟨#[104, 111, 117, 114, 108, 121]⟩, .string ⟨#[100, 97, 105, 108, 121]⟩, .string ⟨#[119, 101, 101, 107, 108, 121]⟩, .string ⟨#[109, 111, 110, 116, 104, 108, 121]⟩, .string ⟨#[115, 116, 97, 116, 105, 99]⟩] : List Value)[i + 1]? = some (.string (ba (schWords.getD i []))) by
    have h5 : i = 0 ∨ i = 1 ∨ i = 2 ∨ i = 3 ∨ i = 4 := by omega
    rcases h5 with rfl | rfl | rfl | rfl | rfl <;> rfl)
  have hKl : (ba (schWords.getD i [])).size ≤ 7 := by
    have h5 : i = 0 ∨ i = 1 ∨ i = 2 ∨ i = 3 ∨ i = 4 := by omega
    rcases h5 with rfl | rfl | rfl | rfl | rfl <;> decide
  have hAl : (numB (a : Int)).size ≤ 20 := by rw [numB_nat, ba_size]; exact dec19 ha63
  have hZl : (numB (z : Int)).size ≤ 20 := by rw [numB_nat, ba_size]; exact dec19 hz63
  have HNa := hide (fun w1 => rnum_any (a : Int) w1 (by omega) (by omega))
  have HNz := hide (fun w1 => rnum_any (z : Int) w1 (by omega) (by omega))
  have HNd1 := hide (show (⟨(Lib.itoa (a : Int)).toArray⟩ : ByteArray) = numB a from rfl)
  have HNd2 := hide (show (⟨(Lib.itoa (z : Int)).toArray⟩ : ByteArray) = numB z from rfl)
  rw [HNd1.out] at HNa
  rw [HNd2.out] at HNz
  generalize (numB (a : Int)) = NA at *
  generalize (numB (z : Int)) = NZ at *
  generalize (ba (schWords.getD i [])) = KW at *
  generalize ba (joinU [44] ((parQ false l).map colT) l.length) = J at *
  obtain ⟨ie, hie, hze, hse, hbe⟩ := info_parts infoColS
  obtain ⟨is, his, hzs, hss, hbs⟩ := info_parts infoStrS
  clear HNd1 HNd2 h0 h1 hall hn0 hz
  go_enter Tryz.func3, Tryz.ntmps3
  go_wp2_with fail
  rw [← HW0.out]
  refine (HN.out _ HR0.out).mono ?_
  rintro e w1 ⟨rfl, hb⟩
  have HD1 := hide (then_below HR0.out hb)
  clear hb
  obtain ⟨y0, y1, y2, ys⟩ := HC.out w1 HD1.out
  go_wp2_with fail
  refine (HWs.out _ HD1.out).mono ?_
  rintro e w2 ⟨rfl, hb⟩
  have HD2 := hide (then_below HD1.out hb)
  clear hb y0 y1 y2 ys
  obtain ⟨y0, y1, y2, ys⟩ := HC.out w2 HD2.out
  obtain ⟨W3, hW3⟩ : ∃ W3, W3 = w2.alloc (.cells #[.int .i64 1, .string s0, .slice none 0 0, .int .i64 (((i : Nat) : Int) + 1), .int .i64 (((a : Nat) : Int)), .int .i64 (((z : Nat) : Int)), .slice none 0 0, .int .i64 0, .string ⟨#[]⟩, .slice none 0 0, .int .i64 0, .string ⟨#[]⟩, .int .i64 0, .int .i64 0, .string ⟨#[]⟩, .string ⟨#[]⟩, .slice none 0 0, .slice none 0 0, .slice none 0 0, .slice none 0 0, .slice none 0 0, .slice none 0 0, .int .i64 0, .string ⟨#[]⟩, .slice none 0 0] 43) := ⟨_, rfl⟩
  have HW3 := hide (show W3 = (w2.alloc (.cells #[.int .i64 0, .string ⟨#[]⟩, .slice none 0 0, .int .i64 0, .int .i64 0, .int .i64 0, .slice none 0 0, .int .i64 0, .string ⟨#[]⟩, .slice none 0 0, .int .i64 0, .string ⟨#[]⟩, .int .i64 0, .int .i64 0, .string ⟨#[]⟩, .string ⟨#[]⟩, .slice none 0 0, .slice none 0 0, .slice none 0 0, .slice none 0 0, .slice none 0 0, .slice none 0 0, .int .i64 0, .string ⟨#[]⟩, .slice none 0 0] 43)).setRow w2.heap.size [.int .i64 1, .string s0, .slice none 0 0, .int .i64 (((i : Nat) : Int) + 1), .int .i64 (((a : Nat) : Int)), .int .i64 (((z : Nat) : Int)), .slice none 0 0, .int .i64 0, .string ⟨#[]⟩, .slice none 0 0, .int .i64 0, .string ⟨#[]⟩, .int .i64 0, .int .i64 0, .string ⟨#[]⟩, .string ⟨#[]⟩, .slice none 0 0, .slice none 0 0, .slice none 0 0, .slice none 0 0, .slice none 0 0, .slice none 0 0, .int .i64 0, .string ⟨#[]⟩, .slice none 0 0].toArray by rw [hW3, World.setRow_alloc_new])
  have hBx3 : BoxAt w2.heap.size 43 25 (w2.alloc (.cells #[.int .i64 0, .string ⟨#[]⟩, .slice none 0 0, .int .i64 0, .int .i64 0, .int .i64 0, .slice none 0 0, .int .i64 0, .string ⟨#[]⟩, .slice none 0 0, .int .i64 0, .string ⟨#[]⟩, .int .i64 0, .int .i64 0, .string ⟨#[]⟩, .string ⟨#[]⟩, .slice none 0 0, .slice none 0 0, .slice none 0 0, .slice none 0 0, .slice none 0 0, .slice none 0 0, .int .i64 0, .string ⟨#[]⟩, .slice none 0 0] 43)) := box_new _ _ _ rfl
  have hone3 : ∀ u ∈ ([.int .i64 1, .string s0, .slice none 0 0, .int .i64 (((i : Nat) : Int) + 1), .int .i64 (((a : Nat) : Int)), .int .i64 (((z : Nat) : Int)), .slice none 0 0, .int .i64 0, .string ⟨#[]⟩, .slice none 0 0, .int .i64 0, .string ⟨#[]⟩, .int .i64 0, .int .i64 0, .string ⟨#[]⟩, .string ⟨#[]⟩, .slice none 0 0, .slice none 0 0, .slice none 0 0, .slice none 0 0, .slice none 0 0, .slice none 0 0, .int .i64 0, .string ⟨#[]⟩, .slice none 0 0] : List Value), u.oneCell' = true := by simp [Value.oneCell']
  have hb3 : Below w2.heap.size w2 W3 := by rw [hW3]; exact Joins.below_alloc1 _ _
  have HX3 := hide (show HoldB w2.heap.size 43 [.int .i64 1, .string s0, .slice none 0 0, .int .i64 (((i : Nat) : Int) + 1), .int .i64 (((a : Nat) : Int)), .int .i64 (((z : Nat) : Int)), .slice none 0 0, .int .i64 0, .string ⟨#[]⟩, .slice none 0 0, .int .i64 0, .string ⟨#[]⟩, .int .i64 0, .int .i64 0, .string ⟨#[]⟩, .string ⟨#[]⟩, .slice none 0 0, .slice none 0 0, .slice none 0 0, .slice none 0 0, .slice none 0 0, .slice none 0 0, .int .i64 0, .string ⟨#[]⟩, .slice none 0 0] W3 by rw [hW3]; exact heap_alloc_new _ _)
  have hz3 : w2.heap.size < W3.heap.size := by rw [hW3]; simp
  have HD3 := hide (then_below HD2.out hb3)
  have hll : (l.length : Int) ≤ 20 := by omega
  clear hW3 hb3
  go_wp2_with (refine wpList_storeBig rfl 43 _ _ rfl w2.heap.size 25 [.int .i64 1, .string s0, .slice none 0 0, .int .i64 (((i : Nat) : Int) + 1), .int .i64 (((a : Nat) : Int)), .int .i64 (((z : Nat) : Int)), .slice none 0 0, .int .i64 0, .string ⟨#[]⟩, .slice none 0 0, .int .i64 0, .string ⟨#[]⟩, .int .i64 0, .int .i64 0, .string ⟨#[]⟩, .string ⟨#[]⟩, .slice none 0 0, .slice none 0 0, .slice none 0 0, .slice none 0 0, .slice none 0 0, .slice none 0 0, .int .i64 0, .string ⟨#[]⟩, .slice none 0 0] big_def rfl hone3 rfl rfl hBx3 ?_; rw [← HW3.out])
  clear hBx3 hone3 HW3
  obtain ⟨tS, hTS⟩ : ∃ tS : Nat → List Value, tS = fun j => (((parQ false l).take j).map fun y => ba (colT y)).map Value.string := ⟨_, rfl⟩
  obtain ⟨tC, hTC⟩ : ∃ tC : Nat → List Value, tC = fun j => (((parQ false l).take j).map colV).flatten := ⟨_, rfl⟩
  have HTS := hide (fun j (hj : j < l.length) => (show tS (j + 1) = tS j ++ [.string (ba (colT (l[j].data.toList, decide (j % 2 = 1))))] by rw [hTS]; simp only; rw [parQ_take _ l j hj, List.map_append]; rfl))
  have HTC := hide (fun j (hj : j < l.length) => (show tC (j + 1) = tC j ++ colV (l[j].data.toList, decide (j % 2 = 1)) by rw [hTC]; simp only; rw [parQ_take _ l j hj, List.flatten_append]; simp))
  have HS0 := hide (show tS 0 = [] by rw [hTS]; rfl)
  have HC0 := hide (show tC 0 = [] by rw [hTC]; rfl)
  have HSn := hide (show tS l.length = (((parQ false l).map colT).map ba).map Value.string by rw [hTS]; simp only; rw [show l.length = (parQ false l).length from HQl.out.symm, List.take_length, List.map_map, List.map_map, List.map_map]; rfl)
  have HCn := hide (show tC l.length = ((parQ false l).map colV).flatten by rw [hTC]; simp only; rw [show l.length = (parQ false l).length from HQl.out.symm, List.take_length])
  clear hTS hTC HTk HTc
  have hLb : w2.heap.size < W3.heap.size := hz3
  have HD3s : W0.heap.size ≤ W3.heap.size := HD3.out.size
  have HD2s : W0.heap.size ≤ w2.heap.size := HD2.out.size
  go_loopw [7, 46] (fun vL iv wr => ∃ (j : Nat) (vC : Value), iv = .int .i64 j ∧ j ≤ l.length ∧ wr.ownsRow W3.heap.size 9 1 vL j (tS j) ∧ wr.ownsRow W3.heap.size 45 2 vC j (tC j) ∧ Hid (HoldB w2.heap.size 43 [.int .i64 1, .string s0, vC, .int .i64 (((i : Nat) : Int) + 1), .int .i64 (((a : Nat) : Int)), .int .i64 (((z : Nat) : Int)), .slice none 0 0, .int .i64 0, .string ⟨#[]⟩, .slice none 0 0, .int .i64 0, .string ⟨#[]⟩, .int .i64 0, .int .i64 0, .string ⟨#[]⟩, .string ⟨#[]⟩, .slice none 0 0, .slice none 0 0, .slice none 0 0, .slice none 0 0, .slice none 0 0, .slice none 0 0, .int .i64 0, .string ⟨#[]⟩, .slice none 0 0] wr) ∧ Hid (Below W0.heap.size W0 wr) ∧ (∀ g, vL.ownBlock = some g → ¬ vC.ownBlock = some g) ∧ W3.heap.size ≤ wr.heap.size) (fun _ iv _ => l.length - (intOf iv).toNat)
  case atStart => exact ⟨0, .slice none 0 0, rfl, Nat.zero_le _, by rw [HS0.out]; exact World.ownsRow_nil _ _ _ _, by rw [HC0.out]; exact World.ownsRow_nil _ _ _ _, hide HX3, HD3, (fun g h => by cases h), Nat.le_refl _⟩
  case round =>
    obtain ⟨j, vC, rfl, hj, hN, hE, HX, HBl, hap, hsz⟩ := hrel
    obtain ⟨AN, cN, rfl⟩ := own_val hN
    obtain ⟨AE, cE, rfl⟩ := own_val hE
    have HNo := hide hN
    have HEo := hide hE
    have HAp := hide hap
    clear hN hE hap HX3 HD3
    by_cases hlt : j < l.length
    · obtain ⟨b, off, eb, hbl, hcell⟩ := HS.out wr HBl.out j hlt
      have hx16 := Hsz.out j hlt
      have HSj := hide (HTS.out j hlt)
      have HCj := hide (HTC.out j hlt)
      generalize l[j] = x at *
      subst eb
      obtain ⟨_, HSj⟩ := id (⟨trivial, HSj⟩ : True ∧ _)
      have HSj := HSj.out
      have HCj := HCj.out
      rcases Nat.mod_two_eq_zero_or_one j with hp | hp
      · have hq : decide (j % 2 = 1) = false := by rw [hp]; rfl
        rw [hq] at HSj HCj
        have ht : ((j : Nat) : Int).tmod 2 = 0 := by
          rw [Int.tmod_eq_emod_of_nonneg (by omega)]; omega
        have HXe : Hid (ba (colT (x.data.toList, false)) = x ++ ⟨#[32, 105, 110, 116]⟩) := hide (by
          obtain ⟨n, rfl⟩ : ∃ n, x = ba n := ⟨_, (ba_data x).symm⟩
          have e6 : (ba n).data.toList = n := by unfold ba; simp
          rw [e6, show (⟨#[32, 105, 110, 116]⟩ : ByteArray) = ba [32, 105, 110, 116] from rfl, cat_ba]; rfl)
        rw [HXe.out] at HSj
        have HCj : tC (j + 1) = tC j ++ [.string x, .int .i64 1] := by rw [HCj]; show tC j ++ [Value.string (ba x.data.toList), .int .i64 1] = _; rw [ba_data]
        have hxl : (x ++ ⟨#[32, 105, 110, 116]⟩ : ByteArray).size ≤ 30 := by rw [ByteArray.size_append]; show x.size + 4 ≤ 30; omega
        obtain ⟨wa, hwa⟩ : ∃ wa, wa = wr.alloc (.cells #[.string ⟨#[32, 105, 110, 116]⟩, .string ⟨#[32, 116, 101, 120, 116]⟩] 9) := ⟨_, rfl⟩
        obtain ⟨wb, hwb⟩ : ∃ wb, wb = wa.alloc (.cells #[.string (x ++ ⟨#[32, 105, 110, 116]⟩)] 9) := ⟨_, rfl⟩
        have HWA := hide hwa
        have HWB := hide hwb
        have ea : wa.heap.size = wr.heap.size + 1 := by rw [hwa]; simp
        have eb : wb.heap.size = wr.heap.size + 2 := by rw [hwb]; simp [ea]
        have hba : ∀ c, c < wr.heap.size → wa.heap[c]? = wr.heap[c]? := fun c hc => by rw [hwa]; exact Below.heap_alloc _ _ _ hc
        have hbb : ∀ c, c < wr.heap.size → wb.heap[c]? = wr.heap[c]? := fun c hc => by rw [hwb]; exact (Below.heap_alloc _ _ _ (by omega)).trans (hba c hc)
        have hKa : HoldB wr.heap.size 9 [.string ⟨#[32, 105, 110, 116]⟩, .string ⟨#[32, 116, 101, 120, 116]⟩] wa := by rw [hwa]; exact heap_alloc_new _ _
        have ca := Lib.cell_of_heap hKa 0
        simp only [List.getElem?_toArray, List.getElem?_cons_zero] at ca
        have hNb : wb.ownsRow W3.heap.size 9 1 (.slice AN j cN) j (tS j) := by rw [hwb, hwa]; exact (HNo.out.alloc _).alloc _
        have HEb := hide (show wb.ownsRow W3.heap.size 45 2 (.slice AE j cE) j (tC j) by rw [hwb, hwa]; exact (HEo.out.alloc _).alloc _)
        have hnewN : ∀ i u, ([.string (x ++ ⟨#[32, 105, 110, 116]⟩)] : List Value)[i]? = some u → wb.cell? ((⟨wa.heap.size, 0, none⟩ : Addr).add i) = some u := by rw [hwb]; exact new_cells wa [.string (x ++ ⟨#[32, 105, 110, 116]⟩)] 9 _ rfl
        have hoN : ∀ u ∈ ([.string (x ++ ⟨#[32, 105, 110, 116]⟩)] : List Value), u.oneCell' = true := by simp [Value.oneCell']
        have xs := holds_size HX.out
        have HXb := hide (show HoldB w2.heap.size 43 [.int .i64 1, .string s0, .slice AE j cE, .int .i64 (((i : Nat) : Int) + 1), .int .i64 (((a : Nat) : Int)), .int .i64 (((z : Nat) : Int)), .slice none 0 0, .int .i64 0, .string ⟨#[]⟩, .slice none 0 0, .int .i64 0, .string ⟨#[]⟩, .int .i64 0, .int .i64 0, .string ⟨#[]⟩, .string ⟨#[]⟩, .slice none 0 0, .slice none 0 0, .slice none 0 0, .slice none 0 0, .slice none 0 0, .slice none 0 0, .int .i64 0, .string ⟨#[]⟩, .slice none 0 0] wb from (hbb _ xs).trans HX.out)
        have HBb := hide (show Below W0.heap.size W0 wb by rw [hwb, hwa]; exact then_below (then_below HBl.out (Joins.below_alloc1 _ _)) (Joins.below_alloc1 _ _))
        have Hrb := hide (show wr.heap.size + 2 ≤ wb.heap.size by omega)
        have hjl : j < 20 := by omega
        have hl2 : (j : Int) < (l.length : Int) := by omega
        clear hwa hwb hba hbb hKa ea eb
        go_wp2_with (first | rw [← HWA.out] | (refine wpList_buildOne rfl 22 9 _ rfl 1 [.string (x ++ ⟨#[32, 105, 110, 116]⟩)] rfl rfl (by decide) (by decide) Tryz.underlying22 is _ his hzs hss ?_; rw [← HWB.out]) | (at_builtin; go_must (refine wpList_append_own_at _ rfl _ _ 22 rfl W3.heap.size 9 is _ 1 16 Tryz.underlying22 his hzs hss hbs rfl (by decide) (.slice AN j cN) j _ rfl hNb ⟨wa.heap.size, 0, none⟩ 1 1 [.string (x ++ ⟨#[32, 105, 110, 116]⟩)] rfl rfl hnewN hoN (by unfold maxLen; omega) (by omega) (by have := Hrb.out; omega) ?_)))
        intro vN1 wn hownN hgrowN _ hatN
        obtain ⟨gN, cN1, rfl⟩ := own_slice hownN (Nat.succ_pos _)
        have hrowN : ∀ g, (Value.slice AN j cN).ownBlock = some g → W3.heap.size ≤ g ∧ g < wr.heap.size := fun g hg => HNo.out.lt g hg
        have hrowE : ∀ g, (Value.slice AE j cE).ownBlock = some g → W3.heap.size ≤ g ∧ g < wr.heap.size := fun g hg => HEo.out.lt g hg
        have hrb := Hrb.out
        have hsn := hgrowN.size
        have hneN : ∀ c, (c < W3.heap.size ∨ wr.heap.size ≤ c) → some c ≠ (Value.slice AN j cN).ownBlock := fun c hc e => by have := hrowN c e.symm; omega
        have hgN : (Value.slice AN j cN).ownBlock = some gN ∨ wb.heap.size = gN := by
          rcases hatN with h | h
          · exact Or.inl (by rw [← h]; rfl)
          · exact Or.inr (by simpa [Value.ownBlock] using h.symm)
        have hgN1 : W3.heap.size ≤ gN := by
          rcases hgN with h | h
          · exact (hrowN _ h).1
          · omega
        have HXn := hide (show HoldB w2.heap.size 43 [.int .i64 1, .string s0, .slice AE j cE, .int .i64 (((i : Nat) : Int) + 1), .int .i64 (((a : Nat) : Int)), .int .i64 (((z : Nat) : Int)), .slice none 0 0, .int .i64 0, .string ⟨#[]⟩, .slice none 0 0, .int .i64 0, .string ⟨#[]⟩, .int .i64 0, .int .i64 0, .string ⟨#[]⟩, .string ⟨#[]⟩, .slice none 0 0, .slice none 0 0, .slice none 0 0, .slice none 0 0, .slice none 0 0, .slice none 0 0, .int .i64 0, .string ⟨#[]⟩, .slice none 0 0] wn from (hgrowN.block _ (holds_size HXb.out) (hneN _ (Or.inl hLb))).trans HXb.out)
        have HBn := hide (show Below W0.heap.size W0 wn from HBb.out.grown hgrowN HBb.out.size (fun g hg => by have := (hrowN g hg).1; have := HD3s; omega))
        have hkeepE : wn.ownsRow W3.heap.size 45 2 (.slice AE j cE) j (tC j) := HEb.out.kept hgrowN (by
          cases hv : (Value.slice AE j cE).ownBlock with
          | none => exact Or.inl rfl
          | some g => exact Or.inr (fun e => HAp.out g e.symm hv))
        obtain ⟨wc, hwc⟩ : ∃ wc, wc = wn.alloc (.cells #[.string x, .int .i64 1] 45) := ⟨_, rfl⟩
        have HWC := hide hwc
        have ec : wc.heap.size = wn.heap.size + 1 := by rw [hwc]; simp
        have hEc : wc.ownsRow W3.heap.size 45 2 (.slice AE j cE) j (tC j) := by rw [hwc]; exact hkeepE.alloc _
        have HNc := hide (show wc.ownsRow W3.heap.size 9 1 (.slice (some ⟨gN, 0, none⟩) (j + 1) cN1) (j + 1) (tS (j + 1)) by rw [hwc, HSj]; exact hownN.alloc _)
        have hnewC : ∀ i u, ([.string x, .int .i64 1] : List Value)[i]? = some u → wc.cell? ((⟨wn.heap.size, 0, none⟩ : Addr).add i) = some u := by rw [hwc]; exact new_cells wn [.string x, .int .i64 1] 45 _ rfl
        have hoC : ∀ u ∈ ([.string x, .int .i64 1] : List Value), u.oneCell' = true := by simp [Value.oneCell']
        have HXc := hide (show HoldB w2.heap.size 43 [.int .i64 1, .string s0, .slice AE j cE, .int .i64 (((i : Nat) : Int) + 1), .int .i64 (((a : Nat) : Int)), .int .i64 (((z : Nat) : Int)), .slice none 0 0, .int .i64 0, .string ⟨#[]⟩, .slice none 0 0, .int .i64 0, .string ⟨#[]⟩, .int .i64 0, .int .i64 0, .string ⟨#[]⟩, .string ⟨#[]⟩, .slice none 0 0, .slice none 0 0, .slice none 0 0, .slice none 0 0, .slice none 0 0, .slice none 0 0, .int .i64 0, .string ⟨#[]⟩, .slice none 0 0] wc by rw [hwc]; exact (Below.heap_alloc _ _ _ (holds_size HXn.out)).trans HXn.out)
        have HBc := hide (show Below W0.heap.size W0 wc by rw [hwc]; exact then_below HBn.out (Joins.below_alloc1 _ _))
        have Hrc := hide (show wr.heap.size + 3 ≤ wc.heap.size by omega)
        have xe := Lib.cell_of_heap HXn.out 2
        simp only [List.getElem?_toArray, List.getElem?_cons_zero, List.getElem?_cons_succ] at xe
        have HgN := hide (show (Value.slice AN j cN).ownBlock = some gN ∨ wr.heap.size ≤ gN ∧ gN < wn.heap.size by
          rcases hgN with h | h
          · exact Or.inl h
          · have := (hownN.lt gN rfl).2; exact Or.inr (by omega))
        clear hwc ec hkeepE hnewN hoN HXb HBb HEb hNb hgrowN hatN hownN hneN hgN ca HSj hxl HXe
        go_wp2_with (first | rw [← HWC.out] | (refine wpList_buildOne rfl 29 45 _ rfl 2 [.string x, .int .i64 1] rfl rfl (by decide) (by decide) Tryz.underlying29 ie _ hie hze hse ?_; rw [← HWC.out]) | (at_builtin; go_must (refine wpList_append_own_at _ rfl _ _ 29 rfl W3.heap.size 45 ie _ 2 24 Tryz.underlying29 hie hze hse hbe rfl (by decide) (.slice AE j cE) j _ rfl hEc ⟨wn.heap.size, 0, none⟩ 1 1 [.string x, .int .i64 1] rfl rfl hnewC hoC (by unfold maxLen; omega) (by omega) (by have := Hrc.out; omega) ?_)))
        intro vE1 we hownE hgrowE _ hatE
        obtain ⟨gE, cE1, rfl⟩ := own_slice hownE (Nat.succ_pos _)
        have hse' := hgrowE.size
        have hneE : ∀ c, (c < W3.heap.size ∨ wr.heap.size ≤ c) → some c ≠ (Value.slice AE j cE).ownBlock := fun c hc e => by have := hrowE c e.symm; omega
        have hgE : (Value.slice AE j cE).ownBlock = some gE ∨ wc.heap.size = gE := by
          rcases hatE with h | h
          · exact Or.inl (by rw [← h]; rfl)
          · exact Or.inr (by simpa [Value.ownBlock] using h.symm)
        have hgE1 : W3.heap.size ≤ gE := by
          rcases hgE with h | h
          · exact (hrowE _ h).1
          · have := Hrc.out; omega
        have hrc := Hrc.out
        have hgne : gN ≠ gE := fun e => by
          rcases HgN.out with h | h
          · rcases hgE with h2 | h2
            · exact HAp.out gN h (by rw [e]; exact h2)
            · have := (hrowN _ h).2; omega
          · rcases hgE with h2 | h2
            · have := (hrowE _ h2).2; omega
            · have hwcn : wc.heap.size = wn.heap.size + 1 := by rw [HWC.out]; simp
              omega
        have HXe2 := hide (show HoldB w2.heap.size 43 [.int .i64 1, .string s0, .slice AE j cE, .int .i64 (((i : Nat) : Int) + 1), .int .i64 (((a : Nat) : Int)), .int .i64 (((z : Nat) : Int)), .slice none 0 0, .int .i64 0, .string ⟨#[]⟩, .slice none 0 0, .int .i64 0, .string ⟨#[]⟩, .int .i64 0, .int .i64 0, .string ⟨#[]⟩, .string ⟨#[]⟩, .slice none 0 0, .slice none 0 0, .slice none 0 0, .slice none 0 0, .slice none 0 0, .slice none 0 0, .int .i64 0, .string ⟨#[]⟩, .slice none 0 0] we from (hgrowE.block _ (holds_size HXc.out) (hneE _ (Or.inl hLb))).trans HXc.out)
        have hNe : we.ownsRow W3.heap.size 9 1 (.slice (some ⟨gN, 0, none⟩) (j + 1) cN1) (j + 1) (tS (j + 1)) := HNc.out.kept hgrowE (Or.inr (fun e => by
          have e2 : (Value.slice AE j cE).ownBlock = some gN := e.symm
          rcases hgE with h | h
          · rw [h] at e2; injection e2 with e2; exact hgne e2.symm
          · rcases HgN.out with h2 | h2
            · exact HAp.out gN h2 e2
            · have := (hrowE _ e2).2; omega))
        obtain ⟨wz, hwz⟩ : ∃ wz, wz = we.setCell ⟨w2.heap.size, 2, none⟩ (.slice (some ⟨gE, 0, none⟩) (j + 1) cE1) := ⟨_, rfl⟩
        have HWZ := hide hwz
        have HX2 := hide (show HoldB w2.heap.size 43 [.int .i64 1, .string s0, .slice (some ⟨gE, 0, none⟩) (j + 1) cE1, .int .i64 (((i : Nat) : Int) + 1), .int .i64 (((a : Nat) : Int)), .int .i64 (((z : Nat) : Int)), .slice none 0 0, .int .i64 0, .string ⟨#[]⟩, .slice none 0 0, .int .i64 0, .string ⟨#[]⟩, .int .i64 0, .int .i64 0, .string ⟨#[]⟩, .string ⟨#[]⟩, .slice none 0 0, .slice none 0 0, .slice none 0 0, .slice none 0 0, .slice none 0 0, .slice none 0 0, .int .i64 0, .string ⟨#[]⟩, .slice none 0 0] wz by rw [hwz]; exact Joins.block_setCell (i := 2) HXe2.out _)
        have HN2 := hide (show wz.ownsRow W3.heap.size 9 1 (.slice (some ⟨gN, 0, none⟩) (j + 1) cN1) (j + 1) (tS (j + 1)) by
          rw [hwz]
          exact ownsRow_setCell_other (a := ⟨w2.heap.size, 2, none⟩) hNe (fun e => by have h : gN = w2.heap.size := (by simpa [Value.ownBlock] using e); omega) _)
        have HE2 := hide (show wz.ownsRow W3.heap.size 45 2 (.slice (some ⟨gE, 0, none⟩) (j + 1) cE1) (j + 1) (tC (j + 1)) by
          rw [hwz, HCj]
          exact ownsRow_setCell_other (a := ⟨w2.heap.size, 2, none⟩) hownE (fun e => by have h : gE = w2.heap.size := (by simpa [Value.ownBlock] using e); omega) _)
        have HB2 := hide (show Below W0.heap.size W0 wz by
          rw [hwz]
          exact (HBc.out.grown hgrowE HBc.out.size (fun g hg => by have := (hrowE g hg).1; have := HD3s; omega)).setCell (by show W0.heap.size ≤ w2.heap.size; exact HD2s) _)
        have xq := Lib.cell_of_heap HXe2.out 2
        have xqf := Lib.frozen_of_heap HXe2.out
        simp only [List.getElem?_toArray, List.getElem?_cons_zero, List.getElem?_cons_succ] at xq
        have hap2 : ∀ g, (Value.slice (some ⟨gN, 0, none⟩) (j + 1) cN1).ownBlock = some g → ¬ (Value.slice (some ⟨gE, 0, none⟩) (j + 1) cE1).ownBlock = some g := fun g h1 h2 => by
          have e1 : gN = g := (by simpa [Value.ownBlock] using h1)
          have e3 : gE = g := (by simpa [Value.ownBlock] using h2)
          exact hgne (by omega)
        have HAP2 := hide hap2
        have Hsz2 := hide (show W3.heap.size ≤ wz.heap.size by rw [hwz]; simp; omega)
        clear hwz hNe hap2 hgrowE hatE hownE hneE hgE HXe2 HXc HNc HBc HXn HBn hEc hnewC hoC xe HCj
        go_wp2_with (first | rw [← HWZ.out])
        go_roundw
        case rel => exact ⟨j + 1, _, by go_num, by omega, HN2.out, HE2.out, HX2, HB2, HAP2.out, Hsz2.out⟩
        case measure => simp [intOf]; omega
      · have hq : decide (j % 2 = 1) = true := by rw [hp]; rfl
        rw [hq] at HSj HCj
        have ht : ((j : Nat) : Int).tmod 2 = 1 := by
          rw [Int.tmod_eq_emod_of_nonneg (by omega)]; omega
        have HXe : Hid (ba (colT (x.data.toList, true)) = x ++ ⟨#[32, 116, 101, 120, 116]⟩) := hide (by
          obtain ⟨n, rfl⟩ : ∃ n, x = ba n := ⟨_, (ba_data x).symm⟩
          have e6 : (ba n).data.toList = n := by unfold ba; simp
          rw [e6, show (⟨#[32, 116, 101, 120, 116]⟩ : ByteArray) = ba [32, 116, 101, 120, 116] from rfl, cat_ba]; rfl)
        rw [HXe.out] at HSj
        have HCj : tC (j + 1) = tC j ++ [.string x, .int .i64 2] := by rw [HCj]; show tC j ++ [Value.string (ba x.data.toList), .int .i64 2] = _; rw [ba_data]
        have hxl : (x ++ ⟨#[32, 116, 101, 120, 116]⟩ : ByteArray).size ≤ 30 := by rw [ByteArray.size_append]; show x.size + 5 ≤ 30; omega
        obtain ⟨wa, hwa⟩ : ∃ wa, wa = wr.alloc (.cells #[.string ⟨#[32, 105, 110, 116]⟩, .string ⟨#[32, 116, 101, 120, 116]⟩] 9) := ⟨_, rfl⟩
        obtain ⟨wb, hwb⟩ : ∃ wb, wb = wa.alloc (.cells #[.string (x ++ ⟨#[32, 116, 101, 120, 116]⟩)] 9) := ⟨_, rfl⟩
        have HWA := hide hwa
        have HWB := hide hwb
        have ea : wa.heap.size = wr.heap.size + 1 := by rw [hwa]; simp
        have eb : wb.heap.size = wr.heap.size + 2 := by rw [hwb]; simp [ea]
        have hba : ∀ c, c < wr.heap.size → wa.heap[c]? = wr.heap[c]? := fun c hc => by rw [hwa]; exact Below.heap_alloc _ _ _ hc
        have hbb : ∀ c, c < wr.heap.size → wb.heap[c]? = wr.heap[c]? := fun c hc => by rw [hwb]; exact (Below.heap_alloc _ _ _ (by omega)).trans (hba c hc)
        have hKa : HoldB wr.heap.size 9 [.string ⟨#[32, 105, 110, 116]⟩, .string ⟨#[32, 116, 101, 120, 116]⟩] wa := by rw [hwa]; exact heap_alloc_new _ _
        have ca := Lib.cell_of_heap hKa 1
        simp only [List.getElem?_toArray, List.getElem?_cons_zero, List.getElem?_cons_succ] at ca
        have hNb : wb.ownsRow W3.heap.size 9 1 (.slice AN j cN) j (tS j) := by rw [hwb, hwa]; exact (HNo.out.alloc _).alloc _
        have HEb := hide (show wb.ownsRow W3.heap.size 45 2 (.slice AE j cE) j (tC j) by rw [hwb, hwa]; exact (HEo.out.alloc _).alloc _)
        have hnewN : ∀ i u, ([.string (x ++ ⟨#[32, 116, 101, 120, 116]⟩)] : List Value)[i]? = some u → wb.cell? ((⟨wa.heap.size, 0, none⟩ : Addr).add i) = some u := by rw [hwb]; exact new_cells wa [.string (x ++ ⟨#[32, 116, 101, 120, 116]⟩)] 9 _ rfl
        have hoN : ∀ u ∈ ([.string (x ++ ⟨#[32, 116, 101, 120, 116]⟩)] : List Value), u.oneCell' = true := by simp [Value.oneCell']
        have xs := holds_size HX.out
        have HXb := hide (show HoldB w2.heap.size 43 [.int .i64 1, .string s0, .slice AE j cE, .int .i64 (((i : Nat) : Int) + 1), .int .i64 (((a : Nat) : Int)), .int .i64 (((z : Nat) : Int)), .slice none 0 0, .int .i64 0, .string ⟨#[]⟩, .slice none 0 0, .int .i64 0, .string ⟨#[]⟩, .int .i64 0, .int .i64 0, .string ⟨#[]⟩, .string ⟨#[]⟩, .slice none 0 0, .slice none 0 0, .slice none 0 0, .slice none 0 0, .slice none 0 0, .slice none 0 0, .int .i64 0, .string ⟨#[]⟩, .slice none 0 0] wb from (hbb _ xs).trans HX.out)
        have HBb := hide (show Below W0.heap.size W0 wb by rw [hwb, hwa]; exact then_below (then_below HBl.out (Joins.below_alloc1 _ _)) (Joins.below_alloc1 _ _))
        have Hrb := hide (show wr.heap.size + 2 ≤ wb.heap.size by omega)
        have hjl : j < 20 := by omega
        have hl2 : (j : Int) < (l.length : Int) := by omega
        clear hwa hwb hba hbb hKa ea eb
        go_wp2_with (first | rw [← HWA.out] | (refine wpList_buildOne rfl 22 9 _ rfl 1 [.string (x ++ ⟨#[32, 116, 101, 120, 116]⟩)] rfl rfl (by decide) (by decide) Tryz.underlying22 is _ his hzs hss ?_; rw [← HWB.out]) | (at_builtin; go_must (refine wpList_append_own_at _ rfl _ _ 22 rfl W3.heap.size 9 is _ 1 16 Tryz.underlying22 his hzs hss hbs rfl (by decide) (.slice AN j cN) j _ rfl hNb ⟨wa.heap.size, 0, none⟩ 1 1 [.string (x ++ ⟨#[32, 116, 101, 120, 116]⟩)] rfl rfl hnewN hoN (by unfold maxLen; omega) (by omega) (by have := Hrb.out; omega) ?_)))
        intro vN1 wn hownN hgrowN _ hatN
        obtain ⟨gN, cN1, rfl⟩ := own_slice hownN (Nat.succ_pos _)
        have hrowN : ∀ g, (Value.slice AN j cN).ownBlock = some g → W3.heap.size ≤ g ∧ g < wr.heap.size := fun g hg => HNo.out.lt g hg
        have hrowE : ∀ g, (Value.slice AE j cE).ownBlock = some g → W3.heap.size ≤ g ∧ g < wr.heap.size := fun g hg => HEo.out.lt g hg
        have hrb := Hrb.out
        have hsn := hgrowN.size
        have hneN : ∀ c, (c < W3.heap.size ∨ wr.heap.size ≤ c) → some c ≠ (Value.slice AN j cN).ownBlock := fun c hc e => by have := hrowN c e.symm; omega
        have hgN : (Value.slice AN j cN).ownBlock = some gN ∨ wb.heap.size = gN := by
          rcases hatN with h | h
          · exact Or.inl (by rw [← h]; rfl)
          · exact Or.inr (by simpa [Value.ownBlock] using h.symm)
        have hgN1 : W3.heap.size ≤ gN := by
          rcases hgN with h | h
          · exact (hrowN _ h).1
          · omega
        have HXn := hide (show HoldB w2.heap.size 43 [.int .i64 1, .string s0, .slice AE j cE, .int .i64 (((i : Nat) : Int) + 1), .int .i64 (((a : Nat) : Int)), .int .i64 (((z : Nat) : Int)), .slice none 0 0, .int .i64 0, .string ⟨#[]⟩, .slice none 0 0, .int .i64 0, .string ⟨#[]⟩, .int .i64 0, .int .i64 0, .string ⟨#[]⟩, .string ⟨#[]⟩, .slice none 0 0, .slice none 0 0, .slice none 0 0, .slice none 0 0, .slice none 0 0, .slice none 0 0, .int .i64 0, .string ⟨#[]⟩, .slice none 0 0] wn from (hgrowN.block _ (holds_size HXb.out) (hneN _ (Or.inl hLb))).trans HXb.out)
        have HBn := hide (show Below W0.heap.size W0 wn from HBb.out.grown hgrowN HBb.out.size (fun g hg => by have := (hrowN g hg).1; have := HD3s; omega))
        have hkeepE : wn.ownsRow W3.heap.size 45 2 (.slice AE j cE) j (tC j) := HEb.out.kept hgrowN (by
          cases hv : (Value.slice AE j cE).ownBlock with
          | none => exact Or.inl rfl
          | some g => exact Or.inr (fun e => HAp.out g e.symm hv))
        obtain ⟨wc, hwc⟩ : ∃ wc, wc = wn.alloc (.cells #[.string x, .int .i64 2] 45) := ⟨_, rfl⟩
        have HWC := hide hwc
        have ec : wc.heap.size = wn.heap.size + 1 := by rw [hwc]; simp
        have hEc : wc.ownsRow W3.heap.size 45 2 (.slice AE j cE) j (tC j) := by rw [hwc]; exact hkeepE.alloc _
        have HNc := hide (show wc.ownsRow W3.heap.size 9 1 (.slice (some ⟨gN, 0, none⟩) (j + 1) cN1) (j + 1) (tS (j + 1)) by rw [hwc, HSj]; exact hownN.alloc _)
        have hnewC : ∀ i u, ([.string x, .int .i64 2] : List Value)[i]? = some u → wc.cell? ((⟨wn.heap.size, 0, none⟩ : Addr).add i) = some u := by rw [hwc]; exact new_cells wn [.string x, .int .i64 2] 45 _ rfl
        have hoC : ∀ u ∈ ([.string x, .int .i64 2] : List Value), u.oneCell' = true := by simp [Value.oneCell']
        have HXc := hide (show HoldB w2.heap.size 43 [.int .i64 1, .string s0, .slice AE j cE, .int .i64 (((i : Nat) : Int) + 1), .int .i64 (((a : Nat) : Int)), .int .i64 (((z : Nat) : Int)), .slice none 0 0, .int .i64 0, .string ⟨#[]⟩, .slice none 0 0, .int .i64 0, .string ⟨#[]⟩, .int .i64 0, .int .i64 0, .string ⟨#[]⟩, .string ⟨#[]⟩, .slice none 0 0, .slice none 0 0, .slice none 0 0, .slice none 0 0, .slice none 0 0, .slice none 0 0, .int .i64 0, .string ⟨#[]⟩, .slice none 0 0] wc by rw [hwc]; exact (Below.heap_alloc _ _ _ (holds_size HXn.out)).trans HXn.out)
        have HBc := hide (show Below W0.heap.size W0 wc by rw [hwc]; exact then_below HBn.out (Joins.below_alloc1 _ _))
        have Hrc := hide (show wr.heap.size + 3 ≤ wc.heap.size by omega)
        have xe := Lib.cell_of_heap HXn.out 2
        simp only [List.getElem?_toArray, List.getElem?_cons_zero, List.getElem?_cons_succ] at xe
        have HgN := hide (show (Value.slice AN j cN).ownBlock = some gN ∨ wr.heap.size ≤ gN ∧ gN < wn.heap.size by
          rcases hgN with h | h
          · exact Or.inl h
          · have := (hownN.lt gN rfl).2; exact Or.inr (by omega))
        clear hwc ec hkeepE hnewN hoN HXb HBb HEb hNb hgrowN hatN hownN hneN hgN ca HSj hxl HXe
        go_wp2_with (first | rw [← HWC.out] | (refine wpList_buildOne rfl 29 45 _ rfl 2 [.string x, .int .i64 2] rfl rfl (by decide) (by decide) Tryz.underlying29 ie _ hie hze hse ?_; rw [← HWC.out]) | (at_builtin; go_must (refine wpList_append_own_at _ rfl _ _ 29 rfl W3.heap.size 45 ie _ 2 24 Tryz.underlying29 hie hze hse hbe rfl (by decide) (.slice AE j cE) j _ rfl hEc ⟨wn.heap.size, 0, none⟩ 1 1 [.string x, .int .i64 2] rfl rfl hnewC hoC (by unfold maxLen; omega) (by omega) (by have := Hrc.out; omega) ?_)))
        intro vE1 we hownE hgrowE _ hatE
        obtain ⟨gE, cE1, rfl⟩ := own_slice hownE (Nat.succ_pos _)
        have hse' := hgrowE.size
        have hneE : ∀ c, (c < W3.heap.size ∨ wr.heap.size ≤ c) → some c ≠ (Value.slice AE j cE).ownBlock := fun c hc e => by have := hrowE c e.symm; omega
        have hgE : (Value.slice AE j cE).ownBlock = some gE ∨ wc.heap.size = gE := by
          rcases hatE with h | h
          · exact Or.inl (by rw [← h]; rfl)
          · exact Or.inr (by simpa [Value.ownBlock] using h.symm)
        have hgE1 : W3.heap.size ≤ gE := by
          rcases hgE with h | h
          · exact (hrowE _ h).1
          · have := Hrc.out; omega
        have hrc := Hrc.out
        have hgne : gN ≠ gE := fun e => by
          rcases HgN.out with h | h
          · rcases hgE with h2 | h2
            · exact HAp.out gN h (by rw [e]; exact h2)
            · have := (hrowN _ h).2; omega
          · rcases hgE with h2 | h2
            · have := (hrowE _ h2).2; omega
            · have hwcn : wc.heap.size = wn.heap.size + 1 := by rw [HWC.out]; simp
              omega
        have HXe2 := hide (show HoldB w2.heap.size 43 [.int .i64 1, .string s0, .slice AE j cE, .int .i64 (((i : Nat) : Int) + 1), .int .i64 (((a : Nat) : Int)), .int .i64 (((z : Nat) : Int)), .slice none 0 0, .int .i64 0, .string ⟨#[]⟩, .slice none 0 0, .int .i64 0, .string ⟨#[]⟩, .int .i64 0, .int .i64 0, .string ⟨#[]⟩, .string ⟨#[]⟩, .slice none 0 0, .slice none 0 0, .slice none 0 0, .slice none 0 0, .slice none 0 0, .slice none 0 0, .int .i64 0, .string ⟨#[]⟩, .slice none 0 0] we from (hgrowE.block _ (holds_size HXc.out) (hneE _ (Or.inl hLb))).trans HXc.out)
        have hNe : we.ownsRow W3.heap.size 9 1 (.slice (some ⟨gN, 0, none⟩) (j + 1) cN1) (j + 1) (tS (j + 1)) := HNc.out.kept hgrowE (Or.inr (fun e => by
          have e2 : (Value.slice AE j cE).ownBlock = some gN := e.symm
          rcases hgE with h | h
          · rw [h] at e2; injection e2 with e2; exact hgne e2.symm
          · rcases HgN.out with h2 | h2
            · exact HAp.out gN h2 e2
            · have := (hrowE _ e2).2; omega))
        obtain ⟨wz, hwz⟩ : ∃ wz, wz = we.setCell ⟨w2.heap.size, 2, none⟩ (.slice (some ⟨gE, 0, none⟩) (j + 1) cE1) := ⟨_, rfl⟩
        have HWZ := hide hwz
        have HX2 := hide (show HoldB w2.heap.size 43 [.int .i64 1, .string s0, .slice (some ⟨gE, 0, none⟩) (j + 1) cE1, .int .i64 (((i : Nat) : Int) + 1), .int .i64 (((a : Nat) : Int)), .int .i64 (((z : Nat) : Int)), .slice none 0 0, .int .i64 0, .string ⟨#[]⟩, .slice none 0 0, .int .i64 0, .string ⟨#[]⟩, .int .i64 0, .int .i64 0, .string ⟨#[]⟩, .string ⟨#[]⟩, .slice none 0 0, .slice none 0 0, .slice none 0 0, .slice none 0 0, .slice none 0 0, .slice none 0 0, .int .i64 0, .string ⟨#[]⟩, .slice none 0 0] wz by rw [hwz]; exact Joins.block_setCell (i := 2) HXe2.out _)
        have HN2 := hide (show wz.ownsRow W3.heap.size 9 1 (.slice (some ⟨gN, 0, none⟩) (j + 1) cN1) (j + 1) (tS (j + 1)) by
          rw [hwz]
          exact ownsRow_setCell_other (a := ⟨w2.heap.size, 2, none⟩) hNe (fun e => by have h : gN = w2.heap.size := (by simpa [Value.ownBlock] using e); omega) _)
        have HE2 := hide (show wz.ownsRow W3.heap.size 45 2 (.slice (some ⟨gE, 0, none⟩) (j + 1) cE1) (j + 1) (tC (j + 1)) by
          rw [hwz, HCj]
          exact ownsRow_setCell_other (a := ⟨w2.heap.size, 2, none⟩) hownE (fun e => by have h : gE = w2.heap.size := (by simpa [Value.ownBlock] using e); omega) _)
        have HB2 := hide (show Below W0.heap.size W0 wz by
          rw [hwz]
          exact (HBc.out.grown hgrowE HBc.out.size (fun g hg => by have := (hrowE g hg).1; have := HD3s; omega)).setCell (by show W0.heap.size ≤ w2.heap.size; exact HD2s) _)
        have xq := Lib.cell_of_heap HXe2.out 2
        have xqf := Lib.frozen_of_heap HXe2.out
        simp only [List.getElem?_toArray, List.getElem?_cons_zero, List.getElem?_cons_succ] at xq
        have hap2 : ∀ g, (Value.slice (some ⟨gN, 0, none⟩) (j + 1) cN1).ownBlock = some g → ¬ (Value.slice (some ⟨gE, 0, none⟩) (j + 1) cE1).ownBlock = some g := fun g h1 h2 => by
          have e1 : gN = g := (by simpa [Value.ownBlock] using h1)
          have e3 : gE = g := (by simpa [Value.ownBlock] using h2)
          exact hgne (by omega)
        have HAP2 := hide hap2
        have Hsz2 := hide (show W3.heap.size ≤ wz.heap.size by rw [hwz]; simp; omega)
        clear hwz hNe hap2 hgrowE hatE hownE hneE hgE HXe2 HXc HNc HBc HXn HBn hEc hnewC hoC xe HCj
        go_wp2_with (first | rw [← HWZ.out])
        go_roundw
        case rel => exact ⟨j + 1, _, by go_num, by omega, HN2.out, HE2.out, HX2, HB2, HAP2.out, Hsz2.out⟩
        case measure => simp [intOf]; omega
    · obtain rfl : j = l.length := by omega
      rw [HSn.out] at HNo
      rw [HCn.out] at HEo
      have HStr := hide (fun w' (hb : Below wr.heap.size wr w') => (by
        have h0 := strl_of_row HNo.out (by simp [HQl.out])
        obtain ⟨A', c', e, h⟩ := h0
        simp only [List.length_map] at e
        rw [HQl.out] at e
        exact ⟨A', c', by simp only [List.length_map]; rw [HQl.out]; exact e, fun wr2 hr j hj => by
          obtain ⟨b, off, e1, hlt, hc⟩ := h wr2 (then_below hb hr) j hj
          exact ⟨b, off, e1, Nat.lt_of_lt_of_le hlt hb.size, hc⟩⟩ : StrL w' (((parQ false l).map colT).map ba) (.slice AN l.length cN)))
      have HRep := hide (fun w' (hb : Below wr.heap.size wr w') => (by
        have hl1 : l.length = ((parQ false l).map colM).length := by rw [List.length_map]; exact HQl.out.symm
        have h1 := HEo.out
        rw [show ((parQ false l).map colV).flatten = ((parQ false l).map colV).flatten from rfl] at h1
        have hr : Rep (fun _ => True) wr (.row 2 (((parQ false l).map colM).map dCol)) (.slice AE l.length cE) := rep_of_row (base := W3.heap.size) (t := 45) (by rw [List.length_map, ← hl1]; exact h1) (fun _ _ => trivial) (cols_rep _ _ _)
        exact rep_def (d := {k := 1, nm := s0, sch := (parQ false l).map colM, sc := (((i : Nat) : Int) + 1, ((a : Nat) : Int), ((z : Nat) : Int))}) (hr.stay (Stay.below hb)) (rep_nil _ _ _) (rep_zeroP _ _) (rep_nil _ _ _) : RepC (fun _ => True) w' ({k := 1, nm := s0, sch := (parQ false l).map colM, sc := (((i : Nat) : Int) + 1, ((a : Nat) : Int), ((z : Nat) : Int))} : Df).enc [.int .i64 1, .string s0, .slice AE l.length cE, .int .i64 (((i : Nat) : Int) + 1), .int .i64 (((a : Nat) : Int)), .int .i64 (((z : Nat) : Int)), .slice none 0 0, .int .i64 0, .string ⟨#[]⟩, .slice none 0 0, .int .i64 0, .string ⟨#[]⟩, .int .i64 0, .int .i64 0, .string ⟨#[]⟩, .string ⟨#[]⟩, .slice none 0 0, .slice none 0 0, .slice none 0 0, .slice none 0 0, .slice none 0 0, .slice none 0 0, .int .i64 0, .string ⟨#[]⟩, .slice none 0 0]))
      have HCr := hide (fun w' (hb : Below wr.heap.size wr w') => HC.out w' (then_below HBl.out hb))
      clear HTS HTC HS0 HC0 HSn HCn HS HN HWs hlt
      go_wp2_with fail
      refine wp_region_held_drew (S := fun w' => Below wr.heap.size wr w') (by kernel_rfl) ((Below.refl _ _).drew) (fun hS => ?_)
      generalize wr.drew = wd at hS ⊢
      refine wpAnyH_take (i := 0) (oi := ⟨some 72, _, _, _, _, _⟩) (v := ?_) rfl (by kernel_rfl) (by kernel_rfl) (by kernel_rfl) (fun _ _ _ h => h) (Or.inl ⟨by rfl, ?_⟩) hS ?_
      rotate_left 1
      · intro w' hw'
        obtain ⟨y0, y1, y2, ys⟩ := HCr.out w' hw'
        go_simp
        all_goals first | with_reducible rfl | rw [if_neg (by omega)] | rw [if_pos (by omega)]
      try simp only [Act.put, List.setIfInBounds_toArray, List.set_cons_zero, List.set_cons_succ]
      refine wpAnyH_take (i := 1) (oi := ⟨some 73, _, _, _, _, _⟩) (v := ?_) rfl (by kernel_rfl) (by kernel_rfl) (by kernel_rfl) (fun _ _ _ h => h) (Or.inl ⟨by rfl, ?_⟩) hS ?_
      rotate_left 1
      · intro w' hw'
        obtain ⟨y0, y1, y2, ys⟩ := HCr.out w' hw'
        go_simp
        all_goals first | with_reducible rfl | rw [if_neg (by omega)] | rw [if_pos (by omega)]
      try simp only [Act.put, List.setIfInBounds_toArray, List.set_cons_zero, List.set_cons_succ]
      refine wpAnyH_take (i := 2) (oi := ⟨some 74, _, _, _, _, _⟩) (v := ?_) rfl (by kernel_rfl) (by kernel_rfl) (by kernel_rfl) (fun _ _ _ h => h) (Or.inl ⟨by rfl, ?_⟩) hS ?_
      rotate_left 1
      · intro w' hw'
        obtain ⟨y0, y1, y2, ys⟩ := HCr.out w' hw'
        go_simp
        all_goals first | with_reducible rfl | rw [if_neg (by omega)] | rw [if_pos (by omega)]
      try simp only [Act.put, List.setIfInBounds_toArray, List.set_cons_zero, List.set_cons_succ]
      refine wpAnyH_take (i := 3) (oi := ⟨some 75, _, _, _, _, _⟩) (v := ?_) rfl (by kernel_rfl) (by kernel_rfl) (by kernel_rfl) (fun _ _ _ h => h) (Or.inl ⟨by rfl, ?_⟩) hS ?_
      rotate_left 1
      · intro w' hw'
        obtain ⟨y0, y1, y2, ys⟩ := HCr.out w' hw'
        go_simp
        all_goals first | with_reducible rfl | rw [if_neg (by omega)] | rw [if_pos (by omega)]
      try simp only [Act.put, List.setIfInBounds_toArray, List.set_cons_zero, List.set_cons_succ]
      refine wpAnyH_take (i := 8) (oi := ⟨some 80, _, _, _, _, _⟩) (v := ?_) rfl (by kernel_rfl) (by kernel_rfl) (by kernel_rfl) (fun _ _ _ h => h) (Or.inl ⟨by rfl, ?_⟩) hS ?_
      rotate_left 1
      · intro w' hw'
        obtain ⟨y0, y1, y2, ys⟩ := HCr.out w' hw'
        go_simp
        all_goals first | with_reducible rfl | rw [if_neg (by omega)] | rw [if_pos (by omega)]
      try simp only [Act.put, List.setIfInBounds_toArray, List.set_cons_zero, List.set_cons_succ]
      refine wpAnyH_take (i := 9) (oi := ⟨some 81, _, _, _, _, _⟩) (v := ?_) rfl (by kernel_rfl) (by kernel_rfl) (by kernel_rfl) (fun _ _ _ h => h) (Or.inl ⟨by rfl, ?_⟩) hS ?_
      rotate_left 1
      · intro w' hw'
        obtain ⟨y0, y1, y2, ys⟩ := HCr.out w' hw'
        go_simp
        all_goals first | with_reducible rfl | rw [if_neg (by omega)] | rw [if_pos (by omega)]
      try simp only [Act.put, List.setIfInBounds_toArray, List.set_cons_zero, List.set_cons_succ]
      refine wpAnyH_take (i := 14) (oi := ⟨some 86, _, _, _, _, _⟩) (v := ?_) rfl (by kernel_rfl) (by kernel_rfl) (by kernel_rfl) (fun _ _ _ h => h) (Or.inl ⟨by rfl, ?_⟩) hS ?_
      rotate_left 1
      · intro w' hw'
        obtain ⟨y0, y1, y2, ys⟩ := HCr.out w' hw'
        go_simp
        all_goals first | with_reducible rfl | rw [if_neg (by omega)] | rw [if_pos (by omega)]
      try simp only [Act.put, List.setIfInBounds_toArray, List.set_cons_zero, List.set_cons_succ]
      refine wpAnyH_take (i := 15) (oi := ⟨some 87, _, _, _, _, _⟩) (v := ?_) rfl (by kernel_rfl) (by kernel_rfl) (by kernel_rfl) (fun _ _ _ h => h) (Or.inl ⟨by rfl, ?_⟩) hS ?_
      rotate_left 1
      · intro w' hw'
        obtain ⟨y0, y1, y2, ys⟩ := HCr.out w' hw'
        go_simp
        all_goals first | with_reducible rfl | rw [if_neg (by omega)] | rw [if_pos (by omega)]
      try simp only [Act.put, List.setIfInBounds_toArray, List.set_cons_zero, List.set_cons_succ]
      refine wpAnyH_take (i := 19) (oi := ⟨some 91, _, _, _, _, _⟩) (v := ?_) rfl (by kernel_rfl) (by kernel_rfl) (by kernel_rfl) (fun _ _ _ h => h) (Or.inl ⟨by rfl, ?_⟩) hS ?_
      rotate_left 1
      · intro w' hw'
        obtain ⟨y0, y1, y2, ys⟩ := HCr.out w' hw'
        go_simp
        all_goals first | with_reducible rfl | rw [if_neg (by omega)] | rw [if_pos (by omega)]
      try simp only [Act.put, List.setIfInBounds_toArray, List.set_cons_zero, List.set_cons_succ]
      refine wpAnyH_take (i := 20) (oi := ⟨some 92, _, _, _, _, _⟩) (v := ?_) rfl (by kernel_rfl) (by kernel_rfl) (by kernel_rfl) (fun _ _ _ h => h) (Or.inl ⟨by rfl, ?_⟩) hS ?_
      rotate_left 1
      · intro w' hw'
        obtain ⟨y0, y1, y2, ys⟩ := HCr.out w' hw'
        go_simp
        all_goals first | with_reducible rfl | rw [if_neg (by omega)] | rw [if_pos (by omega)]
      try simp only [Act.put, List.setIfInBounds_toArray, List.set_cons_zero, List.set_cons_succ]
      refine wpAnyH_ready (rs := [4, 7]) (by kernel_rfl) (by simp) ?_
      refine AllReadyH.cons (o := ⟨some 76, _, _, _, _, _⟩) rfl (fun K hK => ?_) (AllReadyH.cons (o := ⟨some 79, _, _, _, _, _⟩) rfl (fun K hK => ?_) AllReadyH.nil)
      · go_simp
        go_at_call 11
        refine (HJ.out _ _ (HStr.out _ hS)).mono ?_
        rintro e wq1 ⟨rfl, hb⟩
        refine hK.out _ _ (hS.trans (hb.mono hS.size)) (fun hS => ?_)
        clear hK K hb
        try simp only [Act.put, List.setIfInBounds_toArray, List.set_cons_zero, List.set_cons_succ]
        refine wpAnyH_take (i := 5) (oi := ⟨some 77, _, _, _, _, _⟩) (v := ?_) rfl (by kernel_rfl) (by kernel_rfl) (by kernel_rfl) (fun _ _ _ h => h) (Or.inl ⟨by rfl, ?_⟩) hS ?_
        rotate_left 1
        · intro w' hw'
          obtain ⟨y0, y1, y2, ys⟩ := HCr.out w' hw'
          go_simp
          all_goals first | with_reducible rfl | rw [if_neg (by omega)] | rw [if_pos (by omega)]
        try simp only [Act.put, List.setIfInBounds_toArray, List.set_cons_zero, List.set_cons_succ]
        refine wpAnyH_take (i := 6) (oi := ⟨some 78, _, _, _, _, _⟩) (v := ?_) rfl (by kernel_rfl) (by kernel_rfl) (by kernel_rfl) (fun _ _ _ h => h) (Or.inl ⟨by rfl, ?_⟩) hS ?_
        rotate_left 1
        · intro w' hw'
          obtain ⟨y0, y1, y2, ys⟩ := HCr.out w' hw'
          go_simp
          all_goals first | with_reducible rfl | rw [if_neg (by omega)] | rw [if_pos (by omega)]
        try simp only [Act.put, List.setIfInBounds_toArray, List.set_cons_zero, List.set_cons_succ]
        refine wpAnyH_ready (rs := [7, 16]) (by kernel_rfl) (by simp) ?_
        refine AllReadyH.cons (o := ⟨some 79, _, _, _, _, _⟩) rfl (fun K hK => ?_) (AllReadyH.cons (o := ⟨some 88, _, _, _, _, _⟩) rfl (fun K hK => ?_) AllReadyH.nil)
        · obtain ⟨wq2, hwq⟩ : ∃ wq, wq = wq1.alloc (.cells #[.string ⟨#[]⟩, .string ⟨#[104, 111, 117, 114, 108, 121]⟩, .string ⟨#[100, 97, 105, 108, 121]⟩, .string ⟨#[119, 101, 101, 107, 108, 121]⟩, .string ⟨#[109, 111, 110, 116, 104, 108, 121]⟩, .string ⟨#[115, 116, 97, 116, 105, 99]⟩] 9) := ⟨_, rfl⟩
          have hbq : Below wq1.heap.size wq1 wq2 := by rw [hwq]; exact Joins.below_alloc1 _ _
          have hXq : HoldB wq1.heap.size 9 [.string ⟨#[]⟩, .string ⟨#[104, 111, 117, 114, 108, 121]⟩, .string ⟨#[100, 97, 105, 108, 121]⟩, .string ⟨#[119, 101, 101, 107, 108, 121]⟩, .string ⟨#[109, 111, 110, 116, 104, 108, 121]⟩, .string ⟨#[115, 116, 97, 116, 105, 99]⟩] wq2 := by rw [hwq]; exact heap_alloc_new _ _
          go_simp
          rw [← hwq]
          clear hwq
          refine hK.out _ _ (hS.trans (hbq.mono hS.size)) (fun hS => ?_)
          refine wpAnyH_up (S' := fun w' => Below wr.heap.size wr w' ∧ HoldB wq1.heap.size 9 [.string ⟨#[]⟩, .string ⟨#[104, 111, 117, 114, 108, 121]⟩, .string ⟨#[100, 97, 105, 108, 121]⟩, .string ⟨#[119, 101, 101, 107, 108, 121]⟩, .string ⟨#[109, 111, 110, 116, 104, 108, 121]⟩, .string ⟨#[115, 116, 97, 116, 105, 99]⟩] w') (fun _ h => h.1) _ _ _ _ ?_
          have hS := And.intro hS hXq
          clear hK K hbq hXq
          try simp only [Act.put, List.setIfInBounds_toArray, List.set_cons_zero, List.set_cons_succ]
          refine wpAnyH_take (i := 10) (oi := ⟨some 82, _, _, _, _, _⟩) (v := ?_) rfl (by kernel_rfl) (by kernel_rfl) (by kernel_rfl) (fun _ _ _ h => h) (Or.inl ⟨by rfl, ?_⟩) hS ?_
          rotate_left 1
          · intro w' hw'
            obtain ⟨y0, y1, y2, ys⟩ := HCr.out w' hw'.1
            have kw0 := (Lib.cell_of_heap hw'.2 (i + 1)).trans (by simpa using HKw.out)
            go_simp
            all_goals first | with_reducible rfl | rw [if_neg (by omega)] | rw [if_pos (by omega)]
          try simp only [Act.put, List.setIfInBounds_toArray, List.set_cons_zero, List.set_cons_succ]
          refine wpAnyH_take (i := 11) (oi := ⟨some 83, _, _, _, _, _⟩) (v := ?_) rfl (by kernel_rfl) (by kernel_rfl) (by kernel_rfl) (fun _ _ _ h => h) (Or.inl ⟨by rfl, ?_⟩) hS ?_
          rotate_left 1
          · intro w' hw'
            obtain ⟨y0, y1, y2, ys⟩ := HCr.out w' hw'.1
            have kw0 := (Lib.cell_of_heap hw'.2 (i + 1)).trans (by simpa using HKw.out)
            go_simp
            all_goals first | with_reducible rfl | rw [if_neg (by omega)] | rw [if_pos (by omega)]
          try simp only [Act.put, List.setIfInBounds_toArray, List.set_cons_zero, List.set_cons_succ]
          refine wpAnyH_take (i := 12) (oi := ⟨some 84, _, _, _, _, _⟩) (v := ?_) rfl (by kernel_rfl) (by kernel_rfl) (by kernel_rfl) (fun _ _ _ h => h) (Or.inl ⟨by rfl, ?_⟩) hS ?_
          rotate_left 1
          · intro w' hw'
            obtain ⟨y0, y1, y2, ys⟩ := HCr.out w' hw'.1
            have kw0 := (Lib.cell_of_heap hw'.2 (i + 1)).trans (by simpa using HKw.out)
            go_simp
            all_goals first | with_reducible rfl | rw [if_neg (by omega)] | rw [if_pos (by omega)]
          try simp only [Act.put, List.setIfInBounds_toArray, List.set_cons_zero, List.set_cons_succ]
          refine wpAnyH_take (i := 13) (oi := ⟨some 85, _, _, _, _, _⟩) (v := ?_) rfl (by kernel_rfl) (by kernel_rfl) (by kernel_rfl) (fun _ _ _ h => h) (Or.inl ⟨by rfl, ?_⟩) hS ?_
          rotate_left 1
          · intro w' hw'
            obtain ⟨y0, y1, y2, ys⟩ := HCr.out w' hw'.1
            have kw0 := (Lib.cell_of_heap hw'.2 (i + 1)).trans (by simpa using HKw.out)
            go_simp
            all_goals first | with_reducible rfl | rw [if_neg (by omega)] | rw [if_pos (by omega)]
          try simp only [Act.put, List.setIfInBounds_toArray, List.set_cons_zero, List.set_cons_succ]
          refine wpAnyH_ready (rs := [16]) (by kernel_rfl) (by simp) ?_
          refine AllReadyH.cons (o := ⟨some 88, _, _, _, _, _⟩) rfl (fun K hK => ?_) AllReadyH.nil
          go_simp
          go_at_call 12
          refine (HNa.out _).mono ?_
          rintro e wq3 ⟨rfl, hb⟩
          refine hK.out _ _ (⟨hS.1.trans (hb.mono hS.1.size), (hb.block _ (holds_size hS.2)).trans hS.2⟩) (fun hS => ?_)
          clear hK K hb
          try simp only [Act.put, List.setIfInBounds_toArray, List.set_cons_zero, List.set_cons_succ]
          refine wpAnyH_take (i := 17) (oi := ⟨some 89, _, _, _, _, _⟩) (v := ?_) rfl (by kernel_rfl) (by kernel_rfl) (by kernel_rfl) (fun _ _ _ h => h) (Or.inl ⟨by rfl, ?_⟩) hS ?_
          rotate_left 1
          · intro w' hw'
            obtain ⟨y0, y1, y2, ys⟩ := HCr.out w' hw'.1
            have kw0 := (Lib.cell_of_heap hw'.2 (i + 1)).trans (by simpa using HKw.out)
            go_simp
            all_goals first | with_reducible rfl | rw [if_neg (by omega)] | rw [if_pos (by omega)]
          try simp only [Act.put, List.setIfInBounds_toArray, List.set_cons_zero, List.set_cons_succ]
          refine wpAnyH_take (i := 18) (oi := ⟨some 90, _, _, _, _, _⟩) (v := ?_) rfl (by kernel_rfl) (by kernel_rfl) (by kernel_rfl) (fun _ _ _ h => h) (Or.inl ⟨by rfl, ?_⟩) hS ?_
          rotate_left 1
          · intro w' hw'
            obtain ⟨y0, y1, y2, ys⟩ := HCr.out w' hw'.1
            have kw0 := (Lib.cell_of_heap hw'.2 (i + 1)).trans (by simpa using HKw.out)
            go_simp
            all_goals first | with_reducible rfl | rw [if_neg (by omega)] | rw [if_pos (by omega)]
          try simp only [Act.put, List.setIfInBounds_toArray, List.set_cons_zero, List.set_cons_succ]
          refine wpAnyH_ready (rs := [21]) (by kernel_rfl) (by simp) ?_
          refine AllReadyH.cons (o := ⟨some 93, _, _, _, _, _⟩) rfl (fun K hK => ?_) AllReadyH.nil
          go_simp
          go_at_call 12
          refine (HNz.out _).mono ?_
          rintro e wq4 ⟨rfl, hb⟩
          refine hK.out _ _ (⟨hS.1.trans (hb.mono hS.1.size), (hb.block _ (holds_size hS.2)).trans hS.2⟩) (fun hS => ?_)
          clear hK K hb
          try simp only [Act.put, List.setIfInBounds_toArray, List.set_cons_zero, List.set_cons_succ]
          refine wpAnyH_take (i := 22) (oi := ⟨some 94, _, _, _, _, _⟩) (v := ?_) rfl (by kernel_rfl) (by kernel_rfl) (by kernel_rfl) (fun _ _ _ h => h) (Or.inl ⟨by rfl, ?_⟩) hS ?_
          rotate_left 1
          · intro w' hw'
            obtain ⟨y0, y1, y2, ys⟩ := HCr.out w' hw'.1
            have kw0 := (Lib.cell_of_heap hw'.2 (i + 1)).trans (by simpa using HKw.out)
            go_simp
            all_goals first | with_reducible rfl | rw [if_neg (by omega)] | rw [if_pos (by omega)]
          try simp only [Act.put, List.setIfInBounds_toArray, List.set_cons_zero, List.set_cons_succ]
          refine wpAnyH_take (i := 23) (oi := ⟨some 95, _, _, _, _, _⟩) (v := ?_) rfl (by kernel_rfl) (by kernel_rfl) (by kernel_rfl) (fun _ _ _ h => h) (Or.inl ⟨by rfl, ?_⟩) hS ?_
          rotate_left 1
          · intro w' hw'
            obtain ⟨y0, y1, y2, ys⟩ := HCr.out w' hw'.1
            have kw0 := (Lib.cell_of_heap hw'.2 (i + 1)).trans (by simpa using HKw.out)
            go_simp
            all_goals first | with_reducible rfl | rw [if_neg (by omega)] | rw [if_pos (by omega)]
          try simp only [Act.put, List.setIfInBounds_toArray, List.set_cons_zero, List.set_cons_succ]
          refine wpAnyH_take (i := 24) (oi := ⟨some 11, _, _, _, _, _⟩) (v := ?_) rfl (by kernel_rfl) (by kernel_rfl) (by kernel_rfl) (fun _ _ _ h => h) (Or.inl ⟨by rfl, ?_⟩) hS ?_
          rotate_left 1
          · intro w' hw'
            obtain ⟨y0, y1, y2, ys⟩ := HCr.out w' hw'.1
            have kw0 := (Lib.cell_of_heap hw'.2 (i + 1)).trans (by simpa using HKw.out)
            go_simp
            all_goals first | with_reducible rfl | rw [if_neg (by omega)] | rw [if_pos (by omega)]
          try simp only [Act.put, List.setIfInBounds_toArray, List.set_cons_zero, List.set_cons_succ]
          refine wpAnyH_done (by kernel_rfl) ?_ _
          have HBq := hide (show Below W0.heap.size W0 wq4 from then_below HBl.out hS.1)
          have HXq := hide (show HoldB w2.heap.size 43 [.int .i64 1, .string s0, .slice AE l.length cE, .int .i64 (((i : Nat) : Int) + 1), .int .i64 (((a : Nat) : Int)), .int .i64 (((z : Nat) : Int)), .slice none 0 0, .int .i64 0, .string ⟨#[]⟩, .slice none 0 0, .int .i64 0, .string ⟨#[]⟩, .int .i64 0, .int .i64 0, .string ⟨#[]⟩, .string ⟨#[]⟩, .slice none 0 0, .slice none 0 0, .slice none 0 0, .slice none 0 0, .slice none 0 0, .slice none 0 0, .int .i64 0, .string ⟨#[]⟩, .slice none 0 0] wq4 from (hS.1.block _ (holds_size HX.out)).trans HX.out)
          have HRq := hide (HRep.out _ hS.1)
          have hXx := HXq.out
          clear hS
          go_wp2_with (refine wpList_loadBig rfl 43 _ rfl w2.heap.size 25 [.int .i64 1, .string s0, .slice AE l.length cE, .int .i64 (((i : Nat) : Int) + 1), .int .i64 (((a : Nat) : Int)), .int .i64 (((z : Nat) : Int)), .slice none 0 0, .int .i64 0, .string ⟨#[]⟩, .slice none 0 0, .int .i64 0, .string ⟨#[]⟩, .int .i64 0, .int .i64 0, .string ⟨#[]⟩, .string ⟨#[]⟩, .slice none 0 0, .slice none 0 0, .slice none 0 0, .slice none 0 0, .slice none 0 0, .slice none 0 0, .int .i64 0, .string ⟨#[]⟩, .slice none 0 0] big_def rfl rfl hXx ?_)
          refine (HOne.out _ HBq.out _ _ HRq.out).mono ?_
          rintro e wo ⟨rfl, hb⟩
          have HBo := hide (then_below HBq.out hb)
          clear hb
          go_wp2_with fail
          refine (HAw.out _ HBo.out).mono ?_
          rintro e wo2 ⟨rfl, hb⟩
          have HBo2 := hide (then_below HBo.out hb)
          clear hb
          go_wp2_with fail
          go_ret
          exact ⟨rfl, HG.out _ HBo2.out⟩
        · go_simp
          go_at_call 12
          refine (HNa.out _).mono ?_
          rintro e wq5 ⟨rfl, hb⟩
          refine hK.out _ _ (hS.trans (hb.mono hS.size)) (fun hS => ?_)
          clear hK K hb
          try simp only [Act.put, List.setIfInBounds_toArray, List.set_cons_zero, List.set_cons_succ]
          refine wpAnyH_ready (rs := [7, 21]) (by kernel_rfl) (by simp) ?_
          refine AllReadyH.cons (o := ⟨some 79, _, _, _, _, _⟩) rfl (fun K hK => ?_) (AllReadyH.cons (o := ⟨some 93, _, _, _, _, _⟩) rfl (fun K hK => ?_) AllReadyH.nil)
          · obtain ⟨wq6, hwq⟩ : ∃ wq, wq = wq5.alloc (.cells #[.string ⟨#[]⟩, .string ⟨#[104, 111, 117, 114, 108, 121]⟩, .string ⟨#[100, 97, 105, 108, 121]⟩, .string ⟨#[119, 101, 101, 107, 108, 121]⟩, .string ⟨#[109, 111, 110, 116, 104, 108, 121]⟩, .string ⟨#[115, 116, 97, 116, 105, 99]⟩] 9) := ⟨_, rfl⟩
            have hbq : Below wq5.heap.size wq5 wq6 := by rw [hwq]; exact Joins.below_alloc1 _ _
            have hXq : HoldB wq5.heap.size 9 [.string ⟨#[]⟩, .string ⟨#[104, 111, 117, 114, 108, 121]⟩, .string ⟨#[100, 97, 105, 108, 121]⟩, .string ⟨#[119, 101, 101, 107, 108, 121]⟩, .string ⟨#[109, 111, 110, 116, 104, 108, 121]⟩, .string ⟨#[115, 116, 97, 116, 105, 99]⟩] wq6 := by rw [hwq]; exact heap_alloc_new _ _
            go_simp
            rw [← hwq]
            clear hwq
            refine hK.out _ _ (hS.trans (hbq.mono hS.size)) (fun hS => ?_)
            refine wpAnyH_up (S' := fun w' => Below wr.heap.size wr w' ∧ HoldB wq5.heap.size 9 [.string ⟨#[]⟩, .string ⟨#[104, 111, 117, 114, 108, 121]⟩, .string ⟨#[100, 97, 105, 108, 121]⟩, .string ⟨#[119, 101, 101, 107, 108, 121]⟩, .string ⟨#[109, 111, 110, 116, 104, 108, 121]⟩, .string ⟨#[115, 116, 97, 116, 105, 99]⟩] w') (fun _ h => h.1) _ _ _ _ ?_
            have hS := And.intro hS hXq
            clear hK K hbq hXq
            try simp only [Act.put, List.setIfInBounds_toArray, List.set_cons_zero, List.set_cons_succ]
            refine wpAnyH_take (i := 10) (oi := ⟨some 82, _, _, _, _, _⟩) (v := ?_) rfl (by kernel_rfl) (by kernel_rfl) (by kernel_rfl) (fun _ _ _ h => h) (Or.inl ⟨by rfl, ?_⟩) hS ?_
            rotate_left 1
            · intro w' hw'
              obtain ⟨y0, y1, y2, ys⟩ := HCr.out w' hw'.1
              have kw0 := (Lib.cell_of_heap hw'.2 (i + 1)).trans (by simpa using HKw.out)
              go_simp
              all_goals first | with_reducible rfl | rw [if_neg (by omega)] | rw [if_pos (by omega)]
            try simp only [Act.put, List.setIfInBounds_toArray, List.set_cons_zero, List.set_cons_succ]
            refine wpAnyH_take (i := 11) (oi := ⟨some 83, _, _, _, _, _⟩) (v := ?_) rfl (by kernel_rfl) (by kernel_rfl) (by kernel_rfl) (fun _ _ _ h => h) (Or.inl ⟨by rfl, ?_⟩) hS ?_
            rotate_left 1
            · intro w' hw'
              obtain ⟨y0, y1, y2, ys⟩ := HCr.out w' hw'.1
              have kw0 := (Lib.cell_of_heap hw'.2 (i + 1)).trans (by simpa using HKw.out)
              go_simp
              all_goals first | with_reducible rfl | rw [if_neg (by omega)] | rw [if_pos (by omega)]
            try simp only [Act.put, List.setIfInBounds_toArray, List.set_cons_zero, List.set_cons_succ]
            refine wpAnyH_take (i := 12) (oi := ⟨some 84, _, _, _, _, _⟩) (v := ?_) rfl (by kernel_rfl) (by kernel_rfl) (by kernel_rfl) (fun _ _ _ h => h) (Or.inl ⟨by rfl, ?_⟩) hS ?_
            rotate_left 1
            · intro w' hw'
              obtain ⟨y0, y1, y2, ys⟩ := HCr.out w' hw'.1
              have kw0 := (Lib.cell_of_heap hw'.2 (i + 1)).trans (by simpa using HKw.out)
              go_simp
              all_goals first | with_reducible rfl | rw [if_neg (by omega)] | rw [if_pos (by omega)]
            try simp only [Act.put, List.setIfInBounds_toArray, List.set_cons_zero, List.set_cons_succ]
            refine wpAnyH_take (i := 13) (oi := ⟨some 85, _, _, _, _, _⟩) (v := ?_) rfl (by kernel_rfl) (by kernel_rfl) (by kernel_rfl) (fun _ _ _ h => h) (Or.inl ⟨by rfl, ?_⟩) hS ?_
            rotate_left 1
            · intro w' hw'
              obtain ⟨y0, y1, y2, ys⟩ := HCr.out w' hw'.1
              have kw0 := (Lib.cell_of_heap hw'.2 (i + 1)).trans (by simpa using HKw.out)
              go_simp
              all_goals first | with_reducible rfl | rw [if_neg (by omega)] | rw [if_pos (by omega)]
            try simp only [Act.put, List.setIfInBounds_toArray, List.set_cons_zero, List.set_cons_succ]
            refine wpAnyH_take (i := 17) (oi := ⟨some 89, _, _, _, _, _⟩) (v := ?_) rfl (by kernel_rfl) (by kernel_rfl) (by kernel_rfl) (fun _ _ _ h => h) (Or.inl ⟨by rfl, ?_⟩) hS ?_
            rotate_left 1
            · intro w' hw'
              obtain ⟨y0, y1, y2, ys⟩ := HCr.out w' hw'.1
              have kw0 := (Lib.cell_of_heap hw'.2 (i + 1)).trans (by simpa using HKw.out)
              go_simp
              all_goals first | with_reducible rfl | rw [if_neg (by omega)] | rw [if_pos (by omega)]
            try simp only [Act.put, List.setIfInBounds_toArray, List.set_cons_zero, List.set_cons_succ]
            refine wpAnyH_take (i := 18) (oi := ⟨some 90, _, _, _, _, _⟩) (v := ?_) rfl (by kernel_rfl) (by kernel_rfl) (by kernel_rfl) (fun _ _ _ h => h) (Or.inl ⟨by rfl, ?_⟩) hS ?_
            rotate_left 1
            · intro w' hw'
              obtain ⟨y0, y1, y2, ys⟩ := HCr.out w' hw'.1
              have kw0 := (Lib.cell_of_heap hw'.2 (i + 1)).trans (by simpa using HKw.out)
              go_simp
              all_goals first | with_reducible rfl | rw [if_neg (by omega)] | rw [if_pos (by omega)]
            try simp only [Act.put, List.setIfInBounds_toArray, List.set_cons_zero, List.set_cons_succ]
            refine wpAnyH_ready (rs := [21]) (by kernel_rfl) (by simp) ?_
            refine AllReadyH.cons (o := ⟨some 93, _, _, _, _, _⟩) rfl (fun K hK => ?_) AllReadyH.nil
            go_simp
            go_at_call 12
            refine (HNz.out _).mono ?_
            rintro e wq7 ⟨rfl, hb⟩
            refine hK.out _ _ (⟨hS.1.trans (hb.mono hS.1.size), (hb.block _ (holds_size hS.2)).trans hS.2⟩) (fun hS => ?_)
            clear hK K hb
            try simp only [Act.put, List.setIfInBounds_toArray, List.set_cons_zero, List.set_cons_succ]
            refine wpAnyH_take (i := 22) (oi := ⟨some 94, _, _, _, _, _⟩) (v := ?_) rfl (by kernel_rfl) (by kernel_rfl) (by kernel_rfl) (fun _ _ _ h => h) (Or.inl ⟨by rfl, ?_⟩) hS ?_
            rotate_left 1
            · intro w' hw'
              obtain ⟨y0, y1, y2, ys⟩ := HCr.out w' hw'.1
              have kw0 := (Lib.cell_of_heap hw'.2 (i + 1)).trans (by simpa using HKw.out)
              go_simp
              all_goals first | with_reducible rfl | rw [if_neg (by omega)] | rw [if_pos (by omega)]
            try simp only [Act.put, List.setIfInBounds_toArray, List.set_cons_zero, List.set_cons_succ]
            refine wpAnyH_take (i := 23) (oi := ⟨some 95, _, _, _, _, _⟩) (v := ?_) rfl (by kernel_rfl) (by kernel_rfl) (by kernel_rfl) (fun _ _ _ h => h) (Or.inl ⟨by rfl, ?_⟩) hS ?_
            rotate_left 1
            · intro w' hw'
              obtain ⟨y0, y1, y2, ys⟩ := HCr.out w' hw'.1
              have kw0 := (Lib.cell_of_heap hw'.2 (i + 1)).trans (by simpa using HKw.out)
              go_simp
              all_goals first | with_reducible rfl | rw [if_neg (by omega)] | rw [if_pos (by omega)]
            try simp only [Act.put, List.setIfInBounds_toArray, List.set_cons_zero, List.set_cons_succ]
            refine wpAnyH_take (i := 24) (oi := ⟨some 11, _, _, _, _, _⟩) (v := ?_) rfl (by kernel_rfl) (by kernel_rfl) (by kernel_rfl) (fun _ _ _ h => h) (Or.inl ⟨by rfl, ?_⟩) hS ?_
            rotate_left 1
            · intro w' hw'
              obtain ⟨y0, y1, y2, ys⟩ := HCr.out w' hw'.1
              have kw0 := (Lib.cell_of_heap hw'.2 (i + 1)).trans (by simpa using HKw.out)
              go_simp
              all_goals first | with_reducible rfl | rw [if_neg (by omega)] | rw [if_pos (by omega)]
            try simp only [Act.put, List.setIfInBounds_toArray, List.set_cons_zero, List.set_cons_succ]
            refine wpAnyH_done (by kernel_rfl) ?_ _
            have HBq := hide (show Below W0.heap.size W0 wq7 from then_below HBl.out hS.1)
            have HXq := hide (show HoldB w2.heap.size 43 [.int .i64 1, .string s0, .slice AE l.length cE, .int .i64 (((i : Nat) : Int) + 1), .int .i64 (((a : Nat) : Int)), .int .i64 (((z : Nat) : Int)), .slice none 0 0, .int .i64 0, .string ⟨#[]⟩, .slice none 0 0, .int .i64 0, .string ⟨#[]⟩, .int .i64 0, .int .i64 0, .string ⟨#[]⟩, .string ⟨#[]⟩, .slice none 0 0, .slice none 0 0, .slice none 0 0, .slice none 0 0, .slice none 0 0, .slice none 0 0, .int .i64 0, .string ⟨#[]⟩, .slice none 0 0] wq7 from (hS.1.block _ (holds_size HX.out)).trans HX.out)
            have HRq := hide (HRep.out _ hS.1)
            have hXx := HXq.out
            clear hS
            go_wp2_with (refine wpList_loadBig rfl 43 _ rfl w2.heap.size 25 [.int .i64 1, .string s0, .slice AE l.length cE, .int .i64 (((i : Nat) : Int) + 1), .int .i64 (((a : Nat) : Int)), .int .i64 (((z : Nat) : Int)), .slice none 0 0, .int .i64 0, .string ⟨#[]⟩, .slice none 0 0, .int .i64 0, .string ⟨#[]⟩, .int .i64 0, .int .i64 0, .string ⟨#[]⟩, .string ⟨#[]⟩, .slice none 0 0, .slice none 0 0, .slice none 0 0, .slice none 0 0, .slice none 0 0, .slice none 0 0, .int .i64 0, .string ⟨#[]⟩, .slice none 0 0] big_def rfl rfl hXx ?_)
            refine (HOne.out _ HBq.out _ _ HRq.out).mono ?_
            rintro e wo ⟨rfl, hb⟩
            have HBo := hide (then_below HBq.out hb)
            clear hb
            go_wp2_with fail
            refine (HAw.out _ HBo.out).mono ?_
            rintro e wo2 ⟨rfl, hb⟩
            have HBo2 := hide (then_below HBo.out hb)
            clear hb
            go_wp2_with fail
            go_ret
            exact ⟨rfl, HG.out _ HBo2.out⟩
          · go_simp
            go_at_call 12
            refine (HNz.out _).mono ?_
            rintro e wq8 ⟨rfl, hb⟩
            refine hK.out _ _ (hS.trans (hb.mono hS.size)) (fun hS => ?_)
            clear hK K hb
            try simp only [Act.put, List.setIfInBounds_toArray, List.set_cons_zero, List.set_cons_succ]
            refine wpAnyH_ready (rs := [7]) (by kernel_rfl) (by simp) ?_
            refine AllReadyH.cons (o := ⟨some 79, _, _, _, _, _⟩) rfl (fun K hK => ?_) AllReadyH.nil
            obtain ⟨wq9, hwq⟩ : ∃ wq, wq = wq8.alloc (.cells #[.string ⟨#[]⟩, .string ⟨#[104, 111, 117, 114, 108, 121]⟩, .string ⟨#[100, 97, 105, 108, 121]⟩, .string ⟨#[119, 101, 101, 107, 108, 121]⟩, .string ⟨#[109, 111, 110, 116, 104, 108, 121]⟩, .string ⟨#[115, 116, 97, 116, 105, 99]⟩] 9) := ⟨_, rfl⟩
            have hbq : Below wq8.heap.size wq8 wq9 := by rw [hwq]; exact Joins.below_alloc1 _ _
            have hXq : HoldB wq8.heap.size 9 [.string ⟨#[]⟩, .string ⟨#[104, 111, 117, 114, 108, 121]⟩, .string ⟨#[100, 97, 105, 108, 121]⟩, .string ⟨#[119, 101, 101, 107, 108, 121]⟩, .string ⟨#[109, 111, 110, 116, 104, 108, 121]⟩, .string ⟨#[115, 116, 97, 116, 105, 99]⟩] wq9 := by rw [hwq]; exact heap_alloc_new _ _
            go_simp
            rw [← hwq]
            clear hwq
            refine hK.out _ _ (hS.trans (hbq.mono hS.size)) (fun hS => ?_)
            refine wpAnyH_up (S' := fun w' => Below wr.heap.size wr w' ∧ HoldB wq8.heap.size 9 [.string ⟨#[]⟩, .string ⟨#[104, 111, 117, 114, 108, 121]⟩, .string ⟨#[100, 97, 105, 108, 121]⟩, .string ⟨#[119, 101, 101, 107, 108, 121]⟩, .string ⟨#[109, 111, 110, 116, 104, 108, 121]⟩, .string ⟨#[115, 116, 97, 116, 105, 99]⟩] w') (fun _ h => h.1) _ _ _ _ ?_
            have hS := And.intro hS hXq
            clear hK K hbq hXq
            try simp only [Act.put, List.setIfInBounds_toArray, List.set_cons_zero, List.set_cons_succ]
            refine wpAnyH_take (i := 10) (oi := ⟨some 82, _, _, _, _, _⟩) (v := ?_) rfl (by kernel_rfl) (by kernel_rfl) (by kernel_rfl) (fun _ _ _ h => h) (Or.inl ⟨by rfl, ?_⟩) hS ?_
            rotate_left 1
            · intro w' hw'
              obtain ⟨y0, y1, y2, ys⟩ := HCr.out w' hw'.1
              have kw0 := (Lib.cell_of_heap hw'.2 (i + 1)).trans (by simpa using HKw.out)
              go_simp
              all_goals first | with_reducible rfl | rw [if_neg (by omega)] | rw [if_pos (by omega)]
            try simp only [Act.put, List.setIfInBounds_toArray, List.set_cons_zero, List.set_cons_succ]
            refine wpAnyH_take (i := 11) (oi := ⟨some 83, _, _, _, _, _⟩) (v := ?_) rfl (by kernel_rfl) (by kernel_rfl) (by kernel_rfl) (fun _ _ _ h => h) (Or.inl ⟨by rfl, ?_⟩) hS ?_
            rotate_left 1
            · intro w' hw'
              obtain ⟨y0, y1, y2, ys⟩ := HCr.out w' hw'.1
              have kw0 := (Lib.cell_of_heap hw'.2 (i + 1)).trans (by simpa using HKw.out)
              go_simp
              all_goals first | with_reducible rfl | rw [if_neg (by omega)] | rw [if_pos (by omega)]
            try simp only [Act.put, List.setIfInBounds_toArray, List.set_cons_zero, List.set_cons_succ]
            refine wpAnyH_take (i := 12) (oi := ⟨some 84, _, _, _, _, _⟩) (v := ?_) rfl (by kernel_rfl) (by kernel_rfl) (by kernel_rfl) (fun _ _ _ h => h) (Or.inl ⟨by rfl, ?_⟩) hS ?_
            rotate_left 1
            · intro w' hw'
              obtain ⟨y0, y1, y2, ys⟩ := HCr.out w' hw'.1
              have kw0 := (Lib.cell_of_heap hw'.2 (i + 1)).trans (by simpa using HKw.out)
              go_simp
              all_goals first | with_reducible rfl | rw [if_neg (by omega)] | rw [if_pos (by omega)]
            try simp only [Act.put, List.setIfInBounds_toArray, List.set_cons_zero, List.set_cons_succ]
            refine wpAnyH_take (i := 13) (oi := ⟨some 85, _, _, _, _, _⟩) (v := ?_) rfl (by kernel_rfl) (by kernel_rfl) (by kernel_rfl) (fun _ _ _ h => h) (Or.inl ⟨by rfl, ?_⟩) hS ?_
            rotate_left 1
            · intro w' hw'
              obtain ⟨y0, y1, y2, ys⟩ := HCr.out w' hw'.1
              have kw0 := (Lib.cell_of_heap hw'.2 (i + 1)).trans (by simpa using HKw.out)
              go_simp
              all_goals first | with_reducible rfl | rw [if_neg (by omega)] | rw [if_pos (by omega)]
            try simp only [Act.put, List.setIfInBounds_toArray, List.set_cons_zero, List.set_cons_succ]
            refine wpAnyH_take (i := 17) (oi := ⟨some 89, _, _, _, _, _⟩) (v := ?_) rfl (by kernel_rfl) (by kernel_rfl) (by kernel_rfl) (fun _ _ _ h => h) (Or.inl ⟨by rfl, ?_⟩) hS ?_
            rotate_left 1
            · intro w' hw'
              obtain ⟨y0, y1, y2, ys⟩ := HCr.out w' hw'.1
              have kw0 := (Lib.cell_of_heap hw'.2 (i + 1)).trans (by simpa using HKw.out)
              go_simp
              all_goals first | with_reducible rfl | rw [if_neg (by omega)] | rw [if_pos (by omega)]
            try simp only [Act.put, List.setIfInBounds_toArray, List.set_cons_zero, List.set_cons_succ]
            refine wpAnyH_take (i := 18) (oi := ⟨some 90, _, _, _, _, _⟩) (v := ?_) rfl (by kernel_rfl) (by kernel_rfl) (by kernel_rfl) (fun _ _ _ h => h) (Or.inl ⟨by rfl, ?_⟩) hS ?_
            rotate_left 1
            · intro w' hw'
              obtain ⟨y0, y1, y2, ys⟩ := HCr.out w' hw'.1
              have kw0 := (Lib.cell_of_heap hw'.2 (i + 1)).trans (by simpa using HKw.out)
              go_simp
              all_goals first | with_reducible rfl | rw [if_neg (by omega)] | rw [if_pos (by omega)]
            try simp only [Act.put, List.setIfInBounds_toArray, List.set_cons_zero, List.set_cons_succ]
            refine wpAnyH_take (i := 22) (oi := ⟨some 94, _, _, _, _, _⟩) (v := ?_) rfl (by kernel_rfl) (by kernel_rfl) (by kernel_rfl) (fun _ _ _ h => h) (Or.inl ⟨by rfl, ?_⟩) hS ?_
            rotate_left 1
            · intro w' hw'
              obtain ⟨y0, y1, y2, ys⟩ := HCr.out w' hw'.1
              have kw0 := (Lib.cell_of_heap hw'.2 (i + 1)).trans (by simpa using HKw.out)
              go_simp
              all_goals first | with_reducible rfl | rw [if_neg (by omega)] | rw [if_pos (by omega)]
            try simp only [Act.put, List.setIfInBounds_toArray, List.set_cons_zero, List.set_cons_succ]
            refine wpAnyH_take (i := 23) (oi := ⟨some 95, _, _, _, _, _⟩) (v := ?_) rfl (by kernel_rfl) (by kernel_rfl) (by kernel_rfl) (fun _ _ _ h => h) (Or.inl ⟨by rfl, ?_⟩) hS ?_
            rotate_left 1
            · intro w' hw'
              obtain ⟨y0, y1, y2, ys⟩ := HCr.out w' hw'.1
              have kw0 := (Lib.cell_of_heap hw'.2 (i + 1)).trans (by simpa using HKw.out)
              go_simp
              all_goals first | with_reducible rfl | rw [if_neg (by omega)] | rw [if_pos (by omega)]
            try simp only [Act.put, List.setIfInBounds_toArray, List.set_cons_zero, List.set_cons_succ]
            refine wpAnyH_take (i := 24) (oi := ⟨some 11, _, _, _, _, _⟩) (v := ?_) rfl (by kernel_rfl) (by kernel_rfl) (by kernel_rfl) (fun _ _ _ h => h) (Or.inl ⟨by rfl, ?_⟩) hS ?_
            rotate_left 1
            · intro w' hw'
              obtain ⟨y0, y1, y2, ys⟩ := HCr.out w' hw'.1
              have kw0 := (Lib.cell_of_heap hw'.2 (i + 1)).trans (by simpa using HKw.out)
              go_simp
              all_goals first | with_reducible rfl | rw [if_neg (by omega)] | rw [if_pos (by omega)]
            try simp only [Act.put, List.setIfInBounds_toArray, List.set_cons_zero, List.set_cons_succ]
            refine wpAnyH_done (by kernel_rfl) ?_ _
            have HBq := hide (show Below W0.heap.size W0 wq9 from then_below HBl.out hS.1)
            have HXq := hide (show HoldB w2.heap.size 43 [.int .i64 1, .string s0, .slice AE l.length cE, .int .i64 (((i : Nat) : Int) + 1), .int .i64 (((a : Nat) : Int)), .int .i64 (((z : Nat) : Int)), .slice none 0 0, .int .i64 0, .string ⟨#[]⟩, .slice none 0 0, .int .i64 0, .string ⟨#[]⟩, .int .i64 0, .int .i64 0, .string ⟨#[]⟩, .string ⟨#[]⟩, .slice none 0 0, .slice none 0 0, .slice none 0 0, .slice none 0 0, .slice none 0 0, .slice none 0 0, .int .i64 0, .string ⟨#[]⟩, .slice none 0 0] wq9 from (hS.1.block _ (holds_size HX.out)).trans HX.out)
            have HRq := hide (HRep.out _ hS.1)
            have hXx := HXq.out
            clear hS
            go_wp2_with (refine wpList_loadBig rfl 43 _ rfl w2.heap.size 25 [.int .i64 1, .string s0, .slice AE l.length cE, .int .i64 (((i : Nat) : Int) + 1), .int .i64 (((a : Nat) : Int)), .int .i64 (((z : Nat) : Int)), .slice none 0 0, .int .i64 0, .string ⟨#[]⟩, .slice none 0 0, .int .i64 0, .string ⟨#[]⟩, .int .i64 0, .int .i64 0, .string ⟨#[]⟩, .string ⟨#[]⟩, .slice none 0 0, .slice none 0 0, .slice none 0 0, .slice none 0 0, .slice none 0 0, .slice none 0 0, .int .i64 0, .string ⟨#[]⟩, .slice none 0 0] big_def rfl rfl hXx ?_)
            refine (HOne.out _ HBq.out _ _ HRq.out).mono ?_
            rintro e wo ⟨rfl, hb⟩
            have HBo := hide (then_below HBq.out hb)
            clear hb
            go_wp2_with fail
            refine (HAw.out _ HBo.out).mono ?_
            rintro e wo2 ⟨rfl, hb⟩
            have HBo2 := hide (then_below HBo.out hb)
            clear hb
            go_wp2_with fail
            go_ret
            exact ⟨rfl, HG.out _ HBo2.out⟩
      · obtain ⟨wq10, hwq⟩ : ∃ wq, wq = wd.alloc (.cells #[.string ⟨#[]⟩, .string ⟨#[104, 111, 117, 114, 108, 121]⟩, .string ⟨#[100, 97, 105, 108, 121]⟩, .string ⟨#[119, 101, 101, 107, 108, 121]⟩, .string ⟨#[109, 111, 110, 116, 104, 108, 121]⟩, .string ⟨#[115, 116, 97, 116, 105, 99]⟩] 9) := ⟨_, rfl⟩
        have hbq : Below wd.heap.size wd wq10 := by rw [hwq]; exact Joins.below_alloc1 _ _
        have hXq : HoldB wd.heap.size 9 [.string ⟨#[]⟩, .string ⟨#[104, 111, 117, 114, 108, 121]⟩, .string ⟨#[100, 97, 105, 108, 121]⟩, .string ⟨#[119, 101, 101, 107, 108, 121]⟩, .string ⟨#[109, 111, 110, 116, 104, 108, 121]⟩, .string ⟨#[115, 116, 97, 116, 105, 99]⟩] wq10 := by rw [hwq]; exact heap_alloc_new _ _
        go_simp
        rw [← hwq]
        clear hwq
        refine hK.out _ _ (hS.trans (hbq.mono hS.size)) (fun hS => ?_)
        refine wpAnyH_up (S' := fun w' => Below wr.heap.size wr w' ∧ HoldB wd.heap.size 9 [.string ⟨#[]⟩, .string ⟨#[104, 111, 117, 114, 108, 121]⟩, .string ⟨#[100, 97, 105, 108, 121]⟩, .string ⟨#[119, 101, 101, 107, 108, 121]⟩, .string ⟨#[109, 111, 110, 116, 104, 108, 121]⟩, .string ⟨#[115, 116, 97, 116, 105, 99]⟩] w') (fun _ h => h.1) _ _ _ _ ?_
        have hS := And.intro hS hXq
        clear hK K hbq hXq
        try simp only [Act.put, List.setIfInBounds_toArray, List.set_cons_zero, List.set_cons_succ]
        refine wpAnyH_take (i := 10) (oi := ⟨some 82, _, _, _, _, _⟩) (v := ?_) rfl (by kernel_rfl) (by kernel_rfl) (by kernel_rfl) (fun _ _ _ h => h) (Or.inl ⟨by rfl, ?_⟩) hS ?_
        rotate_left 1
        · intro w' hw'
          obtain ⟨y0, y1, y2, ys⟩ := HCr.out w' hw'.1
          have kw0 := (Lib.cell_of_heap hw'.2 (i + 1)).trans (by simpa using HKw.out)
          go_simp
          all_goals first | with_reducible rfl | rw [if_neg (by omega)] | rw [if_pos (by omega)]
        try simp only [Act.put, List.setIfInBounds_toArray, List.set_cons_zero, List.set_cons_succ]
        refine wpAnyH_take (i := 11) (oi := ⟨some 83, _, _, _, _, _⟩) (v := ?_) rfl (by kernel_rfl) (by kernel_rfl) (by kernel_rfl) (fun _ _ _ h => h) (Or.inl ⟨by rfl, ?_⟩) hS ?_
        rotate_left 1
        · intro w' hw'
          obtain ⟨y0, y1, y2, ys⟩ := HCr.out w' hw'.1
          have kw0 := (Lib.cell_of_heap hw'.2 (i + 1)).trans (by simpa using HKw.out)
          go_simp
          all_goals first | with_reducible rfl | rw [if_neg (by omega)] | rw [if_pos (by omega)]
        try simp only [Act.put, List.setIfInBounds_toArray, List.set_cons_zero, List.set_cons_succ]
        refine wpAnyH_ready (rs := [4]) (by kernel_rfl) (by simp) ?_
        refine AllReadyH.cons (o := ⟨some 76, _, _, _, _, _⟩) rfl (fun K hK => ?_) AllReadyH.nil
        go_simp
        go_at_call 11
        refine (HJ.out _ _ (HStr.out _ hS.1)).mono ?_
        rintro e wq11 ⟨rfl, hb⟩
        refine hK.out _ _ (⟨hS.1.trans (hb.mono hS.1.size), (hb.block _ (holds_size hS.2)).trans hS.2⟩) (fun hS => ?_)
        clear hK K hb
        try simp only [Act.put, List.setIfInBounds_toArray, List.set_cons_zero, List.set_cons_succ]
        refine wpAnyH_take (i := 5) (oi := ⟨some 77, _, _, _, _, _⟩) (v := ?_) rfl (by kernel_rfl) (by kernel_rfl) (by kernel_rfl) (fun _ _ _ h => h) (Or.inl ⟨by rfl, ?_⟩) hS ?_
        rotate_left 1
        · intro w' hw'
          obtain ⟨y0, y1, y2, ys⟩ := HCr.out w' hw'.1
          have kw0 := (Lib.cell_of_heap hw'.2 (i + 1)).trans (by simpa using HKw.out)
          go_simp
          all_goals first | with_reducible rfl | rw [if_neg (by omega)] | rw [if_pos (by omega)]
        try simp only [Act.put, List.setIfInBounds_toArray, List.set_cons_zero, List.set_cons_succ]
        refine wpAnyH_take (i := 6) (oi := ⟨some 78, _, _, _, _, _⟩) (v := ?_) rfl (by kernel_rfl) (by kernel_rfl) (by kernel_rfl) (fun _ _ _ h => h) (Or.inl ⟨by rfl, ?_⟩) hS ?_
        rotate_left 1
        · intro w' hw'
          obtain ⟨y0, y1, y2, ys⟩ := HCr.out w' hw'.1
          have kw0 := (Lib.cell_of_heap hw'.2 (i + 1)).trans (by simpa using HKw.out)
          go_simp
          all_goals first | with_reducible rfl | rw [if_neg (by omega)] | rw [if_pos (by omega)]
        try simp only [Act.put, List.setIfInBounds_toArray, List.set_cons_zero, List.set_cons_succ]
        refine wpAnyH_take (i := 12) (oi := ⟨some 84, _, _, _, _, _⟩) (v := ?_) rfl (by kernel_rfl) (by kernel_rfl) (by kernel_rfl) (fun _ _ _ h => h) (Or.inl ⟨by rfl, ?_⟩) hS ?_
        rotate_left 1
        · intro w' hw'
          obtain ⟨y0, y1, y2, ys⟩ := HCr.out w' hw'.1
          have kw0 := (Lib.cell_of_heap hw'.2 (i + 1)).trans (by simpa using HKw.out)
          go_simp
          all_goals first | with_reducible rfl | rw [if_neg (by omega)] | rw [if_pos (by omega)]
        try simp only [Act.put, List.setIfInBounds_toArray, List.set_cons_zero, List.set_cons_succ]
        refine wpAnyH_take (i := 13) (oi := ⟨some 85, _, _, _, _, _⟩) (v := ?_) rfl (by kernel_rfl) (by kernel_rfl) (by kernel_rfl) (fun _ _ _ h => h) (Or.inl ⟨by rfl, ?_⟩) hS ?_
        rotate_left 1
        · intro w' hw'
          obtain ⟨y0, y1, y2, ys⟩ := HCr.out w' hw'.1
          have kw0 := (Lib.cell_of_heap hw'.2 (i + 1)).trans (by simpa using HKw.out)
          go_simp
          all_goals first | with_reducible rfl | rw [if_neg (by omega)] | rw [if_pos (by omega)]
        try simp only [Act.put, List.setIfInBounds_toArray, List.set_cons_zero, List.set_cons_succ]
        refine wpAnyH_ready (rs := [16]) (by kernel_rfl) (by simp) ?_
        refine AllReadyH.cons (o := ⟨some 88, _, _, _, _, _⟩) rfl (fun K hK => ?_) AllReadyH.nil
        go_simp
        go_at_call 12
        refine (HNa.out _).mono ?_
        rintro e wq12 ⟨rfl, hb⟩
        refine hK.out _ _ (⟨hS.1.trans (hb.mono hS.1.size), (hb.block _ (holds_size hS.2)).trans hS.2⟩) (fun hS => ?_)
        clear hK K hb
        try simp only [Act.put, List.setIfInBounds_toArray, List.set_cons_zero, List.set_cons_succ]
        refine wpAnyH_take (i := 17) (oi := ⟨some 89, _, _, _, _, _⟩) (v := ?_) rfl (by kernel_rfl) (by kernel_rfl) (by kernel_rfl) (fun _ _ _ h => h) (Or.inl ⟨by rfl, ?_⟩) hS ?_
        rotate_left 1
        · intro w' hw'
          obtain ⟨y0, y1, y2, ys⟩ := HCr.out w' hw'.1
          have kw0 := (Lib.cell_of_heap hw'.2 (i + 1)).trans (by simpa using HKw.out)
          go_simp
          all_goals first | with_reducible rfl | rw [if_neg (by omega)] | rw [if_pos (by omega)]
        try simp only [Act.put, List.setIfInBounds_toArray, List.set_cons_zero, List.set_cons_succ]
        refine wpAnyH_take (i := 18) (oi := ⟨some 90, _, _, _, _, _⟩) (v := ?_) rfl (by kernel_rfl) (by kernel_rfl) (by kernel_rfl) (fun _ _ _ h => h) (Or.inl ⟨by rfl, ?_⟩) hS ?_
        rotate_left 1
        · intro w' hw'
          obtain ⟨y0, y1, y2, ys⟩ := HCr.out w' hw'.1
          have kw0 := (Lib.cell_of_heap hw'.2 (i + 1)).trans (by simpa using HKw.out)
          go_simp
          all_goals first | with_reducible rfl | rw [if_neg (by omega)] | rw [if_pos (by omega)]
        try simp only [Act.put, List.setIfInBounds_toArray, List.set_cons_zero, List.set_cons_succ]
        refine wpAnyH_ready (rs := [21]) (by kernel_rfl) (by simp) ?_
        refine AllReadyH.cons (o := ⟨some 93, _, _, _, _, _⟩) rfl (fun K hK => ?_) AllReadyH.nil
        go_simp
        go_at_call 12
        refine (HNz.out _).mono ?_
        rintro e wq13 ⟨rfl, hb⟩
        refine hK.out _ _ (⟨hS.1.trans (hb.mono hS.1.size), (hb.block _ (holds_size hS.2)).trans hS.2⟩) (fun hS => ?_)
        clear hK K hb
        try simp only [Act.put, List.setIfInBounds_toArray, List.set_cons_zero, List.set_cons_succ]
        refine wpAnyH_take (i := 22) (oi := ⟨some 94, _, _, _, _, _⟩) (v := ?_) rfl (by kernel_rfl) (by kernel_rfl) (by kernel_rfl) (fun _ _ _ h => h) (Or.inl ⟨by rfl, ?_⟩) hS ?_
        rotate_left 1
        · intro w' hw'
          obtain ⟨y0, y1, y2, ys⟩ := HCr.out w' hw'.1
          have kw0 := (Lib.cell_of_heap hw'.2 (i + 1)).trans (by simpa using HKw.out)
          go_simp
          all_goals first | with_reducible rfl | rw [if_neg (by omega)] | rw [if_pos (by omega)]
        try simp only [Act.put, List.setIfInBounds_toArray, List.set_cons_zero, List.set_cons_succ]
        refine wpAnyH_take (i := 23) (oi := ⟨some 95, _, _, _, _, _⟩) (v := ?_) rfl (by kernel_rfl) (by kernel_rfl) (by kernel_rfl) (fun _ _ _ h => h) (Or.inl ⟨by rfl, ?_⟩) hS ?_
        rotate_left 1
        · intro w' hw'
          obtain ⟨y0, y1, y2, ys⟩ := HCr.out w' hw'.1
          have kw0 := (Lib.cell_of_heap hw'.2 (i + 1)).trans (by simpa using HKw.out)
          go_simp
          all_goals first | with_reducible rfl | rw [if_neg (by omega)] | rw [if_pos (by omega)]
        try simp only [Act.put, List.setIfInBounds_toArray, List.set_cons_zero, List.set_cons_succ]
        refine wpAnyH_take (i := 24) (oi := ⟨some 11, _, _, _, _, _⟩) (v := ?_) rfl (by kernel_rfl) (by kernel_rfl) (by kernel_rfl) (fun _ _ _ h => h) (Or.inl ⟨by rfl, ?_⟩) hS ?_
        rotate_left 1
        · intro w' hw'
          obtain ⟨y0, y1, y2, ys⟩ := HCr.out w' hw'.1
          have kw0 := (Lib.cell_of_heap hw'.2 (i + 1)).trans (by simpa using HKw.out)
          go_simp
          all_goals first | with_reducible rfl | rw [if_neg (by omega)] | rw [if_pos (by omega)]
        try simp only [Act.put, List.setIfInBounds_toArray, List.set_cons_zero, List.set_cons_succ]
        refine wpAnyH_done (by kernel_rfl) ?_ _
        have HBq := hide (show Below W0.heap.size W0 wq13 from then_below HBl.out hS.1)
        have HXq := hide (show HoldB w2.heap.size 43 [.int .i64 1, .string s0, .slice AE l.length cE, .int .i64 (((i : Nat) : Int) + 1), .int .i64 (((a : Nat) : Int)), .int .i64 (((z : Nat) : Int)), .slice none 0 0, .int .i64 0, .string ⟨#[]⟩, .slice none 0 0, .int .i64 0, .string ⟨#[]⟩, .int .i64 0, .int .i64 0, .string ⟨#[]⟩, .string ⟨#[]⟩, .slice none 0 0, .slice none 0 0, .slice none 0 0, .slice none 0 0, .slice none 0 0, .slice none 0 0, .int .i64 0, .string ⟨#[]⟩, .slice none 0 0] wq13 from (hS.1.block _ (holds_size HX.out)).trans HX.out)
        have HRq := hide (HRep.out _ hS.1)
        have hXx := HXq.out
        clear hS
        go_wp2_with (refine wpList_loadBig rfl 43 _ rfl w2.heap.size 25 [.int .i64 1, .string s0, .slice AE l.length cE, .int .i64 (((i : Nat) : Int) + 1), .int .i64 (((a : Nat) : Int)), .int .i64 (((z : Nat) : Int)), .slice none 0 0, .int .i64 0, .string ⟨#[]⟩, .slice none 0 0, .int .i64 0, .string ⟨#[]⟩, .int .i64 0, .int .i64 0, .string ⟨#[]⟩, .string ⟨#[]⟩, .slice none 0 0, .slice none 0 0, .slice none 0 0, .slice none 0 0, .slice none 0 0, .slice none 0 0, .int .i64 0, .string ⟨#[]⟩, .slice none 0 0] big_def rfl rfl hXx ?_)
        refine (HOne.out _ HBq.out _ _ HRq.out).mono ?_
        rintro e wo ⟨rfl, hb⟩
        have HBo := hide (then_below HBq.out hb)
        clear hb
        go_wp2_with fail
        refine (HAw.out _ HBo.out).mono ?_
        rintro e wo2 ⟨rfl, hb⟩
        have HBo2 := hide (then_below HBo.out hb)
        clear hb
        go_wp2_with fail
        go_ret
        exact ⟨rfl, HG.out _ HBo2.out⟩

end Go.Proofs.YtljoajjlkjjgeaaGreatDoor
