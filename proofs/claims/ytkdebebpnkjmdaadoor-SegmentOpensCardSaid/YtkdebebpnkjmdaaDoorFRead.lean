/-
  The reference's Read: the integer at a place.
-/
import Derived.Test.YtkdebebpnkjmdaaDoorFRef
import Derived.Deep.RegionWith
import Derived.Deep.RegionLaw
import Derived.RegionTactic
import Derived.IntWalk
namespace Go.Proofs.YtkdebebpnkjmdaaDoor
open Go.RowKit

theorem elem_bytes : Tryd.prog.elem 22 = 5 := by kernel_rfl
theorem und_bytes : Tryd.prog.underlying 22 = some (.slice (Tryd.prog.elem 22)) := by rw [elem_bytes]; exact Tryd.underlying22
theorem size_u8 (w : World) : (Go.sizeOf 5).run Tryd.prog w = .ok 1 w := by
  obtain ⟨i0, hi, hz0, hz1, hz2⟩ := info_parts u8_info
  simp [Go.sizeOf, typeInfo, hi, hz1]
theorem slice_lh (b off n c lo hi : Nat) (h1 : lo ≤ hi) (h2 : hi ≤ c) (h3 : lo < c) (l h : Int) (el : l = lo) (eh : h = hi) (w : World) :
    (Instr.slice 22 (.slice (some ⟨b, off, none⟩) n c) (some (.int .i64 l)) (some (.int .i64 h)) none).run Tryd.prog w = .ok (.slice (some ⟨b, off + lo, none⟩) (hi - lo) (c - lo)) w := by
  subst el; subst eh
  rw [run_slice_lh (P := Tryd.prog) w 22 _ _ _ und_bytes .i64 .i64 (lo : Int) (hi : Int) (by omega) (by omega) (by omega), elem_bytes, size_u8]
  simp only [Result.andThen, sliced, Int.toNat_natCast, Option.map_some, Nat.mul_one]
  rw [if_neg (by omega)]
  congr 2
  show some ((⟨b, off, none⟩ : Addr).add lo) = _
  rw [show (⟨b, off, none⟩ : Addr).add lo = ⟨b, off + lo, none⟩ by unfold Addr.add; split <;> simp_all]
theorem valL_drop : ∀ (l : List UInt8) (k : Nat), valL (l.drop k) ≤ valL l
  | l, 0 => by simp
  | [], k + 1 => by simp
  | c :: l, k + 1 => by
    have := valL_drop l k
    rw [List.drop_succ_cons, valL]
    omega
theorem valL_up {l : List UInt8} {i : Nat} (h : i < l.length) : valL (l.drop i) = (l.getD i 0).toNat + 256 * valL (l.drop (i + 1)) := by
  rw [List.drop_eq_getElem_cons h, valL, List.getD_eq_getElem?_getD, List.getElem?_eq_getElem h]
  rfl
/-- What Read tells. -/
def rdN (l : List UInt8) (at' : Nat) : Int := (readI (l.drop at')).elim 0 (·.1)
def rdE (l : List UInt8) (at' : Nat) : Int := (readI (l.drop at')).elim (-1) fun p => ((at' + p.2 : Nat) : Int)
def ReadRes (w : World) (l : List UInt8) (a : Nat) (e : Ending) (w' : World) : Prop := e = .returned (.tuple #[.int .i64 (rdN l a), .int .i64 (rdE l a)]) ∧ Below w.heap.size w w'
theorem rd_none {l : List UInt8} {a : Nat} (h : readI (l.drop a) = none) : rdN l a = 0 ∧ rdE l a = -1 := by unfold rdN rdE; rw [h]; exact ⟨rfl, rfl⟩
theorem rd_some {l : List UInt8} {a : Nat} {n : Int} {k : Nat} (h : readI (l.drop a) = some (n, k)) : rdN l a = n ∧ rdE l a = ((a + k : Nat) : Int) := by unfold rdN rdE; rw [h]; exact ⟨rfl, rfl⟩
theorem ret_two {a b c d : Int} (h1 : a = c) (h2 : b = d) : Ending.returned (.tuple #[.int .i64 a, .int .i64 b]) = .returned (.tuple #[.int .i64 c, .int .i64 d]) := by rw [h1, h2]
theorem drop_at {l : List UInt8} {a : Nat} (h : a < l.length) : l.drop a = l.getD a 0 :: l.drop (a + 1) := by
  rw [List.drop_eq_getElem_cons h, List.getD_eq_getElem?_getD, List.getElem?_eq_getElem h]
  rfl
set_option maxHeartbeats 6400000 in
set_option maxRecDepth 100000 in
theorem refRead_any (A : Option Addr) (c : Nat) (l : List UInt8) (a : Nat) (w : World) (hB : BytesAt w.heap.size w A l) (hc : l.length ≤ c) (hl : l.length ≤ 1073741824) (ha : a ≤ l.length) :
    Calls Tryd.prog 58 #[.slice A l.length c, .int .i64 a] w (ReadRes w l a) := by
  unfold ReadRes
  by_cases hal : a < l.length
  · have hdr := drop_at hal
    obtain ⟨b, off, rfl, hb, hz0⟩ := hB a hal
    have HB := hide hB
    have hz : (l.getD a 0).toNat < 256 := (l.getD a 0).toNat_lt
    have htl : (l.drop (a + 1)).length = l.length - a - 1 := by rw [List.length_drop]; omega
    have HT := hide (fun j (h : j < (l.drop (a + 1)).length) => (show (l.drop (a + 1)).getD j 0 = l.getD (a + 1 + j) 0 by rw [List.getD_eq_getElem?_getD, List.getD_eq_getElem?_getD, List.getElem?_drop]))
    clear hB
    generalize l.getD a 0 = z at *
    generalize l.drop (a + 1) = t at *
    by_cases ho : headOk z.toNat t.length = true
    · simp only [headOk, Bool.and_eq_true, decide_eq_true_eq] at ho
      obtain ⟨⟨h31, h8⟩, hst⟩ := ho
      have HDr := hide hdr
      have hrd : readI (z :: t) = if lastB (t.take (z.toNat % 16)) ≠ 0 ∧ valL (t.take (z.toNat % 16)) < 9223372036854775808 then some (signI z.toNat (valL (t.take (z.toNat % 16))), 1 + z.toNat % 16) else none := by
        rw [readI, if_pos (by simp only [headOk, Bool.and_eq_true, decide_eq_true_eq]; exact ⟨⟨h31, h8⟩, hst⟩)]
      clear hdr
      have h31' : (z.toNat : Int) ≤ 31 := by omega
      obtain ⟨s, hs⟩ : ∃ s, s = z.toNat % 16 := ⟨_, rfl⟩
      rw [← hs] at hrd h8 hst
      have hsi : (z.toNat : Int) % 16 = (s : Int) := by omega
      have hlb : (t.take s).length = s := by rw [List.length_take]; omega
      have HY := hide (fun j (h : j < s) => (show (t.take s).getD j 0 = l.getD (a + (j + 1)) 0 by
        rw [show a + (j + 1) = a + 1 + j by omega, ← HT.out j (by omega), List.getD_eq_getElem?_getD, List.getD_eq_getElem?_getD, List.getElem?_take_of_lt h]))
      have HSl0 := hide (rfl : (z :: t).take (1 + s) = (z :: t).take (1 + s))
      obtain ⟨sl, hsl⟩ : ∃ sl, sl = (z :: t).take (1 + s) := ⟨_, rfl⟩
      have HSl := hide hsl
      have hsll : sl.length = 1 + s := by rw [hsl, List.length_take, List.length_cons]; omega
      have HSlB := hide (show ∀ w', Below w.heap.size w w' → BytesAt w'.heap.size w' (some ⟨b, off + a, none⟩) sl from fun w' h j hj => by
        obtain ⟨b', off', e, hlt, h0⟩ := (HB.out.on h) (a + j) (by omega)
        injection e with e; injection e with ea eb
        subst ea; subst eb
        refine ⟨b, off + a, rfl, hlt, ?_⟩
        rw [Nat.add_assoc, h0, hsl, ← HDr.out, List.getD_eq_getElem?_getD, List.getD_eq_getElem?_getD, List.getElem?_take_of_lt (by omega), List.getElem?_drop])
      have HCv := hide (fun (w' : World) (h : Below w.heap.size w w') (n' c' : Nat) (hn' : n' = sl.length) => (show (convert 22 9 (.slice (some ⟨b, off + a, none⟩) n' c')).run Tryd.prog w' = .ok (.string ⟨sl.toArray⟩) w' from hn' ▸ conv_bytes _ c' sl w' (HSlB.out w' h)))
      clear hsl HSl0
      have HRd := hide hrd
      clear hrd
      have HS := hide hs
      clear hs
      have HTb := hide (show t.take s = t.take s from rfl)
      generalize t.take s = bs at *
      clear HTb HT
      have h8' : (s : Int) ≤ 8 := by omega
      have hst' : (a : Int) + 1 + (s : Int) ≤ (l.length : Int) := by omega
      have hsc : (a : Int) + 1 + (s : Int) ≤ (c : Int) := by omega
      have hac : ¬ c = a := by omega
      have HSlc := hide (fun w' => (show (Instr.slice 22 (.slice (some ⟨b, off, none⟩) l.length c) (some (.int .i64 (a : Int))) (some (.int .i64 ((a : Int) + 1 + (s : Int)))) none).run Tryd.prog w' = .ok (.slice (some ⟨b, off + a, none⟩) (1 + s) (c - a)) w' by rw [slice_lh b off l.length c a (a + 1 + s) (by omega) (by omega) (by omega) _ _ rfl (by omega) w', show a + 1 + s - a = 1 + s by omega]))
      go_enter Tryd.func58, Tryd.ntmps58
      go_wp2_with fail
      go_loop [7, 8] (fun x i => ∃ i0 : Nat, i0 ≤ s ∧ i = .int .i64 i0 ∧ x = .int .i64 (valL (bs.drop i0) : Nat) ∧ valL (bs.drop i0) < 9223372036854775808) (fun _ i => (intOf i).toNat)
      case atStart =>
        refine ⟨s, Nat.le_refl _, rfl, ?_, ?_⟩
        · rw [List.drop_eq_nil_iff.2 (by omega)]; rfl
        · rw [List.drop_eq_nil_iff.2 (by omega)]; decide
      case round =>
        obtain ⟨i0, hi0, rfl, rfl, hVl⟩ := hrel
        by_cases h1 : 1 ≤ i0
        · obtain ⟨j, rfl⟩ : ∃ j, i0 = j + 1 := ⟨i0 - 1, by omega⟩
          obtain ⟨b', off', e, _, hy⟩ := HB.out (a + (j + 1)) (by omega)
          injection e with e; injection e with ea eb
          subst ea; subst eb
          rw [← HY.out j (by omega)] at hy
          have HUp := hide (valL_up (l := bs) (i := j) (by omega))
          have HLe := hide (valL_drop bs j)
          have hyl : (bs.getD j 0).toNat < 256 := (bs.getD j 0).toNat_lt
          generalize bs.getD j 0 = y at *
          generalize valL (bs.drop (j + 1)) = V1 at *
          by_cases hbig : V1 < 36028797018963968
          · have hbig' : ¬ (36028797018963968 : Int) ≤ (V1 : Int) := by omega
            go_wp2_with fail
            go_round
            case rel => exact ⟨j, by omega, by go_num, by rw [HUp.out]; go_num, by rw [HUp.out]; omega⟩
            case measure => simp [intOf]
          · have hbig' : (36028797018963968 : Int) ≤ (V1 : Int) := by omega
            have HN := hide (rd_none (l := l) (a := a) (by rw [HDr.out, HRd.out, if_neg fun hh => by have h2 := hh.2; have h3 := HLe.out; rw [HUp.out] at h3; omega]))
            go_wp2_with fail
            go_ret2
            exact ⟨ret_two HN.out.1.symm HN.out.2.symm, Below.refl _ _⟩
        · obtain rfl : i0 = 0 := by omega
          rw [List.drop_zero] at hVl ⊢
          have hV := hVl
          clear hVl h1 HY
          generalize hVq : valL bs = V at *
          clear hVq
          by_cases h16 : 16 ≤ z.toNat
          · have hm64 : Int64 (-1 - (V : Int)) := ⟨by omega, by omega⟩
            have HI := hide (fun w' => refInt_any (-1 - (V : Int)) w' hm64)
            unfold OwnRes at HI
            have HEq := hide (show (intB (-1 - (V : Int)) = sl) ↔ lastB bs ≠ 0 by
              rw [HSl.out]
              constructor
              · intro h hlast
                have h1 := (readI_iff (l := z :: t) (n := -1 - (V : Int)) (k := 1 + s)).2 ⟨hm64, by rw [h, List.length_take, List.length_cons]; omega, h⟩
                rw [HRd.out, if_neg fun hh => hh.1 hlast] at h1
                cases h1
              · intro h
                have h1 : readI (z :: t) = some (-1 - (V : Int), 1 + s) := by
                  rw [HRd.out, if_pos ⟨h, hV⟩]
                  unfold signI
                  rw [if_pos h16]
                exact intB_readI h1)
            have HMi := hide (show signI z.toNat V = -1 - (V : Int) by unfold signI; rw [if_pos h16])
            have h16' : (16 : Int) ≤ (z.toNat : Int) := by omega
            by_cases hlast : lastB bs = 0
            · have hne : ¬ intB (-1 - (V : Int)) = sl := fun h => HEq.out.1 h hlast
              have HN := hide (rd_none (l := l) (a := a) (by rw [HDr.out, HRd.out, if_neg fun hh => hh.1 hlast]))
              have hstr : (intB (-1 - (V : Int)) == sl) = false := by rw [beq_eq_false_iff_ne]; exact hne
              generalize intB (-1 - (V : Int)) = ib at *
              clear HDr HRd HEq HMi
              have hca := HCv.out w.drew (Below.refl _ _).drew (1 + s) (c - a) hsll.symm
              have hslc := HSlc.out
              have hwa : IntKind.i64.wrap ((a : Int) + 1) = (a : Int) + 1 := IntWalk.i64_in _ (by omega)
              have hwb : IntKind.i64.wrap ((a : Int) + 1 + (s : Int)) = (a : Int) + 1 + (s : Int) := IntWalk.i64_in _ (by omega)
              go_wp2_with fail
              go_region_with (go_at_call 45; refine (HI.out _).mono ?_; rintro e w5 ⟨v5, rfl, hr5, hb5⟩; have hb6 : Below w.heap.size w w5 := (Below.refl _ _).drew.trans hb5; have HB6 := hide hb6; obtain ⟨A5, c5, rfl, hBy5, _, _, _⟩ := bytes_of_row hr5; have hcb := conv_bytes A5 c5 ib w5 hBy5; have hca2 := HCv.out w5 hb6 (1 + s) (c - a) hsll.symm; clear hr5 hb5 hBy5 hb6)
              all_goals
                go_wp2_with fail
                go_ret2
                exact ⟨ret_two (by rw [HN.out.1]) (by rw [HN.out.2]; try omega), HB6.out⟩
            · have heq : intB (-1 - (V : Int)) = sl := HEq.out.2 hlast
              have HN := hide (rd_some (l := l) (a := a) (by rw [HDr.out, HRd.out, if_pos ⟨hlast, hV⟩, HMi.out]))
              have hstr : (intB (-1 - (V : Int)) == sl) = true := by rw [heq, beq_self_eq_true]
              generalize intB (-1 - (V : Int)) = ib at *
              have HQ := hide heq
              clear heq
              clear HDr HRd HEq HMi
              have hca := HCv.out w.drew (Below.refl _ _).drew (1 + s) (c - a) hsll.symm
              have hslc := HSlc.out
              have hwa : IntKind.i64.wrap ((a : Int) + 1) = (a : Int) + 1 := IntWalk.i64_in _ (by omega)
              have hwb : IntKind.i64.wrap ((a : Int) + 1 + (s : Int)) = (a : Int) + 1 + (s : Int) := IntWalk.i64_in _ (by omega)
              go_wp2_with fail
              go_region_with (go_at_call 45; refine (HI.out _).mono ?_; rintro e w5 ⟨v5, rfl, hr5, hb5⟩; have hb6 : Below w.heap.size w w5 := (Below.refl _ _).drew.trans hb5; have HB6 := hide hb6; obtain ⟨A5, c5, rfl, hBy5, _, _, _⟩ := bytes_of_row hr5; have hcb := conv_bytes A5 c5 ib w5 hBy5; have hca2 := HCv.out w5 hb6 (1 + s) (c - a) hsll.symm; clear hr5 hb5 hBy5 hb6)
              all_goals
                go_wp2_with fail
                go_ret2
                exact ⟨ret_two (by rw [HN.out.1]) (by rw [HN.out.2]; try omega), HB6.out⟩
          · have hm64 : Int64 ((V : Int)) := ⟨by omega, by omega⟩
            have HI := hide (fun w' => refInt_any ((V : Int)) w' hm64)
            unfold OwnRes at HI
            have HEq := hide (show (intB ((V : Int)) = sl) ↔ lastB bs ≠ 0 by
              rw [HSl.out]
              constructor
              · intro h hlast
                have h1 := (readI_iff (l := z :: t) (n := (V : Int)) (k := 1 + s)).2 ⟨hm64, by rw [h, List.length_take, List.length_cons]; omega, h⟩
                rw [HRd.out, if_neg fun hh => hh.1 hlast] at h1
                cases h1
              · intro h
                have h1 : readI (z :: t) = some ((V : Int), 1 + s) := by
                  rw [HRd.out, if_pos ⟨h, hV⟩]
                  unfold signI
                  rw [if_neg h16]
                exact intB_readI h1)
            have HMi := hide (show signI z.toNat V = (V : Int) by unfold signI; rw [if_neg h16])
            have h16' : ¬ (16 : Int) ≤ (z.toNat : Int) := by omega
            by_cases hlast : lastB bs = 0
            · have hne : ¬ intB ((V : Int)) = sl := fun h => HEq.out.1 h hlast
              have HN := hide (rd_none (l := l) (a := a) (by rw [HDr.out, HRd.out, if_neg fun hh => hh.1 hlast]))
              have hstr : (intB ((V : Int)) == sl) = false := by rw [beq_eq_false_iff_ne]; exact hne
              generalize intB ((V : Int)) = ib at *
              clear HDr HRd HEq HMi
              have hca := HCv.out w.drew (Below.refl _ _).drew (1 + s) (c - a) hsll.symm
              have hslc := HSlc.out
              have hwa : IntKind.i64.wrap ((a : Int) + 1) = (a : Int) + 1 := IntWalk.i64_in _ (by omega)
              have hwb : IntKind.i64.wrap ((a : Int) + 1 + (s : Int)) = (a : Int) + 1 + (s : Int) := IntWalk.i64_in _ (by omega)
              go_wp2_with fail
              go_region_with (go_at_call 45; refine (HI.out _).mono ?_; rintro e w5 ⟨v5, rfl, hr5, hb5⟩; have hb6 : Below w.heap.size w w5 := (Below.refl _ _).drew.trans hb5; have HB6 := hide hb6; obtain ⟨A5, c5, rfl, hBy5, _, _, _⟩ := bytes_of_row hr5; have hcb := conv_bytes A5 c5 ib w5 hBy5; have hca2 := HCv.out w5 hb6 (1 + s) (c - a) hsll.symm; clear hr5 hb5 hBy5 hb6)
              all_goals
                go_wp2_with fail
                go_ret2
                exact ⟨ret_two (by rw [HN.out.1]) (by rw [HN.out.2]; try omega), HB6.out⟩
            · have heq : intB ((V : Int)) = sl := HEq.out.2 hlast
              have HN := hide (rd_some (l := l) (a := a) (by rw [HDr.out, HRd.out, if_pos ⟨hlast, hV⟩, HMi.out]))
              have hstr : (intB ((V : Int)) == sl) = true := by rw [heq, beq_self_eq_true]
              generalize intB ((V : Int)) = ib at *
              have HQ := hide heq
              clear heq
              clear HDr HRd HEq HMi
              have hca := HCv.out w.drew (Below.refl _ _).drew (1 + s) (c - a) hsll.symm
              have hslc := HSlc.out
              have hwa : IntKind.i64.wrap ((a : Int) + 1) = (a : Int) + 1 := IntWalk.i64_in _ (by omega)
              have hwb : IntKind.i64.wrap ((a : Int) + 1 + (s : Int)) = (a : Int) + 1 + (s : Int) := IntWalk.i64_in _ (by omega)
              go_wp2_with fail
              go_region_with (go_at_call 45; refine (HI.out _).mono ?_; rintro e w5 ⟨v5, rfl, hr5, hb5⟩; have hb6 : Below w.heap.size w w5 := (Below.refl _ _).drew.trans hb5; have HB6 := hide hb6; obtain ⟨A5, c5, rfl, hBy5, _, _, _⟩ := bytes_of_row hr5; have hcb := conv_bytes A5 c5 ib w5 hBy5; have hca2 := HCv.out w5 hb6 (1 + s) (c - a) hsll.symm; clear hr5 hb5 hBy5 hb6)
              all_goals
                go_wp2_with fail
                go_ret2
                exact ⟨ret_two (by rw [HN.out.1]) (by rw [HN.out.2]; try omega), HB6.out⟩
    · have hN := rd_none (l := l) (a := a) (by rw [hdr, readI, if_neg ho])
      have HN := hide hN
      generalize rdN l a = rn at *
      generalize rdE l a = re at *
      simp only [headOk, Bool.and_eq_true, decide_eq_true_eq] at ho
      clear hdr hN
      by_cases h31 : z.toNat ≤ 31
      · by_cases h8 : z.toNat % 16 ≤ 8
        · have hlong : ¬ (a : Int) + 1 + (z.toNat : Int) % 16 ≤ (l.length : Int) := by omega
          have h8' : (z.toNat : Int) % 16 ≤ 8 := by omega
          clear ho
          go_enter Tryd.func58, Tryd.ntmps58
          go_wp2_with fail
          go_ret2
          exact ⟨ret_two HN.out.1.symm HN.out.2.symm, Below.refl _ _⟩
        · have h8' : ¬ (z.toNat : Int) % 16 ≤ 8 := by omega
          clear ho
          go_enter Tryd.func58, Tryd.ntmps58
          go_wp2_with fail
          go_ret2
          exact ⟨ret_two HN.out.1.symm HN.out.2.symm, Below.refl _ _⟩
      · have h31' : ¬ (z.toNat : Int) ≤ 31 := by omega
        clear ho
        go_enter Tryd.func58, Tryd.ntmps58
        go_wp2_with fail
        go_ret2
        exact ⟨ret_two HN.out.1.symm HN.out.2.symm, Below.refl _ _⟩
  · obtain rfl : a = l.length := by omega
    have hN := rd_none (l := l) (a := l.length) (by rw [List.drop_length]; rfl)
    have HN := hide hN
    generalize rdN l l.length = rn at *
    generalize rdE l l.length = re at *
    clear hB hN
    go_enter Tryd.func58, Tryd.ntmps58
    go_wp2_with fail
    go_ret2
    exact ⟨ret_two HN.out.1.symm HN.out.2.symm, Below.refl _ _⟩
end Go.Proofs.YtkdebebpnkjmdaaDoor
