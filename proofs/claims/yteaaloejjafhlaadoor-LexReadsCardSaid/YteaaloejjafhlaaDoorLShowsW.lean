/-
  LexShows: its walk.
-/
import Derived.Test.YteaaloejjafhlaaDoorLAwake
namespace Go.Proofs.YteaaloejjafhlaaDoor
open Go.RowKit Go.Sort LM
theorem lexA_form (l : List UInt8) : (lexA l).2.2 = 0 ∨ (lexA l).1 = [] := by
  unfold lexA
  split
  · exact Or.inr rfl
  · exact lexF_form _ _ _
theorem keys_len {M L : List Tk} (h : M.map keyT = L.map keyT) : M.length = L.length := by have := congrArg List.length h; simpa using this
theorem keys_at {M L : List Tk} (h : M.map keyT = L.map keyT) {j : Nat} (h1 : j < M.length) (h2 : j < L.length) : M[j].k = L[j].k ∧ M[j].t = L[j].t ∧ M[j].n = L[j].n := by
  have e : (M.map keyT)[j]? = (L.map keyT)[j]? := by rw [h]
  rw [List.getElem?_map, List.getElem?_map, List.getElem?_eq_getElem h1, List.getElem?_eq_getElem h2] at e
  simp only [Option.map_some, Option.some.injEq, keyT, Prod.mk.injEq] at e
  exact e
theorem ToksAt.at {B : Nat} {w : World} {A : Option Addr} {L : List Tk} (h : ToksAt B w A L) {j : Nat} (hj : j < L.length) : ∃ b off, A = some ⟨b, off, none⟩ ∧ b < B ∧ w.cell? ⟨b, off + j * 4, none⟩ = some (.int .i64 L[j].k) ∧ w.cell? ⟨b, off + j * 4 + 1, none⟩ = some (txt L[j].t) ∧ w.cell? ⟨b, off + j * 4 + 2, none⟩ = some (.int .i64 L[j].n) ∧ w.cell? ⟨b, off + j * 4 + 3, none⟩ = some (.int .i64 (L[j].at' : Nat)) := h j hj
theorem glue_take (G : Nat → List UInt8) (L : List Tk) {j : Nat} (hj : j < L.length) : glue G 0 (L.take (j + 1)) = glue G 0 (L.take j) ++ (shT L[j] ++ G j) := by
  rw [List.take_succ_eq_append_getElem hj, glue_snoc, Nat.zero_add, List.length_take, Nat.min_eq_left (by omega)]
theorem valT_facts {x : Tk} (h : ValT x) : (x.k = 1 ∨ x.k = 2 ∨ x.k = 3 ∨ x.k = 4) ∧ 0 ≤ x.n ∧ x.n ≤ 9223372036854775807 ∧ x.t.length ≤ 64 ∧ (x.k = 3 → x.t.all okByte = true) := by
  obtain ⟨l, m, e⟩ := h
  obtain ⟨-, -, -, h1, h2, h3, h4, -, h5⟩ := tok_some e
  exact ⟨h1, h2, h3, h4, h5⟩
theorem tokShow_val (x : Tk) (a : Int) (w : World) (hT : Tab w) (h : ValT x) : Calls Tryd.prog 12 #[vT x.k x.t x.n a] w fun e w' => e = .returned (txt (shT x)) ∧ Below w.heap.size w w' := by
  obtain ⟨h1, h2, h3, h4, h5⟩ := valT_facts h
  exact tokShow_any x.k x.n a x.t w hT h1 h2 h3 h4 h5
abbrev G32 : Nat → List UInt8 := fun _ => [32]
theorem g32_ok (i : Nat) : ∃ c r, G32 i = c :: r ∧ sepB c = true := ⟨32, [], rfl, rfl⟩
theorem g32_gap (i : Nat) : GapOk (G32 i) := gap_blank [32] (by rfl)
namespace lexShows

set_option maxRecDepth 100000 in
set_option maxHeartbeats 8000000 in
theorem lexShows_walk (s : ByteArray) (w : World) (hs : s.size ≤ maxLen) (hL : Lw w) :
    Calls Tryd.prog 4 #[.string s] w fun e w' => e = .returned (.bool true) ∧ Below w.heap.size w w' := by
  unfold maxLen at hs
  have HA := hide (fun w1 (hb : Below w.heap.size w w1) => awake_any w1 (hL.on hb))
  have HB0 := hide (Below.refl w.heap.size w)
  by_cases hbig : 2000 < s.size
  · go_enter Tryd.func4, Tryd.ntmps4
    go_wp2_with fail
    refine (HA.out _ HB0.out).mono ?_
    rintro e w1 ⟨rfl, hb⟩
    have HB := hide hb
    clear hb
    go_wp2_with fail
    go_ret
    exact ⟨rfl, HB.out⟩
  have hlen : s.data.toList.length = s.size := Array.length_toList
  have HLx := hide (lex_any s w hL (by omega))
  obtain ⟨hv, hv2, hv3⟩ := lexA_val s.data.toList
  have hform := lexA_form s.data.toList
  rw [hlen] at hv2 hv3
  have HLw := hide hL
  clear hL
  generalize lexA s.data.toList = X at *
  obtain ⟨L, p, z⟩ := X
  simp only at hv hv2 hv3 hform
  by_cases hz : z = 0
  rotate_left 1
  · obtain rfl : L = [] := by rcases hform with h | h; exact absurd h hz; exact h
    have hzb : (z != 0) = true := by simpa using hz
    clear hv hv2 hv3 hform hlen
    go_enter Tryd.func4, Tryd.ntmps4
    go_wp2_with fail
    refine HLx.out.mono ?_
    rintro e w1 ⟨⟨A, c, rfl, -⟩, hb⟩
    have HB := hide hb
    clear hb HLx
    simp only [List.length_nil]
    go_wp2_with fail
    refine (HA.out _ HB.out).mono ?_
    rintro e w2 ⟨rfl, hb⟩
    have HB2 := hide (HB.out.trans (hb.mono HB.out.size))
    clear hb
    go_wp2_with fail
    go_ret
    exact ⟨rfl, HB2.out⟩
  subst hz
  have hgl := fun j => glue_len (G := G32) (B := 1) (fun i => Nat.le_refl _) (L.take j) 0
  have hall := glue_all g32_ok g32_gap (g := []) (fun r => by simp) L hv (by have := glue_len (G := G32) (B := 1) (fun i => Nat.le_refl _) L 0; simp; omega)
  rw [List.nil_append] at hall
  obtain ⟨M, q, hM, hk⟩ := hall
  have hML := keys_len hk
  have HLx2 := hide (fun w1 (hL : Lw w1) (hz : (glue G32 0 L).length ≤ 10000) => lex_any ⟨(glue G32 0 L).toArray⟩ w1 hL (by rw [size_of]; omega))
  rw [list_of, hM] at HLx2
  have HK := hide hk
  have HV := hide hv
  have HGL : Hid (∀ j, (glue G32 0 (L.take j)).length ≤ 5000) := hide fun j => by
    have h1 := hgl j
    have h2 : lenT (L.take j) ≤ lenT L := by
      unfold lenT
      have : L = L.take j ++ L.drop j := (List.take_append_drop j L).symm
      conv => rhs; rw [this, List.map_append, List.sum_append]
      omega
    have h3 : (L.take j).length ≤ L.length := by rw [List.length_take]; omega
    omega
  clear hgl hM hk hv hform hlen
  go_enter Tryd.func4, Tryd.ntmps4
  go_wp2_with fail
  refine HLx.out.mono ?_
  rintro e w1 ⟨⟨A, c, rfl, hA⟩, hb⟩
  simp only at hA ⊢
  have HB1 := hide hb
  have HA1 := hide hA
  clear hb HLx hA
  go_wp2_with fail
  go_loopw [6, 33] (fun t i wr => ∃ j : Nat, i = .int .i64 j ∧ j ≤ L.length ∧ t = txt (glue G32 0 (L.take j)) ∧ Hid (Below w1.heap.size w1 wr)) (fun _ i _ => L.length - (intOf i).toNat)
  case atStart => exact ⟨0, rfl, Nat.zero_le _, rfl, hide (Below.refl _ _)⟩
  case round =>
    obtain ⟨j, rfl, hj, rfl, HBr⟩ := hrel
    by_cases hlt : j < L.length
    · obtain ⟨b, off, rfl, hbl, c0, c1, c2, c3⟩ := (HA1.out.below HBr.out).at hlt
      have HTk := hide (glue_take G32 L hlt)
      have HSh := hide (fun w1 hT => tokShow_val L[j] (L[j].at' : Nat) w1 hT (HV.out _ (List.getElem_mem hlt)))
      have hgj := HGL.out j
      have hgj1 := HGL.out (j + 1)
      rw [HTk.out] at hgj1
      simp only [List.length_append] at hgj1
      generalize L[j] = x at c0 c1 c2 c3 HTk HSh hgj1
      generalize glue G32 0 (L.take j) = T at *
      have hsz := HBr.out.size
      go_wp2_with fail
      refine (HSh.out _ (HLw.out.tab.stays (HB1.out.trans ((HBr.out.mono HB1.out.size).trans ((Below.refl _ _).alloc (by have := HB1.out.size; omega) _))) (Nat.le_refl _))).mono ?_
      rintro e w2 ⟨rfl, hb⟩
      have HB2 := hide (HBr.out.trans (((Below.refl _ _).alloc (Nat.le_refl _) _).trans (hb.mono (by simp)) |>.mono hsz))
      clear hb HSh
      go_wp2_with fail
      go_roundw
      case rel =>
        refine ⟨j + 1, by go_num, by omega, ?_, HB2⟩
        rw [HTk.out]
        show Value.string (⟨T.toArray⟩ ++ (⟨(shT x).toArray⟩ ++ ⟨([32] : List UInt8).toArray⟩)) = _
        rw [cat_eq, cat_eq]
      case measure => simp [intOf]; omega
    · obtain rfl : j = L.length := by omega
      have hgj := HGL.out L.length
      rw [List.take_length] at hgj ⊢
      have HBw := hide (HB1.out.trans (HBr.out.mono HB1.out.size))
      have HLy := hide (HLx2.out wr (HLw.out.on HBw.out) (by omega))
      clear HLx2 HV HGL
      generalize glue G32 0 L = T at *
      go_wp2_with fail
      refine HLy.out.mono ?_
      rintro e w2 ⟨⟨A', c', rfl, hA⟩, hb⟩
      simp only at hA ⊢
      have HB2 := hide (HBw.out.trans (hb.mono HBw.out.size))
      have HM2 := hide hA
      have HA2 := hide ((HA1.out.on HBr.out).on hb)
      clear hb HLy hA HA1
      rw [hML]
      go_wp2_with fail
      go_loopw [60] (fun i wr => ∃ j : Nat, i = .int .i64 j ∧ j ≤ L.length ∧ Hid (Below w2.heap.size w2 wr)) (fun i _ => L.length - (intOf i).toNat)
      case atStart => exact ⟨0, rfl, Nat.zero_le _, hide (Below.refl _ _)⟩
      case round =>
        obtain ⟨j, rfl, hj, HBs⟩ := hrel
        by_cases hlt : j < L.length
        · have hltM : j < M.length := by omega
          obtain ⟨b, off, rfl, hbl, c0, c1, c2, -⟩ := (HA2.out.below HBs.out).at hlt
          obtain ⟨b', off', rfl, hbl', d0, d1, d2, -⟩ := (HM2.out.below HBs.out).at hltM
          obtain ⟨k1, k2, k3⟩ := keys_at HK.out hltM hlt
          rw [k1] at d0
          rw [k2] at d1
          rw [k3] at d2
          clear k1 k2 k3
          generalize L[j] = x at *
          go_wp2_with fail
          go_quiet (fail)
          go_wp2_with fail
          go_roundw
          case rel => exact ⟨j + 1, by go_num, by omega, hide (HBs.out.trans (Joins.below_draws _ _ _))⟩
          case measure => simp [intOf]; omega
        · have HBz := hide (HB2.out.trans (HBs.out.mono HB2.out.size))
          go_wp2_with fail
          refine (HA.out _ HBz.out).mono ?_
          rintro e w4 ⟨rfl, hb⟩
          have HB4 := hide (HBz.out.trans (hb.mono HBz.out.size))
          clear hb
          go_wp2_with fail
          go_ret
          exact ⟨rfl, HB4.out⟩
end lexShows
end Go.Proofs.YteaaloejjafhlaaDoor
