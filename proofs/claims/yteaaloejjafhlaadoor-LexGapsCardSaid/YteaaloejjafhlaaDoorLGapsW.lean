/-
  LexGaps: its walk.
-/
import Derived.Test.YteaaloejjafhlaaDoorLShowsW
import Derived.Lib.ConvBytes
namespace Go.Proofs.YteaaloejjafhlaaDoor.lexGaps
open Go.RowKit Go.Sort LM

/-- What stands behind a token. -/
def GG (g : List UInt8) (j : Nat) : List UInt8 := (g ++ (35 :: g)) ++ ((if j % 2 = 0 ∨ g = [] then [10] else []) ++ [32, 10])
theorem blank_sep {c : UInt8} (h : blankB c = true) : sepB c = true := by
  unfold blankB at h; unfold sepB; simp at h ⊢
  rcases h with (h | h) | h <;> simp [h]
theorem blanks_sep {g : List UInt8} (h : g.all blankB = true) : g.all sepB = true := by
  rw [List.all_eq_true] at h ⊢
  exact fun c hc => blank_sep (h c hc)
theorem gg_ok {g : List UInt8} (h : g.all blankB = true) (j : Nat) : (∃ c r, GG g j = c :: r ∧ sepB c = true) ∧ GapOk (GG g j) := by
  have hs := blanks_sep h
  have e : GG g j = ((g ++ (35 :: g)) ++ ((if j % 2 = 0 ∨ g = [] then [10] else []) ++ [32])) ++ [10] := by unfold GG; simp
  refine ⟨?_, ?_⟩
  · unfold GG
    cases g with
    | nil => exact ⟨35, _, rfl, rfl⟩
    | cons c r => rw [List.all_cons, Bool.and_eq_true] at hs; exact ⟨c, _, rfl, hs.1⟩
  · rw [e]
    refine gap_lineOk ?_
    have h1 : (if j % 2 = 0 ∨ g = [] then ([10] : List UInt8) else []).all sepB = true := by split <;> rfl
    simp only [List.all_append, List.all_cons, hs, h1]
    rfl
theorem gg_len {g : List UInt8} (h : g.length ≤ 50) (j : Nat) : (GG g j).length ≤ 104 := by
  unfold GG
  have h1 : (if j % 2 = 0 ∨ g = [] then ([10] : List UInt8) else []).length ≤ 1 := by split <;> simp
  simp only [List.length_append, List.length_cons, List.length_nil]; omega
theorem gg_yes {g : List UInt8} {j : Nat} (h : j % 2 = 0 ∨ g = []) : GG g j = (g ++ (35 :: g)) ++ ([10] ++ [32, 10]) := by unfold GG; rw [if_pos h]
theorem gg_no {g : List UInt8} {j : Nat} (h : ¬ (j % 2 = 0 ∨ g = [])) : GG g j = (g ++ (35 :: g)) ++ [32, 10] := by unfold GG; rw [if_neg h]; rfl

set_option maxRecDepth 100000 in
set_option maxHeartbeats 8000000 in
theorem lexGaps_walk (s g : ByteArray) (w : World) (hs : s.size ≤ maxLen) (hg : g.size ≤ maxLen) (hL : Lw w) :
    Calls Tryd.prog 5 #[.string s, .string g] w fun e w' => e = .returned (.bool true) ∧ Below w.heap.size w w' := by
  unfold maxLen at hs hg
  have HA := hide (fun w1 (hb : Below w.heap.size w w1) => awake_any w1 (hL.on hb))
  have HB0 := hide (Below.refl w.heap.size w)
  by_cases hbig : 1000 < s.size
  · go_enter Tryd.func5, Tryd.ntmps5
    go_wp2_with fail
    refine (HA.out _ HB0.out).mono ?_
    rintro e w1 ⟨rfl, hb⟩
    have HB := hide hb
    clear hb
    go_wp2_with fail
    go_ret
    exact ⟨rfl, HB.out⟩
  by_cases hbig2 : 50 < g.size
  · go_enter Tryd.func5, Tryd.ntmps5
    go_wp2_with fail
    refine (HA.out _ HB0.out).mono ?_
    rintro e w1 ⟨rfl, hb⟩
    have HB := hide hb
    clear hb
    go_wp2_with fail
    go_ret
    exact ⟨rfl, HB.out⟩
  have hcv := Lib.run_convert_string_bytes (P := Tryd.prog) w 9 35 5 g Tryd.underlying9 Tryd.underlying35 Tryd.underlying5
  have HCe := hide (fun j hj => Lib.bytesWorld_cell w 5 g j hj)
  have HBW := hide (below_bytes w 5 g)
  generalize Lib.bytesWorld w 5 g = W at *
  generalize grownCap w g.size 0 5 = cap at *
  have hlen : s.data.toList.length = s.size := Array.length_toList
  have hglen : g.data.toList.length = g.size := Array.length_toList
  obtain ⟨gl, hgl⟩ : ∃ gl, gl = g.data.toList := ⟨_, rfl⟩
  have HG : Hid (g = ⟨gl.toArray⟩) := hide (of_data hgl.symm)
  have HEm : Hid (g.toList.isEmpty = decide (gl = [])) := hide (by rw [Lib.toList_data, ← hgl, Bool.eq_iff_iff, List.isEmpty_iff, decide_eq_true_iff])
  rw [← hgl] at HCe hglen
  have HLx := hide (lex_any s W (hL.on HBW.out) (by omega))
  obtain ⟨hv, hv2, hv3⟩ := lexA_val s.data.toList
  have hform := lexA_form s.data.toList
  rw [hlen] at hv2 hv3
  have HLw := hide hL
  clear hL
  generalize lexA s.data.toList = X at *
  obtain ⟨L, p, z⟩ := X
  simp only at hv hv2 hv3 hform
  have HV := hide hv
  clear hv hform
  go_enter Tryd.func5, Tryd.ntmps5
  go_wp2_with fail
  clear hcv
  have HCs : Hid (W.heap.size = W.heap.size) := hide rfl
  have HBlk0 : Hid ((gl.take 0).all blankB = true) := hide rfl
  go_loop [29] (fun i => ∃ j : Nat, i = .int .i64 j ∧ j ≤ g.size ∧ Hid ((gl.take j).all blankB = true)) (fun i => g.size - (intOf i).toNat)
  case atStart => exact ⟨0, rfl, Nat.zero_le _, HBlk0⟩
  case round =>
    obtain ⟨j, rfl, hj, HBk⟩ := hrel
    clear HBlk0
    by_cases hlt : j < g.size
    · have hc := HCe.out j hlt
      have hjl : j < gl.length := by omega
      have HSn : Hid ((gl.take (j + 1)).all blankB = ((gl.take j).all blankB && blankB (gl.getD j 0))) := hide (by
        rw [List.take_succ_eq_append_getElem hjl, List.all_append, List.getD_eq_getElem?_getD, List.getElem?_eq_getElem hjl]
        simp)
      generalize gl.getD j 0 = c at *
      by_cases h1 : c = 32
      · have t1 : ((c.toNat : Int) != 32) = false := byte_bne_no c 32 (by decide) h1
        have HN : Hid ((gl.take (j + 1)).all blankB = true) := hide (by rw [HSn.out, HBk.out, h1]; rfl)
        clear HSn h1
        go_wp2_with fail
        go_round
        case rel => exact ⟨j + 1, by go_num, by omega, HN⟩
        case measure => simp [intOf]; omega
      have t1 : ((c.toNat : Int) != 32) = true := byte_bne_yes c 32 (by decide) h1
      by_cases h2 : c = 9
      · have t2 : ((c.toNat : Int) != 9) = false := byte_bne_no c 9 (by decide) h2
        have HN : Hid ((gl.take (j + 1)).all blankB = true) := hide (by rw [HSn.out, HBk.out, h2]; rfl)
        clear HSn h1 h2
        go_wp2_with fail
        go_round
        case rel => exact ⟨j + 1, by go_num, by omega, HN⟩
        case measure => simp [intOf]; omega
      have t2 : ((c.toNat : Int) != 9) = true := byte_bne_yes c 9 (by decide) h2
      by_cases h3 : c = 10
      · have t3 : ((c.toNat : Int) != 10) = false := byte_bne_no c 10 (by decide) h3
        have HN : Hid ((gl.take (j + 1)).all blankB = true) := hide (by rw [HSn.out, HBk.out, h3]; rfl)
        clear HSn h1 h2 h3
        go_wp2_with fail
        go_round
        case rel => exact ⟨j + 1, by go_num, by omega, HN⟩
        case measure => simp [intOf]; omega
      have t3 : ((c.toNat : Int) != 10) = true := byte_bne_yes c 10 (by decide) h3
      clear HSn h1 h2 h3
      go_wp2_with fail
      refine (HA.out _ HBW.out).mono ?_
      rintro e w1 ⟨rfl, hb⟩
      have HB := hide (HBW.out.trans (hb.mono HBW.out.size))
      clear hb
      go_wp2_with fail
      go_ret
      exact ⟨rfl, HB.out⟩
    · obtain rfl : j = g.size := by omega
      have HBl : Hid (gl.all blankB = true) := hide (by have := HBk.out; rw [← hglen, List.take_length] at this; exact this)
      clear HBk HCe
      go_wp2_with fail
      refine HLx.out.mono ?_
      rintro e w1 ⟨⟨A, c, rfl, hA⟩, hb⟩
      simp only at hA ⊢
      have HB1 := hide (HBW.out.trans (hb.mono HBW.out.size))
      have HA1 := hide hA
      clear hb HLx hA
      by_cases hz : z = 0
      rotate_left 1
      · have hzb : (z != 0) = true := by simpa using hz
        go_wp2_with fail
        refine (HA.out _ HB1.out).mono ?_
        rintro e w2 ⟨rfl, hb⟩
        have HB := hide (HB1.out.trans (hb.mono HB1.out.size))
        clear hb
        go_wp2_with fail
        go_ret
        exact ⟨rfl, HB.out⟩
      subst hz
      have HGO := hide (fun j => gg_ok HBl.out j)
      have HGL : Hid (∀ j, (gl ++ glue (GG gl) 0 (L.take j)).length ≤ 200000) := hide fun j => by
        have h1 := glue_len (G := GG gl) (B := 104) (fun i => gg_len (by omega) i) (L.take j) 0
        have h2 : lenT (L.take j) ≤ lenT L := by
          unfold lenT
          have : L = L.take j ++ L.drop j := (List.take_append_drop j L).symm
          conv => rhs; rw [this, List.map_append, List.sum_append]
          omega
        have h3 : (L.take j).length ≤ L.length := by rw [List.length_take]; omega
        simp only [List.length_append]; omega
      have HT0 : Hid (Value.string g = txt (gl ++ glue (GG gl) 0 (L.take 0))) := hide (by rw [List.take_zero, show glue (GG gl) 0 [] = [] from rfl, List.append_nil, HG.out])
      go_wp2_with fail
      go_loopw [10, 57] (fun t i wr => ∃ j : Nat, i = .int .i64 j ∧ j ≤ L.length ∧ t = txt (gl ++ glue (GG gl) 0 (L.take j)) ∧ Hid (Below w1.heap.size w1 wr)) (fun _ i _ => L.length - (intOf i).toNat)
      case atStart => exact ⟨0, rfl, Nat.zero_le _, HT0.out, hide (Below.refl _ _)⟩
      case round =>
        obtain ⟨j, rfl, hj, rfl, HBr⟩ := hrel
        clear HT0
        by_cases hlt : j < L.length
        · obtain ⟨b, off, rfl, hbl, c0, c1, c2, c3⟩ := (HA1.out.below HBr.out).at hlt
          have HTk : Hid (gl ++ glue (GG gl) 0 (L.take (j + 1)) = (gl ++ glue (GG gl) 0 (L.take j)) ++ (shT L[j] ++ GG gl j)) := hide (by rw [glue_take (GG gl) L hlt, List.append_assoc])
          have HSh := hide (fun w1 hT => tokShow_val L[j] (L[j].at' : Nat) w1 hT (HV.out _ (List.getElem_mem hlt)))
          have hgj := HGL.out j
          have hgj1 := HGL.out (j + 1)
          rw [HTk.out] at hgj1
          simp only [List.length_append] at hgj1
          have hgj2 : (shT L[j]).length ≤ 200000 := by omega
          generalize L[j] = x at c0 c1 c2 c3 HTk HSh hgj1 hgj2
          generalize gl ++ glue (GG gl) 0 (L.take j) = T at *
          have hsz := HBr.out.size
          clear hgj1
          by_cases hpar : j % 2 = 0
          · have p1 : ((j : Int) % 2 == 0) = true := by simp; omega
            have p2 : ((j : Int).tmod 2 == 0) = true := by rw [Int.tmod_eq_emod_of_nonneg (by omega)]; exact p1
            have HY := hide (gg_yes (g := gl) (j := j) (Or.inl hpar))
            rw [HY.out] at HTk
            clear HY
            go_wp2_with fail
            refine (HSh.out _ (HLw.out.tab.stays (HB1.out.trans ((HBr.out.mono HB1.out.size).trans ((Below.refl _ _).alloc (by have := HB1.out.size; omega) _))) (Nat.le_refl _))).mono ?_
            rintro e w2 ⟨rfl, hb⟩
            have HB2 := hide (HBr.out.trans (((Below.refl _ _).alloc (Nat.le_refl _) _).trans (hb.mono (by simp)) |>.mono hsz))
            clear hb HSh
            go_wp2_with fail
            go_roundw
            case rel =>
              refine ⟨j + 1, by go_num, by omega, ?_, HB2⟩
              rw [HTk.out, HG.out]
              simp only [cat_eq, List.append_assoc, List.cons_append, List.nil_append]
            case measure => simp [intOf]; omega
          by_cases hemp : gl = []
          · have p1 : ((j : Int) % 2 == 0) = false := by simp; omega
            have p2 : ((j : Int).tmod 2 == 0) = false := by rw [Int.tmod_eq_emod_of_nonneg (by omega)]; exact p1
            have p3 : g.toList.isEmpty = true := by rw [HEm.out, decide_eq_true hemp]
            have HY := hide (gg_yes (g := gl) (j := j) (Or.inr hemp))
            rw [HY.out] at HTk
            clear HY
            go_wp2_with fail
            refine (HSh.out _ (HLw.out.tab.stays (HB1.out.trans ((HBr.out.mono HB1.out.size).trans ((Below.refl _ _).alloc (by have := HB1.out.size; omega) _))) (Nat.le_refl _))).mono ?_
            rintro e w2 ⟨rfl, hb⟩
            have HB2 := hide (HBr.out.trans (((Below.refl _ _).alloc (Nat.le_refl _) _).trans (hb.mono (by simp)) |>.mono hsz))
            clear hb HSh
            go_wp2_with fail
            go_roundw
            case rel =>
              refine ⟨j + 1, by go_num, by omega, ?_, HB2⟩
              rw [HTk.out, HG.out]
              simp only [cat_eq, List.append_assoc, List.cons_append, List.nil_append]
            case measure => simp [intOf]; omega
          · have p1 : ((j : Int) % 2 == 0) = false := by simp; omega
            have p2 : ((j : Int).tmod 2 == 0) = false := by rw [Int.tmod_eq_emod_of_nonneg (by omega)]; exact p1
            have p3 : g.toList.isEmpty = false := by rw [HEm.out, decide_eq_false hemp]
            have HY := hide (gg_no (g := gl) (j := j) (by rintro (h | h); exact hpar h; exact hemp h))
            rw [HY.out] at HTk
            clear HY
            go_wp2_with fail
            refine (HSh.out _ (HLw.out.tab.stays (HB1.out.trans ((HBr.out.mono HB1.out.size).trans ((Below.refl _ _).alloc (by have := HB1.out.size; omega) _))) (Nat.le_refl _))).mono ?_
            rintro e w2 ⟨rfl, hb⟩
            have HB2 := hide (HBr.out.trans (((Below.refl _ _).alloc (Nat.le_refl _) _).trans (hb.mono (by simp)) |>.mono hsz))
            clear hb HSh
            go_wp2_with fail
            go_roundw
            case rel =>
              refine ⟨j + 1, by go_num, by omega, ?_, HB2⟩
              rw [HTk.out, HG.out]
              simp only [cat_eq, List.append_assoc, List.cons_append, List.nil_append]
            case measure => simp [intOf]; omega
        · obtain rfl : j = L.length := by omega
          have hgj := HGL.out L.length
          rw [List.take_length] at hgj ⊢
          have HBw := hide (HB1.out.trans (HBr.out.mono HB1.out.size))
          have HLy := hide (lex_any ⟨(gl ++ glue (GG gl) 0 L).toArray⟩ wr (HLw.out.on HBw.out) (by rw [size_of]; omega))
          rw [list_of] at HLy
          by_cases hbt : (gl ++ glue (GG gl) 0 L).length ≤ 16384
          · obtain ⟨M, q, hM, hk⟩ := glue_all (fun j => (HGO.out j).1) (fun j => (HGO.out j).2) (gap_blank gl HBl.out) L HV.out hbt
            rw [hM] at HLy
            have hML := keys_len hk
            have HK := hide hk
            clear hM hk HV HGL HGO
            generalize gl ++ glue (GG gl) 0 L = T at *
            go_wp2_with fail
            refine HLy.out.mono ?_
            rintro e w2 ⟨⟨A', c', rfl, hA⟩, hb⟩
            simp only at hA ⊢
            have HB2 := hide (HBw.out.trans (hb.mono HBw.out.size))
            have HM2 := hide hA
            have HA2 := hide ((HA1.out.on HBr.out).on hb)
            clear hb HLy hA HA1
            rw [hML]
            go_wp2_with fail
            go_loopw [110] (fun i wr => ∃ j : Nat, i = .int .i64 j ∧ j ≤ L.length ∧ Hid (Below w2.heap.size w2 wr)) (fun i _ => L.length - (intOf i).toNat)
            case atStart => exact ⟨0, rfl, Nat.zero_le _, hide (Below.refl _ _)⟩
            case round =>
              obtain ⟨j, rfl, hj, HBs⟩ := hrel
              by_cases hlt : j < L.length
              · have hltM : j < M.length := by omega
                obtain ⟨b, off, rfl, hbl, c0, c1, c2, -⟩ := (HA2.out.below HBs.out).at hlt
                obtain ⟨b', off', rfl, hbl', d0, d1, d2, -⟩ := (HM2.out.below HBs.out).at hltM
                obtain ⟨k1, k2, k3⟩ := keys_at HK.out hltM hlt
                rw [k1] at d0
                rw [k2] at d1
                rw [k3] at d2
                clear k1 k2 k3
                generalize L[j] = x at *
                go_wp2_with fail
                go_quiet (fail)
                go_wp2_with fail
                go_roundw
                case rel => exact ⟨j + 1, by go_num, by omega, hide (HBs.out.trans (Joins.below_draws _ _ _))⟩
                case measure => simp [intOf]; omega
              · have HBz := hide (HB2.out.trans (HBs.out.mono HB2.out.size))
                go_wp2_with fail
                refine (HA.out _ HBz.out).mono ?_
                rintro e w4 ⟨rfl, hb⟩
                have HB4 := hide (HBz.out.trans (hb.mono HBz.out.size))
                clear hb
                go_wp2_with fail
                go_ret
                exact ⟨rfl, HB4.out⟩
          · have hX : lexA (gl ++ glue (GG gl) 0 L) = ([], 0, 31) := by unfold lexA; rw [if_pos (by omega)]
            rw [hX] at HLy
            clear hX HV HGL HGO
            generalize gl ++ glue (GG gl) 0 L = T at *
            have hbt2 : 16384 < T.length := by omega
            go_wp2_with fail
            refine HLy.out.mono ?_
            rintro e w2 ⟨⟨A', c', rfl, hA⟩, hb⟩
            simp only [List.length_nil] at hA ⊢
            have HB2 := hide (HBw.out.trans (hb.mono HBw.out.size))
            clear hb HLy hA HA1
            go_wp2_with fail
            refine (HA.out _ HB2.out).mono ?_
            rintro e w3 ⟨rfl, hb⟩
            have HB := hide (HB2.out.trans (hb.mono HB2.out.size))
            clear hb
            go_wp2_with fail
            go_ret
            exact ⟨rfl, HB.out⟩
end Go.Proofs.YteaaloejjafhlaaDoor.lexGaps
