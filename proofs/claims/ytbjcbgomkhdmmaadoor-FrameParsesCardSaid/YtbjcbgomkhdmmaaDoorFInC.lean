/-
  The decoder: columns.
-/
import Derived.Test.YtbjcbgomkhdmmaaDoorFInR
namespace Go.Proofs.YtbjcbgomkhdmmaaDoor
open Go.RowKit

def ColsRes (lo : Nat → Prop) (g : Nat) (w : World) (l : List UInt8) (e : Ending) (w' : World) : Prop :=
  (∃ A c cs r, e = .returned (.slice A cs.length c) ∧ colsP l = some (cs, r) ∧ ColsAt w'.heap.size w' A cs ∧ (A = none → c = 0) ∧ (∀ a, A = some a → w.heap.size ≤ a.block) ∧ InAt lo g w' r false ∧ OnlyG g w w') ∨
  (e = .returned (.slice none 0 0) ∧ colsP l = none ∧ InAt lo g w' [] true ∧ OnlyG g w w')
theorem colsNew {w : World} {base : Nat} {e : TypeId} {v : Value} {cs : List (ByteArray × Int)} (h : w.ownsRow base e 2 v cs.length (colCells cs)) :
    ∃ A cap, v = .slice A cs.length cap ∧ ColsAt w.heap.size w A cs ∧ (A = none → cap = 0) ∧ ∀ a, A = some a → base ≤ a.block := by
  obtain ⟨A, cap, rfl, hA⟩ := cols_of_row h
  refine ⟨A, cap, rfl, hA, ?_, ?_⟩
  · rintro rfl
    rcases h.2 with ⟨e, _⟩ | ⟨g, c, cur, e, _⟩
    · injection e
    · injection e with e1; cases e1
  · rintro a rfl
    exact (h.lt a.block rfl).1
set_option maxHeartbeats 3200000 in
set_option maxRecDepth 100000 in
theorem inColumns_any {lo : Nat → Prop} {g : Nat} {l : List UInt8} (w : World) (hI : InAt lo g w l false) (hlo : ∀ b, lo b → b < w.heap.size) :
    Calls Tryd.prog 35 #[vI g] w (ColsRes lo g w l) := by
  have hglt := hI.lt
  have HC := hide (inCount_any 16 w hI)
  unfold CntRes at HC
  have HLo := hide hlo
  have HB1 := hide (fun (w' : World) o => (Below.refl w'.heap.size w').alloc (Nat.le_refl _) o)
  obtain ⟨i0, hi, hz0, hz1, hz2⟩ := info_parts col_info
  clear hI hlo
  unfold ColsRes
  by_cases hx : cntX l 16 = true
  · have HN := hide (show colsP l = none by unfold colsP; rw [if_pos hx])
    obtain ⟨d1, d2⟩ := cnt_dead hx
    rw [hx, d1, d2] at HC
    clear hx d1 d2
    go_enter Tryd.func35, Tryd.ntmps35
    go_wp2_with fail
    refine HC.out.mono ?_
    rintro e w1 ⟨rfl, hI1, ho1⟩
    have HA := hide (And.intro hI1 ho1)
    clear hI1 ho1
    go_wp2_with fail
    go_loopw [3, 7] (fun v i wr => v = .slice none 0 0 ∧ i = .int .i64 0 ∧ wr = w1) (fun _ _ _ => 0)
    case atStart => exact ⟨rfl, rfl, rfl⟩
    case round =>
      obtain ⟨rfl, rfl, rfl⟩ := hrel
      go_wp2_with fail
      go_ret
      exact .inr ⟨rfl, HN.out, HA.out⟩
  · have hx : cntX l 16 = false := by simpa using hx
    have HP := hide (show colsP l = colP (cntN l 16).toNat (cntL l 16) by unfold colsP; rw [hx, if_neg (by decide)])
    obtain ⟨d1, d2, d3, d4⟩ := cnt_dec hx
    rw [hx] at HC
    have hn : cntN l 16 = ((cntN l 16).toNat : Nat) := by omega
    rw [hn] at HC
    have hn16 : (cntN l 16).toNat ≤ 16 := by omega
    clear hx d1 d2 d3 d4 hn
    generalize (cntN l 16).toNat = n at *
    generalize cntL l 16 = l1 at *
    go_enter Tryd.func35, Tryd.ntmps35
    go_wp2_with fail
    refine HC.out.mono ?_
    rintro e w1 ⟨rfl, hI1, ho1⟩
    have HA := hide (And.intro hI1 ho1)
    clear hI1 ho1
    go_wp2_with fail
    go_loopw [3, 7] (fun v i wr => ∃ (k : Nat) (cs : List (ByteArray × Int)) (rl : List UInt8), k ≤ n ∧ i = .int .i64 k ∧ cs.length = k ∧ wr.ownsRow w.heap.size 53 2 v k (colCells cs) ∧ OnlyG g w wr ∧ InAt lo g wr rl false ∧ colP k l1 = some (cs, rl)) (fun _ i _ => n - (intOf i).toNat)
    case atStart => exact ⟨0, [], l1, Nat.zero_le _, rfl, rfl, World.ownsRow_nil _ _ _ _, HA.out.2, HA.out.1, rfl⟩
    case round =>
      obtain ⟨k, cs, rl, hk, rfl, hcl, hown, hog, hin, hst⟩ := hrel
      clear HA HC
      have hsz := hog.size
      by_cases hlt : k < n
      · have HLt := hide hlt
        have HTx := hide (inText_any wr hin)
        unfold TxtRes at HTx
        have HOw := hide hown
        have HOg := hide hog
        have HSt := hide hst
        have HCl := hide hcl
        have HR := hide (fun (h : intX (txtL rl) = false) => colR_some h)
        have HRn := hide (fun (h : intX (txtL rl) = true) => colR_none h)
        have HDd := hide (fun (h : intX (txtL rl) = true) => (int_dead h).2)
        clear hown hog hin hst hcl hk
        go_wp2_with fail
        refine HTx.out.mono ?_
        rintro e w2 ⟨rfl, hI2, ho2⟩
        have HIn := hide (inInt_any w2 hI2)
        unfold IntRes at HIn
        have HOg2 := hide (HOg.out.trans ho2)
        have HOw2 := hide (row_keep HOw.out fun b e => ho2.block b (HOw.out.lt b e).2 (by have := (HOw.out.lt b e).1; omega))
        clear hI2 ho2
        go_wp2_with fail
        refine HIn.out.mono ?_
        rintro e w3 ⟨rfl, hI3, ho3⟩
        have HOg3 := hide (HOg2.out.trans ho3)
        have hs3 := HOg3.out.size
        have HOw3 := hide (row_keep HOw2.out fun b e => ho3.block b (HOw2.out.lt b e).2 (by have := (HOw2.out.lt b e).1; omega))
        generalize hnm : (⟨(txtS rl).toArray⟩ : ByteArray) = nm at *
        generalize intN (txtL rl) = ty at *
        have HI3 := hide (hI3.on HLo.out ((HB1.out w3 (.cells #[.string nm, .int .i64 ty] 53)).mono hs3))
        have hbc := HI3.out.bad_cell
        have HOw4 := hide (HOw3.out.alloc (.cells #[.string nm, .int .i64 ty] 53))
        have HOg4 := hide (HOg3.out.on ((HB1.out w3 (.cells #[.string nm, .int .i64 ty] 53)).mono hs3))
        clear hI3 ho3 hnm
        generalize hxx : intX (txtL rl) = x at *
        clear hxx
        generalize intL (txtL rl) = tl at *
        cases x
        · go_wp2_with (at_builtin; go_must (refine wpList_append_own _ rfl _ _ 24 rfl w.heap.size 53 i0 (.agg #[.string ⟨#[]⟩, .int .i64 0]) 2 24 Tryd.underlying24 hi hz0 hz1 hz2 rfl (by decide) _ _ _ rfl (HOw4.out.alloc _) ⟨w3.heap.size + 1, 0, none⟩ 1 1 [.string nm, .int .i64 ty] rfl rfl (col_new _ _ (nm, ty) _ (by simp)) (col_one (nm, ty)) (by unfold maxLen; omega) (by omega) (by simp; omega) ?_))
          intro v4 w4 hown4 hgrow4 _
          have hb4 : Below w.heap.size (w3.alloc (.cells #[.string nm, .int .i64 ty] 53)) w4 := ((HB1.out (w3.alloc (.cells #[.string nm, .int .i64 ty] 53)) (.cells #[.string nm, .int .i64 ty] 53)).mono (by simp; omega)).trans ((Below.refl _ _).grown hgrow4 (by simp; omega) (fun j hj => (HOw4.out.lt j hj).1))
          have HA := hide (show w4.ownsRow w.heap.size 53 2 v4 (k + 1) (colCells (cs ++ [(nm, ty)])) ∧ OnlyG g w w4 ∧ InAt lo g w4 tl false from ⟨by rw [colCells_snoc]; exact hown4, HOg4.out.on hb4, HI3.out.on HLo.out hb4⟩)
          clear hown4 hgrow4 hb4 hbc
          go_wp2_with fail
          go_roundw
          case rel => exact ⟨k + 1, cs ++ [(nm, ty)], tl, HLt.out, by go_num, by rw [List.length_append, HCl.out]; rfl, HA.out.1, HA.out.2.1, HA.out.2.2, colP_step HSt.out (HR.out trivial)⟩
          case measure => have := HLt.out; simp [intOf]; omega
        · have HNo := hide (show colsP l = none by rw [HP.out]; exact colP_none (colP_stop HSt.out (HRn.out rfl)) n HLt.out)
          have htl := HDd.out rfl
          subst htl
          go_wp2_with fail
          go_ret
          exact .inr ⟨rfl, HNo.out, HI3.out, HOg4.out⟩
      · obtain rfl : k = n := by omega
        rw [← hcl] at hown
        obtain ⟨A1, c1, rfl, hA1, hn1, hnew⟩ := colsNew hown
        have HA := hide (show colsP l = some (cs, rl) ∧ ColsAt wr.heap.size wr A1 cs ∧ (A1 = none → c1 = 0) ∧ (∀ a, A1 = some a → w.heap.size ≤ a.block) ∧ InAt lo g wr rl false ∧ OnlyG g w wr from ⟨by rw [HP.out]; exact hst, hA1, hn1, hnew, hin, hog⟩)
        clear hown hA1 hn1 hnew hin hog hst hcl hk hlt
        go_wp2_with fail
        go_ret
        exact .inl ⟨A1, c1, cs, rl, rfl, HA.out⟩
end Go.Proofs.YtbjcbgomkhdmmaaDoor
