/-
  The decoder: rows.
-/
import Derived.Test.YtbjcbgomkhdmmaaDoorFInC
import Derived.Test.YtbjcbgomkhdmmaaDoorFRowsH
namespace Go.Proofs.YtbjcbgomkhdmmaaDoor
open Go.RowKit

def RowsRes (lo : Nat → Prop) (g : Nat) (w : World) (wd : Nat) (l : List UInt8) (e : Ending) (w' : World) : Prop :=
  (∃ A c ns r, e = .returned (.slice A (List.length ns) c) ∧ rowsQ wd l = some (rowsOf ns, r) ∧ RowsAt w'.heap.size w' A ns ∧ (A = none → c = 0) ∧ (∀ a, A = some a → w.heap.size ≤ a.block) ∧ (∀ h ∈ ns, ∀ a, h.1 = some a → w.heap.size ≤ a.block) ∧ InAt lo g w' r false ∧ OnlyG g w w') ∨
  (e = .returned (.slice none 0 0) ∧ rowsQ wd l = none ∧ InAt lo g w' [] true ∧ OnlyG g w w')
set_option maxHeartbeats 3200000 in
set_option maxRecDepth 100000 in
theorem inRows_any {lo : Nat → Prop} {g : Nat} {l : List UInt8} {bad : Bool} (wd : Nat) (w : World) (hI : InAt lo g w l bad) (hlo : ∀ b, lo b → b < w.heap.size) (hwd : wd ≤ 64) :
    Calls Tryd.prog 36 #[vI g, .int .i64 wd] w (RowsRes lo g w wd l) := by
  have hglt := hI.lt
  have HC := hide (inCount_any 4096 w hI)
  unfold CntRes at HC
  have HLo := hide hlo
  have HB1 := hide (fun (w' : World) o => (Below.refl w'.heap.size w').alloc (Nat.le_refl _) o)
  clear hI hlo
  unfold RowsRes
  by_cases hx : cntX l 4096 = true
  · have HN := hide (show rowsQ wd l = none by unfold rowsQ; rw [if_pos hx])
    obtain ⟨d1, d2⟩ := cnt_dead hx
    rw [hx, d1, d2] at HC
    clear hx d1 d2
    go_enter Tryd.func36, Tryd.ntmps36
    go_wp2_with fail
    refine HC.out.mono ?_
    rintro e w1 ⟨rfl, hI1, ho1⟩
    have HA := hide (And.intro hI1 ho1)
    clear hI1 ho1
    go_wp2_with fail
    go_loopw [5, 9] (fun v i wr => v = .slice none 0 0 ∧ i = .int .i64 0 ∧ wr = w1) (fun _ _ _ => 0)
    case atStart => exact ⟨rfl, rfl, rfl⟩
    case round =>
      obtain ⟨rfl, rfl, rfl⟩ := hrel
      go_wp2_with fail
      go_ret
      exact .inr ⟨rfl, HN.out, HA.out⟩
  · have hx : cntX l 4096 = false := by simpa using hx
    have HP := hide (show rowsQ wd l = rowsP wd (cntN l 4096).toNat (cntL l 4096) by unfold rowsQ; rw [hx, if_neg (by decide)])
    obtain ⟨d1, d2, d3, d4⟩ := cnt_dec hx
    rw [hx] at HC
    have hn : cntN l 4096 = ((cntN l 4096).toNat : Nat) := by omega
    rw [hn] at HC
    have hn16 : (cntN l 4096).toNat ≤ 4096 := by omega
    clear hx d1 d2 d3 d4 hn
    generalize (cntN l 4096).toNat = n at *
    generalize cntL l 4096 = l1 at *
    go_enter Tryd.func36, Tryd.ntmps36
    go_wp2_with fail
    refine HC.out.mono ?_
    rintro e w1 ⟨rfl, hI1, ho1⟩
    have HA := hide (And.intro hI1 ho1)
    clear hI1 ho1
    go_wp2_with fail
    go_loopw [5, 9] (fun v i wr => ∃ (k : Nat) (ns : List RH) (rl : List UInt8), k ≤ n ∧ i = .int .i64 k ∧ ns.length = k ∧ RowsG w.heap.size 22 wr v ns ∧ OnlyG g w wr ∧ InAt lo g wr rl false ∧ rowsP wd k l1 = some (rowsOf ns, rl)) (fun _ i _ => n - (intOf i).toNat)
    case atStart => exact ⟨0, [], l1, Nat.zero_le _, rfl, rfl, RowsG.nil _ _ _, HA.out.2, HA.out.1, rfl⟩
    case round =>
      obtain ⟨k, ns, rl, hk, rfl, hcl, hown, hog, hin, hst⟩ := hrel
      clear HA HC
      have hsz := hog.size
      by_cases hlt : k < n
      · have HLt := hide hlt
        have HRw := hide (inRow_any wd wr hin (fun b hb => Nat.lt_of_lt_of_le (HLo.out b hb) hsz) hwd)
        unfold RowRes at HRw
        have HOw := hide hown
        have HOg := hide hog
        have HSt := hide hst
        have HCl := hide hcl
        clear hown hog hin hst hcl hk
        go_wp2_with fail
        refine HRw.out.mono ?_
        rintro e w3 ⟨A3, c3, vs, r3, b3, rfl, hvl, hA3, hn3, hnew3, hI3, ho3, hrs⟩
        have HOg3 := hide (HOg.out.trans ho3)
        have hs3 := HOg3.out.size
        have HOw3 := hide (HOw.out.keep ho3.size fun b hb hl => ho3.block b hl (by omega))
        have HAp := hide (show ApH u5 (A3, c3, vs) from fun a e1 e2 => by
          have h1 := hnew3 a e1
          have h2 := (HOw.out.row.lt _ e2).2
          omega)
        have HH := hide (show HdrOk w3.heap.size w3 (A3, c3, vs) from ⟨hA3, hn3⟩)
        have HNw := hide (show ∀ a, (A3, c3, vs).1 = some a → w.heap.size ≤ a.block from fun a e1 => Nat.le_trans hsz (hnew3 a e1))
        have HI3 := hide hI3
        have hbc := hI3.bad_cell
        have HRs := hide hrs
        have HVl := hide hvl
        clear hA3 hn3 hnew3 hI3 ho3 hrs hvl
        cases b3
        · have hA1 := HB1.out w3 (.cells #[.slice A3 wd c3] 22)
          have HOw4 := hide (HOw3.out.below hA1)
          have HH4 := hide (HH.out.on hA1)
          have HCe := hide (show (w3.alloc (.cells #[.slice A3 wd c3] 22)).cell? ⟨w3.heap.size, 0, none⟩ = some (hdr (A3, c3, vs)) by rw [Lib.cell_of_heap (heap_alloc_new w3 _) 0]; unfold hdr; rw [HVl.out]; rfl)
          have HL4 := hide (hA1.mono hs3)
          clear hA1
          go_wp2_with (at_builtin; go_must (refine rowsV_append rfl _ _ rfl w.heap.size u5 ns k HCl.out.symm rfl HOw4.out (A3, c3, vs) w3.heap.size rfl HCe.out HH4.out HAp.out HNw.out (by omega) (by simp; omega) ?_))
          intro v4 w4 hrg4 hown4 hgrow4
          have hb4 : Below w.heap.size w3 w4 := HL4.out.trans ((Below.refl _ _).grown hgrow4 (by simp; omega) (fun j hj => (HOw4.out.row.lt j hj).1))
          have HA := hide (show RowsG w.heap.size 22 w4 v4 (ns ++ [(A3, c3, vs)]) ∧ OnlyG g w w4 ∧ InAt lo g w4 r3 false from ⟨hrg4, HOg3.out.on hb4, HI3.out.on HLo.out hb4⟩)
          have HStep := hide (show rowsP wd (k + 1) l1 = some (rowsOf (ns ++ [(A3, c3, vs)]), r3) by
            rcases HRs.out with ⟨h1, _⟩ | ⟨_, _, h3⟩
            · rw [rowsP_step HSt.out h1]; unfold rowsOf; rw [List.map_append]; rfl
            · cases h3)
          clear hrg4 hown4 hgrow4 hb4 hbc
          go_wp2_with fail
          go_roundw
          case rel => exact ⟨k + 1, ns ++ [(A3, c3, vs)], r3, HLt.out, by go_num, by rw [List.length_append, HCl.out]; rfl, HA.out.1, HA.out.2.1, HA.out.2.2, HStep.out⟩
          case measure => have := HLt.out; simp [intOf]; omega
        · have HNo := hide (show rowsQ wd l = none ∧ r3 = [] by
            rcases HRs.out with ⟨_, h2⟩ | ⟨h1, h2, _⟩
            · cases h2
            · exact ⟨by rw [HP.out]; exact rowsP_none (rowsP_stop HSt.out h1) n HLt.out, h2⟩)
          have HI4 := hide (show InAt lo g w3 [] true from HNo.out.2 ▸ HI3.out)
          go_wp2_with fail
          go_ret
          exact .inr ⟨rfl, HNo.out.1, HI4.out, HOg3.out⟩
      · obtain rfl : k = n := by omega
        obtain ⟨A1, c1, rfl, hA1, hn1⟩ := hown.rows
        have hnew : ∀ a, A1 = some a → w.heap.size ≤ a.block := fun a ha => (hown.row.lt a.block (by subst ha; rfl)).1
        have HA := hide (show rowsQ wd l = some (rowsOf ns, rl) ∧ RowsAt wr.heap.size wr A1 ns ∧ (A1 = none → c1 = 0) ∧ (∀ a, A1 = some a → w.heap.size ≤ a.block) ∧ (∀ h ∈ ns, ∀ a, h.1 = some a → w.heap.size ≤ a.block) ∧ InAt lo g wr rl false ∧ OnlyG g w wr from ⟨by rw [HP.out]; exact hst, hA1, hn1, hnew, hown.new, hin, hog⟩)
        clear hown hA1 hn1 hnew hin hog hst hcl hk hlt
        go_wp2_with fail
        go_ret
        exact .inl ⟨A1, c1, ns, rl, rfl, HA.out⟩
end Go.Proofs.YtbjcbgomkhdmmaaDoor
