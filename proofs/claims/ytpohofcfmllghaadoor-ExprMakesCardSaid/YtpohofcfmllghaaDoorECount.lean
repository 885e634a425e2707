/-
  How many expressions there are: the walks of count and Size.
-/
import Derived.Test.YtpohofcfmllghaaDoorEBase
import Derived.Lib.SmallJoins
namespace Go.Proofs.YtpohofcfmllghaaDoor
open Go.RowKit

/-- The world in which an expression lies in a box. -/
def boxE (w : World) (x : XT) : World := w.alloc (.cells (eCells x.kind x.name x.val x.op x.adr x.args.length x.cap) 29)
theorem boxE_below (w : World) (x : XT) : Below w.heap.size w (boxE w x) := Joins.below_alloc1 w _
theorem boxE_at {w : World} {x : XT} {w' : World} (h : Below (boxE w x).heap.size (boxE w x) w') :
    w'.cell? ⟨w.heap.size, 0, none⟩ = some (.int .i64 x.kind) ∧ w'.cell? ⟨w.heap.size, 1, none⟩ = some (.string x.name) ∧ w'.cell? ⟨w.heap.size, 2, none⟩ = some (.int .i64 x.val.1) ∧ w'.cell? ⟨w.heap.size, 3, none⟩ = some (.int .i64 x.val.2.1) ∧
    w'.cell? ⟨w.heap.size, 4, none⟩ = some (.string x.val.2.2) ∧ w'.cell? ⟨w.heap.size, 5, none⟩ = some (.string x.op) ∧ w'.cell? ⟨w.heap.size, 6, none⟩ = some (.slice x.adr x.args.length x.cap) ∧ w.heap.size < w'.heap.size := by
  have hz : (boxE w x).heap.size = w.heap.size + 1 := by simp [boxE]
  have c : ∀ i u, (boxE w x).cell? ⟨w.heap.size, i, none⟩ = some u → w'.cell? ⟨w.heap.size, i, none⟩ = some u := fun i u hu => (h.cell (p := ⟨w.heap.size, i, none⟩) (by simp only; omega)).trans hu
  refine ⟨c _ _ (by simp [boxE]), c _ _ (by simp [boxE]), c _ _ (by simp [boxE]), c _ _ (by simp [boxE]), c _ _ (by simp [boxE]), c _ _ (by simp [boxE]), c _ _ (by simp [boxE]), ?_⟩
  have := h.size
  omega

theorem after_belowE {a b c : World} (k : Below b.heap.size b c) (h : Below a.heap.size a b) : Below a.heap.size a c := then_below h k

set_option maxHeartbeats 1600000 in
set_option maxRecDepth 100000 in
theorem count_any : ∀ (N : Nat) (x : XT) (m : Int) (w : World), szX x ≤ N → szX x ≤ 1000000 → -9000000000000000000 ≤ m → m ≤ 9223372036854775807 → LiesX w.heap.size w x →
    Calls Tryd.prog 19 #[vX x, .int .i64 m] w fun e w' => e = .returned (.int .i64 (cntX x m)) ∧ Below w.heap.size w w'
  | 0, x, m, w, hN, _, _, _, _ => by have := szX_pos x; omega
  | N + 1, .mk kd nm v o A c ts, m, w, hN, hz, hm0, hm1, hx => by
    have ih := hide (fun y m w (h : szX y ≤ N) h1 h2 h3 h4 => count_any N y m w h h1 h2 h3 h4)
    have hal := boxE_below w (.mk kd nm v o A c ts)
    have HWE := hide (show boxE w (.mk kd nm v o A c ts) = w.alloc (.cells (eCells kd nm v o A ts.length c) 29) from rfl)
    have HX := hide (hx.on hal)
    have HL := hide hal
    have HC := hide (cntX_eq (.mk kd nm v o A c ts) m)
    have hsz := szX_eq (.mk kd nm v o A c ts)
    have hle := len_szXs ts
    have HSA := hide (fun k (h : k < ts.length) => szX_arg (x := .mk kd nm v o A c ts) h)
    have HDr := hide (fun k (h : k < ts.length) => szXs_drop h)
    have HCd := hide (fun k (h : k < ts.length) n => cntXs_drop h n m)
    have HCl := hide (fun y m => cntX_le y m)
    generalize boxE w (.mk kd nm v o A c ts) = W at *
    generalize hR0 : cntX (.mk kd nm v o A c ts) m = R at HC ⊢
    generalize hZ0 : szX (.mk kd nm v o A c ts) = Z at *
    simp only [XT.args] at HC hsz HSA
    show Calls Tryd.prog 19 #[.agg (eCells kd nm v o A ts.length c), .int .i64 m] w _
    clear hx hal hR0 hZ0
    go_enter Tryd.func19, Tryd.ntmps19
    go_wp2_with fail
    rw [← HWE.out]
    go_loopw [5, 11] (fun v i wr => ∃ (k : Nat) (n : Int), k ≤ ts.length ∧ i = .int .i64 k ∧ v = .int .i64 n ∧ 1 ≤ n ∧ n + szXs (ts.drop k) ≤ Z ∧ R = cntXs (ts.drop k) n m ∧ Below W.heap.size W wr) (fun _ i _ => ts.length - (intOf i).toNat)
    case atStart => exact ⟨0, 1, Nat.zero_le _, rfl, rfl, by omega, by rw [List.drop_zero]; omega, by rw [List.drop_zero]; exact HC.out, Below.refl _ _⟩
    case round =>
      obtain ⟨k, n, hk, rfl, rfl, hn1, hns, hR, hbw⟩ := hrel
      have hs0 := hbw.size
      by_cases hlt : k < ts.length
      · obtain ⟨b, off, hadr, hb, h7, hly⟩ := (HX.out.keep hbw).at (j := k) hlt
        simp only [XT.adr, XT.args] at hadr h7 hly
        subst hadr
        have hsy := HSA.out k hlt
        have hdr := HDr.out k hlt
        have HR := hide (hR.trans (HCd.out k hlt n))
        have hpos := szX_pos (ts.getD k dX)
        have hcl := HCl.out (ts.getD k dX) (m - n)
        have HLY := hide (hly.mono hs0)
        generalize ts.getD k dX = y at *
        have HY := hide (fun w' h4 h2 h3 => ih.out y (m - n) w' (by omega) (by omega) h2 h3 h4)
        obtain ⟨c0, c1, c2, c3, c4, c5, c6⟩ := h7
        clear hR hly
        by_cases hnm : m < n
        · rw [if_pos hnm] at HR
          go_wp2_with fail
          go_ret
          exact ⟨ret_int HR.out.symm, HL.out.trans ((hbw.alloc hs0 _).mono HL.out.size)⟩
        · rw [if_neg hnm] at HR
          have hal2 := Joins.below_alloc1 wr (.cells (eCells y.kind y.name y.val y.op y.adr y.args.length y.cap) 29)
          have HCall := hide (HY.out _ (HLY.out.on hal2) (by omega) (by omega))
          have HQ := hide (hbw.trans (hal2.mono hs0))
          clear hal2
          go_wp2_with fail
          refine HCall.out.mono ?_
          rintro e w2 ⟨rfl, hb2⟩
          have hq := hide (after_belowE hb2 HQ.out)
          generalize cntX y (m - n) = z at *
          go_wp2_with fail
          go_roundw
          case rel => exact ⟨k + 1, n + z, by omega, by go_num, by go_num, by omega, by omega, HR.out, hq.out⟩
          case measure => simp [intOf]; omega
      · have hkl : k = ts.length := by omega
        have HR := hide (show R = n by rw [hR, hkl, List.drop_length]; rfl)
        clear hR hkl
        go_wp2_with fail
        go_ret
        exact ⟨ret_int HR.out.symm, HL.out.trans (hbw.mono HL.out.size)⟩
end Go.Proofs.YtpohofcfmllghaaDoor
