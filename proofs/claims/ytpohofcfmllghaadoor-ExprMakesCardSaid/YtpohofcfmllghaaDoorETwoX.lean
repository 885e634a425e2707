/-
  ofTwo of any expression and values: the contracts put together.
-/
import Derived.Test.YtpohofcfmllghaaDoorEEvalS
namespace Go.Proofs.YtpohofcfmllghaaDoor
open Go.RowKit

theorem cmpIx_at {op : ByteArray} {z : Nat} (hz : z < 6) (hno : ∀ j, j < z → ((cmpsL.getD j ⟨#[]⟩).toList == op.toList) = false) (he : ((cmpsL.getD z ⟨#[]⟩).toList == op.toList) = true) : cmpIx op = z := by
  unfold cmpIx
  have hl : z < cmpsL.length := hz
  rw [List.findIdx_eq hl]
  refine ⟨?_, fun j hj => ?_⟩
  · rw [List.getD_eq_getElem?_getD, List.getElem?_eq_getElem hl] at he; exact he
  · have := hno j hj
    rw [List.getD_eq_getElem?_getD, List.getElem?_eq_getElem (by omega)] at this; exact this
theorem cmpIx_none {op : ByteArray} (hno : ∀ j, j < 6 → ((cmpsL.getD j ⟨#[]⟩).toList == op.toList) = false) : ¬ cmpIx op < 6 := by
  unfold cmpIx
  have : cmpsL.findIdx (fun c => c.toList == op.toList) = cmpsL.length := by
    rw [List.findIdx_eq_length]
    intro c hc
    obtain ⟨j, hj, e⟩ := List.getElem_of_mem hc
    have := hno j hj
    rw [List.getD_eq_getElem?_getD, List.getElem?_eq_getElem hj] at this
    rw [← e]; exact this
  rw [this]
  decide

theorem ofTwo_any (x : XT) (a b : Int × Int × ByteArray) (w : World) (hM : Cmps w) (ha : a.2.2.size ≤ 64) (hb : b.2.2.size ≤ 64) (ia : I64 a.2.1) (ib : I64 b.2.1) (hp : pre2 (wordX x) x.op a b) :
    Calls Tryd.prog 30 #[vX x, vOf a, vOf b] w fun e w' => e = .returned (.tuple #[vOf (twoX (wordX x) x.op a b).1, .int .i64 (twoX (wordX x) x.op a b).2]) ∧ Below w.heap.size w w' := by
  obtain ⟨k, n, s⟩ := a
  obtain ⟨l, m, t⟩ := b
  simp only at ha hb ia ib
  unfold pre2 at hp
  cases h0 : ((wordX x).toList == [97, 110, 100])
  · cases h1 : ((wordX x).toList == [111, 114])
    · cases h2 : ((wordX x).toList == [101, 105, 116, 104, 101, 114])
      · cases h3 : ((wordX x).toList == [105, 102])
        · cases h4 : ((wordX x).toList == [99, 97, 116])
          · have e : twoX (wordX x) x.op (k, n, s) (l, m, t) = bif decide (cmpIx x.op < 6) then (compareV ((cmpIx x.op : Nat) + 1 : Int) (k, n, s) (l, m, t), 0) else arithV (byte0 x.op) (k, n, s) (l, m, t) := by unfold twoX; rw [h0, h1, h2, h3, h4]; rfl
            rw [e]
            refine ofTwo_rest x k n s l m t w _ _ h0 h1 h2 h3 h4 hM (fun z hz hno he => ?_) fun hno => ?_
            · rw [cmpIx_at hz hno he, decide_eq_true hz]
              exact ⟨rfl, rfl⟩
            · have hc := cmpIx_none hno
              obtain ⟨p1, p2, p3, p4⟩ := hp h0 h1 h2 h3 h4 hc
              rw [decide_eq_false hc]
              exact ⟨p1, fun w => arithV_any (byte0 x.op) (k, n, s) (l, m, t) w p2 p3 p4 ia ib⟩
          · have e : twoX (wordX x) x.op (k, n, s) (l, m, t) = catV (k, n, s) (l, m, t) := by unfold twoX; rw [h0, h1, h2, h3, h4]; rfl
            rw [e]
            exact ofTwo_cat x k n s l m t w h0 h1 h2 h3 h4 (by omega) (by omega)
        · have e : twoX (wordX x) x.op (k, n, s) (l, m, t) = ((l, m, t), 0) := by unfold twoX; rw [h0, h1, h2, h3]; rfl
          rw [e]
          exact ofTwo_if x k n s l m t w h0 h1 h2 h3
      · have e : twoX (wordX x) x.op (k, n, s) (l, m, t) = ((l, m, t), 0) := by unfold twoX; rw [h0, h1, h2]; rfl
        rw [e]
        exact ofTwo_either x k n s l m t w h0 h1 h2
    · have e : twoX (wordX x) x.op (k, n, s) (l, m, t) = (truthV (trueV (l, m, t)), 0) := by unfold twoX; rw [h0, h1]; rfl
      rw [e]
      exact ofTwo_or x k n s l m t w h0 h1
  · have e : twoX (wordX x) x.op (k, n, s) (l, m, t) = (truthV (trueV (l, m, t)), 0) := by unfold twoX; rw [h0]; rfl
    rw [e]
    exact ofTwo_and x k n s l m t w h0
end Go.Proofs.YtpohofcfmllghaaDoor
