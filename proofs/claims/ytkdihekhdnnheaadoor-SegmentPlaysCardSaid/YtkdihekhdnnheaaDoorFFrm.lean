/-
  Frames: what is one, and what bytes begin with. No program in it.
-/
import Derived.Test.YtkdihekhdnnheaaDoorFNumsW
namespace Go.Proofs.YtkdihekhdnnheaaDoor

def frameB (s : List UInt8) : List UInt8 := intB s.length ++ (s ++ sum4 (sumL s))
def FrmOk (rl : List UInt8) : Prop := TxtOk rl ∧ 4 ≤ (txtL rl).length ∧ (txtL rl).take 4 = sum4 (sumL (txtS rl))
instance (rl : List UInt8) : Decidable (FrmOk rl) := by unfold FrmOk; infer_instance
def frmR (rl : List UInt8) : List UInt8 := (txtL rl).drop 4
theorem sum4_len (s : Nat) : (sum4 s).length = 4 := rfl
theorem frameB_len (s : List UInt8) : (frameB s).length = (intB s.length).length + s.length + 4 := by
  unfold frameB
  rw [List.length_append, List.length_append, sum4_len]
  omega
theorem frameB_bd (s : List UInt8) : 5 + s.length ≤ (frameB s).length ∧ (frameB s).length ≤ 13 + s.length := by
  have := intB_len (s.length : Int)
  rw [frameB_len]; omega
theorem frm_enc (s r : List UInt8) (hs : s.length ≤ 4294960000) : FrmOk (frameB s ++ r) ∧ txtS (frameB s ++ r) = s ∧ frmR (frameB s ++ r) = r ∧ txtX (frameB s ++ r) = false := by
  have e : frameB s ++ r = intB s.length ++ (s ++ (sum4 (sumL s) ++ r)) := by unfold frameB; simp
  obtain ⟨h1, h2, h3⟩ := intN_enc (n := (s.length : Int)) ⟨by omega, by omega⟩ (s ++ (sum4 (sumL s) ++ r))
  rw [← e] at h1 h2 h3
  have ok : TxtOk (frameB s ++ r) := by unfold TxtOk; rw [h1, h2, List.length_append]; omega
  have k1 : txtS (frameB s ++ r) = s := by unfold txtS; rw [if_pos ok, h1, h2, Int.toNat_natCast, List.take_left]
  have k2 : txtL (frameB s ++ r) = sum4 (sumL s) ++ r := by unfold txtL; rw [if_pos ok, h1, h2, Int.toNat_natCast, List.drop_left]
  have k3 : txtX (frameB s ++ r) = false := by unfold txtX; rw [if_pos ok, h3]
  refine ⟨⟨ok, ?_, ?_⟩, k1, ?_, k3⟩
  · rw [k2, List.length_append, sum4_len]; omega
  · rw [k1, k2]; rfl
  · unfold frmR; rw [k2]; rfl
theorem frm_live {rl : List UInt8} (h : FrmOk rl) : ∃ n k, readI rl = some (n, k) := by
  cases hr : readI rl with
  | none =>
    exfalso
    have h2 := h.2.1
    have hL : intL rl = [] := by unfold intL; rw [hr]; rfl
    have hN : intN rl = 0 := by unfold intN; rw [hr]; rfl
    have : txtL rl = [] := by unfold txtL; rw [if_pos h.1, hL]; simp
    rw [this] at h2
    simp at h2
  | some p => exact ⟨p.1, p.2, rfl⟩
theorem frm_dec {rl : List UInt8} (h : FrmOk rl) : rl = frameB (txtS rl) ++ frmR rl ∧ txtX rl = false ∧ (txtS rl).length ≤ rl.length := by
  obtain ⟨n, k, hr⟩ := frm_live h
  have hi := intB_readI hr
  have hle := readI_le hr
  have hN : intN rl = n := by unfold intN; rw [hr]; rfl
  have hL : intL rl = rl.drop k := by unfold intL; rw [hr]; rfl
  have hX : intX rl = false := by unfold intX; rw [hr]; rfl
  obtain ⟨ok, h4, h5⟩ := h
  have ok2 := ok
  unfold TxtOk at ok2
  rw [hN, hL, List.length_drop] at ok2
  have k1 : txtS rl = (rl.drop k).take n.toNat := by unfold txtS; rw [if_pos ok, hN, hL]
  have k2 : txtL rl = (rl.drop k).drop n.toNat := by unfold txtL; rw [if_pos ok, hN, hL]
  have k3 : txtX rl = false := by unfold txtX; rw [if_pos ok, hX]
  have hlen : (txtS rl).length = n.toNat := by rw [k1, List.length_take, List.length_drop]; omega
  refine ⟨?_, k3, by rw [hlen]; omega⟩
  unfold frameB frmR
  rw [hlen, show ((n.toNat : Nat) : Int) = n by omega, hi, ← h5, List.append_assoc, List.append_assoc, List.take_append_drop, k1, k2, List.take_append_drop, List.take_append_drop]
theorem frm_nil : ¬ FrmOk [] := fun h => by
  obtain ⟨n, k, hr⟩ := frm_live h
  cases hr
theorem frm_cut (s r : List UInt8) (j : Nat) (hs : s.length ≤ 1073741824) (hj : j < (frameB s).length) : ¬ FrmOk ((frameB s ++ r).take j) := fun h => by
  obtain ⟨hd, _, hl⟩ := frm_dec h
  have ht : (frameB s ++ r).take j = (frameB s).take j := by rw [List.take_append_of_le_length (by omega)]
  rw [ht] at hd hl
  have hbd := frameB_bd s
  have hl2 : (txtS ((frameB s).take j)).length ≤ 4294960000 := by
    rw [List.length_take] at hl; omega
  have e : frameB s = frameB (txtS ((frameB s).take j)) ++ (frmR ((frameB s).take j) ++ (frameB s).drop j) := by
    rw [← List.append_assoc, ← hd, List.take_append_drop]
  have h1 := (frm_enc (txtS ((frameB s).take j)) (frmR ((frameB s).take j) ++ (frameB s).drop j) hl2).2.1
  rw [← e] at h1
  have h2 := (frm_enc s [] (by omega)).2.1
  rw [List.append_nil] at h2
  rw [h1] at h2
  have h3 := congrArg List.length hd
  rw [h2, List.length_append, List.length_take] at h3
  omega
/-- The byte strings whose frames bytes begin with. -/
def allB (fs : List (List UInt8)) : List UInt8 := fs.flatMap frameB
def Scanned (b : List UInt8) (fs : List (List UInt8)) : Prop := ∃ r, b = allB fs ++ r ∧ ¬ FrmOk r
theorem allB_snoc (fs : List (List UInt8)) (s : List UInt8) : allB (fs ++ [s]) = allB fs ++ frameB s := by unfold allB; rw [List.flatMap_append]; simp
theorem allB_cons (s : List UInt8) (fs : List (List UInt8)) : allB (s :: fs) = frameB s ++ allB fs := by unfold allB; rw [List.flatMap_cons]
theorem Scanned.one {b : List UInt8} {fs gs : List (List UInt8)} (h : Scanned b fs) (k : Scanned b gs) (hb : b.length ≤ 4294960000) : fs = gs := by
  induction fs generalizing b gs with
  | nil =>
    obtain ⟨r, e, hr⟩ := h
    obtain ⟨r2, e2, hr2⟩ := k
    cases gs with
    | nil => rfl
    | cons s gs =>
      exfalso
      have e1 : b = r := by rw [e]; rfl
      have hbd := frameB_bd s
      rw [allB_cons, List.append_assoc] at e2
      have hl := congrArg List.length e2
      rw [List.length_append] at hl
      exact hr (by rw [← e1, e2]; exact (frm_enc s _ (by omega)).1)
  | cons s fs ih =>
    obtain ⟨r, e, hr⟩ := h
    obtain ⟨r2, e2, hr2⟩ := k
    have hbd := frameB_bd s
    rw [allB_cons, List.append_assoc] at e
    have hl := congrArg List.length e
    rw [List.length_append] at hl
    cases gs with
    | nil =>
      exfalso
      have e3 : b = r2 := by rw [e2]; rfl
      exact hr2 (by rw [← e3, e]; exact (frm_enc s _ (by omega)).1)
    | cons s2 gs =>
      have hbd2 := frameB_bd s2
      rw [allB_cons, List.append_assoc] at e2
      have hl2 := congrArg List.length e2
      rw [List.length_append] at hl2
      have a1 := frm_enc s (allB fs ++ r) (by omega)
      have a2 := frm_enc s2 (allB gs ++ r2) (by omega)
      rw [← e] at a1
      rw [← e2] at a2
      have es : s = s2 := a1.2.1.symm.trans a2.2.1
      have er : allB fs ++ r = allB gs ++ r2 := a1.2.2.1.symm.trans a2.2.2.1
      rw [es, ih (b := allB fs ++ r) (gs := gs) ⟨r, rfl, hr⟩ ⟨r2, er, hr2⟩ (by rw [List.length_append] at hl ⊢; omega)]
/-- Where the frames end. -/
def endsL (ls : List (List UInt8)) (k : Nat) : Nat := (allB (ls.take k)).length
theorem endsL_succ {ls : List (List UInt8)} {k : Nat} (hk : k < ls.length) : endsL ls (k + 1) = endsL ls k + (frameB (ls.getD k [])).length := by
  unfold endsL
  rw [List.take_succ_eq_append_getElem hk, allB_snoc, List.length_append, List.getD_eq_getElem?_getD, List.getElem?_eq_getElem hk]
  rfl
theorem allB_split (ls : List (List UInt8)) (k : Nat) : allB ls = allB (ls.take k) ++ allB (ls.drop k) := by
  unfold allB
  rw [← List.flatMap_append, List.take_append_drop]
/-- Frames that are cut off are scanned as far as they are whole. -/
theorem scanned_cut {ls : List (List UInt8)} {n cut : Nat} (hn : n ≤ ls.length) (h1 : endsL ls n ≤ cut) (h2 : n < ls.length → cut < endsL ls (n + 1)) (hls : ∀ j, j < ls.length → (ls.getD j []).length ≤ 1073741824) : Scanned ((allB ls).take cut) (ls.take n) := by
  refine ⟨(allB (ls.drop n)).take (cut - endsL ls n), ?_, ?_⟩
  · conv => lhs; rw [allB_split ls n]
    rw [List.take_append, List.take_of_length_le (by exact h1)]
    rfl
  · by_cases hlt : n < ls.length
    · have h3 := h2 hlt
      rw [endsL_succ hlt] at h3
      rw [List.drop_eq_getElem_cons hlt, allB_cons]
      have e : ls[n] = ls.getD n [] := by rw [List.getD_eq_getElem?_getD, List.getElem?_eq_getElem hlt]; rfl
      rw [e]
      exact frm_cut _ _ _ (hls n hlt) (by omega)
    · rw [List.drop_eq_nil_iff.2 (by omega)]
      show ¬ FrmOk (List.take _ [])
      rw [List.take_nil]
      exact frm_nil
end Go.Proofs.YtkdihekhdnnheaaDoor
