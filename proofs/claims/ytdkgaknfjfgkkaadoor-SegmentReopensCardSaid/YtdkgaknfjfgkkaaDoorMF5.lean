/-
  The checksum: the program's by half bytes, the document's by bits.
  The laws' fixed example.
  The walk of FrameNumbers.
  Frames: what is one, and what bytes begin with. No program in it.
  The program's frames: sumOf, Frame, the decoder's frame; the reference's Frame; bytes.Equal.
  The decoder's frame.
  Lists of byte slices of the call's own.
  Two growing slices side by side: bytes and integers. Lists of byte slices that come in.
-/
import Derived.Test.YtdkgaknfjfgkkaaDoorFBase
import Derived.Laws.BitsAll
import Derived.Test.YtdkgaknfjfgkkaaDoorMF2
import Derived.Lib.SlBytesConst
import Derived.Test.YtdkgaknfjfgkkaaDoorMF4
import Derived.Test.YtdkgaknfjfgkkaaDoorMF3
namespace Go.Proofs.YtdkgaknfjfgkkaaDoor
open Go.RowKit

def nibN : Nat → Nat → Nat
  | 0, c => c
  | k + 1, c => nibC (nibN k c)
theorem nibN_lt {c : Nat} (h : c < 4294967296) : ∀ k, nibN k c < 4294967296
  | 0 => h
  | k + 1 => nibC_lt (nibN_lt h k)
theorem nib_two (s : Nat) (c : UInt8) : nibN 2 (s ^^^ c.toNat) = crcB s c := by rw [crcB_nib]; rfl
theorem not_u32 (s : Nat) (h : s < 4294967296) : bits .xor .u32 IntKind.u32.max (s : Int) = ((4294967295 - s : Nat) : Int) := by
  have h1 := u32_xor_nat 4294967295 s (by omega) h
  have h2 := xor_compl s h
  have h3 : 4294967295 ^^^ s = 4294967295 - s := by
    conv => lhs; rw [← h2]
    rw [Nat.xor_comm, ← Nat.xor_assoc, Nat.xor_self, Nat.zero_xor]
  rw [h3] at h1
  exact h1

set_option maxHeartbeats 1600000 in
set_option maxRecDepth 100000 in
theorem sum_any (A : Option Addr) (cap : Nat) (l : List UInt8) (w : World) (hB : BytesAt w.heap.size w A l) (hT : Tab w) (hl : l.length ≤ maxLen) :
    Calls Tryd.prog 84 #[.slice A l.length cap] w fun e w' => e = .returned (.int .u32 (sumL l : Nat)) ∧ w = w' := by
  unfold maxLen at hl
  have HB := hide hB; clear hB
  have HTb := hide hT; clear hT
  go_enter Tryd.func84, Tryd.ntmps84
  go_wp2_with fail
  go_loop [3, 8] (fun v i => ∃ k : Nat, k ≤ l.length ∧ i = .int .i64 k ∧ v = .int .u32 (crcL (l.take k) : Nat)) (fun _ i => l.length - (intOf i).toNat)
  case atStart => exact ⟨0, Nat.zero_le _, rfl, rfl⟩
  case round =>
    obtain ⟨k, hk, rfl, rfl⟩ := hrel
    by_cases hlt : k < l.length
    · obtain ⟨b, off, rfl, hb, c0⟩ := HB.out k hlt
      have HT := hide (crcL_take hlt)
      have hd := crcL_lt (l.take k)
      generalize crcL (l.take k) = h at *
      have hc1 : (l.getD k 0).toNat < 256 := (l.getD k 0).toNat_lt
      have hx := u32_xor_nat h (l.getD k 0).toNat hd (by omega)
      have hxl := xor_byte_lt hd (l.getD k 0)
      have HN := hide (nib_two h (l.getD k 0))
      generalize l.getD k 0 = c at *
      generalize h ^^^ c.toNat = x at *
      go_wp2_with fail
      go_loop [3, 16] (fun v i => ∃ m : Nat, m ≤ 2 ∧ i = .int .i64 m ∧ v = .int .u32 (nibN m x : Nat)) (fun _ i => 2 - (intOf i).toNat)
      case atStart => exact ⟨0, by omega, rfl, rfl⟩
      case round =>
        obtain ⟨m, hm, rfl, rfl⟩ := hrel
        by_cases hlm : m < 2
        · have hn := nibN_lt hxl m
          have HM := hide (show nibN (m + 1) x = (nibN m x / 16) ^^^ halfT.getD (nibN m x % 16) 0 from rfl)
          generalize nibN m x = s at *
          have hq : s % 16 < 16 := Nat.mod_lt _ (by omega)
          have c1 := HTb.out (s % 16) hq
          have ha : bits .and .u32 (s : Int) 15 = ((s % 16 : Nat) : Int) := by
            have := u32_and_nat s 15 hn (by omega)
            rw [show s &&& 15 = s % 16 from Nat.and_two_pow_sub_one_eq_mod s 4] at this
            exact this
          have hy : halfT.getD (s % 16) 0 < 4294967296 := by rw [← step4_lo _ hq]; exact step4_lt (by omega)
          generalize halfT.getD (s % 16) 0 = y at *
          generalize s % 16 = q at *
          have hdv : (s : Int) / 16 = ((s / 16 : Nat) : Int) := by omega
          have hxx := hide (u32_xor_nat (s / 16) y (by omega) hy)
          clear hdv
          go_wp2_with fail
          go_round
          case rel => exact ⟨m + 1, by omega, by go_num, by rw [HM.out, ← hxx.out]; rfl⟩
          case measure => simp [intOf]; omega
        · obtain rfl : m = 2 := by omega
          rw [HN.out]
          go_wp2_with fail
          go_round
          case rel => exact ⟨k + 1, by omega, by go_num, by rw [HT.out]⟩
          case measure => simp [intOf]; omega
    · obtain rfl : k = l.length := by omega
      have ht : l.take l.length = l := List.take_length
      rw [ht]
      clear ht
      have hd := crcL_lt l
      have HS := hide (show sumL l = 4294967295 - crcL l from rfl)
      have HU := hide (not_u32 (crcL l) hd)
      generalize crcL l = s at *
      have hsg : IntKind.u32.signed = false := rfl
      go_wp2_with fail
      go_ret
      refine ⟨ret_int ?_, rfl⟩
      rw [HS.out, ← HU.out]

set_option maxHeartbeats 1600000 in
set_option maxRecDepth 100000 in
theorem refSum_any (A : Option Addr) (cap : Nat) (l : List UInt8) (w : World) (hB : BytesAt w.heap.size w A l) (hl : l.length ≤ maxLen) :
    Calls Tryd.prog 60 #[.slice A l.length cap] w fun e w' => e = .returned (.int .u32 (sumL l : Nat)) ∧ w = w' := by
  unfold maxLen at hl
  have HB := hide hB; clear hB
  go_enter Tryd.func60, Tryd.ntmps60
  go_wp2_with fail
  go_loop [3, 4, 5, 6] (fun v i _ _ => ∃ k : Nat, k ≤ l.length ∧ i = .int .i64 k ∧ v = .int .u32 (crcL (l.take k) : Nat)) (fun _ i _ _ => l.length - (intOf i).toNat)
  case atStart => exact ⟨0, Nat.zero_le _, rfl, rfl⟩
  case round =>
    obtain ⟨k, hk, rfl, rfl⟩ := hrel
    by_cases hlt : k < l.length
    · obtain ⟨b, off, rfl, hb, c0⟩ := HB.out k hlt
      have HT := hide (crcL_take hlt)
      have hd := crcL_lt (l.take k)
      generalize crcL (l.take k) = h at *
      have hc1 : (l.getD k 0).toNat < 256 := (l.getD k 0).toNat_lt
      have hx := u32_xor_nat h (l.getD k 0).toNat hd (by omega)
      have hxl := xor_byte_lt hd (l.getD k 0)
      have HN := hide (stepN_eight h (l.getD k 0))
      generalize l.getD k 0 = c at *
      generalize h ^^^ c.toNat = x at *
      go_wp2_with fail
      go_loop [3, 5, 6] (fun v i _ => ∃ m : Nat, m ≤ 8 ∧ i = .int .i64 m ∧ v = .int .u32 (stepN m x : Nat)) (fun _ i _ => 8 - (intOf i).toNat)
      case atStart => exact ⟨0, by omega, rfl, rfl⟩
      case round =>
        obtain ⟨m, hm, rfl, rfl⟩ := hrel
        by_cases hlm : m < 8
        · have hn := stepN_lt hxl m
          have HM := hide (show stepN (m + 1) x = stepC (stepN m x) from rfl)
          generalize stepN m x = s at *
          by_cases ho : s % 2 = 1
          · have HO := hide (show stepC s = (s / 2) ^^^ 3988292384 by unfold stepC; rw [if_pos ho])
            have ho1 : (s : Int) % 2 = 1 := by omega
            clear ho
            have hxx := hide (u32_xor_nat (s / 2) 3988292384 (by omega) (by omega))
            go_wp2_with fail
            go_round
            case rel => exact ⟨m + 1, by omega, by go_num, by rw [HM.out, HO.out, ← hxx.out]; rfl⟩
            case measure => simp [intOf]; omega
          · have HO := hide (show stepC s = s / 2 by unfold stepC; rw [if_neg ho])
            have ho1 : (s : Int) % 2 = 0 := by omega
            clear ho
            go_wp2_with fail
            go_round
            case rel => exact ⟨m + 1, by omega, by go_num, by rw [HM.out, HO.out]; rfl⟩
            case measure => simp [intOf]; omega
        · obtain rfl : m = 8 := by omega
          rw [HN.out]
          go_wp2_with fail
          go_round
          case rel => exact ⟨k + 1, by omega, by go_num, by rw [HT.out]⟩
          case measure => simp [intOf]; omega
    · obtain rfl : k = l.length := by omega
      have ht : l.take l.length = l := List.take_length
      rw [ht]
      clear ht
      have hd := crcL_lt l
      have HS := hide (show sumL l = 4294967295 - crcL l from rfl)
      generalize crcL l = s at *
      go_wp2_with fail
      go_ret
      refine ⟨ret_int ?_, rfl⟩
      rw [HS.out]
      omega
end Go.Proofs.YtdkgaknfjfgkkaaDoor
namespace Go.Proofs.YtdkgaknfjfgkkaaDoor
open Go.RowKit

def aw9 : List UInt8 := [49, 50, 51, 52, 53, 54, 55, 56, 57]
def awO : List UInt8 := [] ++ intB 300 ++ intB (-1) ++ intB (-300)
theorem awO_eq : awO = [2, 44, 1, 16, 18, 43, 1] := by decide
theorem aw9_sum : sumL aw9 = 3421780262 := by kernel_rfl
theorem out_new (w : World) : OutAt w.heap.size w.heap.size (w.alloc (.cells #[.slice none 0 0] 101)) (.slice none 0 0) [] :=
  ⟨Nat.le_refl _, heap_alloc_new w _, World.ownsRow_nil _ _ _ _, fun b e => by cases e⟩
end Go.Proofs.YtdkgaknfjfgkkaaDoor
namespace Go.Proofs.YtdkgaknfjfgkkaaDoor
open Go.RowKit

theorem intN_enc {n : Int} (hn : Int64 n) (r : List UInt8) : intN (intB n ++ r) = n ∧ intL (intB n ++ r) = r ∧ intX (intB n ++ r) = false := by
  have h := readI_intB hn r
  unfold intN intL intX
  rw [h]
  refine ⟨rfl, ?_, rfl⟩
  show (intB n ++ r).drop (intB n).length = r
  rw [List.drop_left]
theorem txt_enc (s : ByteArray) (r : List UInt8) (hs : s.size ≤ 4294960000) : txtS (textB s.data.toList ++ r) = s.data.toList ∧ txtL (textB s.data.toList ++ r) = r ∧ txtX (textB s.data.toList ++ r) = false := by
  have hz : s.data.toList.length = s.size := by simp
  obtain ⟨h1, h2, h3⟩ := intN_enc (n := (s.data.toList.length : Int)) ⟨by omega, by omega⟩ (s.data.toList ++ r)
  have e : textB s.data.toList ++ r = intB (s.data.toList.length : Int) ++ (s.data.toList ++ r) := by unfold textB; rw [List.append_assoc]
  have ok : TxtOk (textB s.data.toList ++ r) := by
    unfold TxtOk
    rw [e, h1, h2, List.length_append]
    omega
  unfold txtS txtL txtX
  rw [if_pos ok, if_pos ok, if_pos ok, e, h1, h2, h3, Int.toNat_natCast]
  exact ⟨List.take_left, List.drop_left, rfl⟩
end Go.Proofs.YtdkgaknfjfgkkaaDoor
namespace Go.Proofs.YtdkgaknfjfgkkaaDoor

def frameB (s : List UInt8) : List UInt8 := intB s.length ++ (s ++ sum4 (sumL s))
def FrmOk (rl : List UInt8) : Prop := TxtOk rl ∧ 4 ≤ (txtL rl).length ∧ (txtL rl).take 4 = sum4 (sumL (txtS rl))
instance (rl : List UInt8) : Decidable (FrmOk rl) := by unfold FrmOk; infer_instance
def frmR (rl : List UInt8) : List UInt8 := (txtL rl).drop 4
theorem sum4_len (s : Nat) : (sum4 s).length = 4 := rfl
theorem frameB_len (s : List UInt8) : (frameB s).length = (intB s.length).length + s.length + 4 := by
  unfold frameB
  rw [List.length_append, List.length_append, sum4_len]
  omega
theorem frameB_bd (s : List UInt8) : 5 + s.length ≤ (frameB s).length ∧ (frameB s).length ≤ 13 + s.length := by
  have := intB_len (s.length : Int)
  rw [frameB_len]; omega
theorem frm_enc (s r : List UInt8) (hs : s.length ≤ 4294960000) : FrmOk (frameB s ++ r) ∧ txtS (frameB s ++ r) = s ∧ frmR (frameB s ++ r) = r ∧ txtX (frameB s ++ r) = false := by
  have e : frameB s ++ r = intB s.length ++ (s ++ (sum4 (sumL s) ++ r)) := by unfold frameB; simp
  obtain ⟨h1, h2, h3⟩ := intN_enc (n := (s.length : Int)) ⟨by omega, by omega⟩ (s ++ (sum4 (sumL s) ++ r))
  rw [← e] at h1 h2 h3
  have ok : TxtOk (frameB s ++ r) := by unfold TxtOk; rw [h1, h2, List.length_append]; omega
  have k1 : txtS (frameB s ++ r) = s := by unfold txtS; rw [if_pos ok, h1, h2, Int.toNat_natCast, List.take_left]
  have k2 : txtL (frameB s ++ r) = sum4 (sumL s) ++ r := by unfold txtL; rw [if_pos ok, h1, h2, Int.toNat_natCast, List.drop_left]
  have k3 : txtX (frameB s ++ r) = false := by unfold txtX; rw [if_pos ok, h3]
  refine ⟨⟨ok, ?_, ?_⟩, k1, ?_, k3⟩
  · rw [k2, List.length_append, sum4_len]; omega
  · rw [k1, k2]; rfl
  · unfold frmR; rw [k2]; rfl
theorem frm_live {rl : List UInt8} (h : FrmOk rl) : ∃ n k, readI rl = some (n, k) := by
  cases hr : readI rl with
  | none =>
    exfalso
    have h2 := h.2.1
    have hL : intL rl = [] := by unfold intL; rw [hr]; rfl
    have hN : intN rl = 0 := by unfold intN; rw [hr]; rfl
    have : txtL rl = [] := by unfold txtL; rw [if_pos h.1, hL]; simp
    rw [this] at h2
    simp at h2
  | some p => exact ⟨p.1, p.2, rfl⟩
theorem frm_dec {rl : List UInt8} (h : FrmOk rl) : rl = frameB (txtS rl) ++ frmR rl ∧ txtX rl = false ∧ (txtS rl).length ≤ rl.length := by
  obtain ⟨n, k, hr⟩ := frm_live h
  have hi := intB_readI hr
  have hle := readI_le hr
  have hN : intN rl = n := by unfold intN; rw [hr]; rfl
  have hL : intL rl = rl.drop k := by unfold intL; rw [hr]; rfl
  have hX : intX rl = false := by unfold intX; rw [hr]; rfl
  obtain ⟨ok, h4, h5⟩ := h
  have ok2 := ok
  unfold TxtOk at ok2
  rw [hN, hL, List.length_drop] at ok2
  have k1 : txtS rl = (rl.drop k).take n.toNat := by unfold txtS; rw [if_pos ok, hN, hL]
  have k2 : txtL rl = (rl.drop k).drop n.toNat := by unfold txtL; rw [if_pos ok, hN, hL]
  have k3 : txtX rl = false := by unfold txtX; rw [if_pos ok, hX]
  have hlen : (txtS rl).length = n.toNat := by rw [k1, List.length_take, List.length_drop]; omega
  refine ⟨?_, k3, by rw [hlen]; omega⟩
  unfold frameB frmR
  rw [hlen, show ((n.toNat : Nat) : Int) = n by omega, hi, ← h5, List.append_assoc, List.append_assoc, List.take_append_drop, k1, k2, List.take_append_drop, List.take_append_drop]
theorem frm_nil : ¬ FrmOk [] := fun h => by
  obtain ⟨n, k, hr⟩ := frm_live h
  cases hr
theorem frm_cut (s r : List UInt8) (j : Nat) (hs : s.length ≤ 1073741824) (hj : j < (frameB s).length) : ¬ FrmOk ((frameB s ++ r).take j) := fun h => by
  obtain ⟨hd, _, hl⟩ := frm_dec h
  have ht : (frameB s ++ r).take j = (frameB s).take j := by rw [List.take_append_of_le_length (by omega)]
  rw [ht] at hd hl
  have hbd := frameB_bd s
  have hl2 : (txtS ((frameB s).take j)).length ≤ 4294960000 := by
    rw [List.length_take] at hl; omega
  have e : frameB s = frameB (txtS ((frameB s).take j)) ++ (frmR ((frameB s).take j) ++ (frameB s).drop j) := by
    rw [← List.append_assoc, ← hd, List.take_append_drop]
  have h1 := (frm_enc (txtS ((frameB s).take j)) (frmR ((frameB s).take j) ++ (frameB s).drop j) hl2).2.1
  rw [← e] at h1
  have h2 := (frm_enc s [] (by omega)).2.1
  rw [List.append_nil] at h2
  rw [h1] at h2
  have h3 := congrArg List.length hd
  rw [h2, List.length_append, List.length_take] at h3
  omega
/-- The byte strings whose frames bytes begin with. -/
def allB (fs : List (List UInt8)) : List UInt8 := fs.flatMap frameB
def Scanned (b : List UInt8) (fs : List (List UInt8)) : Prop := ∃ r, b = allB fs ++ r ∧ ¬ FrmOk r
theorem allB_snoc (fs : List (List UInt8)) (s : List UInt8) : allB (fs ++ [s]) = allB fs ++ frameB s := by unfold allB; rw [List.flatMap_append]; simp
theorem allB_cons (s : List UInt8) (fs : List (List UInt8)) : allB (s :: fs) = frameB s ++ allB fs := by unfold allB; rw [List.flatMap_cons]
theorem Scanned.one {b : List UInt8} {fs gs : List (List UInt8)} (h : Scanned b fs) (k : Scanned b gs) (hb : b.length ≤ 4294960000) : fs = gs := by
  induction fs generalizing b gs with
  | nil =>
    obtain ⟨r, e, hr⟩ := h
    obtain ⟨r2, e2, hr2⟩ := k
    cases gs with
    | nil => rfl
    | cons s gs =>
      exfalso
      have e1 : b = r := by rw [e]; rfl
      have hbd := frameB_bd s
      rw [allB_cons, List.append_assoc] at e2
      have hl := congrArg List.length e2
      rw [List.length_append] at hl
      exact hr (by rw [← e1, e2]; exact (frm_enc s _ (by omega)).1)
  | cons s fs ih =>
    obtain ⟨r, e, hr⟩ := h
    obtain ⟨r2, e2, hr2⟩ := k
    have hbd := frameB_bd s
    rw [allB_cons, List.append_assoc] at e
    have hl := congrArg List.length e
    rw [List.length_append] at hl
    cases gs with
    | nil =>
      exfalso
      have e3 : b = r2 := by rw [e2]; rfl
      exact hr2 (by rw [← e3, e]; exact (frm_enc s _ (by omega)).1)
    | cons s2 gs =>
      have hbd2 := frameB_bd s2
      rw [allB_cons, List.append_assoc] at e2
      have hl2 := congrArg List.length e2
      rw [List.length_append] at hl2
      have a1 := frm_enc s (allB fs ++ r) (by omega)
      have a2 := frm_enc s2 (allB gs ++ r2) (by omega)
      rw [← e] at a1
      rw [← e2] at a2
      have es : s = s2 := a1.2.1.symm.trans a2.2.1
      have er : allB fs ++ r = allB gs ++ r2 := a1.2.2.1.symm.trans a2.2.2.1
      rw [es, ih (b := allB fs ++ r) (gs := gs) ⟨r, rfl, hr⟩ ⟨r2, er, hr2⟩ (by rw [List.length_append] at hl ⊢; omega)]
/-- Where the frames end. -/
def endsL (ls : List (List UInt8)) (k : Nat) : Nat := (allB (ls.take k)).length
theorem endsL_succ {ls : List (List UInt8)} {k : Nat} (hk : k < ls.length) : endsL ls (k + 1) = endsL ls k + (frameB (ls.getD k [])).length := by
  unfold endsL
  rw [List.take_succ_eq_append_getElem hk, allB_snoc, List.length_append, List.getD_eq_getElem?_getD, List.getElem?_eq_getElem hk]
  rfl
theorem allB_split (ls : List (List UInt8)) (k : Nat) : allB ls = allB (ls.take k) ++ allB (ls.drop k) := by
  unfold allB
  rw [← List.flatMap_append, List.take_append_drop]
/-- Frames that are cut off are scanned as far as they are whole. -/
theorem scanned_cut {ls : List (List UInt8)} {n cut : Nat} (hn : n ≤ ls.length) (h1 : endsL ls n ≤ cut) (h2 : n < ls.length → cut < endsL ls (n + 1)) (hls : ∀ j, j < ls.length → (ls.getD j []).length ≤ 1073741824) : Scanned ((allB ls).take cut) (ls.take n) := by
  refine ⟨(allB (ls.drop n)).take (cut - endsL ls n), ?_, ?_⟩
  · conv => lhs; rw [allB_split ls n]
    rw [List.take_append, List.take_of_length_le (by exact h1)]
    rfl
  · by_cases hlt : n < ls.length
    · have h3 := h2 hlt
      rw [endsL_succ hlt] at h3
      rw [List.drop_eq_getElem_cons hlt, allB_cons]
      have e : ls[n] = ls.getD n [] := by rw [List.getD_eq_getElem?_getD, List.getElem?_eq_getElem hlt]; rfl
      rw [e]
      exact frm_cut _ _ _ (hls n hlt) (by omega)
    · rw [List.drop_eq_nil_iff.2 (by omega)]
      show ¬ FrmOk (List.take _ [])
      rw [List.take_nil]
      exact frm_nil
end Go.Proofs.YtdkgaknfjfgkkaaDoor
namespace Go.Proofs.YtdkgaknfjfgkkaaDoor
open Go.RowKit

set_option maxHeartbeats 1600000 in
set_option maxRecDepth 100000 in
theorem equal_any (A B : Option Addr) (n m c d : Nat) (l k : List UInt8) (w : World) (hn : n = l.length) (hm : m = k.length) (hA : BytesAt w.heap.size w A l) (hB : BytesAt w.heap.size w B k) :
    Calls Tryd.prog 86 #[.slice A n c, .slice B m d] w fun e w' => e = .returned (.bool (l == k)) ∧ w = w' := by
  have h1 : (convert 22 9 (.slice A n c)).run Tryd.prog w = .ok (.string ⟨l.toArray⟩) w := hn ▸ conv_bytes A c l w hA
  have h2 : (convert 22 9 (.slice B m d)).run Tryd.prog w = .ok (.string ⟨k.toArray⟩) w := hm ▸ conv_bytes B d k w hB
  clear hA hB hn hm
  go_enter Tryd.func86, Tryd.ntmps86
  go_wp2_with fail
  go_ret
  exact ⟨rfl, rfl⟩
theorem run_make4 (w : World) : (Instr.makeSlice 22 (.int .i64 0) (.int .i64 4)).run Tryd.prog w = .ok (.slice (some ⟨w.heap.size, 0, none⟩) 0 4) (w.alloc (.cells #[.int .u8 0, .int .u8 0, .int .u8 0, .int .u8 0] 5)) := by kernel_rfl
theorem sum4_get {s k : Nat} (hk : k < 4) : (sum4 s).getD k 0 = UInt8.ofNat (s / 256 ^ k) := by
  rcases (by omega : k = 0 ∨ k = 1 ∨ k = 2 ∨ k = 3) with rfl | rfl | rfl | rfl <;> simp [sum4]
theorem sum4_take {s k : Nat} (hk : k < 4) : (sum4 s).take (k + 1) = (sum4 s).take k ++ [UInt8.ofNat (s / 256 ^ k)] := by
  have hl : k < (sum4 s).length := hk
  rw [List.take_succ_eq_append_getElem hl, ← sum4_get hk, List.getD_eq_getElem?_getD, List.getElem?_eq_getElem hl]
  rfl
set_option maxHeartbeats 3200000 in
set_option maxRecDepth 100000 in
theorem sumOf_any (A : Option Addr) (c : Nat) (l : List UInt8) (w : World) (hB : BytesAt w.heap.size w A l) (hT : Tab w) (hl : l.length ≤ maxLen) :
    Calls Tryd.prog 76 #[.slice A l.length c] w (OwnRes w (sum4 (sumL l))) := by
  have HB1 := hide (fun (w' : World) o => (Below.refl w'.heap.size w').alloc (Nat.le_refl _) o)
  have HS := hide (sum_any A c l _ (hB.on (HB1.out w (.cells #[.int .u8 0, .int .u8 0, .int .u8 0, .int .u8 0] 5))) (hT.on (HB1.out w (.cells #[.int .u8 0, .int .u8 0, .int .u8 0, .int .u8 0] 5))) hl)
  have hs := sumL_lt l
  have hE := hide (World.ownsRow_made (base := w.heap.size) (e := 5) (size := 1) w #[.int .u8 0, .int .u8 0, .int .u8 0, .int .u8 0] 4 (Nat.le_refl _) (by decide) rfl)
  have HTk := hide (fun k h => sum4_take (s := sumL l) (k := k) h)
  have hmk := run_make4
  unfold OwnRes
  clear hB hT hl
  generalize sumL l = s at *
  go_enter Tryd.func76, Tryd.ntmps76
  go_wp2_with fail
  refine HS.out.mono ?_
  rintro e w1 ⟨rfl, rfl⟩
  go_wp2_with fail
  go_loopw [3, 4, 8] (fun v x i wr => ∃ k : Nat, k ≤ 4 ∧ i = .int .i64 k ∧ x = .int .u32 (s / 256 ^ k : Nat) ∧ wr.ownsRow w.heap.size 5 1 v k (byC ((sum4 s).take k)) ∧ Below w.heap.size w wr) (fun _ _ i _ => 4 - (intOf i).toNat)
  case atStart => exact ⟨0, by omega, rfl, by rw [Nat.pow_zero, Nat.div_one], hE.out, HB1.out w _⟩
  case round =>
    obtain ⟨k, hk, rfl, rfl, hrow, hbw⟩ := hrel
    by_cases hlk : k < 4
    · have HQ := hide (show s / 256 ^ (k + 1) = s / 256 ^ k / 256 by rw [Nat.pow_succ, Nat.div_div_eq_div_mul])
      have hq : s / 256 ^ k < 4294967296 := Nat.lt_of_le_of_lt (Nat.div_le_self _ _) hs
      have HT1 := hide (HTk.out k hlk)
      generalize s / 256 ^ k = q at *
      have HRow := hide hrow
      have HBw := hide hbw
      have hsz := hbw.size
      obtain ⟨A1, cp1, rfl, -⟩ := row_slice hrow
      have HU := hide (u8mod q)
      generalize UInt8.ofNat q = z at *
      clear hrow hbw
      go_wp2_with (at_builtin; go_must (refine append_bytes rfl _ _ rfl w.heap.size (.slice A1 k cp1) ((sum4 s).take k) [z] k rfl (HRow.out.alloc _) _ (some ⟨wr.heap.size, 0, none⟩) 1 1 rfl rfl (one_new wr _ _ ?hy) (fun e => by cases e) (by omega) (by simp; omega) ?_))
      case hy =>
        rw [HU.out]
        omega
      intro v' w4 hown4 hgrow4 hat4
      have HB4 := hide (grow_below HBw.out HRow.out hsz _ hgrow4)
      rw [← HT1.out] at hown4
      have HO4 := hide hown4
      obtain ⟨A4, cp4, rfl, -⟩ := row_slice hown4
      clear hown4 hgrow4 hat4
      go_wp2_with fail
      go_roundw
      case rel => exact ⟨k + 1, by omega, by go_num, by rw [HQ.out]; go_num, HO4.out, HB4.out⟩
      case measure => simp [intOf]; omega
    · obtain rfl : k = 4 := by omega
      have hrow4 : wr.ownsRow w.heap.size 5 1 u3 (sum4 s).length (byC (sum4 s)) := hrow
      have HF := hide (And.intro hrow4 hbw)
      obtain ⟨A4, cp4, rfl, -⟩ := row_slice hrow4
      clear hrow hrow4 hbw
      go_wp2_with fail
      go_ret
      exact ⟨_, rfl, HF.out⟩
set_option maxHeartbeats 3200000 in
set_option maxRecDepth 100000 in
theorem frame_any (A : Option Addr) (c : Nat) (l : List UInt8) (w : World) (hB : BytesAt w.heap.size w A l) (hT : Tab w) (hl : l.length ≤ 4294960000) (hnil : A = none → c = 0) :
    Calls Tryd.prog 67 #[.slice A l.length c] w (OwnRes w (frameB l)) := by
  have HB1 := hide (fun (w' : World) o => (Below.refl w'.heap.size w').alloc (Nat.le_refl _) o)
  have HO0 := hide (out_new w)
  have HI := hide (outInt_any (l.length : Int) _ ⟨by omega, by omega⟩ HO0.out (by simp))
  have HBy := hide hB
  have HT := hide hT
  have HN := hide hnil
  have HSo := hide (fun w' (h : Below w.heap.size w w') => sumOf_any A c l w' (hB.on h) (hT.on h) (by unfold maxLen; omega))
  unfold OwnRes at HSo ⊢
  have HFr := hide (show frameB l = intB l.length ++ (l ++ sum4 (sumL l)) from rfl)
  have hi9 := (intB_len (l.length : Int)).2
  have h4 : (sum4 (sumL l)).length = 4 := rfl
  rw [List.nil_append] at HI
  clear hB hT hnil
  generalize sum4 (sumL l) = s4 at *
  generalize intB (l.length : Int) = ib at *
  have HFl := hide (show (frameB l).length = ib.length + l.length + 4 by rw [HFr.out, List.length_append, List.length_append, h4]; omega)
  generalize frameB l = fb at *
  go_enter Tryd.func67, Tryd.ntmps67
  go_wp2_with fail
  refine HI.out.mono ?_
  rintro e w1 ⟨rfl, v1, hv1, ht1⟩
  have HB2 := hide ((HB1.out w _).trans ((ht1.below HO0.out)))
  have hs2 := HB2.out.size
  have HR1 := hide hv1.row
  obtain ⟨A1, cp1, rfl, -⟩ := row_slice hv1.row
  have c0 : w1.cell? ⟨w.heap.size, 0, none⟩ = some (.slice A1 ib.length cp1) := Lib.cell_of_heap hv1.box 0
  clear hv1 ht1
  go_wp2_with (at_builtin; go_must (refine append_bytes rfl _ _ rfl w.heap.size (.slice A1 ib.length cp1) ib l ib.length rfl HR1.out _ A l.length c rfl rfl (HBy.out.on HB2.out) HN.out (by omega) hs2 ?_))
  intro v2 w2 hown2 hgrow2 hat2
  have HR2 := hide hown2
  have HB3 := hide (grow_below0 HB2.out HR1.out hs2 hgrow2)
  have hs3 := HB3.out.size
  obtain ⟨A2, cp2, rfl, -⟩ := row_slice hown2
  clear hown2 hgrow2 hat2 c0
  go_wp2_with fail
  refine (HSo.out w2 HB3.out).mono ?_
  rintro e w3 ⟨v3, rfl, hr3, hb3⟩
  have HB4 := hide (HB3.out.trans (hb3.mono hs3))
  have hs4 := HB4.out.size
  have HR4 := hide (row_keep HR2.out (w' := w3) fun b e => hb3.block b (HR2.out.lt b e).2)
  obtain ⟨A3, cp3, rfl, hBy3, _, hn3, _⟩ := bytes_of_row hr3
  rw [h4]
  clear hr3 hb3
  go_wp2_with (at_builtin; go_must (refine append_bytes rfl _ _ rfl w.heap.size (.slice A2 (ib.length + l.length) cp2) (ib ++ l) s4 (ib.length + l.length) rfl HR4.out _ A3 4 cp3 h4.symm rfl hBy3 hn3 (by omega) hs4 ?_))
  intro v5 w5 hown5 hgrow5 hat5
  have HB5 := hide (grow_below0 HB4.out HR4.out hs4 hgrow5)
  have HR5 := hide (show w5.ownsRow w.heap.size 5 1 v5 fb.length (byC fb) by rw [HFl.out, HFr.out]; first | exact hown5 | (rw [← List.append_assoc]; exact hown5))
  obtain ⟨A5, cp5, rfl, -⟩ := row_slice hown5
  clear hown5 hgrow5 hat5 hBy3 hn3
  go_wp2_with fail
  go_ret
  exact ⟨_, rfl, HR5.out, HB5.out⟩
end Go.Proofs.YtdkgaknfjfgkkaaDoor
namespace Go.Proofs.YtdkgaknfjfgkkaaDoor
open Go.RowKit

def FrmRes (lo : Nat → Prop) (g : Nat) (w : World) (rl : List UInt8) (e : Ending) (w' : World) : Prop :=
  (FrmOk rl → ∃ A c, e = .returned (.slice A (txtS rl).length c) ∧ (A = none → c = 0) ∧ Reads lo g w' A (txtS rl) ∧ InAt lo g w' (frmR rl) false) ∧
  (¬ FrmOk rl → e = .returned (.slice none 0 0) ∧ InAt lo g w' [] true) ∧ OnlyG g w w'
theorem Reads.below {lo : Nat → Prop} {g : Nat} {w w' : World} {A : Option Addr} {l : List UInt8} (h : Reads lo g w A l) (hb : Below w.heap.size w w') : Reads lo g w' A l := h.keep hb.size fun b _ _ hlt => hb.block b hlt
set_option maxHeartbeats 6400000 in
set_option maxRecDepth 100000 in
theorem inFrm_any {lo : Nat → Prop} {g : Nat} {rl : List UInt8} {bad : Bool} (w : World) (hI : InAt lo g w rl bad) (hT : ∀ w', OnlyG g w w' → Tab w') (hl : rl.length ≤ 1073741824) :
    Calls Tryd.prog 77 #[vI g] w (FrmRes lo g w rl) := by
  have HT := hide hT
  have HInt := hide (inInt_any w hI)
  have hn := intN_i64 rl
  unfold Int64 at hn
  obtain ⟨hn0, hn1⟩ := hn
  have hil : (intL rl).length ≤ 1073741824 := by
    unfold intL
    cases readI rl with
    | none => simp
    | some p => simp only [Option.elim_some, List.length_drop]; omega
  unfold IntRes at HInt
  clear hT hI hl
  by_cases ok : TxtOk rl
  · have ok2 := ok
    unfold TxtOk at ok2
    obtain ⟨k, hk⟩ : ∃ k : Nat, intN rl = k := ⟨(intN rl).toNat, by omega⟩
    have hkl : k ≤ (intL rl).length := by omega
    have t1 : txtS rl = (intL rl).take k := by unfold txtS; rw [if_pos ok, hk, Int.toNat_natCast]
    have t2 : txtL rl = (intL rl).drop k := by unfold txtL; rw [if_pos ok, hk, Int.toNat_natCast]
    have t3 : txtX rl = intX rl := by unfold txtX; rw [if_pos ok]
    have hlen : (txtS rl).length = k := by rw [t1, List.length_take]; omega
    have HTk := hide (fun w' (h : InAt lo g w' (intL rl) (intX rl)) => take_yes k w' h hkl)
    rw [← t1, ← t2, ← t3] at HTk
    have hsl : (txtS rl).length ≤ 1073741824 := by omega
    rw [hk, ← t3] at HInt
    have HOk := hide ok
    have HX := hide (fun h => (frm_dec (rl := rl) h).2.1)
    clear ok ok2 hk hkl t1 t2 t3 hn0 hn1 hil
    have HLen := hide hlen
    clear hlen
    by_cases h4 : 4 ≤ (txtL rl).length
    · have HFrm := hide (show FrmOk rl ↔ (txtL rl).take 4 = sum4 (sumL (txtS rl)) from ⟨fun h => h.2.2, fun h => ⟨HOk.out, h4, h⟩⟩)
      have HR := hide (show frmR rl = (txtL rl).drop 4 from rfl)
      have HTk4 := hide (fun w' (h : InAt lo g w' (txtL rl) (txtX rl)) => take_yes 4 w' h h4)
      have hl4 : ((txtL rl).take 4).length = 4 := by rw [List.length_take]; omega
      have HL4 := hide hl4
      have HSo := hide (fun A c w' (h : BytesAt w'.heap.size w' A (txtS rl)) (ht : Tab w') => sumOf_any A c (txtS rl) w' h ht (by unfold maxLen; omega))
      unfold OwnRes at HSo
      have HS4 := hide (show (sum4 (sumL (txtS rl))).length = 4 from rfl)
      rw [HLen.out] at HSo
      unfold FrmRes
      rw [HR.out, HLen.out]
      clear hl4 h4 hsl
      generalize txtS rl = ts at *
      generalize sum4 (sumL ts) = s4 at *
      generalize txtL rl = tl at *
      generalize tl.take 4 = t4 at *
      generalize tl.drop 4 = r4 at *
      go_enter Tryd.func77, Tryd.ntmps77
      go_wp2_with fail
      refine HInt.out.mono ?_
      rintro e w1 ⟨rfl, hI1, ho1⟩
      have HI1 := hide hI1
      have HO1 := hide ho1
      clear hI1 ho1
      go_wp2_with fail
      refine (HTk.out w1 HI1.out).mono ?_
      rintro e w2 ⟨A2, c2, rfl, hc2, hn2, hR2, hI2, ho2⟩
      have HI2 := hide hI2
      have HR2 := hide hR2
      have HN2 := hide hn2
      have HO2 := hide (HO1.out.trans ho2)
      clear hI2 hR2 ho2 hn2
      go_wp2_with fail
      refine (HTk4.out w2 HI2.out).mono ?_
      rintro e w3 ⟨A3, c3, rfl, hc3, hn3, hR3, hI3, ho3⟩
      have HI3 := hide hI3
      have HR3 := hide hR3
      have HR23 := hide (HR2.out.turn ho3)
      have HO3 := hide (HO2.out.trans ho3)
      have HSo3 := hide (HSo.out A2 c2 w3 HR23.out.bytes (HT.out w3 HO3.out))
      clear hI3 hR3 ho3 hn3 hc3
      go_wp2_with fail
      refine HSo3.out.mono ?_
      rintro e w4 ⟨v4, rfl, hr4, hb4⟩
      have HI4 := hide (HI3.out.below hb4)
      have HR4 := hide (HR3.out.below hb4)
      have HR24 := hide (HR23.out.below hb4)
      have HO4 := hide (HO3.out.trans (OnlyG.of_below hb4))
      obtain ⟨A4, c4, rfl, hBy4, _, _, _⟩ := bytes_of_row hr4
      rw [HS4.out]
      have HEq := hide (equal_any A3 A4 4 4 c3 c4 t4 s4 w4 HL4.out.symm HS4.out.symm HR4.out.bytes hBy4)
      clear hr4 hb4 hBy4
      by_cases heq : t4 = s4
      · have HF := hide (HFrm.out.2 heq)
        have hbe : (t4 == s4) = true := by rw [heq, beq_self_eq_true]
        rw [hbe] at HEq
        have HX2 := hide (HX.out HF.out)
        rw [HX2.out] at HI4
        clear heq hbe
        go_wp2_with fail
        refine HEq.out.mono ?_
        rintro e w5 ⟨rfl, rfl⟩
        go_wp2_with fail
        go_ret
        exact ⟨fun _ => ⟨A2, c2, rfl, HN2.out, HR24.out, HI4.out⟩, fun h => absurd HF.out h, HO4.out⟩
      · have HF := hide (fun h => heq (HFrm.out.1 h))
        have hbe : (t4 == s4) = false := by rw [beq_eq_false_iff_ne]; exact heq
        rw [hbe] at HEq
        have HFl := hide (fail_any w4 HI4.out)
        clear heq hbe
        go_wp2_with fail
        refine HEq.out.mono ?_
        rintro e w5 ⟨rfl, rfl⟩
        go_wp2_with fail
        refine HFl.out.mono ?_
        rintro e w6 ⟨rfl, hI6, ho6⟩
        have HI6 := hide hI6
        have HO6 := hide (HO4.out.trans ho6)
        clear hI6 ho6
        go_wp2_with fail
        go_ret
        exact ⟨fun h => (HF.out h).elim, fun _ => ⟨rfl, HI6.out⟩, HO6.out⟩
    · have HF := hide (fun (h : FrmOk rl) => h4 h.2.1)
      have HTk4 := hide (fun w' (h : InAt lo g w' (txtL rl) (txtX rl)) => take_no 4 w' h (by omega) (by omega) (by omega))
      have HSo := hide (fun A c w' (h : BytesAt w'.heap.size w' A (txtS rl)) (ht : Tab w') => sumOf_any A c (txtS rl) w' h ht (by unfold maxLen; omega))
      unfold OwnRes at HSo
      have HS4 := hide (show (sum4 (sumL (txtS rl))).length = 4 from rfl)
      rw [HLen.out] at HSo
      unfold FrmRes
      rw [HLen.out]
      have hbe : (([] : List UInt8) == sum4 (sumL (txtS rl))) = false := rfl
      clear h4 hsl HX
      generalize txtS rl = ts at *
      generalize sum4 (sumL ts) = s4 at *
      generalize txtL rl = tl at *
      go_enter Tryd.func77, Tryd.ntmps77
      go_wp2_with fail
      refine HInt.out.mono ?_
      rintro e w1 ⟨rfl, hI1, ho1⟩
      have HI1 := hide hI1
      have HO1 := hide ho1
      clear hI1 ho1
      go_wp2_with fail
      refine (HTk.out w1 HI1.out).mono ?_
      rintro e w2 ⟨A2, c2, rfl, hc2, hn2, hR2, hI2, ho2⟩
      have HI2 := hide hI2
      have HR2 := hide hR2
      have HO2 := hide (HO1.out.trans ho2)
      clear hI2 hR2 ho2 hn2
      go_wp2_with fail
      refine (HTk4.out w2 HI2.out).mono ?_
      rintro e w3 ⟨rfl, hI3, ho3⟩
      have HI3 := hide hI3
      have HR23 := hide (HR2.out.turn ho3)
      have HO3 := hide (HO2.out.trans ho3)
      have HSo3 := hide (HSo.out A2 c2 w3 HR23.out.bytes (HT.out w3 HO3.out))
      clear hI3 ho3
      go_wp2_with fail
      refine HSo3.out.mono ?_
      rintro e w4 ⟨v4, rfl, hr4, hb4⟩
      have HI4 := hide (HI3.out.below hb4)
      have HO4 := hide (HO3.out.trans (OnlyG.of_below hb4))
      obtain ⟨A4, c4, rfl, hBy4, _, _, _⟩ := bytes_of_row hr4
      rw [HS4.out]
      have HEq := hide (equal_any none A4 0 4 0 c4 [] s4 w4 rfl HS4.out.symm (fun j hj => by simp at hj) hBy4)
      rw [hbe] at HEq
      have HFl := hide (fail_any w4 HI4.out)
      clear hr4 hb4 hBy4 hbe
      go_wp2_with fail
      refine HEq.out.mono ?_
      rintro e w5 ⟨rfl, rfl⟩
      go_wp2_with fail
      refine HFl.out.mono ?_
      rintro e w6 ⟨rfl, hI6, ho6⟩
      have HI6 := hide hI6
      have HO6 := hide (HO4.out.trans ho6)
      clear hI6 ho6
      go_wp2_with fail
      go_ret
      exact ⟨fun h => (HF.out h).elim, fun _ => ⟨rfl, HI6.out⟩, HO6.out⟩
  · have HF := hide (fun (h : FrmOk rl) => ok h.1)
    have HTk := hide (fun w' (h : InAt lo g w' (intL rl) (intX rl)) => take_no (intN rl) w' h hn0 hn1 ok)
    have HTk4 := hide (fun w' (h : InAt lo g w' [] true) => take_no 4 w' h (by omega) (by omega) (by simp))
    have HSo := hide (fun w' (ht : Tab w') => sumOf_any none 0 [] w' (fun j hj => by simp at hj) ht (by unfold maxLen; simp))
    unfold OwnRes at HSo
    have HS4 := hide (show (sum4 (sumL [])).length = 4 from rfl)
    have hbe : (([] : List UInt8) == sum4 (sumL [])) = false := rfl
    rw [show ([] : List UInt8).length = 0 from rfl] at HSo
    unfold FrmRes
    clear ok hil
    generalize sum4 (sumL []) = s4 at *
    generalize intN rl = k at *
    go_enter Tryd.func77, Tryd.ntmps77
    go_wp2_with fail
    refine HInt.out.mono ?_
    rintro e w1 ⟨rfl, hI1, ho1⟩
    have HI1 := hide hI1
    have HO1 := hide ho1
    clear hI1 ho1
    go_wp2_with fail
    refine (HTk.out w1 HI1.out).mono ?_
    rintro e w2 ⟨rfl, hI2, ho2⟩
    have HI2 := hide hI2
    have HO2 := hide (HO1.out.trans ho2)
    clear hI2 ho2
    go_wp2_with fail
    refine (HTk4.out w2 HI2.out).mono ?_
    rintro e w3 ⟨rfl, hI3, ho3⟩
    have HI3 := hide hI3
    have HO3 := hide (HO2.out.trans ho3)
    have HSo3 := hide (HSo.out w3 (HT.out w3 HO3.out))
    clear hI3 ho3
    go_wp2_with fail
    refine HSo3.out.mono ?_
    rintro e w4 ⟨v4, rfl, hr4, hb4⟩
    have HI4 := hide (HI3.out.below hb4)
    have HO4 := hide (HO3.out.trans (OnlyG.of_below hb4))
    obtain ⟨A4, c4, rfl, hBy4, _, _, _⟩ := bytes_of_row hr4
    rw [HS4.out]
    have HEq := hide (equal_any none A4 0 4 0 c4 [] s4 w4 rfl HS4.out.symm (fun j hj => by simp at hj) hBy4)
    rw [hbe] at HEq
    have HFl := hide (fail_any w4 HI4.out)
    clear hr4 hb4 hBy4 hbe
    go_wp2_with fail
    refine HEq.out.mono ?_
    rintro e w5 ⟨rfl, rfl⟩
    go_wp2_with fail
    refine HFl.out.mono ?_
    rintro e w6 ⟨rfl, hI6, ho6⟩
    have HI6 := hide hI6
    have HO6 := hide (HO4.out.trans ho6)
    clear hI6 ho6
    go_wp2_with fail
    go_ret
    exact ⟨fun h => (HF.out h).elim, fun _ => ⟨rfl, HI6.out⟩, HO6.out⟩
end Go.Proofs.YtdkgaknfjfgkkaaDoor
namespace Go.Proofs.YtdkgaknfjfgkkaaDoor
open Go.RowKit

/-- A byte slice, with what it holds. -/
structure BH where
  A : Option Addr
  c : Nat
  l : List UInt8
def hdr (h : BH) : Value := .slice h.A h.l.length h.c
def lsOf (hs : List BH) : List (List UInt8) := hs.map (·.l)
theorem lsOf_snoc (hs : List BH) (h : BH) : lsOf (hs ++ [h]) = lsOf hs ++ [h.l] := by simp [lsOf]
theorem lsOf_len (hs : List BH) : (lsOf hs).length = hs.length := by simp [lsOf]
/-- A slice's bytes, in a block of the call's own that is not v's. -/
def HAt (base : Nat) (w : World) (v : Value) (h : BH) : Prop := ∀ j, j < h.l.length → ∃ b off, h.A = some ⟨b, off, none⟩ ∧ base ≤ b ∧ b < w.heap.size ∧ v.ownBlock ≠ some b ∧ w.cell? ⟨b, off + j, none⟩ = some (.int .u8 (h.l.getD j 0).toNat)
structure HeadsOwn (base : Nat) (w : World) (v : Value) (hs : List BH) : Prop where
  row : w.ownsRow base 22 1 v hs.length (hs.map hdr)
  lies : ∀ h, h ∈ hs → HAt base w v h
theorem HAt.keep {base : Nat} {w w' : World} {v : Value} {h : BH} (k : HAt base w v h) (hs : w.heap.size ≤ w'.heap.size) (hb : ∀ b, base ≤ b → b < w.heap.size → v.ownBlock ≠ some b → w'.heap[b]? = w.heap[b]?) : HAt base w' v h := fun j hj => by
  obtain ⟨b, off, e, e1, e2, e3, e4⟩ := k j hj
  refine ⟨b, off, e, e1, Nat.lt_of_lt_of_le e2 hs, e3, ?_⟩
  rw [← e4]
  simp only [World.cell?]
  rw [hb b e1 e2 e3]
theorem HeadsOwn.keep {base : Nat} {w w' : World} {v : Value} {hs : List BH} (k : HeadsOwn base w v hs) (hs' : w.heap.size ≤ w'.heap.size) (hb : ∀ b, base ≤ b → b < w.heap.size → w'.heap[b]? = w.heap[b]?) : HeadsOwn base w' v hs :=
  ⟨row_keep k.row fun b e => hb b (k.row.lt b e).1 (k.row.lt b e).2, fun h hm => (k.lies h hm).keep hs' fun b e1 e2 _ => hb b e1 e2⟩
theorem HeadsOwn.below {base : Nat} {w w' : World} {v : Value} {hs : List BH} (k : HeadsOwn base w v hs) (hb : Below w.heap.size w w') : HeadsOwn base w' v hs := k.keep hb.size fun b _ h => hb.block b h
theorem HeadsOwn.nil (base : Nat) (w : World) : HeadsOwn base w (.slice none 0 0) [] := ⟨World.ownsRow_nil _ _ _ _, fun h hm => by simp at hm⟩
theorem HAt.bytes {base : Nat} {w : World} {v : Value} {h : BH} (k : HAt base w v h) : BytesAt w.heap.size w h.A h.l := fun j hj => by
  obtain ⟨b, off, e, _, e2, _, e4⟩ := k j hj
  exact ⟨b, off, e, e2, e4⟩
theorem head_info : (Tryd.prog.info? 22).map (fun i => (i.zero, i.size, i.bytes)) = some (some (.slice none 0 0), 1, 24) := by kernel_rfl
set_option maxRecDepth 100000 in
/-- append of one byte slice. -/
theorem append_head {w : World} {ops : Array Oper} {rest : List Oper} {o : Oper} {a : Act} {Q : Exit → Act → World → Prop} (hgd : o.guard = none) (s x : Operand)
    (ho : o.op = .call { callee := .builtin .append, args := #[s, x], argTypes := #[46, 46] })
    (base : Nat) (v : Value) (hs : List BH) (n : Nat) (hn : n = hs.length) (he : a.eval s = v) (hown : HeadsOwn base w v hs) (h : BH) (bl : Nat) (hx : a.eval x = .slice (some ⟨bl, 0, none⟩) 1 1) (hc : w.cell? ⟨bl, 0, none⟩ = some (hdr h))
    (hh : HAt base w v h) (hlen : n ≤ 1073741824) (hbase : base ≤ w.heap.size)
    (hk : ∀ v' w', HeadsOwn base w' v' (hs ++ [h]) → w'.ownsRow base 22 1 v' (n + 1) ((hs ++ [h]).map hdr) → w.grownBy w' v.ownBlock → wpList Tryd.prog ops Q rest (a.put o.dst v') w') : wpList Tryd.prog ops Q (o :: rest) a w := by
  subst hn
  obtain ⟨i0, hi, hz0, hz1, hz2⟩ := info_parts head_info
  have hcat : (hs ++ [h]).map hdr = hs.map hdr ++ [hdr h] := by simp
  refine wpList_append_own_at w hgd s x _ ho base 22 i0 (.slice none 0 0) 1 24 Tryd.underlying46 hi hz0 hz1 hz2 rfl (by decide) v hs.length _ he hown.row ⟨bl, 0, none⟩ 1 1 [hdr h] hx rfl ?_ ?_ (by unfold maxLen; omega) (by omega) hbase ?_
  · intro j u hu
    match j, hu with
    | 0, hu =>
      simp at hu
      subst hu
      exact hc
  · intro u hu
    simp at hu
    subst hu
    rfl
  · intro v' w' h1 h2 _ h4
    rw [← hcat] at h1
    have hap : ∀ b, b < w.heap.size → v.ownBlock ≠ some b → v'.ownBlock ≠ some b := fun b hb hv e => by
      rcases h4 with h5 | h5
      · exact hv (h5.symm.trans e)
      · rw [e] at h5; injection h5 with h5; omega
    have hkeep : ∀ k, HAt base w v k → HAt base w' v' k := fun k hk' j hj => by
      obtain ⟨b, off, e, e1, e2, e3, e4⟩ := hk' j hj
      refine ⟨b, off, e, e1, Nat.lt_of_lt_of_le e2 h2.size, hap b e2 e3, ?_⟩
      rw [← e4]
      simp only [World.cell?]
      rw [h2.block b e2 (fun q => e3 q.symm)]
    refine hk v' w' ⟨by rw [List.length_append]; exact h1, fun k hm => ?_⟩ h1 h2
    rcases List.mem_append.1 hm with hm | hm
    · exact hkeep k (hown.lies k hm)
    · simp at hm; subst hm; exact hkeep k hh
end Go.Proofs.YtdkgaknfjfgkkaaDoor
namespace Go.Proofs.YtdkgaknfjfgkkaaDoor
open Go.RowKit

def intC (l : List Int) : List Value := l.map fun n => .int .i64 n
theorem int_info : (Tryd.prog.info? 3).map (fun i => (i.zero, i.size, i.bytes)) = some (some (.int .i64 0), 1, 8) := by kernel_rfl
set_option maxRecDepth 100000 in
/-- append of one integer. -/
theorem append_int {w : World} {ops : Array Oper} {rest : List Oper} {o : Oper} {a : Act} {Q : Exit → Act → World → Prop} (hgd : o.guard = none) (s x : Operand)
    (ho : o.op = .call { callee := .builtin .append, args := #[s, x], argTypes := #[47, 47] })
    (base : Nat) (v : Value) (xs : List Int) (n : Nat) (he : a.eval s = v) (hown : w.ownsRow base 3 1 v n (intC xs)) (y : Int) (bl : Nat) (hx : a.eval x = .slice (some ⟨bl, 0, none⟩) 1 1) (hc : w.cell? ⟨bl, 0, none⟩ = some (.int .i64 y))
    (hlen : n ≤ 1073741824) (hbase : base ≤ w.heap.size)
    (hk : ∀ v' w', w'.ownsRow base 3 1 v' (n + 1) (intC (xs ++ [y])) → w.grownBy w' v.ownBlock → (v'.ownBlock = v.ownBlock ∨ v'.ownBlock = some w.heap.size) → wpList Tryd.prog ops Q rest (a.put o.dst v') w') : wpList Tryd.prog ops Q (o :: rest) a w := by
  obtain ⟨i0, hi, hz0, hz1, hz2⟩ := info_parts int_info
  have hcat : intC (xs ++ [y]) = intC xs ++ [.int .i64 y] := by simp [intC]
  refine wpList_append_own_at w hgd s x _ ho base 3 i0 (.int .i64 0) 1 8 Tryd.underlying47 hi hz0 hz1 hz2 rfl (by decide) v n _ he hown ⟨bl, 0, none⟩ 1 1 [.int .i64 y] hx rfl ?_ ?_ (by unfold maxLen; omega) (by omega) hbase ?_
  · intro j u hu
    match j, hu with
    | 0, hu =>
      simp at hu
      subst hu
      exact hc
  · intro u hu
    simp at hu
    subst hu
    rfl
  · intro v' w' h1 h2 _ h4
    rw [← hcat] at h1
    exact hk v' w' h1 h2 h4
structure TwoR (base : Nat) (w : World) (va ve : Value) (la : List UInt8) (es : List Int) : Prop where
  ra : w.ownsRow base 5 1 va la.length (byC la)
  re : w.ownsRow base 3 1 ve es.length (intC es)
  ap : ∀ b, va.ownBlock = some b → ve.ownBlock ≠ some b
theorem TwoR.below {base : Nat} {w w' : World} {va ve : Value} {la : List UInt8} {es : List Int} (h : TwoR base w va ve la es) (hb : Below w.heap.size w w') : TwoR base w' va ve la es :=
  ⟨row_keep h.ra fun b e => hb.block b (h.ra.lt b e).2, row_keep h.re fun b e => hb.block b (h.re.lt b e).2, h.ap⟩
theorem TwoR.appA {base : Nat} {w w' : World} {va va' ve : Value} {la ys : List UInt8} {es : List Int} (h : TwoR base w va ve la es) (n : Nat) (hn : n = (la ++ ys).length) (h1 : w'.ownsRow base 5 1 va' n (byC (la ++ ys))) (h2 : w.grownBy w' va.ownBlock) (h3 : va'.ownBlock = va.ownBlock ∨ va'.ownBlock = some w.heap.size) : TwoR base w' va' ve (la ++ ys) es := by
  subst hn
  refine ⟨h1, row_keep h.re fun b e => h2.block b (h.re.lt b e).2 fun e2 => h.ap b e2.symm e, fun b e e2 => ?_⟩
  rcases h3 with h4 | h4
  · exact h.ap b (h4.symm.trans e) e2
  · rw [e] at h4; injection h4 with h4
    have := (h.re.lt b e2).2; omega
theorem TwoR.appE {base : Nat} {w w' : World} {va ve ve' : Value} {la : List UInt8} {es : List Int} {y : Int} (h : TwoR base w va ve la es) (n : Nat) (hn : n = (es ++ [y]).length) (h1 : w'.ownsRow base 3 1 ve' n (intC (es ++ [y]))) (h2 : w.grownBy w' ve.ownBlock) (h3 : ve'.ownBlock = ve.ownBlock ∨ ve'.ownBlock = some w.heap.size) : TwoR base w' va ve' la (es ++ [y]) := by
  subst hn
  refine ⟨row_keep h.ra fun b e => h2.block b (h.ra.lt b e).2 fun e2 => h.ap b e e2.symm, h1, fun b e e2 => ?_⟩
  rcases h3 with h4 | h4
  · exact h.ap b e (h4.symm.trans e2)
  · rw [e2] at h4; injection h4 with h4
    have := (h.ra.lt b e).2; omega
theorem BytesAt.take {B : Nat} {w : World} {A : Option Addr} {l : List UInt8} (h : BytesAt B w A l) (n : Nat) : BytesAt B w A (l.take n) := fun j hj => by
  rw [List.length_take] at hj
  obtain ⟨b, off, e, hlt, hc⟩ := h j (by omega)
  refine ⟨b, off, e, hlt, ?_⟩
  rw [hc, List.getD_eq_getElem?_getD, List.getD_eq_getElem?_getD, List.getElem?_take_of_lt (by omega)]
/-- The ends so far. -/
def endsV (ls : List (List UInt8)) (k : Nat) : List Int := (List.range k).map fun j => ((endsL ls (j + 1) : Nat) : Int)
theorem endsV_len (ls : List (List UInt8)) (k : Nat) : (endsV ls k).length = k := by simp [endsV]
theorem endsV_succ (ls : List (List UInt8)) (k : Nat) : endsV ls (k + 1) = endsV ls k ++ [((endsL ls (k + 1) : Nat) : Int)] := by simp [endsV, List.range_succ]
theorem endsV_get {ls : List (List UInt8)} {k j : Nat} (hj : j < k) : (endsV ls k).getD j 0 = ((endsL ls (j + 1) : Nat) : Int) := by
  unfold endsV
  rw [List.getD_eq_getElem?_getD, List.getElem?_map, List.getElem?_range hj]
  rfl
theorem ints_of_row {w : World} {base : Nat} {v : Value} {l : List Int} (h : w.ownsRow base 3 1 v l.length (intC l)) :
    ∃ A c, v = .slice A l.length c ∧ IntsAt w.heap.size w A l := by
  rcases h.2 with ⟨rfl, h0⟩ | ⟨g, cap, cur, rfl, hb, hg, hn, _, hsz, htk⟩
  · rw [h0]; exact ⟨none, 0, rfl, (fun j hj => by omega)⟩
  · refine ⟨some ⟨g, 0, none⟩, cap, rfl, fun j hj => ⟨g, 0, rfl, (Array.getElem?_eq_some_iff.1 hg).1, ?_⟩⟩
    rw [Nat.zero_add, Lib.cell_of_heap hg]
    have hc : (intC l)[j]? = some (.int .i64 (l.getD j 0)) := by
      unfold intC
      rw [List.getElem?_map, List.getElem?_eq_getElem hj, List.getD_eq_getElem?_getD, List.getElem?_eq_getElem hj]
      rfl
    rw [← htk, List.getElem?_take_of_lt (by omega)] at hc
    simpa using hc
/-- Where a row lies. -/
theorem row_addr {w : World} {base n c : Nat} {e : TypeId} {A : Option Addr} {xs : List Value} (h : w.ownsRow base e 1 (.slice A n c) n xs) : (∀ a, A = some a → a = ⟨a.block, 0, none⟩) ∧ (A = none → n = 0 ∧ c = 0) := by
  rcases h.2 with ⟨h1, h0⟩ | ⟨g, cap, cur, h1, hb, hg, hn, _, hsz, htk⟩
  · injection h1 with h1 h2 h3
    subst h1
    exact ⟨(fun a e => by cases e), fun _ => ⟨h0, h3⟩⟩
  · injection h1 with h1 h2 h3
    subst h1
    exact ⟨(fun a e => by injection e with e; rw [← e]), fun e => by cases e⟩
/-- Byte slices that come in. -/
def dH : BH := ⟨none, 0, []⟩
def HeadsAt (B : Nat) (w : World) (A : Option Addr) (hs : List BH) : Prop :=
  ∀ j, j < hs.length → ∃ b off, A = some ⟨b, off, none⟩ ∧ b < B ∧ w.cell? ⟨b, off + j, none⟩ = some (hdr (hs.getD j dH)) ∧ BytesAt B w (hs.getD j dH).A (hs.getD j dH).l
theorem HeadsAt.below {B : Nat} {w w' : World} {A : Option Addr} {hs : List BH} (h : HeadsAt B w A hs) (hb : Below B w w') : HeadsAt B w' A hs := fun j hj => by
  obtain ⟨b, off, e, hlt, h0, h1⟩ := h j hj
  exact ⟨b, off, e, hlt, (hb.cell (p := ⟨b, off + j, none⟩) hlt).trans h0, h1.below hb⟩
structure WfH (h : BH) : Prop where
  l : h.l.length ≤ maxLen
  n : h.A = none → h.c = 0
def WfHs (hs : List BH) : Prop := hs.length ≤ maxLen ∧ ∀ j, j < hs.length → WfH (hs.getD j dH)
theorem lsOf_get {hs : List BH} {j : Nat} (hj : j < hs.length) : (lsOf hs).getD j [] = (hs.getD j dH).l := by
  unfold lsOf
  rw [List.getD_eq_getElem?_getD, List.getD_eq_getElem?_getD, List.getElem?_map, List.getElem?_eq_getElem hj]
  rfl
theorem HeadsAt.get {B : Nat} {w : World} {A : Option Addr} {hs : List BH} (h : HeadsAt B w A hs) (hw : WfHs hs) {k : Nat} (hk : k < hs.length) :
    ∃ b off A0 c0 l0, A = some ⟨b, off, none⟩ ∧ b < B ∧ w.cell? ⟨b, off + k, none⟩ = some (.slice A0 l0.length c0) ∧ BytesAt B w A0 l0 ∧ (lsOf hs).getD k [] = l0 ∧ l0.length ≤ maxLen ∧ (A0 = none → c0 = 0) := by
  obtain ⟨b, off, e, hlt, h0, h1⟩ := h k hk
  exact ⟨b, off, _, _, _, e, hlt, h0, h1, lsOf_get hk, (hw.2 k hk).l, (hw.2 k hk).n⟩
theorem HeadsAt.got {B : Nat} {w : World} {A : Option Addr} {hs : List BH} (h : HeadsAt B w A hs) {k : Nat} (hk : k < hs.length) :
    ∃ b off A0 c0 l0, A = some ⟨b, off, none⟩ ∧ b < B ∧ w.cell? ⟨b, off + k, none⟩ = some (.slice A0 l0.length c0) ∧ BytesAt B w A0 l0 ∧ (lsOf hs).getD k [] = l0 := by
  obtain ⟨b, off, e, hlt, h0, h1⟩ := h k hk
  exact ⟨b, off, _, _, _, e, hlt, h0, h1, lsOf_get hk⟩
theorem heads_len {w : World} {base : Nat} {v : Value} {hs : List BH} (h : HeadsOwn base w v hs) : hs.length ≤ maxLen := by
  obtain ⟨_, _, _, h1, h2⟩ := row_slice h.row
  omega
theorem heads_at {w : World} {base : Nat} {v : Value} {hs : List BH} (h : HeadsOwn base w v hs) :
    ∃ A c, v = .slice A hs.length c ∧ HeadsAt w.heap.size w A hs := by
  have hr := h.row
  rcases hr.2 with ⟨rfl, h0⟩ | ⟨g, cap, cur, rfl, hb, hg, hn, _, hsz, htk⟩
  · rw [h0]; exact ⟨none, 0, rfl, (fun j hj => by omega)⟩
  · refine ⟨some ⟨g, 0, none⟩, cap, rfl, fun j hj => ⟨g, 0, rfl, (Array.getElem?_eq_some_iff.1 hg).1, ?_, ?_⟩⟩
    · rw [Nat.zero_add, Lib.cell_of_heap hg]
      have hc : (hs.map hdr)[j]? = some (hdr (hs.getD j dH)) := by
        rw [List.getElem?_map, List.getElem?_eq_getElem hj, List.getD_eq_getElem?_getD, List.getElem?_eq_getElem hj]
        rfl
      rw [← htk, List.getElem?_take_of_lt (by omega)] at hc
      simpa using hc
    · refine (h.lies _ ?_).bytes
      rw [List.getD_eq_getElem?_getD, List.getElem?_eq_getElem hj]
      exact List.getElem_mem hj
end Go.Proofs.YtdkgaknfjfgkkaaDoor
