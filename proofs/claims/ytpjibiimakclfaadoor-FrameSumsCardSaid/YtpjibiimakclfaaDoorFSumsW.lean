/-
  The walk of FrameSums.
-/
import Derived.Test.YtpjibiimakclfaaDoorFAwake
namespace Go.Proofs.YtpjibiimakclfaaDoor
open Go.RowKit

theorem four_new (w : World) (x0 x1 x2 x3 : Int) (s : Nat) (h0 : x0 = ((s % 256 : Nat) : Int)) (h1 : x1 = ((s / 256 % 256 : Nat) : Int)) (h2 : x2 = ((s / 65536 % 256 : Nat) : Int)) (h3 : x3 = ((s / 16777216 % 256 : Nat) : Int)) :
    BytesAt (w.alloc (.cells #[.int .u8 x0, .int .u8 x1, .int .u8 x2, .int .u8 x3] 5)).heap.size (w.alloc (.cells #[.int .u8 x0, .int .u8 x1, .int .u8 x2, .int .u8 x3] 5)) (some ⟨w.heap.size, 0, none⟩) (sum4 s) := by
  have h := bytes_new w (sum4 s) (0, 0)
  have e : (byC (sum4 s)).toArray = #[.int .u8 x0, .int .u8 x1, .int .u8 x2, .int .u8 x3] := by
    unfold sum4 byC
    simp only [List.map_cons, List.map_nil, u8_mod, h0, h1, h2, h3]
  rw [e] at h
  exact h
theorem below_own {base : Nat} {w w2 : World} {row : Option Nat} (h : w.grownBy w2 row) (hb : base ≤ w.heap.size) (hr : ∀ k, row = some k → base ≤ k) : Below base w w2 := (Below.refl base w).grown h hb hr
theorem own_block {w : World} {base : Nat} {e : TypeId} {k n : Nat} {v : Value} {xs : List Value} (h : w.ownsRow base e k v n xs) : ∀ b, v.ownBlock = some b → base ≤ b := fun b hb => (h.lt b hb).1
set_option maxHeartbeats 3200000 in
set_option maxRecDepth 100000 in
theorem frameSums_walk (A : Option Addr) (c : Nat) (l : List UInt8) (w : World) (hB : BytesAt w.heap.size w A l) (hl : l.length ≤ maxLen) (hnil : A = none → c = 0) (hT : Tab w) :
    Calls Tryd.prog 6 #[.slice A l.length c] w fun e w' => e = .returned (.bool true) ∧ Below w.heap.size w w' := by
  have HAw := hide (awake_any w hT)
  by_cases h3 : l.length ≤ 3000
  · have HS := hide (sum_any A c l w hB hT hl)
    have hs := sumL_lt l
    have HOwn := hide (crc_own l)
    have HBy := hide hB
    have HT := hide hT
    have HN := hide hnil
    have hE := hide (World.ownsRow_made (base := w.heap.size) (e := 5) (size := 1) w #[] 0 (Nat.le_refl _) (Nat.zero_le _) rfl)
    have HB1 := hide (fun (w' : World) o => (Below.refl w'.heap.size w').alloc (Nat.le_refl _) o)
    have HR := hide (fun w' (h : Below w.heap.size w w') => refSum_any A c l w' (hB.on h) hl)
    clear hB hT hnil hl
    generalize sumL l = s at *
    go_enter Tryd.func6, Tryd.ntmps6
    go_wp2_with fail
    refine HS.out.mono ?_
    rintro e w1 ⟨rfl, rfl⟩
    go_wp2_with (at_builtin; go_must (refine append_bytes rfl _ _ rfl w.heap.size (.slice (some ⟨w.heap.size, 0, none⟩) 0 0) [] l 0 rfl hE.out _ A l.length c rfl rfl (HBy.out.on (HB1.out w _)) HN.out (by omega) (by simp) ?_))
    intro v2 w2 hown2 hgrow2 hat2
    have HL2 := hide ((HB1.out w _).trans (below_own hgrow2 (by simp) (fun k e => by cases e; exact Nat.le_refl _)))
    have HO2 := hide hown2
    obtain ⟨A2, c2, rfl, -⟩ := row_slice hown2
    have hs2 := HL2.out.size
    clear hown2 hgrow2 hat2 hE
    go_wp2_with (at_builtin; go_must (refine append_bytes rfl _ _ rfl w.heap.size (.slice A2 l.length c2) l (sum4 s) l.length rfl (HO2.out.alloc _) _ (some ⟨w2.heap.size, 0, none⟩) 4 4 rfl rfl (four_new w2 _ _ _ _ s ?h0 ?h1 ?h2 ?h3) (fun e => by cases e) (by omega) (by simp; omega) ?_))
    case h0 => omega
    case h1 => omega
    case h2 => omega
    case h3 => omega
    intro v3 w3 hown3 hgrow3 hat3
    have HL3 := hide (HL2.out.trans (((HB1.out w2 _).mono hs2).trans (below_own hgrow3 (by simp; omega) (own_block HO2.out))))
    have hl4 : l.length + 4 = (l ++ sum4 s).length := by simp [sum4]
    rw [hl4] at hown3
    obtain ⟨A3, c3, rfl, hB3, _, _, _⟩ := bytes_of_row hown3
    have HR3 := hide (HR.out w3 HL3.out)
    have HS3 := hide (sum_any A3 c3 (l ++ sum4 s) w3 hB3 (HT.out.on HL3.out) (by rw [← hl4]; unfold maxLen; omega))
    rw [HOwn.out, ← hl4] at HS3
    have HA3 := hide (awake_any w3 (HT.out.on HL3.out))
    rw [← hl4]
    clear hown3 hgrow3 hat3 hB3 hl4 HR HAw
    go_wp2_with fail
    refine HR3.out.mono ?_
    rintro e w4 ⟨rfl, rfl⟩
    go_wp2_with fail
    refine HS3.out.mono ?_
    rintro e w4 ⟨rfl, rfl⟩
    go_wp2_with fail
    refine HA3.out.mono ?_
    rintro e w4 ⟨rfl, hb4⟩
    have HF := hide (HL3.out.trans (hb4.mono HL3.out.size))
    clear hb4
    go_wp2_with fail
    go_ret
    exact ⟨rfl, HF.out⟩
  · have h3' : (3000 : Int) < l.length := by omega
    clear hB hl hnil hT h3
    go_enter Tryd.func6, Tryd.ntmps6
    go_wp2_with fail
    refine HAw.out.mono ?_
    rintro e w1 ⟨rfl, hb1⟩
    have HF := hide hb1
    clear hb1
    go_wp2_with fail
    go_ret
    exact ⟨rfl, HF.out⟩
end Go.Proofs.YtpjibiimakclfaaDoor
