/-
  Copy of a table: the same columns and rows in memory of the call's own, no row in the slice of the rows.
-/
import Derived.Test.YtfjhdfpdgjjcgaaGreatDoorTClone
import Derived.Test.YtfjhdfpdgjjcgaaGreatDoorTRows
import Derived.Maps.AppendAt
import Derived.Laws.MakeOwn
namespace Go.Proofs.YtfjhdfpdgjjcgaaGreatDoor
open Go.RowKit

/-- No row lies in the block that v owns. -/
def ApH (v : Value) (h : RH) : Prop := ∀ a, h.1 = some a → v.ownBlock = some a.block → h.2.2 = []
theorem hdr_grown {w w' : World} {row : Option Nat} {h : RH} (k : HdrOk w.heap.size w h) (hg : w.grownBy w' row) (ha : ∀ a, h.1 = some a → row = some a.block → h.2.2 = []) : HdrOk w'.heap.size w' h := ⟨fun j hj => by
  obtain ⟨b, o, e, hlt, c0, c1, c2⟩ := k.1 j hj
  have hne : row ≠ some b := fun hb => by
    have := ha _ e hb
    rw [this] at hj; simp at hj
  have hc : ∀ i, w'.cell? ⟨b, i, none⟩ = w.cell? ⟨b, i, none⟩ := fun i => World.cell?_of_block (hg.block b hlt (fun e => hne e.symm))
  exact ⟨b, o, e, Nat.lt_of_lt_of_le hlt hg.size, (hc _).trans c0, (hc _).trans c1, (hc _).trans c2⟩, k.2⟩
theorem apH_step {v v' : Value} {h : RH} {w : World} {H : Nat} (hap : ApH v h) (k : HdrOk w.heap.size w h) (hH : w.heap.size ≤ H) (hat : v'.ownBlock = v.ownBlock ∨ v'.ownBlock = some H) : ApH v' h := fun a h1 h2 => by
  rcases hat with e | e
  · exact hap a h1 (e ▸ h2)
  · rw [e] at h2
    injection h2 with h2
    rcases hl : h.2.2 with _ | ⟨y, r⟩
    · rfl
    · obtain ⟨b, o, e', hlt, _⟩ := k.1 0 (by rw [hl]; simp)
      rw [h1] at e'
      injection e' with e'
      rw [e'] at h2
      simp only at h2
      omega

/-- A table of the call's own: its columns, and its rows in block g, none of which lies there. -/
def OwnTab (base : Nat) (cs : List (ByteArray × Int)) (rs : List (List (Int × Int × ByteArray))) (w : World) (S : Option Addr) (c g : Nat) (ns : List RH) : Prop :=
  ColsAt w.heap.size w S cs ∧ ((S = none → c = 0) ∧ ∀ a, S = some a → a.block ≠ g) ∧ rowsOf ns = rs ∧ (∀ j, j < ns.length → w.cell? ⟨g, j, none⟩ = some (hdr (ns.getD j dH)) ∧ w.frozen? ⟨g, j, none⟩ = false) ∧
    (∀ h ∈ ns, HdrOk w.heap.size w h ∧ ∀ a, h.1 = some a → a.block = g → h.2.2 = []) ∧ base ≤ g ∧ g < w.heap.size
def CopyV (cs : List (ByteArray × Int)) (rs : List (List (Int × Int × ByteArray))) (w : World) (e : Ending) (w' : World) : Prop :=
  (∃ S c g cap ns, e = .returned (.agg #[.slice S cs.length c, .slice (some ⟨g, 0, none⟩) ns.length cap]) ∧ OwnTab w.heap.size cs rs w' S c g ns) ∧ Below w.heap.size w w'

theorem ownTab_of {w : World} {base : Nat} {e : TypeId} {v : Value} {ns : List RH} (h : w.ownsRow base e 1 v ns.length (ns.map hdr)) (hne : v ≠ .slice none 0 0) (hok : ∀ h ∈ ns, HdrOk w.heap.size w h ∧ ApH v h) :
    ∃ g cap, v = .slice (some ⟨g, 0, none⟩) ns.length cap ∧ (∀ j, j < ns.length → w.cell? ⟨g, j, none⟩ = some (hdr (ns.getD j dH)) ∧ w.frozen? ⟨g, j, none⟩ = false) ∧
      (∀ h ∈ ns, HdrOk w.heap.size w h ∧ ∀ a, h.1 = some a → a.block = g → h.2.2 = []) ∧ base ≤ g ∧ g < w.heap.size := by
  rcases h.2 with ⟨rfl, h0⟩ | ⟨g, cap, cur, rfl, hb, hg, hn, _, hsz, htk⟩
  · exact absurd rfl hne
  · refine ⟨g, cap, rfl, fun j hj => ⟨?_, Lib.frozen_of_heap hg j⟩, fun x hx => ⟨(hok x hx).1, fun a h1 h2 => (hok x hx).2 a h1 (by rw [← h2]; rfl)⟩, hb, ?_⟩
    · rw [Lib.cell_of_heap hg]
      have hc : (ns.map hdr)[j]? = some (hdr (ns.getD j dH)) := by
        rw [List.getElem?_map, List.getElem?_eq_getElem hj, List.getD_eq_getElem?_getD, List.getElem?_eq_getElem hj]; rfl
      rw [← htk, List.getElem?_take_of_lt (by omega)] at hc
      simpa using hc
    · rcases Nat.lt_or_ge g w.heap.size with h' | h'
      · exact h'
      · simp [Array.getElem?_eq_none h'] at hg
theorem OwnTab.rowsAt {base : Nat} {cs : List (ByteArray × Int)} {rs : List (List (Int × Int × ByteArray))} {w : World} {S : Option Addr} {c g : Nat} {ns : List RH} (h : OwnTab base cs rs w S c g ns) : RowsAt w.heap.size w (some ⟨g, 0, none⟩) ns :=
  ⟨fun j hj => ⟨g, 0, rfl, h.2.2.2.2.2.2, by rw [Nat.zero_add]; exact (h.2.2.2.1 j hj).1⟩, fun x hx => (h.2.2.2.2.1 x hx).1⟩

/-- The result's cells lie in block R, and hold no table yet. -/
def ResAt (w : World) (R : Nat) : Prop := ∃ fr, w.heap[R]? = some (.cells #[.slice none 0 0, .slice none 0 0] 26 fr)
theorem ResAt.not {w : World} {R o : Nat} {x : Value} (hR : ResAt w R) (h : w.cell? ⟨R, o, none⟩ = some x) : x = .slice none 0 0 := by
  obtain ⟨fr, hR⟩ := hR
  unfold World.cell? at h
  simp only [hR] at h
  match o, h with
  | 0, h => simpa using h.symm
  | 1, h => simpa using h.symm
  | n + 2, h => simp at h
theorem ResAt.below {w w' : World} {R B : Nat} (hR : ResAt w R) (hb : Below B w w') (h : R < B) : ResAt w' R := by
  obtain ⟨fr, hR⟩ := hR
  exact ⟨fr, (hb.block R h).trans hR⟩
/-- All blocks but R are as they were. -/
def ButAt (R : Nat) (w w' : World) : Prop := (∀ b, b ≠ R → w'.heap[b]? = w.heap[b]?) ∧ w'.heap.size = w.heap.size
theorem butAt_set (R o : Nat) (w : World) (v : Value) : ButAt R w (w.setCell ⟨R, o, none⟩ v) := ⟨fun b hb => RowKit.Below.heap_setCell w _ _ _ (show b ≠ (⟨R, o, none⟩ : Addr).block from hb), by simp⟩
theorem ButAt.trans {R : Nat} {a b c : World} (h : ButAt R a b) (k : ButAt R b c) : ButAt R a c := ⟨fun x hx => (k.1 x hx).trans (h.1 x hx), k.2.trans h.2⟩
theorem ButAt.cell {R : Nat} {w w' : World} (h : ButAt R w w') {b o : Nat} (hb : b ≠ R) : w'.cell? ⟨b, o, none⟩ = w.cell? ⟨b, o, none⟩ := World.cell?_of_block (h.1 b hb)
theorem ButAt.frozen {R : Nat} {w w' : World} (h : ButAt R w w') {b o : Nat} (hb : b ≠ R) : w'.frozen? ⟨b, o, none⟩ = w.frozen? ⟨b, o, none⟩ := World.frozen?_of_block (h.1 b hb)
theorem RowAt.but {B R : Nat} {w w' : World} {A : Option Addr} {vs : List (Int × Int × ByteArray)} (h : RowAt B w A vs) (hR : ResAt w R) (hw : ButAt R w w') : RowAt B w' A vs := fun j hj => by
  obtain ⟨b, o, e, hlt, c0, c1, c2⟩ := h j hj
  have hne : b ≠ R := by rintro rfl; cases hR.not c0
  exact ⟨b, o, e, hlt, (hw.cell hne).trans c0, (hw.cell hne).trans c1, (hw.cell hne).trans c2⟩
theorem ColsAt.but {B R : Nat} {w w' : World} {A : Option Addr} {cs : List (ByteArray × Int)} (h : ColsAt B w A cs) (hR : ResAt w R) (hw : ButAt R w w') : ColsAt B w' A cs := fun j hj => by
  obtain ⟨b, o, e, hlt, c0, c1⟩ := h j hj
  have hne : b ≠ R := by rintro rfl; cases hR.not c0
  exact ⟨b, o, e, hlt, (hw.cell hne).trans c0, (hw.cell hne).trans c1⟩
theorem HdrOk.but {B R : Nat} {w w' : World} {h : RH} (k : HdrOk B w h) (hR : ResAt w R) (hw : ButAt R w w') : HdrOk B w' h := ⟨k.1.but hR hw, k.2⟩
theorem OwnTab.but {base R : Nat} {cs : List (ByteArray × Int)} {rs : List (List (Int × Int × ByteArray))} {w w' : World} {S : Option Addr} {c g : Nat} {ns : List RH} (h : OwnTab base cs rs w S c g ns) (hR : ResAt w R) (hw : ButAt R w w') (hg : g ≠ R) : OwnTab base cs rs w' S c g ns := by
  obtain ⟨h1, h2, h3, h4, h5, h6, h7⟩ := h
  refine ⟨?_, h2, h3, fun j hj => ⟨(hw.cell hg).trans (h4 j hj).1, (hw.frozen hg).trans (h4 j hj).2⟩, fun x hx => ⟨?_, (h5 x hx).2⟩, h6, by rw [hw.2]; exact h7⟩
  · rw [hw.2]; exact h1.but hR hw
  · rw [hw.2]; exact (h5 x hx).1.but hR hw

/-- The world of Copy ahead of its loop: the table's box, and the result's. -/
def copyW (w : World) (a b : Value) : World := (w.alloc (.cells #[a, b] 26)).alloc (.cells #[.slice none 0 0, .slice none 0 0] 26)
theorem copyW_size (w : World) (a b : Value) : (copyW w a b).heap.size = w.heap.size + 1 + 1 := by simp [copyW]
theorem copyW_below (w : World) (a b : Value) : Below w.heap.size w (copyW w a b) := Joins.below_alloc2 w _ _
theorem copyW_cells (w : World) (a b : Value) : (copyW w a b).cell? ⟨w.heap.size, 0, none⟩ = some a ∧ (copyW w a b).cell? ⟨w.heap.size, 1, none⟩ = some b ∧ (copyW w a b).cell? ⟨w.heap.size + 1, 0, none⟩ = some (.slice none 0 0) ∧ (copyW w a b).cell? ⟨w.heap.size + 1, 1, none⟩ = some (.slice none 0 0) ∧
    (copyW w a b).frozen? ⟨w.heap.size + 1, 0, none⟩ = false ∧ (copyW w a b).frozen? ⟨w.heap.size + 1, 1, none⟩ = false := by
  unfold copyW
  refine ⟨by simp, by simp, by simp, by simp, by simp, by simp⟩
theorem out_of {W wr : World} {h : RH} {g : Nat} (hg : g = W.heap.size) (k : HdrOk W.heap.size wr h) : ∀ a, h.1 = some a → a.block = g → h.2.2 = [] := fun a h1 h2 => by
  rcases hl : h.2.2 with _ | ⟨y, r⟩
  · rfl
  · obtain ⟨b, o, e', hlt, _⟩ := k.1 0 (by rw [hl]; simp)
    rw [h1] at e'
    injection e' with e'
    rw [e'] at h2
    simp only at h2
    omega

set_option maxHeartbeats 3200000 in
set_option maxRecDepth 100000 in
theorem copy_any (S : Option Addr) (c : Nat) (cs : List (ByteArray × Int)) (A : Option Addr) (cap : Nat) (hs : List RH) (w : World) (hC : ColsAt w.heap.size w S cs) (hn : S = none → c = 0) (hR : RowsAt w.heap.size w A hs)
    (hlc : cs.length ≤ 65536) (hl : hs.length ≤ 65536) (hlr : ∀ r ∈ rowsOf hs, r.length ≤ 65536) :
    Calls Tryz.prog 47 #[.agg #[.slice S cs.length c, .slice A hs.length cap]] w (CopyV cs (rowsOf hs) w) := by
  have hW := copyW_below w (.slice S cs.length c) (.slice A hs.length cap)
  have hWc := copyW_cells w (.slice S cs.length c) (.slice A hs.length cap)
  have hWs := copyW_size w (.slice S cs.length c) (.slice A hs.length cap)
  have HCW := hide (hC.on hW); have HN := hide hn; have HRW := hide (hR.on hW); have HLR := hide hlr; clear hC hn hR hlr
  obtain ⟨i0, hi, hz0, hz1, hz2⟩ := info_parts row_info
  have HWE := hide (show copyW w (.slice S cs.length c) (.slice A hs.length cap) = (w.alloc (.cells #[.slice S cs.length c, .slice A hs.length cap] 26)).alloc (.cells #[.slice none 0 0, .slice none 0 0] 26) from rfl)
  generalize copyW w (.slice S cs.length c) (.slice A hs.length cap) = W at *
  have HW := hide hW; have HWC := hide hWc; have HWS := hide hWs
  clear hW hWc hWs
  go_enter Tryz.func47, Tryz.ntmps47
  go_wp2_with (at_make; go_must (refine wpList_make_own _ rfl _ _ 24 rfl (w.heap.size + 1 + 1) 27 i0 (.slice none 0 0) 1 Tryz.underlying24 hi hz0 hz1 .i64 .i64 hs.length hs.length rfl rfl rfl (by rw [hz2]; omega) (by unfold maxLen; omega) (by simp) ?_))
  rw [← HWE.out]
  intro w1 hown hgrow
  have hb1 : Below W.heap.size W w1 := (Below.refl _ _).grown hgrow (Nat.le_refl _) (fun j hj => by cases hj)
  have k0 := (hb1.cell (p := ⟨w.heap.size, 1, none⟩) (by have := HWS.out; simp only; omega)).trans HWC.out.2.1
  have HO := hide hown; have HB1 := hide hb1
  clear hown hgrow hb1
  go_wp2_with fail
  clear k0
  go_loopw [3, 13] (fun v i wr => ∃ (k : Nat) (ns : List RH), k ≤ hs.length ∧ i = .int .i64 k ∧ v = .slice (some ⟨w.heap.size + 1 + 1, 0, none⟩) k hs.length ∧ ns.length = k ∧ rowsOf ns = (rowsOf hs).take k ∧
    wr.ownsRow (w.heap.size + 1 + 1) 27 1 (.slice (some ⟨w.heap.size + 1 + 1, 0, none⟩) k hs.length) k (ns.map hdr) ∧ (∀ h ∈ ns, HdrOk wr.heap.size wr h ∧ ∀ a, h.1 = some a → a.block = w.heap.size + 1 + 1 → h.2.2 = []) ∧ Below W.heap.size W wr) (fun _ i _ => hs.length - (intOf i).toNat)
  case atStart => exact ⟨0, [], Nat.zero_le _, rfl, rfl, rfl, rfl, HO.out, fun h hh => by simp at hh, HB1.out⟩
  case round =>
    obtain ⟨k, ns, hk, rfl, rfl, hnl, hrk, hown, hok, hbw⟩ := hrel
    have HNL := hide hnl; have HRK := hide hrk; have HOK := hide hok; have HOW := hide hown
    clear hnl hrk hok hown
    by_cases hlt : k < hs.length
    · obtain ⟨b, off, A', c', r, rfl, hb, c0, hr, hrn, hg⟩ := (HRW.out.below hbw).at hlt
      have hrl : r.length ≤ 65536 := by
        have := HLR.out (hs.getD k dH).2.2 (by unfold rowsOf; exact List.mem_map.2 ⟨_, getH_mem hlt, rfl⟩)
        rw [hg] at this; exact this
      have HT := hide (take_rows hlt)
      rw [hg] at HT
      have HCl := hide (fun w' h => cloneRow_any A' c' r w' h hrn hrl)
      have HRr := hide (hr.mono hbw.size)
      have HG := hide hg
      have hs0 := hbw.size
      clear hg hr hrn hrl
      go_wp2_with fail
      refine (HCl.out _ HRr.out).mono ?_
      rintro e w2 ⟨⟨A2, c2, rfl, hA2, hz2', hb2'⟩, hb2⟩
      have HA2 := hide hA2; have HZ2 := hide hz2'; have HB2 := hide hb2'
      have hs2 := hb2.size
      have hown2 := HOW.out.kept (only_of_below hb2 none) (.inr (fun h => by cases h))
      clear hA2 hz2' hb2'
      go_wp2_with (at_builtin; go_must (refine wpList_append_fits _ rfl _ _ 24 rfl (w.heap.size + 1 + 1) 27 i0 1 Tryz.underlying24 hi hz1 (w.heap.size + 1 + 1) k hs.length (ns.map hdr) rfl (hown2.alloc _) ⟨w2.heap.size, 0, none⟩ 1 1 [hdr (A2, c2, r)] rfl rfl (hdr_new _ _ (A2, c2, r) _ rfl) (hdr_one _) (by omega) ?_))
      intro w3 hown3 hgrow3
      have HO3 := hide hown3; have HG3 := hide hgrow3
      have hs3 := hgrow3.size
      simp at hs3
      clear hown3 hgrow3
      go_wp2_with fail
      go_roundw
      case rel =>
        have hal := Joins.below_alloc1 w2 (.cells #[hdr (A2, c2, r)] 27)
        have hok2 : ∀ h ∈ ns ++ [(A2, c2, r)], HdrOk (w2.alloc (.cells #[hdr (A2, c2, r)] 27)).heap.size (w2.alloc (.cells #[hdr (A2, c2, r)] 27)) h ∧ ∀ a, h.1 = some a → a.block = w.heap.size + 1 + 1 → h.2.2 = [] := fun h hh => by
          rcases List.mem_append.1 hh with hh | hh
          · obtain ⟨a1, a2⟩ := HOK.out h hh
            exact ⟨(a1.on hb2).on hal, a2⟩
          · simp at hh
            subst hh
            refine ⟨HdrOk.on (h := (A2, c2, r)) ⟨HA2.out, HZ2.out⟩ hal, fun a h1 h2 => ?_⟩
            have := HB2.out a h1
            have := HWS.out
            have : w.heap.size + 1 + 1 < wr.heap.size := (HOW.out.lt (w.heap.size + 1 + 1) rfl).2
            omega
        refine ⟨k + 1, ns ++ [(A2, c2, r)], by omega, by go_num, rfl, by rw [List.length_append, HNL.out]; rfl, ?_, ?_, fun h hh => ?_, ?_⟩
        · unfold rowsOf at *
          rw [List.map_append, HRK.out, HT.out]; rfl
        · rw [List.map_append]; exact HO3.out
        · obtain ⟨a1, a2⟩ := hok2 h hh
          exact ⟨hdr_grown a1 HG3.out (fun a h1 h2 => a2 a h1 (by injection h2 with h2; exact h2.symm)), a2⟩
        · have hs0' := HWS.out
          exact ((hbw.trans (hb2.mono hs0)).alloc (by omega) _).grown HG3.out (by simp; omega) (fun j hj => by injection hj with hj; omega)
      case measure => simp [intOf]; omega
    · obtain rfl : k = hs.length := by omega
      have d0 := (hbw.cell (p := ⟨w.heap.size, 0, none⟩) (by have := HWS.out; simp only; omega)).trans HWC.out.1
      have HCr := hide (fun w' h => cloneCols_any S c cs w' h HN.out hlc)
      have hcw := hide ((HCW.out.below hbw).mono hbw.size)
      have hs0 := hbw.size
      go_wp2_with fail
      refine (HCr.out _ hcw.out).mono ?_
      rintro e w2 ⟨⟨S2, c2, rfl, hS2, hz2', hbs2⟩, hb2⟩
      have HS2 := hide hS2; have HZ2 := hide hz2'; have HBS2 := hide hbs2
      have hs2 := hb2.size
      have hq2 := hbw.trans (hb2.mono hs0)
      clear hS2 hz2' hbs2 d0
      have hsz := HWS.out
      have e0 := (hq2.cell (p := ⟨w.heap.size + 1, 0, none⟩) (by simp only; omega)).trans HWC.out.2.2.1
      have e1 := (hq2.cell (p := ⟨w.heap.size + 1, 1, none⟩) (by simp only; omega)).trans HWC.out.2.2.2.1
      have f0 := (hq2.frozen (p := ⟨w.heap.size + 1, 0, none⟩) (by simp only; omega)).trans HWC.out.2.2.2.2.1
      have f1 := (hq2.frozen (p := ⟨w.heap.size + 1, 1, none⟩) (by simp only; omega)).trans HWC.out.2.2.2.2.2
      have hlt1 : w.heap.size + 1 < w2.heap.size := by omega
      have HSZ := hide hsz
      have hR0 : ResAt w2 (w.heap.size + 1) := ResAt.below (R := w.heap.size + 1) (B := W.heap.size) ⟨(0, 0), by rw [HWE.out]; have h := heap_alloc_new (w.alloc (.cells #[.slice S cs.length c, .slice A hs.length cap] 26)) (.cells #[.slice none 0 0, .slice none 0 0] 26); rw [show (w.alloc (.cells #[.slice S cs.length c, .slice A hs.length cap] 26)).heap.size = w.heap.size + 1 by simp] at h; exact h⟩ hq2 (by omega)
      have HR0 := hide hR0
      clear hsz hR0
      go_wp2_with fail
      have hbut : ButAt (w.heap.size + 1) w2 ((w2.setCell ⟨w.heap.size + 1, 0, none⟩ (.slice S2 cs.length c2)).setCell ⟨w.heap.size + 1, 1, none⟩ (.slice (some ⟨w.heap.size + 1 + 1, 0, none⟩) hs.length hs.length)) := (butAt_set _ _ _ _).trans (butAt_set _ _ _ _)
      obtain ⟨g, cap', ev, q1, q2, q3, q4⟩ := ownTab_of (w := wr) (ns := ns) (by rw [HNL.out]; exact HOW.out) (by simp) (fun h hh => ⟨(HOK.out h hh).1, fun a h1 h2 => (HOK.out h hh).2 a h1 (by injection h2 with h2; exact h2.symm)⟩)
      simp only [Value.slice.injEq, Option.some.injEq, Addr.mk.injEq] at ev
      obtain ⟨⟨rfl, -, -⟩, -, rfl⟩ := ev
      have hown2 : OwnTab w.heap.size cs (rowsOf hs) w2 S2 c2 (w.heap.size + 1 + 1) ns := by
        refine ⟨HS2.out, ⟨HZ2.out, fun a ha => by have := HBS2.out a ha; omega⟩, by rw [HRK.out, List.take_of_length_le (by rw [rowsOf_len]; exact Nat.le_refl _)], fun j hj => ⟨(hb2.cell (p := ⟨_, j, none⟩) q4).trans (q1 j hj).1, (hb2.frozen (p := ⟨_, j, none⟩) q4).trans (q1 j hj).2⟩, fun x hx => ⟨(q2 x hx).1.on hb2, (q2 x hx).2⟩, by omega, by omega⟩
      refine bodyPost_ret (v := .agg #[.slice S2 cs.length c2, .slice (some ⟨w.heap.size + 1 + 1, 0, none⟩) hs.length hs.length]) (by simp [results, Tryz.results47, go_sem, e0, e1]) rfl ?_
      refine ⟨⟨S2, c2, _, hs.length, ns, by rw [HNL.out], hown2.but HR0.out hbut (by omega)⟩, ?_⟩
      exact (((HW.out.trans (hq2.mono HW.out.size))).setCell (p := ⟨w.heap.size + 1, 0, none⟩) (by simp) _).setCell (p := ⟨w.heap.size + 1, 1, none⟩) (by simp) _
theorem ColsAt.grown {w w' : World} {row : Option Nat} {A : Option Addr} {cs : List (ByteArray × Int)} (k : ColsAt w.heap.size w A cs) (hg : w.grownBy w' row) (ha : ∀ a, A = some a → row ≠ some a.block) : ColsAt w'.heap.size w' A cs := fun j hj => by
  obtain ⟨b, o, e, hlt, c0, c1⟩ := k j hj
  have hne : row ≠ some b := ha _ e
  have hc : ∀ i, w'.cell? ⟨b, i, none⟩ = w.cell? ⟨b, i, none⟩ := fun i => World.cell?_of_block (hg.block b hlt (fun e => hne e.symm))
  exact ⟨b, o, e, Nat.lt_of_lt_of_le hlt hg.size, (hc _).trans c0, (hc _).trans c1⟩
theorem RowsAt.but {B R g o : Nat} {w w' : World} {hs : List RH} (h : RowsAt B w (some ⟨g, o, none⟩) hs) (hR : ResAt w R) (hw : ButAt R w w') (hg : g ≠ R) : RowsAt B w' (some ⟨g, o, none⟩) hs :=
  ⟨fun j hj => by
    obtain ⟨b, off, e, hlt, h0⟩ := h.1 j hj
    obtain ⟨rfl, rfl⟩ : g = b ∧ o = off := by simpa using e
    exact ⟨g, o, rfl, hlt, (hw.cell hg).trans h0⟩, fun x hx => (h.2 x hx).but hR hw⟩
end Go.Proofs.YtfjhdfpdgjjcgaaGreatDoor
