/-
  A script of calls on a disk that may be full (no program).
  What the script's loop keeps, in the law's own words, and each call of the log over it.
  The appends of the law's own lists.
-/
import Derived.Test.YtkdihekhdnnheaaDoorGLoop
import Derived.Test.YtkdihekhdnnheaaDoorGOpenP
import Derived.Test.YtkdihekhdnnheaaDoorMG5
import Derived.Test.YtkdihekhdnnheaaDoorMG2
import Derived.Test.YtkdihekhdnnheaaDoorKNew
import Derived.Test.YtkdihekhdnnheaaDoorMG3
import Derived.ArgAppend
namespace Go.Proofs.YtkdihekhdnnheaaDoor

theorem LV.same {L : LV} (h : L.down = false) : (⟨L.f, L.gen, L.size, L.loose, false⟩ : LV) = L := by
  cases L; simp_all
/-- What has no room is refused, and changes nothing. -/
theorem LS.append_full {p : PD} {L : LV} {cp : List UInt8} {gs : List (List (List UInt8))} (h : LS p L cp gs) (rs : List (List UInt8)) (hrs : rs.length ≠ 0) (hr : ¬ ((p.xs L.f).length : Int) + (groupB rs).length ≤ p.cap) :
    appendR p L rs = (41, p, L) := by
  have hu := h.used
  obtain ⟨a1, a2⟩ := h.cm.full (f := L.f) (by have := h.f; omega) (groupB rs) (by rw [hu]; omega)
  unfold appendR
  rw [powR_up h.dn]
  unfold appR
  rw [if_neg hrs, if_neg (by rw [a1]; decide), a1, a2]
  show ((41 : Int), p, (⟨L.f, L.gen, L.size, L.loose, (41 : Int) == 40⟩ : LV)) = _
  rw [show ((41 : Int) == 40) = false from rfl, LV.same h.dn]
theorem LS.commit_full {p : PD} {L : LV} {cp : List UInt8} {gs : List (List (List UInt8))} (h : LS p L cp gs) (rs : List (List UInt8)) (hrs : rs.length ≠ 0) (hr : ¬ ((p.xs L.f).length : Int) + (groupB rs).length ≤ p.cap) :
    commitR p L rs = (41, p, L) := by
  unfold commitR
  rw [h.append_full rs hrs hr, if_neg (by show ¬ (41 : Int) = 0; decide)]
theorem LS.compact_full {p : PD} {L : LV} {cp : List UInt8} {gs : List (List (List UInt8))} (h : LS p L cp gs) (cp' : List UInt8) (hr : ¬ ((p.xs L.f).length : Int) + (headB (L.gen + 1) cp').length ≤ p.cap) :
    compactR p L cp' = (41, p, L) := by
  have hf := h.f
  have hu := h.used
  have e0 : emptyR p L (1 - L.f) = (0, p, L) := by unfold emptyR; rw [h.xo]; rfl
  obtain ⟨a1, a2⟩ := h.cm.full (f := 1 - L.f) (by omega) (headB (L.gen + 1) cp') (by rw [hu]; omega)
  have e1 : rewR p L (1 - L.f) (L.gen + 1) cp' = (41, p, L) := by
    unfold rewR
    rw [e0, if_pos rfl]
    unfold rewA
    rw [if_neg (by rw [a1]; decide), a1, a2]
  unfold compactR
  rw [powR_up h.dn]
  unfold compR
  rw [e1, if_neg (by show ¬ (41 : Int) = 0; decide)]
  show ((41 : Int), p, (⟨L.f, L.gen, L.size, L.loose, (41 : Int) == 40⟩ : LV)) = _
  rw [show ((41 : Int) == 40) = false from rfl, LV.same h.dn]
/-- What stands behind k calls of a script, on a disk of any capacity. -/
structure Play (k : Nat) (p : PD) (L : LV) (cp : List UInt8) (gs : List (List (List UInt8))) : Prop where
  ls : LS p L cp gs
  g2 : L.gen ≤ k + 1
  n : (p.xs L.f).length ≤ 400 + 1800 * k
  d : p.done ≤ 10 + 10 * k
  sh : ShortG gs
  hc : cp.length ≤ 300
  gl : gs.length ≤ k
theorem Play.more {k : Nat} {p : PD} {L : LV} {cp : List UInt8} {gs : List (List (List UInt8))} (h : Play k p L cp gs) : Play (k + 1) p L cp gs :=
  ⟨h.ls, by have := h.g2; omega, by have := h.n; omega, by have := h.d; omega, h.sh, h.hc, by have := h.gl; omega⟩
theorem Play.append {k : Nat} {p : PD} {L : LV} {cp : List UInt8} {gs : List (List (List UInt8))} (h : Play k p L cp gs) {rs : List (List UInt8)} (hr : RecOk rs) (h0 : rs.length ≠ 0) (hroom : ((p.xs L.f).length : Int) + (groupB rs).length ≤ p.cap) :
    (appendR p L rs).1 = 0 ∧ Play (k + 1) (appendR p L rs).2.1 (appendR p L rs).2.2 cp (gs ++ [rs]) ∧ (appendR p L rs).2.2.gen = L.gen ∧ (appendR p L rs).2.2.f = L.f ∧ (appendR p L rs).2.2.loose = true ∧ (appendR p L rs).2.1.cap = p.cap := by
  have hl := recOk_len hr
  have hn := h.n
  obtain ⟨a1, a2, a3, a4, a5, a6, a7⟩ := h.ls.append rs h0 hroom
  refine ⟨a1, ⟨a2, by rw [a4]; have := h.g2; omega, ?_, ?_, short_snoc h.sh hr, h.hc, by rw [List.length_append]; have := h.gl; simp; omega⟩, a4, a5, a6, a3⟩
  · rw [a2.x, a4, catG_snoc, ← List.append_assoc, List.length_append, ← h.ls.x]; omega
  · have := (appendR_ok h.ls.cm.ok L rs).2.2
    have := h.d
    omega
theorem syncR_done (p : PD) (L : LV) : (syncR p L).2.1.done ≤ p.done + 1 := by
  unfold syncR
  rcases powR_g p L (synR p L) with e | e
  · rw [e]; omega
  · rw [e]
    unfold synR
    split
    · exact (syn_done p _).2
    · show p.done ≤ p.done + 1; omega
theorem Play.sync {k : Nat} {p : PD} {L : LV} {cp : List UInt8} {gs : List (List (List UInt8))} (h : Play k p L cp gs) :
    (syncR p L).1 = 0 ∧ Play (k + 1) (syncR p L).2.1 (syncR p L).2.2 cp gs ∧ (syncR p L).2.2.gen = L.gen ∧ (syncR p L).2.2.f = L.f ∧ (syncR p L).2.2.loose = false ∧ (syncR p L).2.1.cap = p.cap ∧ (syncR p L).2.1.xs = p.xs := by
  obtain ⟨b1, b2, b3, b4, b5, b6, b7⟩ := h.ls.sync
  refine ⟨b1, ⟨b2, by rw [b4]; have := h.g2; omega, by rw [b7, b5]; have := h.n; omega, ?_, h.sh, h.hc, by have := h.gl; omega⟩, b4, b5, b6, b3, b7⟩
  have := syncR_done p L
  have := h.d
  omega
theorem Play.commit {k : Nat} {p : PD} {L : LV} {cp : List UInt8} {gs : List (List (List UInt8))} (h : Play k p L cp gs) {rs : List (List UInt8)} (hr : RecOk rs) (h0 : rs.length ≠ 0) (hroom : ((p.xs L.f).length : Int) + (groupB rs).length ≤ p.cap) :
    (commitR p L rs).1 = 0 ∧ Play (k + 1) (commitR p L rs).2.1 (commitR p L rs).2.2 cp (gs ++ [rs]) ∧ (commitR p L rs).2.2.gen = L.gen ∧ (commitR p L rs).2.2.f = L.f ∧ (commitR p L rs).2.2.loose = false ∧ (commitR p L rs).2.1.cap = p.cap := by
  have hl := recOk_len hr
  have hn := h.n
  obtain ⟨a1, a2, a3, a4, a5, a6, a7⟩ := h.ls.append rs h0 hroom
  obtain ⟨b1, b2, b3, b4, b5, b6, b7⟩ := a2.sync
  have ho := (appendR_ok h.ls.cm.ok L rs)
  have hs := syncR_done (appendR p L rs).2.1 (appendR p L rs).2.2
  unfold commitR
  rw [if_pos a1]
  refine ⟨b1, ⟨b2, by rw [b4, a4]; have := h.g2; omega, ?_, ?_, short_snoc h.sh hr, h.hc, by rw [List.length_append]; have := h.gl; simp; omega⟩, b4.trans a4, b5.trans a5, b6, b3.trans a3⟩
  · rw [b2.x, b4, a4, catG_snoc, ← List.append_assoc, List.length_append, ← h.ls.x]; omega
  · have := ho.2.2
    have := h.d
    omega
theorem Play.limit {k : Nat} {p : PD} {L : LV} {cp : List UInt8} {gs : List (List (List UInt8))} (h : Play k p L cp gs) (n : Int) : Play (k + 1) (limP p n) L cp gs ∧ (limP p n).xs = p.xs := by
  unfold limP
  by_cases hc : capBK n = true
  · rw [if_pos hc]
    have hc' := hc
    unfold capBK at hc'
    simp at hc'
    have hok : ({ p with cap := n } : PD).Ok := ⟨hc'.1, hc'.2, h.ls.cm.ok.used, h.ls.cm.ok.s0, h.ls.cm.ok.s1, h.ls.cm.ok.done0, h.ls.cm.ok.left0, h.ls.cm.ok.left1⟩
    exact ⟨⟨⟨⟨hok, h.ls.cm.down, h.ls.cm.left⟩, h.ls.dn, h.ls.f, h.ls.x, h.ls.xo, h.ls.x2, h.ls.x3, h.ls.g1, h.ls.sz, h.ls.s0, h.ls.lo⟩, by have := h.g2; omega, by have := h.n; show (p.xs L.f).length ≤ _; omega, by have := h.d; show p.done ≤ _; omega, h.sh, h.hc, by have := h.gl; omega⟩, rfl⟩
  · rw [if_neg hc]
    exact ⟨h.more, rfl⟩
theorem Play.compact {k : Nat} {p : PD} {L : LV} {cp : List UInt8} {gs : List (List (List UInt8))} (h : Play k p L cp gs) {cp' : List UInt8} (hr : cp'.length ≤ 300) (hroom : ((p.xs L.f).length : Int) + (headB (L.gen + 1) cp').length ≤ p.cap) :
    (compactR p L cp').1 = 0 ∧ Play (k + 1) (compactR p L cp').2.1 (compactR p L cp').2.2 cp' [] ∧ (compactR p L cp').2.2.gen = L.gen + 1 ∧ (compactR p L cp').2.2.f = 1 - L.f ∧ (compactR p L cp').2.2.loose = false ∧ (compactR p L cp').2.1.cap = p.cap := by
  have hb := (headB_bd (L.gen + 1) cp').2
  obtain ⟨a1, a2, a3, a4, a5, a6⟩ := h.ls.compact cp' hroom
  refine ⟨a1, ⟨a2, by rw [a4]; have := h.g2; omega, ?_, ?_, (fun x hx => by simp at hx), hr, by simp⟩, a4, a5, a6, a3⟩
  · rw [a2.x, a4]; simp [catG]; omega
  · have := (compactR_ok h.ls.cm.ok L cp').2.2
    have := h.d
    omega
theorem Play.new {cap : Int} (h : capBK cap = true) (hc : 30 ≤ cap) : (openR (newP cap)).1 = 0 ∧ Play 0 (openR (newP cap)).2.1 (openR (newP cap)).2.2 [] [] ∧ (openR (newP cap)).2.1.cap = cap ∧ (openR (newP cap)).2.2.gen = 1 ∧ (openR (newP cap)).2.2.f = 0 ∧ (openR (newP cap)).2.2.loose = false ∧ (openR (newP cap)).2.1.xs 0 = headB 1 [] := by
  have hh : (headB 1 []).length ≤ 30 := by decide
  obtain ⟨a1, a2, a3, a4, a5, a6, a7, a8⟩ := open_new (cap := cap) h (by omega)
  refine ⟨a1, ⟨a2, by rw [a4]; decide, by rw [a5, a8]; omega, ?_, (fun x hx => by simp at hx), by simp, by simp⟩, a3, a4, a5, a6, a8⟩
  have := (openR_ok (new_ok (cap := cap) h)).2
  have h0 : (newP cap).done = 0 := rfl
  omega
/-- Opened anew. -/
theorem Play.again {k : Nat} {p : PD} {L : LV} {cp : List UInt8} {gs : List (List (List UInt8))} (h : Play k p L cp gs) (hk : k ≤ 60) :
    (openR p).1 = 0 ∧ (openS p).cp = cp ∧ (openS p).gs = gs := by
  have h1 := h.ls.g1
  have h2 := h.g2
  have hn := h.n
  have hI : Int64 L.gen := ⟨by omega, by omega⟩
  have hx := h.ls.x
  have s2 := seg_full hI h1 (by have := h.hc; omega : cp.length ≤ 2000) h.sh (by rw [← hx]; omega)
  have s1 : ∃ fs, Scanned (headB L.gen cp ++ catG gs) fs := by
    apply Classical.byContradiction
    intro hn
    have e := s2
    unfold segM at e
    rw [dif_neg hn] at e
    have e1 : (0 : Int) = L.gen := congrArg SegV.gen e
    omega
  obtain ⟨fs0, s1⟩ := s1
  have h0 := seg_nil
  have hf := h.ls.f
  have hxo := h.ls.xo
  have key : (∃ fs, Scanned (p.xs 0) fs) ∧ (∃ fs, Scanned (p.xs 1) fs) ∧ openF p = L.f := by
    rcases (by omega : L.f = 0 ∨ L.f = 1) with e | e
    · rw [e] at hx hxo ⊢
      have hxo' : p.xs 1 = [] := hxo
      refine ⟨⟨_, by rw [hx]; exact s1⟩, ⟨_, by rw [hxo']; exact h0.1⟩, ?_⟩
      unfold openF
      rw [hx, hxo', s2, h0.2]
      exact if_neg (by show ¬ L.gen < 0; omega)
    · rw [e] at hx hxo ⊢
      have hxo' : p.xs 0 = [] := hxo
      refine ⟨⟨_, by rw [hxo']; exact h0.1⟩, ⟨_, by rw [hx]; exact s1⟩, ?_⟩
      unfold openF
      rw [hx, hxo', s2, h0.2]
      exact if_pos (by show 0 < L.gen; omega)
  obtain ⟨⟨fs, k0⟩, ⟨gs', k1⟩, kF⟩ := key
  have hS : openS p = ⟨L.gen, (headB L.gen cp ++ catG gs).length, cp, gs⟩ := by unfold openS; rw [kF, hx, s2]
  obtain ⟨m1, -⟩ := openR_two h.ls.cm k0 k1 h.ls.x2 h.ls.x3 (fun e => by rw [hS] at e; exact absurd (show L.gen = 0 from e) (by omega))
  exact ⟨m1, by rw [hS], by rw [hS]⟩
end Go.Proofs.YtkdihekhdnnheaaDoor
namespace Go.Proofs.YtkdihekhdnnheaaDoor
open Go.RowKit

/-- The log and its disk: generation, file, bytes, loose, capacity. -/
structure Dk (W w : World) (h g k : Nat) (L : LV) (D : DS) (gv : Int) (fv : Nat) (B : List UInt8) (lv : Bool) (C : Int) (cp : List UInt8) (gs : List (List (List UInt8))) : Prop where
  log : LogAt W.heap.size h g w L D
  pl : Play k D.p L cp gs
  gi : L.gen = gv
  fi : L.f = fv
  bx : D.p.xs fv = B
  lo : L.loose = lv
  cc : D.p.cap = C
/-- What lies in memory of the law's own. -/
structure Mm (W w : World) (h g : Nat) (D : DS) (B cp : List UInt8) (gh : List GH) (Ab : Option Addr) (cb : Nat) (Ac : Option Addr) (cc : Nat) (Ah : Option Addr) (ch : Nat) : Prop where
  bv : BytesIn (Off h g D) w Ab B
  bn : Ab = none → cb = 0
  bl : B.length ≤ cb
  bm : cb ≤ maxLen
  ck : BytesIn (Off h g D) w Ac cp
  cn : Ac = none → cc = 0
  hr : w.ownsRow W.heap.size 36 1 (.slice Ah gh.length ch) gh.length (gh.map ghd)
  ho : ∀ b, (Value.slice Ah gh.length ch).ownBlock = some b → Off h g D b
  lies : ∀ j, j < gh.length → RecsIn (fun b => b < W.heap.size) w (gh.getD j dG).A (gh.getD j dG).rs ∧ WfG (gh.getD j dG)
  old : ∀ b, b < W.heap.size → Off h g D b
  sz : W.heap.size ≤ w.heap.size
  bq : 0 < B.length → ∀ a, Ab = some a → (Value.slice Ah gh.length ch).ownBlock ≠ some a.block
  cq : 0 < cp.length → ∀ a, Ac = some a → (Value.slice Ah gh.length ch).ownBlock ≠ some a.block
theorem Mm.turn {W w w' : World} {h g : Nat} {D D' : DS} {B cp : List UInt8} {gh : List GH} {Ab Ac Ah : Option Addr} {cb cc ch : Nat} (H : Mm W w h g D B cp gh Ab cb Ac cc Ah ch) (t : LTurn h g D D' w w') : Mm W w' h g D' B cp gh Ab cb Ac cc Ah ch :=
  ⟨H.bv.turn t, H.bn, H.bl, H.bm, H.ck.turn t, H.cn, row_keep H.hr fun b e => (t.off b (H.ho b e) (H.hr.lt b e).2).2, fun b e => (t.off b (H.ho b e) (H.hr.lt b e).2).1, fun j hj => ⟨(H.lies j hj).1.keep t.size fun b hb hlt => ⟨hb, (t.off b (H.old b hb) hlt).2⟩, (H.lies j hj).2⟩, fun b hb => (t.off b (H.old b hb) (Nat.lt_of_lt_of_le hb H.sz)).1, Nat.le_trans H.sz t.size, H.bq, H.cq⟩
theorem Mm.below {W w w' : World} {h g : Nat} {D : DS} {B cp : List UInt8} {gh : List GH} {Ab Ac Ah : Option Addr} {cb cc ch : Nat} (H : Mm W w h g D B cp gh Ab cb Ac cc Ah ch) (hb : Below w.heap.size w w') : Mm W w' h g D B cp gh Ab cb Ac cc Ah ch := H.turn (LTurn.of_below hb)
section
variable {W w : World} {h g k : Nat} {L : LV} {D : DS} {gv : Int} {fv : Nat} {B : List UInt8} {lv : Bool} {C : Int} {cp : List UInt8} {gs : List (List (List UInt8))}
theorem Dk.below {w' : World} (H : Dk W w h g k L D gv fv B lv C cp gs) (hb : Below w.heap.size w w') : Dk W w' h g k L D gv fv B lv C cp gs := ⟨H.log.below hb, H.pl, H.gi, H.fi, H.bx, H.lo, H.cc⟩
theorem Dk.more (H : Dk W w h g k L D gv fv B lv C cp gs) : Dk W w h g (k + 1) L D gv fv B lv C cp gs := ⟨H.log, H.pl.more, H.gi, H.fi, H.bx, H.lo, H.cc⟩
theorem Dk.nums (H : Dk W w h g k L D gv fv B lv C cp gs) : 1 ≤ gv ∧ gv ≤ k + 1 ∧ fv < 2 ∧ B.length ≤ 400 + 1800 * k ∧ 0 ≤ C ∧ C ≤ 1073741824 ∧ cp.length ≤ 300 ∧ gs.length ≤ k ∧ B = headB gv cp ++ catG gs := by
  have h1 := H.pl.ls.g1
  have h2 := H.pl.g2
  have h3 := H.pl.ls.f
  have h4 := H.pl.n
  have h5 := H.pl.ls.cm.ok.cap0
  have h6 := H.pl.ls.cm.ok.cap1
  have h7 := H.pl.hc
  have h8 := H.pl.gl
  have h9 := H.pl.ls.x
  rw [H.gi] at h1 h2 h9
  rw [H.fi] at h3 h4 h9
  rw [H.bx] at h4 h9
  rw [H.cc] at h5 h6
  exact ⟨h1, h2, h3, h4, h5, h6, h7, h8, h9⟩
/-- What a call that is no question tells and leaves. -/
def DkOut (W : World) (h g k : Nat) (D : DS) (w : World) (v gv : Int) (fv : Nat) (B : List UInt8) (lv : Bool) (C : Int) (cp : List UInt8) (gs : List (List (List UInt8))) (e : Ending) (w' : World) : Prop :=
  e = .returned (.int .i64 v) ∧ ∃ L' D', Dk W w' h g (k + 1) L' D' gv fv B lv C cp gs ∧ LTurn h g D D' w w'
theorem Dk.of_res {r : Int × PD × LV} {e : Ending} {w' : World} {v gv' : Int} {fv' : Nat} {B' : List UInt8} {lv' : Bool} {C' : Int} {cp' : List UInt8} {gs' : List (List (List UInt8))} (hr : LRes W.heap.size h g D w r e w') (h1 : r.1 = v) (h2 : Play (k + 1) r.2.1 r.2.2 cp' gs') (h3 : r.2.2.gen = gv') (h4 : r.2.2.f = fv') (h5 : r.2.1.xs fv' = B') (h6 : r.2.2.loose = lv') (h7 : r.2.1.cap = C') : DkOut W h g k D w v gv' fv' B' lv' C' cp' gs' e w' := by
  obtain ⟨he, D', hp, hL, ht⟩ := hr
  subst h1
  exact ⟨he, _, D', ⟨hL, by rw [hp]; exact h2, h3, h4, by rw [hp]; exact h5, h6, by rw [hp]; exact h7⟩, ht⟩
theorem Dk.sync (H : Dk W w h g k L D gv fv B lv C cp gs) (hk : k ≤ 60) : Calls Tryd.prog 14 #[vD h] w (DkOut W h g k D w 0 gv fv B false C cp gs) := by
  obtain ⟨h1, h2, h3, h4, h5, h6, h7⟩ := H.pl.sync
  exact (logSync_any w H.log H.pl.ls.cm.ok (by have := H.pl.d; omega)).mono fun e w' hh => Dk.of_res hh h1 h2 (h3.trans H.gi) (h4.trans H.fi) (by rw [h7]; exact H.bx) h5 (h6.trans H.cc)
theorem Dk.limit (H : Dk W w h g k L D gv fv B lv C cp gs) (n : Int) : Calls Tryd.prog 16 #[vD g, .int .i64 n] w fun e w' => e = .returned (.tuple #[]) ∧ ∃ L' D' C', Dk W w' h g (k + 1) L' D' gv fv B lv C' cp gs ∧ LTurn h g D D' w w' := by
  obtain ⟨h1, h2⟩ := H.pl.limit n
  refine (limit_any n w H.log.disk).mono ?_
  rintro e w' ⟨he, D', hp, hD, ht⟩
  exact ⟨he, L, D', _, ⟨H.log.turn hD ht, by rw [hp]; exact h1, H.gi, H.fi, by rw [hp, h2]; exact H.bx, H.lo, rfl⟩, LTurn.of_turned ht⟩
/-- The records of a script's call. -/
structure Rc (W w : World) (A : Option Addr) (rs : List BH) : Prop where
  r : RecsIn (fun b => b < W.heap.size) w A rs
  ok : RecOk (lsOf rs)
  l : rs.length ≤ 8
  m : ∀ j, j < rs.length → (rs.getD j dH).l.length ≤ 200
theorem Rc.off {A : Option Addr} {rs : List BH} (R : Rc W w A rs) (H : LogAt W.heap.size h g w L D) : RecsIn (Off h g D) w A rs := R.r.mono fun _ hb _ => H.off_old hb
theorem Rc.below {w' : World} {A : Option Addr} {rs : List BH} (R : Rc W w A rs) (hb : Below w.heap.size w w') : Rc W w' A rs := ⟨R.r.below hb, R.ok, R.l, R.m⟩
theorem Dk.need {A : Option Addr} {c : Nat} {rs : List BH} (R : Rc W w A rs) (hT : Tab w) : Calls Tryd.prog 11 #[.slice A rs.length c] w fun e w' => e = .returned (.int .i64 (needN (lsOf rs) : Nat)) ∧ Below w.heap.size w w' :=
  need_any A c rs w R.r hT (by have := R.l; omega) (fun j hj => by have := R.m j hj; omega)
theorem Dk.size (H : Dk W w h g k L D gv fv B lv C cp gs) : L.size = B.length := by
  have := H.pl.ls.sz
  rw [H.fi, H.bx] at this
  exact this
theorem Dk.grown (H : Dk W w h g k L D gv fv B lv C cp gs) {p : PD} {L' : LV} {rs : List (List UInt8)} (h2 : Play (k + 1) p L' cp (gs ++ [rs])) (h3 : L'.gen = L.gen) (h4 : L'.f = L.f) : p.xs fv = B ++ groupB rs := by
  have h1 := h2.ls.x
  rw [h3, h4, H.gi, H.fi, catG_snoc, ← List.append_assoc, ← H.nums.2.2.2.2.2.2.2.2] at h1
  exact h1
theorem Dk.app {A : Option Addr} {c : Nat} {rs : List BH} (H : Dk W w h g k L D gv fv B lv C cp gs) (hk : k ≤ 60) (hT : Tab w) (R : Rc W w A rs) : Calls Tryd.prog 12 #[vD h, .slice A rs.length c] w (LRes W.heap.size h g D w (appendR D.p L (lsOf rs))) :=
  logAppend_any A c rs w H.log H.pl.ls.cm.ok (by have := H.pl.d; omega) (by have := H.size; have := H.nums; omega) hT (R.off H.log) (by have := R.l; omega) (fun j hj => by have := R.m j hj; omega)
theorem Dk.com {A : Option Addr} {c : Nat} {rs : List BH} (H : Dk W w h g k L D gv fv B lv C cp gs) (hk : k ≤ 60) (hT : Tab w) (R : Rc W w A rs) : Calls Tryd.prog 13 #[vD h, .slice A rs.length c] w (LRes W.heap.size h g D w (commitR D.p L (lsOf rs))) :=
  logCommit_any A c rs w H.log H.pl.ls.cm.ok (by have := H.pl.d; omega) (by have := H.size; have := H.nums; omega) hT (R.off H.log) (by have := R.l; omega) (fun j hj => by have := R.m j hj; omega)
theorem ls_nil {rs : List BH} (h0 : rs.length = 0) : lsOf rs = [] := by rw [List.length_eq_zero_iff.1 h0]; rfl
theorem Dk.app0 {A : Option Addr} {c : Nat} {rs : List BH} (H : Dk W w h g k L D gv fv B lv C cp gs) (hk : k ≤ 60) (hT : Tab w) (R : Rc W w A rs) (h0 : rs.length = 0) : Calls Tryd.prog 12 #[vD h, .slice A rs.length c] w (DkOut W h g k D w 0 gv fv B lv C cp gs) := by
  obtain ⟨h1, h2, h3⟩ := H.pl.ls.append0
  refine (H.app (c := c) hk hT R).mono fun e w' hh => ?_
  rw [ls_nil h0] at hh
  exact Dk.of_res hh h1 (by rw [h2, h3]; exact H.pl.more) (by rw [h3]; exact H.gi) (by rw [h3]; exact H.fi) (by rw [h2]; exact H.bx) (by rw [h3]; exact H.lo) (by rw [h2]; exact H.cc)
theorem Dk.com0 {A : Option Addr} {c : Nat} {rs : List BH} (H : Dk W w h g k L D gv fv B lv C cp gs) (hk : k ≤ 60) (hT : Tab w) (R : Rc W w A rs) (h0 : rs.length = 0) : Calls Tryd.prog 13 #[vD h, .slice A rs.length c] w (DkOut W h g k D w 0 gv fv B false C cp gs) := by
  obtain ⟨h1, h2, h3⟩ := H.pl.ls.append0
  obtain ⟨s1, s2, s3, s4, s5, s6, s7⟩ := H.pl.sync
  have e : commitR D.p L [] = syncR D.p L := by unfold commitR; rw [if_pos h1, h2, h3]
  refine (H.com (c := c) hk hT R).mono fun e w' hh => ?_
  rw [ls_nil h0, ‹commitR D.p L [] = syncR D.p L›] at hh
  exact Dk.of_res hh s1 s2 (s3.trans H.gi) (s4.trans H.fi) (by rw [s7]; exact H.bx) s5 (s6.trans H.cc)
theorem Dk.appF {A : Option Addr} {c : Nat} {rs : List BH} (H : Dk W w h g k L D gv fv B lv C cp gs) (hk : k ≤ 60) (hT : Tab w) (R : Rc W w A rs) (h0 : rs.length ≠ 0) (hr : ¬ (B.length : Int) + (groupB (lsOf rs)).length ≤ C) : Calls Tryd.prog 12 #[vD h, .slice A rs.length c] w (DkOut W h g k D w 41 gv fv B lv C cp gs) := by
  have e1 := H.pl.ls.append_full (lsOf rs) (by rw [lsOf_len]; exact h0) (by rw [H.fi, H.bx, H.cc]; exact hr)
  refine (H.app (c := c) hk hT R).mono fun e w' hh => ?_
  rw [e1] at hh
  exact Dk.of_res hh rfl H.pl.more H.gi H.fi H.bx H.lo H.cc
theorem Dk.comF {A : Option Addr} {c : Nat} {rs : List BH} (H : Dk W w h g k L D gv fv B lv C cp gs) (hk : k ≤ 60) (hT : Tab w) (R : Rc W w A rs) (h0 : rs.length ≠ 0) (hr : ¬ (B.length : Int) + (groupB (lsOf rs)).length ≤ C) : Calls Tryd.prog 13 #[vD h, .slice A rs.length c] w (DkOut W h g k D w 41 gv fv B lv C cp gs) := by
  have e1 := H.pl.ls.commit_full (lsOf rs) (by rw [lsOf_len]; exact h0) (by rw [H.fi, H.bx, H.cc]; exact hr)
  refine (H.com (c := c) hk hT R).mono fun e w' hh => ?_
  rw [e1] at hh
  exact Dk.of_res hh rfl H.pl.more H.gi H.fi H.bx H.lo H.cc
theorem Dk.appY {A : Option Addr} {c : Nat} {rs : List BH} (H : Dk W w h g k L D gv fv B lv C cp gs) (hk : k ≤ 60) (hT : Tab w) (R : Rc W w A rs) (h0 : rs.length ≠ 0) (hr : (B.length : Int) + (groupB (lsOf rs)).length ≤ C) : Calls Tryd.prog 12 #[vD h, .slice A rs.length c] w (DkOut W h g k D w 0 gv fv (B ++ groupB (lsOf rs)) true C cp (gs ++ [lsOf rs])) := by
  obtain ⟨h1, h2, h3, h4, h5, h6⟩ := H.pl.append (rs := lsOf rs) R.ok (by rw [lsOf_len]; exact h0) (by rw [H.fi, H.bx, H.cc]; exact hr)
  exact (H.app (c := c) hk hT R).mono fun e w' hh => Dk.of_res hh h1 h2 (h3.trans H.gi) (h4.trans H.fi) (H.grown h2 h3 h4) h5 (h6.trans H.cc)
theorem Dk.comY {A : Option Addr} {c : Nat} {rs : List BH} (H : Dk W w h g k L D gv fv B lv C cp gs) (hk : k ≤ 60) (hT : Tab w) (R : Rc W w A rs) (h0 : rs.length ≠ 0) (hr : (B.length : Int) + (groupB (lsOf rs)).length ≤ C) : Calls Tryd.prog 13 #[vD h, .slice A rs.length c] w (DkOut W h g k D w 0 gv fv (B ++ groupB (lsOf rs)) false C cp (gs ++ [lsOf rs])) := by
  obtain ⟨h1, h2, h3, h4, h5, h6⟩ := H.pl.commit (rs := lsOf rs) R.ok (by rw [lsOf_len]; exact h0) (by rw [H.fi, H.bx, H.cc]; exact hr)
  exact (H.com (c := c) hk hT R).mono fun e w' hh => Dk.of_res hh h1 h2 (h3.trans H.gi) (h4.trans H.fi) (H.grown h2 h3 h4) h5 (h6.trans H.cc)
theorem Dk.comp {A : Option Addr} {c : Nat} {cp' : List UInt8} (H : Dk W w h g k L D gv fv B lv C cp gs) (hk : k ≤ 60) (hT : Tab w) (hgt : 0 < W.heap.size) (hB : BytesIn (fun b => b < W.heap.size) w A cp') (hl : cp'.length ≤ 300) : Calls Tryd.prog 15 #[vD h, .slice A cp'.length c] w (LRes W.heap.size h g D w (compactR D.p L cp')) :=
  logCompact_any A c cp' w H.log H.pl.ls.cm.ok (by have := H.pl.d; omega) H.pl.ls.f hT (H.log.off_old hgt) (by have := H.pl.ls.g1; omega) (by have := H.pl.g2; omega) (hB.mono fun _ hb _ => H.log.off_old hb) (by omega)
theorem Dk.compF {A : Option Addr} {c : Nat} {cp' : List UInt8} (H : Dk W w h g k L D gv fv B lv C cp gs) (hk : k ≤ 60) (hT : Tab w) (hgt : 0 < W.heap.size) (hB : BytesIn (fun b => b < W.heap.size) w A cp') (hl : cp'.length ≤ 300) (hr : ¬ (B.length : Int) + (headB (gv + 1) cp').length ≤ C) : Calls Tryd.prog 15 #[vD h, .slice A cp'.length c] w (DkOut W h g k D w 41 gv fv B lv C cp gs) := by
  have e1 := H.pl.ls.compact_full cp' (by rw [H.fi, H.bx, H.cc, H.gi]; exact hr)
  refine (H.comp (c := c) hk hT hgt hB hl).mono fun e w' hh => ?_
  rw [e1] at hh
  exact Dk.of_res hh rfl H.pl.more H.gi H.fi H.bx H.lo H.cc
theorem Dk.compY {A : Option Addr} {c : Nat} {cp' : List UInt8} (H : Dk W w h g k L D gv fv B lv C cp gs) (hk : k ≤ 60) (hT : Tab w) (hgt : 0 < W.heap.size) (hB : BytesIn (fun b => b < W.heap.size) w A cp') (hl : cp'.length ≤ 300) (hr : (B.length : Int) + (headB (gv + 1) cp').length ≤ C) : Calls Tryd.prog 15 #[vD h, .slice A cp'.length c] w (DkOut W h g k D w 0 (gv + 1) (1 - fv) (headB (gv + 1) cp') false C cp' []) := by
  obtain ⟨h1, h2, h3, h4, h5, h6⟩ := H.pl.compact (cp' := cp') hl (by rw [H.fi, H.bx, H.cc, H.gi]; exact hr)
  refine (H.comp (c := c) hk hT hgt hB hl).mono fun e w' hh => Dk.of_res hh h1 h2 (by rw [h3, H.gi]) (by rw [h4, H.fi]) ?_ h5 (h6.trans H.cc)
  have hx := h2.ls.x
  rw [h3, h4, H.gi, H.fi] at hx
  rw [hx]; simp [catG]
/-! The questions. -/
theorem Dk.read (H : Dk W w h g k L D gv fv B lv C cp gs) : Calls Tryd.prog 17 #[vD g, .int .i64 (fv : Nat)] w fun e w' => (∃ A c, e = .returned (.tuple #[.slice A B.length c, .int .i64 0]) ∧ BytesAt w'.heap.size w' A B) ∧ Below w.heap.size w w' := by
  have hchk : checkE D.p ((fv : Nat) : Int) = 0 := H.pl.ls.cm.check (by have := H.nums; omega)
  have hrd : rdL D.p ((fv : Nat) : Int) = B := by unfold rdL; rw [hchk]; exact H.bx
  refine (read_any ((fv : Nat) : Int) w H.log.disk H.pl.ls.cm.ok).mono ?_
  rintro e w' ⟨⟨A, c, he, hb, -, -⟩, hbl⟩
  rw [hrd] at hb
  rw [hrd, hchk] at he
  exact ⟨⟨A, c, he, hb⟩, hbl⟩
theorem Dk.qgen (H : Dk W w h g k L D gv fv B lv C cp gs) : Calls Tryd.prog 18 #[vD h] w fun e w' => e = .returned (.int .i64 gv) ∧ w = w' := by
  have := logGen_any w H.log
  rw [H.gi] at this; exact this
theorem Dk.qsize (H : Dk W w h g k L D gv fv B lv C cp gs) : Calls Tryd.prog 19 #[vD h] w fun e w' => e = .returned (.int .i64 (B.length : Nat)) ∧ w = w' := by
  have := logSize_any w H.log
  rw [H.size] at this; exact this
theorem Dk.qloose (H : Dk W w h g k L D gv fv B lv C cp gs) : Calls Tryd.prog 20 #[vD h] w fun e w' => e = .returned (.bool lv) ∧ w = w' := by
  have := logLoose_any w H.log
  rw [H.lo] at this; exact this
theorem Dk.qother (H : Dk W w h g k L D gv fv B lv C cp gs) : Calls Tryd.prog 21 #[vD g, .int .i64 (1 - ((fv : Nat) : Int))] w fun e w' => e = .returned (.int .i64 0) ∧ Below w.heap.size w w' := by
  have h2 := H.nums.2.2.1
  have hxo := H.pl.ls.xo
  rw [H.fi] at hxo
  have := size_any (1 - ((fv : Nat) : Int)) w H.log.disk
  rw [show sizeD D.p (1 - ((fv : Nat) : Int)) = 0 by
    rw [show (1 - ((fv : Nat) : Int)) = ((1 - fv : Nat) : Int) by omega, sizeD_nat _ (by omega), hxo]; rfl] at this
  exact this
theorem Dk.qcap (H : Dk W w h g k L D gv fv B lv C cp gs) : Calls Tryd.prog 9 #[vD g] w fun e w' => e = .returned (.int .i64 C) ∧ Below w.heap.size w w' := by
  have := capacity_any w H.log.disk
  rw [H.cc] at this; exact this
end
end Go.Proofs.YtkdihekhdnnheaaDoor
namespace Go.Proofs.YtkdihekhdnnheaaDoor
open Go.RowKit

theorem add_plain' (b o j : Nat) : (⟨b, o, none⟩ : Addr).add j = ⟨b, o + j, none⟩ := by
  unfold Addr.add
  split
  · next h => subst h; rfl
  · rfl
/-- append(s[:len(s):len(s)], y...) of bytes: new memory. -/
theorem append_fullB {w : World} {ops : Array Oper} {rest : List Oper} {o : Oper} {a : Act} {Q : Exit → Act → World → Prop} (hgd : o.guard = none) (s x : Operand)
    (ho : o.op = .call { callee := .builtin .append, args := #[s, x], argTypes := #[28, 28] })
    (A : Option Addr) (xs ys : List UInt8) (n : Nat) (hn : n = xs.length) (he : a.eval s = .slice A n n) (hB : BytesAt w.heap.size w A xs) (hnil : A = none → n = 0)
    (Y : Option Addr) (m c : Nat) (hm : m = ys.length) (hm0 : 0 < m) (hx : a.eval x = .slice Y m c) (hC : BytesAt w.heap.size w Y ys) (hlen : n + m ≤ 4294967296)
    (hk : ∀ v' w', w'.ownsRow w.heap.size 5 1 v' (n + m) (byC (xs ++ ys)) → Below w.heap.size w w' → wpList Tryd.prog ops Q rest (a.put o.dst v') w') : wpList Tryd.prog ops Q (o :: rest) a w := by
  subst hn hm
  obtain ⟨i0, hi, hz0, hz1, hz2⟩ := info_parts u8_info
  have hcat : byC (xs ++ ys) = byC xs ++ byC ys := by simp [byC]
  obtain ⟨yb, yo, rfl, -, -⟩ := hC 0 hm0
  refine wpList_append_grows w hgd s x _ ho 5 i0 (.int .u8 0) 1 1 Tryd.underlying28 hi hz0 hz1 hz2 rfl (by decide) A xs.length xs.length (byC xs) he (fun e => ⟨hnil e, hnil e⟩) (by simp [byC]) ?_ ⟨yb, yo, none⟩ ys.length c (byC ys) hx (by simp [byC]) ?_ ?_ (by omega) (by unfold maxLen; omega) (by omega) ?_
  · intro b hb j u hu
    have hj : j < xs.length := by
      have := (List.getElem?_eq_some_iff.1 hu).1
      simpa [byC] using this
    obtain ⟨b', off, e2, _, h3⟩ := hB j hj
    rw [hb] at e2
    injection e2 with e2
    subst e2
    rw [add_plain', h3, ← hu]
    simp [byC, List.getD_eq_getElem?_getD, List.getElem?_eq_getElem hj]
  · intro j u hu
    have hj : j < ys.length := by
      have := (List.getElem?_eq_some_iff.1 hu).1
      simpa [byC] using this
    obtain ⟨b', off, e2, _, h3⟩ := hC j hj
    injection e2 with e2
    injection e2 with e3 e4
    subst e3 e4
    rw [add_plain', h3, ← hu]
    simp [byC, List.getD_eq_getElem?_getD, List.getElem?_eq_getElem hj]
  · intro u hu
    simp only [byC, List.mem_map] at hu
    obtain ⟨b, _, rfl⟩ := hu
    rfl
  · intro v' w' h1 h2
    rw [← hcat] at h1
    exact hk v' w' h1 ⟨h2.os, h2.tape, h2.output, h2.size, fun b hb => h2.block b hb (fun q => by cases q)⟩
theorem grps_row {P : Nat → Prop} {w : World} {base n ch : Nat} {A : Option Addr} {gh : List GH} (h : w.ownsRow base 36 1 (.slice A n ch) n (gh.map ghd)) (hn : n = gh.length) (hP : ∀ b, (Value.slice A n ch).ownBlock = some b → P b) (hG : ∀ j, j < gh.length → RecsIn P w (gh.getD j dG).A (gh.getD j dG).rs ∧ WfG (gh.getD j dG)) : GrpsIn P w A gh := fun j hj => by
  subst hn
  rcases h.2 with ⟨e1, e2⟩ | ⟨g, cap, cur, e1, hb, hg, hn, _, hsz, htk⟩
  · omega
  · injection e1 with e1 e2 e3
    subst e1
    refine ⟨g, 0, rfl, hP g rfl, (Array.getElem?_eq_some_iff.1 hg).1, ?_, (hG j hj).1, (hG j hj).2⟩
    have h5 : (gh.map ghd)[j]? = some (ghd (gh.getD j dG)) := by
      rw [List.getElem?_map, List.getElem?_eq_getElem hj, List.getD_eq_getElem?_getD, List.getElem?_eq_getElem hj]; rfl
    rw [← htk, List.getElem?_take, if_pos (by omega), Array.getElem?_toList] at h5
    rw [Nat.zero_add]
    exact (Lib.cell_of_heap hg j).trans h5
/-- Bytes in memory of the law's own. -/
theorem own_bytes {W w : World} {h g k : Nat} {L : LV} {D : DS} {gv : Int} {fv : Nat} {B : List UInt8} {lv : Bool} {C : Int} {cp : List UInt8} {gs : List (List (List UInt8))} (H : Dk W w h g k L D gv fv B lv C cp gs) {w' : World} {v : Value} {l : List UInt8} (hr : w'.ownsRow w.heap.size 5 1 v l.length (byC l)) : ∃ A c, v = .slice A l.length c ∧ BytesIn (Off h g D) w' A l ∧ (A = none → c = 0) ∧ l.length ≤ c ∧ c ≤ maxLen := by
  obtain ⟨A, c, rfl, h1, h2, h3, h4⟩ := bytes_of_row hr
  obtain ⟨A', c', e, _, h5⟩ := row_slice hr
  cases e
  exact ⟨A, c, rfl, BytesIn.of_bytes h1 fun a e => H.log.off_new (h2 a e).1, h3, h4, h5⟩
theorem Mm.hv {W w : World} {h g : Nat} {D : DS} {B cp : List UInt8} {gh : List GH} {Ab Ac Ah : Option Addr} {cb cc ch : Nat} (H : Mm W w h g D B cp gh Ab cb Ac cc Ah ch) : GrpsIn (Off h g D) w Ah gh :=
  grps_row H.hr rfl H.ho fun j hj => ⟨(H.lies j hj).1.mono fun b hb _ => H.old b hb, (H.lies j hj).2⟩
set_option maxRecDepth 100000 in
/-- append of one of the script's groups. -/
theorem append_grpS {w : World} {ops : Array Oper} {rest : List Oper} {o : Oper} {a : Act} {Q : Exit → Act → World → Prop} (hgd : o.guard = none) (s x : Operand)
    (ho : o.op = .call { callee := .builtin .append, args := #[s, x], argTypes := #[29, 29] })
    (base : Nat) (v : Value) (gs : List GH) (n : Nat) (hn : n = gs.length) (he : a.eval s = v) (hown : w.ownsRow base 36 1 v n (gs.map ghd)) (h : GH) (bl : Nat) (hx : a.eval x = .slice (some ⟨bl, 0, none⟩) 1 1) (hc : w.cell? ⟨bl, 0, none⟩ = some (ghd h))
    (hlen : n ≤ 1073741824) (hbase : base ≤ w.heap.size)
    (hk : ∀ v' w', w'.ownsRow base 36 1 v' (n + 1) ((gs ++ [h]).map ghd) → w.grownBy w' v.ownBlock → (v'.ownBlock = v.ownBlock ∨ v'.ownBlock = some w.heap.size) → wpList Tryd.prog ops Q rest (a.put o.dst v') w') : wpList Tryd.prog ops Q (o :: rest) a w := by
  subst hn
  obtain ⟨i0, hi, hz0, hz1, hz2⟩ := info_parts grp_info
  have hcat : (gs ++ [h]).map ghd = gs.map ghd ++ [ghd h] := by simp
  refine wpList_append_own_at w hgd s x _ ho base 36 i0 (.slice none 0 0) 1 24 Tryd.underlying29 hi hz0 hz1 hz2 rfl (by decide) v gs.length _ he hown ⟨bl, 0, none⟩ 1 1 [ghd h] hx rfl ?_ ?_ (by unfold maxLen; omega) (by omega) hbase ?_
  · intro j u hu
    match j, hu with
    | 0, hu =>
      simp at hu
      subst hu
      exact hc
  · intro u hu
    simp at hu
    subst hu
    rfl
  · intro v' w' h1 h2 _ h4
    rw [← hcat] at h1
    exact hk v' w' h1 h2 h4
theorem LogAt.grown {base h g : Nat} {w w' : World} {L : LV} {D : DS} (H : LogAt base h g w L D) {row : Option Nat} (hg : w.grownBy w' row) (ho : ∀ b, row = some b → Off h g D b) : LogAt base h g w' L D := by
  have hs : ∀ b, b < w.heap.size → ¬ Off h g D b → w'.heap[b]? = w.heap[b]? := fun b hb hn => hg.block b hb fun e => hn (ho b e.symm)
  refine ⟨H.hh, (hs h H.lt fun e => e.1 rfl).trans H.box, H.disk.keep fun b hlt hb => hs b hlt ?_, H.ne, H.off⟩
  rcases hb with hb | ⟨j, hj, e⟩
  · exact fun x => x.2.1 hb
  · exact fun x => x.2.2 j hj e
section
variable {W w w' : World} {h g k : Nat} {L : LV} {D : DS} {gv : Int} {fv : Nat} {B cp : List UInt8} {lv : Bool} {C : Int} {gs : List (List (List UInt8))} {gh : List GH} {Ab Ac Ah : Option Addr} {cb cc ch : Nat}
theorem Dk.grown' (H : Dk W w h g k L D gv fv B lv C cp gs) {row : Option Nat} (hg : w.grownBy w' row) (ho : ∀ b, row = some b → Off h g D b) : Dk W w' h g k L D gv fv B lv C cp gs := ⟨H.log.grown hg ho, H.pl, H.gi, H.fi, H.bx, H.lo, H.cc⟩
/-- Other bytes. -/
theorem Mm.put (H : Mm W w h g D B cp gh Ab cb Ac cc Ah ch) (hD : LogAt W.heap.size h g w L D) {v : Value} {l : List UInt8} (hr : w'.ownsRow w.heap.size 5 1 v l.length (byC l)) (hb : Below w.heap.size w w') : ∃ A c, v = .slice A l.length c ∧ Mm W w' h g D l cp gh A c Ac cc Ah ch := by
  obtain ⟨A, c, rfl, h1, h2, h3, h4⟩ := bytes_of_row hr
  obtain ⟨A', c', e, _, h5⟩ := row_slice hr
  cases e
  have H' := H.below hb
  exact ⟨A, c, rfl, BytesIn.of_bytes h1 fun a e => hD.off_new (h2 a e).1, h3, h4, h5, H'.ck, H'.cn, H'.hr, H'.ho, H'.lies, H'.old, H'.sz, fun _ a e x => by have := (h2 a e).1; have := (H.hr.lt _ x).2; omega, H'.cq⟩
/-- One group more. -/
theorem Mm.grow (H : Mm W w h g D B cp gh Ab cb Ac cc Ah ch) (hD : LogAt W.heap.size h g w L D) (x : GH) (hx : RecsIn (fun b => b < W.heap.size) w x.A x.rs) (hw : WfG x) {v : Value}
    (hr : w'.ownsRow W.heap.size 36 1 v (gh.length + 1) ((gh ++ [x]).map ghd)) (hg : w.grownBy w' (Value.slice Ah gh.length ch).ownBlock) (h4 : v.ownBlock = (Value.slice Ah gh.length ch).ownBlock ∨ v.ownBlock = some w.heap.size) :
    ∃ A c, v = .slice A (gh ++ [x]).length c ∧ Mm W w' h g D B cp (gh ++ [x]) Ab cb Ac cc A c ∧ LogAt W.heap.size h g w' L D ∧ Below W.heap.size w w' := by
  have hlen : gh.length + 1 = (gh ++ [x]).length := by rw [List.length_append]; rfl
  rw [hlen] at hr
  obtain ⟨A, c, rfl, -⟩ := row_slice hr
  generalize hown : (Value.slice Ah gh.length ch).ownBlock = ow at *
  have hlt : ∀ b, ow = some b → W.heap.size ≤ b ∧ b < w.heap.size := fun b e => H.hr.lt b (hown.trans e)
  have hnew : ∀ b, b < w.heap.size → ow ≠ some b → (Value.slice A (gh ++ [x]).length c).ownBlock ≠ some b := fun b hb hne e => by
    rcases h4 with h5 | h5
    · exact hne (h5.symm.trans e)
    · rw [e] at h5; injection h5 with h5; omega
  have hblk : ∀ b, b < w.heap.size → ow ≠ some b → w'.heap[b]? = w.heap[b]? := fun b hb hne => hg.block b hb fun q => hne q.symm
  have hW : ∀ b, b < W.heap.size → ow ≠ some b := fun b hb e => by have := (hlt b e).1; omega
  have hoff : ∀ b, ow = some b → Off h g D b := fun b e => H.ho b (hown.trans e)
  have hby : ∀ {Y : Option Addr} {l : List UInt8}, BytesIn (Off h g D) w Y l → (0 < l.length → ∀ a, Y = some a → ow ≠ some a.block) → BytesIn (Off h g D) w' Y l ∧ (0 < l.length → ∀ a, Y = some a → (Value.slice A (gh ++ [x]).length c).ownBlock ≠ some a.block) := fun {Y l} h1 h2 => by
    refine ⟨fun j hj => ?_, fun h0 a e => ?_⟩
    · obtain ⟨b, off, e, hp, hb, hc⟩ := h1 j hj
      exact ⟨b, off, e, hp, Nat.lt_of_lt_of_le hb hg.size, (cell_same _ (hblk b hb (h2 (by omega) _ e))).trans hc⟩
    · obtain ⟨b, off, e2, _, hb, _⟩ := h1 0 h0
      rw [e] at e2
      injection e2 with e2
      subst e2
      exact hnew b hb (h2 h0 _ e)
  obtain ⟨b1, b2⟩ := hby H.bv (fun h0 a e => by have := H.bq h0 a e; rwa [hown] at this)
  obtain ⟨c1, c2⟩ := hby H.ck (fun h0 a e => by have := H.cq h0 a e; rwa [hown] at this)
  refine ⟨A, c, rfl, ⟨b1, H.bn, H.bl, H.bm, c1, H.cn, hr, fun b e => ?_, fun j hj => ?_, H.old, Nat.le_trans H.sz hg.size, b2, c2⟩, hD.grown hg hoff, ⟨hg.os, hg.tape, hg.output, hg.size, fun b hb => hblk b (Nat.lt_of_lt_of_le hb H.sz) (hW b hb)⟩⟩
  · rcases h4 with h5 | h5
    · exact hoff b (h5.symm.trans e)
    · rw [e] at h5; injection h5 with h5; exact hD.off_new (by omega)
  · have hk : ∀ y : GH, RecsIn (fun b => b < W.heap.size) w y.A y.rs → RecsIn (fun b => b < W.heap.size) w' y.A y.rs := fun y hy => hy.keep hg.size fun b hb hlt => ⟨hb, hblk b hlt (hW b hb)⟩
    rcases Nat.lt_or_ge j gh.length with hj1 | hj1
    · rw [show (gh ++ [x]).getD j dG = gh.getD j dG by rw [List.getD_eq_getElem?_getD, List.getD_eq_getElem?_getD, List.getElem?_append_left hj1]]
      exact ⟨hk _ (H.lies j hj1).1, (H.lies j hj1).2⟩
    · have hj2 : j = gh.length := by rw [← hlen] at hj; omega
      subst hj2
      rw [show (gh ++ [x]).getD gh.length dG = x by simp]
      exact ⟨hk _ hx, hw⟩
end
end Go.Proofs.YtkdihekhdnnheaaDoor
