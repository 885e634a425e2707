/-
  A script of calls without crashes, one round; openings again and again.
-/
import Derived.Test.YtkdihekhdnnheaaDoorGAwake
namespace Go.Proofs.YtkdihekhdnnheaaDoor
open Go.RowKit

/-- What stands behind k calls of a script, without crashes, on a disk of 1 << 20. -/
structure Calmly (k : Nat) (p : PD) (L : LV) (cp : List UInt8) (gs : List (List (List UInt8))) : Prop where
  ls : LS p L cp gs
  g2 : L.gen ≤ k + 1
  n : (p.xs L.f).length ≤ 400 + 1800 * k
  d : p.done ≤ 10 + 10 * k
  sh : ShortG gs
  hc : cp.length ≤ 300
  cap : p.cap = 1048576
theorem Calmly.ok {k : Nat} {p : PD} {L : LV} {cp : List UInt8} {gs : List (List (List UInt8))} (h : Calmly k p L cp gs) : p.Ok := h.ls.cm.ok
theorem Calmly.more {k : Nat} {p : PD} {L : LV} {cp : List UInt8} {gs : List (List (List UInt8))} (h : Calmly k p L cp gs) : Calmly (k + 1) p L cp gs :=
  ⟨h.ls, by have := h.g2; omega, by have := h.n; omega, by have := h.d; omega, h.sh, h.hc, h.cap⟩
/-- Records that a script's call has. -/
def RecOk (rs : List (List UInt8)) : Prop := rs.length ≤ 8 ∧ ∀ r ∈ rs, r.length ≤ 200
theorem recOk_of {o : OpS} (h : OkS o) : RecOk (lsOf o.rs) := by
  refine ⟨by rw [lsOf_len]; exact h.r, fun r hr => ?_⟩
  obtain ⟨j, hj, e⟩ := List.getElem_of_mem hr
  rw [lsOf_len] at hj
  have h1 := h.rr j hj
  rw [← lsOf_get hj, List.getD_eq_getElem?_getD, List.getElem?_eq_getElem (by rw [lsOf_len]; exact hj), e] at h1
  exact h1
theorem recOk_len {rs : List (List UInt8)} (h : RecOk rs) : (groupB rs).length ≤ 1800 := by
  have h1 := (groupB_bd rs 200 h.2).2
  have h2 := h.1
  have h3 : (9 + 200) * rs.length ≤ 209 * 8 := Nat.mul_le_mul (by omega) h2
  omega
theorem short_snoc {gs : List (List (List UInt8))} {rs : List (List UInt8)} (h : ShortG gs) (hr : RecOk rs) : ShortG (gs ++ [rs]) := fun x hx => by
  rcases List.mem_append.1 hx with hx | hx
  · exact h x hx
  · simp at hx
    subst hx
    exact ⟨by have := hr.1; omega, fun r hr' => by have := hr.2 r hr'; omega⟩
theorem Calmly.append {k : Nat} {p : PD} {L : LV} {cp : List UInt8} {gs : List (List (List UInt8))} (h : Calmly k p L cp gs) (hk : k ≤ 60) {rs : List (List UInt8)} (hr : RecOk rs) :
    ∃ gs', (appendR p L rs).1 = 0 ∧ Calmly (k + 1) (appendR p L rs).2.1 (appendR p L rs).2.2 cp gs' := by
  by_cases h0 : rs.length = 0
  · obtain rfl := List.length_eq_zero_iff.1 h0
    obtain ⟨a1, a2, a3⟩ := h.ls.append0
    rw [a1, a2, a3]
    exact ⟨gs, rfl, h.more⟩
  · have hl := recOk_len hr
    have hn := h.n
    obtain ⟨a1, a2, a3, a4, a5, a6, a7⟩ := h.ls.append rs h0 (by rw [h.cap]; omega)
    refine ⟨gs ++ [rs], a1, a2, by rw [a4]; have := h.g2; omega, ?_, ?_, short_snoc h.sh hr, h.hc, a3.trans h.cap⟩
    · rw [a2.x, a4, catG_snoc, ← List.append_assoc, List.length_append, ← h.ls.x]; omega
    · have := (appendR_ok h.ok L rs).2.2
      have := h.d
      omega
theorem Calmly.commit {k : Nat} {p : PD} {L : LV} {cp : List UInt8} {gs : List (List (List UInt8))} (h : Calmly k p L cp gs) (hk : k ≤ 60) {rs : List (List UInt8)} (hr : RecOk rs) :
    ∃ gs', (commitR p L rs).1 = 0 ∧ Calmly (k + 1) (commitR p L rs).2.1 (commitR p L rs).2.2 cp gs' := by
  by_cases h0 : rs.length = 0
  · obtain rfl := List.length_eq_zero_iff.1 h0
    obtain ⟨a1, a2, a3, a4, a5, a6, a7⟩ := h.ls.commit0
    refine ⟨gs, a1, a2, by rw [a4]; have := h.g2; omega, by rw [a7, a5]; have := h.n; omega, ?_, h.sh, h.hc, a3.trans h.cap⟩
    have := (commitR_ok h.ok L []).2.2
    have := h.d
    omega
  · have hl := recOk_len hr
    have hn := h.n
    obtain ⟨a1, a2, a3, a4, a5, a6⟩ := h.ls.commit rs h0 (by rw [h.cap]; omega)
    refine ⟨gs ++ [rs], a1, a2, by rw [a4]; have := h.g2; omega, ?_, ?_, short_snoc h.sh hr, h.hc, a3.trans h.cap⟩
    · rw [a2.x, a4, catG_snoc, ← List.append_assoc, List.length_append, ← h.ls.x]; omega
    · have := (commitR_ok h.ok L rs).2.2
      have := h.d
      omega
theorem Calmly.compact {k : Nat} {p : PD} {L : LV} {cp : List UInt8} {gs : List (List (List UInt8))} (h : Calmly k p L cp gs) (hk : k ≤ 60) {cp' : List UInt8} (hr : cp'.length ≤ 300) :
    (compactR p L cp').1 = 0 ∧ Calmly (k + 1) (compactR p L cp').2.1 (compactR p L cp').2.2 cp' [] := by
  have hb := (headB_bd (L.gen + 1) cp').2
  have hn := h.n
  obtain ⟨a1, a2, a3, a4, a5, a6⟩ := h.ls.compact cp' (by rw [h.cap]; omega)
  refine ⟨a1, a2, by rw [a4]; have := h.g2; omega, ?_, ?_, (fun x hx => by simp at hx), hr, a3.trans h.cap⟩
  · rw [a2.x, a4]; simp [catG]; omega
  · have := (compactR_ok h.ok L cp').2.2
    have := h.d
    omega
theorem calmly_new : (openR (newP 1048576)).1 = 0 ∧ Calmly 0 (openR (newP 1048576)).2.1 (openR (newP 1048576)).2.2 [] [] := by
  have hh := (headB_bd 1 []).2
  simp at hh
  obtain ⟨a1, a2, a3, a4, a5, a6, a7, a8⟩ := open_new (cap := 1048576) rfl (by omega)
  refine ⟨a1, a2, by rw [a4]; decide, by rw [a5, a8]; omega, ?_, (fun x hx => by simp at hx), by simp, a3⟩
  have := (openR_ok (new_ok (cap := 1048576) rfl)).2
  have h0 : (newP 1048576).done = 0 := rfl
  omega
/-- Behind a crash: one segment. -/
theorem Calmly.crash {k : Nat} {p : PD} {L : LV} {cp : List UInt8} {gs : List (List (List UInt8))} (h : Calmly k p L cp gs) (hk : k ≤ 60) (ks : List Int) :
    ∃ gs', One (crashP p ks) L.f L.gen cp gs' ∧ (crashP p ks).Ok ∧ (crashP p ks).down = false ∧ (crashP p ks).left = -1 ∧ (crashP p ks).done ≤ 10 + 10 * k := by
  have h1 := h.ls.g1
  have h2 := h.g2
  obtain ⟨n, _, h4, _⟩ := h.ls.crash ks ⟨by omega, by omega⟩ (by have := h.hc; omega) h.sh (by have := h.n; omega)
  exact ⟨gs.take n, h4, crash_ok h.ok ks, rfl, rfl, h.d⟩
theorem One.opens_calm {p : PD} {f : Nat} {gen : Int} {cp : List UInt8} {gs : List (List (List UInt8))} (h : One p f gen cp gs) (hc : Cm p) : Cm (openR p).2.1 := by
  have hgen : ¬ gen = 0 := by have := h.g1; omega
  obtain ⟨e1, e2⟩ := h.open
  have eL : openL p = ⟨f, gen, (headB gen cp ++ catG gs).length, false, false⟩ := by unfold openL; rw [e1, e2]
  have hle : (headB gen cp ++ catG gs).length ≤ (p.xs f).length := by
    have := congrArg List.length h.x
    rw [List.length_take] at this; omega
  have hf := h.hf
  have ht : Cm (trimR p (openL p)).2.1 := by
    rw [eL]
    unfold trimR
    split
    · exact (hc.ct (f := f) (n := (headB gen cp ++ catG gs).length) (by omega) hle).2.2
    · split
      · exact (hc.syn (f := f) (by omega)).2.2
      · exact hc
  unfold openR prepR
  rw [if_neg (by rw [eL]; exact hgen)]
  rw [show (openL p).f = f by rw [eL]]
  split
  · exact (ht.empty (openL p) (f := 1 - f) (by omega)).2.1
  · exact ht
theorem One.crash_calm {p : PD} (ho : p.Ok) (ks : List Int) : Cm (crashP p ks) := ⟨crash_ok ho ks, rfl, by show (-1 : Int) < 0; decide⟩
/-- The disk is armed. -/
theorem arm_ok {p : PD} (h : p.Ok) {n : Int} (h0 : -9223372036854775808 ≤ n) (h1 : n ≤ 9223372036854775807) : ({ p with left := n } : PD).Ok := ⟨h.cap0, h.cap1, h.used, h.s0, h.s1, h.done0, h0, h1⟩
/-- A block that is not the disk's. -/
def OffD (g : Nat) (D : DS) (b : Nat) : Prop := b ≠ g ∧ ∀ i, i < 4 → (D.v i).ownBlock ≠ some b
theorem Turned.offD {g : Nat} {D D' : DS} {w w' : World} (t : Turned g D D' w w') (b : Nat) (ho : OffD g D b) (hb : b < w.heap.size) : OffD g D' b ∧ w'.heap[b]? = w.heap[b]? := by
  refine ⟨⟨ho.1, fun i hi e => ?_⟩, t.block b hb ho.1 ho.2⟩
  rcases t.own i hi b e with ⟨j, hj, e2⟩ | e2
  · exact ho.2 j hj e2
  · omega
theorem off_offD {h g : Nat} {D : DS} {b : Nat} (ho : Off h g D b) : OffD g D b := ⟨ho.2.1, ho.2.2⟩
theorem DiskAt.offD_new {base g : Nat} {w : World} {D : DS} (H : DiskAt base g w D) {b : Nat} (hb : w.heap.size ≤ b) : OffD g D b :=
  ⟨by have := H.lt; omega, fun i hi e => by have := ((H.row i hi).lt b e).2; omega⟩
theorem DiskAt.offD_old {base g : Nat} {w : World} {D : DS} (H : DiskAt base g w D) {b : Nat} (hb : b < base) : OffD g D b :=
  ⟨by have := H.hg; omega, fun i hi e => by have := ((H.row i hi).lt b e).1; omega⟩
/-- What was found first, in memory that is not the disk's. -/
structure FoundAt (g : Nat) (D : DS) (w : World) (B : Nat) (A : Option Addr) (c : Nat) (A2 : Option Addr) (c2 : Nat) (cp : List UInt8) (gs : List GH) : Prop where
  box : w.heap[B]? = some (.cells #[.slice A cp.length c, .slice A2 gs.length c2] 31 (0, 0))
  off : OffD g D B
  b : BytesIn (OffD g D) w A cp
  g : GrpsIn (OffD g D) w A2 gs
  l : gs.length ≤ maxLen
theorem FoundAt.turn {g : Nat} {D D' : DS} {w w' : World} {B : Nat} {A : Option Addr} {c : Nat} {A2 : Option Addr} {c2 : Nat} {cp : List UInt8} {gs : List GH} (h : FoundAt g D w B A c A2 c2 cp gs) (t : Turned g D D' w w') : FoundAt g D' w' B A c A2 c2 cp gs :=
  ⟨(t.offD B h.off (block_lt h.box)).2.trans h.box, (t.offD B h.off (block_lt h.box)).1, h.b.keep t.size fun b ho hb => t.offD b ho hb, h.g.keep t.size fun b ho hb => t.offD b ho hb, h.l⟩
theorem KeepAt.of_ints {base g : Nat} {w w' : World} {D : DS} {A : Option Addr} {ks : List Int} (h : IntsIn (fun b => b < base) w A ks) (hb : Below base w w') (H : DiskAt base g w' D) : KeepAt g D w' A ks := fun j hj => by
  obtain ⟨b, off, e, h1, h2, h3⟩ := h j hj
  have ho := H.offD_old h1
  exact ⟨b, off, e, Nat.lt_of_lt_of_le h2 hb.size, ho.1, ho.2, (hb.cell (p := ⟨b, off + j, none⟩) h1).trans h3⟩
end Go.Proofs.YtkdihekhdnnheaaDoor
