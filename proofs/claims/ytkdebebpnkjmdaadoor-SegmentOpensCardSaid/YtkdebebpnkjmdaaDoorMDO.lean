/-
  The laws' fixed example.
  A log without crashes (no program).
  What is found in a file that was cut off (no program).
  A new disk is opened (no program).
  A disk with any two files is opened (no program).
  The laws' fixed example.
  The reference's head of a file.
  The reference's text at a place.
  The reference's head of a segment.
  The reference's group of records.
  The reference's Scan: its frames' slices are sound.
  A region that draws its order, with a condition on the world that holds up to its last operation, which waits for all others.
  The reference's segment of a file's bytes.
-/
import Derived.Test.YtkdebebpnkjmdaaDoorKApp
import Derived.Test.YtkdebebpnkjmdaaDoorKNew
import Derived.Test.YtkdebebpnkjmdaaDoorKCrash
import Derived.Laws.BytesArg
import Derived.Laws.IdiomStrings
import Derived.KernelRfl
import Derived.Lib.SlBytesConst
import Derived.Test.YtkdebebpnkjmdaaDoorMG5
import Derived.Test.YtkdebebpnkjmdaaDoorFRefFrm
import Derived.Test.YtkdebebpnkjmdaaDoorFPFrame
import Derived.Test.YtkdebebpnkjmdaaDoorGPure
import Derived.Test.YtkdebebpnkjmdaaDoorGMem
import Derived.StillTail
import Derived.Deep.RegionHeld3
import Derived.Test.YtkdebebpnkjmdaaDoorGSeg
namespace Go.Proofs.YtkdebebpnkjmdaaDoor
open Go.RowKit

theorem keep_new {base g : Nat} {w : World} {D : DS} (h : DiskAt base g w D) (l : List Int) : KeepAt g D (w.alloc (.cells (l.map (Value.int .i64)).toArray 3)) (some ⟨w.heap.size, 0, none⟩) l := fun j hj => by
  refine ⟨w.heap.size, 0, rfl, by simp, Nat.ne_of_gt h.lt, fun i hi e => by have := (h.row i hi).lt _ e; omega, ?_⟩
  rw [Nat.zero_add, Lib.cell_of_heap (heap_alloc_new w _) j, List.getD_eq_getElem?_getD, List.getElem?_eq_getElem hj]
  simp [hj]
theorem syn_ok {p : PD} (h : p.Ok) (n : Int) : (synP p n).Ok := by
  unfold synP
  split
  · exact sec_ok h (Nat.le_refl _)
  · exact h
theorem crash_ok {p : PD} (h : p.Ok) (ks : List Int) : (crashP p ks).Ok := by
  have h4 := crK_ok h ks 4 (Nat.le_refl _)
  exact ⟨h4.cap0, h4.cap1, h4.used, h4.s0, h4.s1, h4.done0, by show _ ≤ (-1 : Int); decide, by show (-1 : Int) ≤ _; decide⟩
def aw0 : PD := newP 100
def aw1 : PD := appP aw0 0 [97, 98, 99]
def aw2 : PD := synP aw1 0
def aw3 : PD := appP aw2 0 [100, 101, 102]
def aw4 : PD := crashP aw3 [2]
theorem aw0_ok : aw0.Ok := new_ok rfl
theorem aw1_ok : aw1.Ok := app_ok aw0_ok _ _
theorem aw2_ok : aw2.Ok := syn_ok aw1_ok _
theorem aw3_ok : aw3.Ok := app_ok aw2_ok _ _
theorem aw4_ok : aw4.Ok := crash_ok aw3_ok _
theorem aw_done : aw0.done = 0 ∧ aw1.done = 1 ∧ aw2.done = 2 ∧ aw3.done = 3 := ⟨by kernel_rfl, by kernel_rfl, by kernel_rfl, by kernel_rfl⟩
theorem aw_e1 : appE aw0 0 3 = 0 := by kernel_rfl
theorem aw_e2 : synE aw1 0 = 0 := by kernel_rfl
theorem aw_e3 : appE aw2 0 3 = 0 := by kernel_rfl
theorem aw_e4 : checkE aw4 0 = 0 := by kernel_rfl
theorem aw_l4 : rdL aw4 0 = [97, 98, 99, 100, 101] := by kernel_rfl
theorem aw_s4 : safeD aw4 0 = 5 := by kernel_rfl
end Go.Proofs.YtkdebebpnkjmdaaDoor
namespace Go.Proofs.YtkdebebpnkjmdaaDoor

/-- The disk's power stays. -/
structure Cm (p : PD) : Prop where
  ok : p.Ok
  down : p.down = false
  left : p.left < 0
theorem Cm.cmd {p : PD} (h : Cm p) : cmdE p = 0 ∧ cmdP p = { p with done := p.done + 1 } := by
  have h1 : ¬ p.left = 0 := by have := h.left; omega
  have h2 : ¬ 0 < p.left := by have := h.left; omega
  unfold cmdE cmdP
  rw [if_neg h1, if_neg h1, if_neg h2]
  exact ⟨rfl, rfl⟩
theorem Cm.check {p : PD} (h : Cm p) {f : Nat} (hf : f < 4) : checkE p f = 0 := by unfold checkE; rw [h.down, file_lt hf]; rfl
theorem Cm.app {p : PD} (h : Cm p) {f : Nat} (hf : f < 4) (ys : List UInt8) (hr : p.used + ys.length ≤ p.cap) :
    appE p f ys.length = 0 ∧ appP p f ys = { addP p f ys with done := p.done + 1 } ∧ Cm (appP p f ys) := by
  have hc := h.check hf
  have hn : ¬ p.cap < ((p.used + ys.length : Nat) : Int) := by omega
  have ha : Cm (addP p f ys) := ⟨add_ok h.ok hf (by have := h.ok.cap1; omega), h.down, h.left⟩
  have e : appP p f ys = { addP p f ys with done := p.done + 1 } := by
    unfold appP
    rw [if_pos hc, if_neg hn, Int.toNat_natCast, ha.cmd.2]; rfl
  refine ⟨?_, e, app_ok h.ok _ _, by rw [e]; exact h.down, by rw [e]; exact h.left⟩
  unfold appE
  rw [if_pos hc, if_neg hn, h.cmd.1]
theorem Cm.full {p : PD} (h : Cm p) {f : Nat} (hf : f < 4) (ys : List UInt8) (hr : ¬ (p.used + ys.length : Nat) ≤ p.cap) : appE p f ys.length = 41 ∧ appP p f ys = p := by
  have hc := h.check hf
  have hn : p.cap < ((p.used + ys.length : Nat) : Int) := by omega
  unfold appE appP
  rw [if_pos hc, if_pos hn, if_pos hc, if_pos hn]
  exact ⟨rfl, rfl⟩
theorem Cm.syn {p : PD} (h : Cm p) {f : Nat} (hf : f < 4) : synE p f = 0 ∧ synP p f = { p with s := upd p.s f (p.xs f).length, done := p.done + 1 } ∧ Cm (synP p f) := by
  have hc := h.check hf
  have e : synP p f = { p with s := upd p.s f (p.xs f).length, done := p.done + 1 } := by
    unfold synP secP cutP
    rw [if_pos hc, if_pos h.cmd.1, Int.toNat_natCast, h.cmd.2]
    show PD.mk (upd p.xs f ((p.xs f).take (p.xs f).length)) _ _ _ _ _ = _
    rw [List.take_length, upd_self]
  refine ⟨?_, e, syn_okG h.ok _, by rw [e]; exact h.down, by rw [e]; exact h.left⟩
  unfold synE
  rw [if_pos hc, h.cmd.1]
theorem Cm.ct {p : PD} (h : Cm p) {f n : Nat} (hf : f < 4) (hn : n ≤ (p.xs f).length) : ctE p f n = 0 ∧ ctP p f n = { p with xs := upd p.xs f ((p.xs f).take n), s := upd p.s f n, done := p.done + 1 } ∧ Cm (ctP p f n) := by
  have hc := h.check hf
  have hr : 0 ≤ (n : Int) ∧ (n : Int) ≤ (p.xs (f : Int).toNat).length := by rw [Int.toNat_natCast]; omega
  have e : ctP p f n = { p with xs := upd p.xs f ((p.xs f).take n), s := upd p.s f n, done := p.done + 1 } := by
    unfold ctP secP cutP
    rw [if_pos hc, if_pos hr, if_pos h.cmd.1, Int.toNat_natCast, Int.toNat_natCast, h.cmd.2]
  refine ⟨?_, e, ct_ok h.ok _ _, by rw [e]; exact h.down, by rw [e]; exact h.left⟩
  unfold ctE
  rw [if_pos hc, if_pos hr, h.cmd.1]
theorem Cm.empty {p : PD} (h : Cm p) (L : LV) {f : Nat} (hf : f < 4) : (emptyR p L f).1 = 0 ∧ Cm (emptyR p L f).2.1 ∧ (emptyR p L f).2.1.xs = upd p.xs f [] ∧ (emptyR p L f).2.1.s = upd p.s f 0 ∧ (emptyR p L f).2.1.cap = p.cap ∧ (emptyR p L f).2.2 = L := by
  unfold emptyR
  by_cases h0 : (p.xs f).length = 0
  · rw [if_pos h0]
    have e0 : p.xs f = [] := List.length_eq_zero_iff.1 h0
    have e1 : p.s f = 0 := by have h1 := h.ok.s0 f hf; have h2 := h.ok.s1 f hf; rw [h0] at h2; omega
    exact ⟨rfl, h, by show p.xs = _; rw [← e0, upd_self], by show p.s = _; rw [← e1, upd_self], rfl, rfl⟩
  · rw [if_neg h0]
    obtain ⟨a, b, c⟩ := h.ct (n := 0) hf (Nat.zero_le _)
    have b' : ctP p f 0 = { p with xs := upd p.xs f ((p.xs f).take 0), s := upd p.s f ((0 : Nat) : Int), done := p.done + 1 } := b
    exact ⟨a, c, by show (ctP p f 0).xs = _; rw [b']; rfl, by show (ctP p f 0).s = _; rw [b']; rfl, by show (ctP p f 0).cap = _; rw [b'], rfl⟩
def catG (gs : List (List (List UInt8))) : List UInt8 := gs.flatMap groupB
theorem catG_snoc (gs : List (List (List UInt8))) (rs : List (List UInt8)) : catG (gs ++ [rs]) = catG gs ++ groupB rs := by unfold catG; rw [List.flatMap_append]; simp
/-- A log that lives on a disk. -/
structure LS (p : PD) (L : LV) (cp : List UInt8) (gs : List (List (List UInt8))) : Prop where
  cm : Cm p
  dn : L.down = false
  f : L.f < 2
  x : p.xs L.f = headB L.gen cp ++ catG gs
  xo : p.xs (1 - L.f) = []
  x2 : p.xs 2 = []
  x3 : p.xs 3 = []
  g1 : 1 ≤ L.gen
  sz : L.size = (p.xs L.f).length
  s0 : ((headB L.gen cp).length : Int) ≤ p.s L.f
  lo : L.loose = false → p.s L.f = (p.xs L.f).length
theorem LS.used {p : PD} {L : LV} {cp : List UInt8} {gs : List (List (List UInt8))} (h : LS p L cp gs) : p.used = (p.xs L.f).length := by
  unfold PD.used
  have hf := h.f
  have h2 := h.x2
  have h3 := h.x3
  have ho := h.xo
  rcases (by omega : L.f = 0 ∨ L.f = 1) with e | e
  · rw [e] at ho ⊢
    rw [show p.xs 1 = [] from ho, h2, h3]; simp
  · rw [e] at ho ⊢
    rw [show p.xs 0 = [] from ho, h2, h3]; simp
theorem powR_up {p : PD} {L : LV} {r : Int × PD × LV} (h : L.down = false) : powR p L r = (r.1, r.2.1, ⟨r.2.2.f, r.2.2.gen, r.2.2.size, r.2.2.loose, r.1 == 40⟩) := by
  unfold powR; rw [h]; rfl
theorem LS.append {p : PD} {L : LV} {cp : List UInt8} {gs : List (List (List UInt8))} (h : LS p L cp gs) (rs : List (List UInt8)) (hrs : rs.length ≠ 0) (hr : ((p.xs L.f).length : Int) + (groupB rs).length ≤ p.cap) :
    (appendR p L rs).1 = 0 ∧ LS (appendR p L rs).2.1 (appendR p L rs).2.2 cp (gs ++ [rs]) ∧ (appendR p L rs).2.1.cap = p.cap ∧ (appendR p L rs).2.2.gen = L.gen ∧ (appendR p L rs).2.2.f = L.f ∧ (appendR p L rs).2.2.loose = true ∧ (appendR p L rs).2.1.s = p.s := by
  have hu := h.used
  obtain ⟨a1, a2, a3⟩ := h.cm.app (f := L.f) (by have := h.f; omega) (groupB rs) (by rw [hu]; omega)
  have hf := h.f
  have e : appendR p L rs = (0, { addP p L.f (groupB rs) with done := p.done + 1 }, ⟨L.f, L.gen, L.size + (groupB rs).length, true, false⟩) := by
    unfold appendR
    rw [powR_up h.dn]
    unfold appR
    rw [if_neg hrs, if_pos a1, a2]
    rfl
  rw [a2] at a3
  rw [e]
  have hx : (addP p L.f (groupB rs)).xs L.f = p.xs L.f ++ groupB rs := upd_same _ _ _
  have hso : (addP p L.f (groupB rs)).s = p.s := upd_self _ _
  refine ⟨rfl, ⟨a3, rfl, hf, ?_, ?_, ?_, ?_, h.g1, ?_, ?_, fun e => by cases e⟩, rfl, rfl, rfl, rfl, hso⟩
  · show (addP p L.f (groupB rs)).xs L.f = _
    rw [hx, h.x, catG_snoc, List.append_assoc]
  · show (addP p L.f (groupB rs)).xs (1 - L.f) = _
    exact (upd_other _ _ (by omega)).trans h.xo
  · exact (upd_other _ _ (by omega)).trans h.x2
  · exact (upd_other _ _ (by omega)).trans h.x3
  · show L.size + _ = ((addP p L.f (groupB rs)).xs L.f).length
    rw [hx, h.sz, List.length_append]
  · show _ ≤ (addP p L.f (groupB rs)).s L.f
    rw [hso]; exact h.s0
theorem LS.append0 {p : PD} {L : LV} {cp : List UInt8} {gs : List (List (List UInt8))} (h : LS p L cp gs) : (appendR p L []).1 = 0 ∧ (appendR p L []).2.1 = p ∧ (appendR p L []).2.2 = L := by
  unfold appendR
  rw [powR_up h.dn]
  refine ⟨rfl, rfl, ?_⟩
  show (⟨L.f, L.gen, L.size, L.loose, false⟩ : LV) = L
  have := h.dn
  cases L
  simp_all
theorem LS.sync {p : PD} {L : LV} {cp : List UInt8} {gs : List (List (List UInt8))} (h : LS p L cp gs) :
    (syncR p L).1 = 0 ∧ LS (syncR p L).2.1 (syncR p L).2.2 cp gs ∧ (syncR p L).2.1.cap = p.cap ∧ (syncR p L).2.2.gen = L.gen ∧ (syncR p L).2.2.f = L.f ∧ (syncR p L).2.2.loose = false ∧ (syncR p L).2.1.xs = p.xs := by
  unfold syncR
  rw [powR_up h.dn]
  unfold synR
  cases hlo : L.loose with
  | false =>
    rw [if_neg (by decide)]
    have hd := h.dn
    refine ⟨rfl, ?_, rfl, rfl, rfl, by show L.loose = false; exact hlo, rfl⟩
    have e : (⟨L.f, L.gen, L.size, L.loose, (0 : Int) == 40⟩ : LV) = L := by cases L; simp_all
    show LS p ⟨L.f, L.gen, L.size, L.loose, (0 : Int) == 40⟩ cp gs
    rw [e]; exact h
  | true =>
    rw [if_pos rfl]
    have hf := h.f
    obtain ⟨a1, a2, a3⟩ := h.cm.syn (f := L.f) (by omega)
    show (synE p L.f) = 0 ∧ LS (synP p L.f) ⟨L.f, L.gen, L.size, synE p L.f != 0, synE p L.f == 40⟩ cp gs ∧ (synP p L.f).cap = p.cap ∧ L.gen = L.gen ∧ L.f = L.f ∧ (synE p L.f != 0) = false ∧ (synP p L.f).xs = p.xs
    rw [a1]
    rw [a2] at a3 ⊢
    have hs : upd p.s L.f ((p.xs L.f).length : Int) L.f = (p.xs L.f).length := upd_same _ _ _
    refine ⟨rfl, ⟨a3, rfl, hf, h.x, h.xo, h.x2, h.x3, h.g1, h.sz, ?_, fun _ => hs⟩, rfl, rfl, rfl, rfl, rfl⟩
    show ((headB L.gen cp).length : Int) ≤ upd p.s L.f ((p.xs L.f).length : Int) L.f
    rw [hs, h.x, List.length_append]; omega
theorem LS.commit {p : PD} {L : LV} {cp : List UInt8} {gs : List (List (List UInt8))} (h : LS p L cp gs) (rs : List (List UInt8)) (hrs : rs.length ≠ 0) (hr : ((p.xs L.f).length : Int) + (groupB rs).length ≤ p.cap) :
    (commitR p L rs).1 = 0 ∧ LS (commitR p L rs).2.1 (commitR p L rs).2.2 cp (gs ++ [rs]) ∧ (commitR p L rs).2.1.cap = p.cap ∧ (commitR p L rs).2.2.gen = L.gen ∧ (commitR p L rs).2.2.f = L.f ∧ (commitR p L rs).2.2.loose = false := by
  obtain ⟨a1, a2, a3, a4, a5, -, -⟩ := h.append rs hrs hr
  obtain ⟨b1, b2, b3, b4, b5, b6, -⟩ := a2.sync
  unfold commitR
  rw [if_pos a1]
  exact ⟨b1, b2, b3.trans a3, b4.trans a4, b5.trans a5, b6⟩
theorem LS.commit0 {p : PD} {L : LV} {cp : List UInt8} {gs : List (List (List UInt8))} (h : LS p L cp gs) :
    (commitR p L []).1 = 0 ∧ LS (commitR p L []).2.1 (commitR p L []).2.2 cp gs ∧ (commitR p L []).2.1.cap = p.cap ∧ (commitR p L []).2.2.gen = L.gen ∧ (commitR p L []).2.2.f = L.f ∧ (commitR p L []).2.2.loose = false ∧ (commitR p L []).2.1.xs = p.xs := by
  obtain ⟨a1, a2, a3⟩ := h.append0
  unfold commitR
  rw [if_pos a1, a2, a3]
  exact h.sync
/-- A head is written into an empty file. -/
theorem rew_calm {p : PD} (h : Cm p) (L : LV) {f : Nat} (hf : f < 4) (gen : Int) (cp : List UInt8) (hx : p.xs f = []) (hr : (p.used : Int) + (headB gen cp).length ≤ p.cap) :
    (rewR p L f gen cp).1 = 0 ∧ Cm (rewR p L f gen cp).2.1 ∧ (rewR p L f gen cp).2.1.xs = upd p.xs f (headB gen cp) ∧ (rewR p L f gen cp).2.1.s = upd p.s f ((headB gen cp).length : Nat) ∧ (rewR p L f gen cp).2.1.cap = p.cap ∧ (rewR p L f gen cp).2.2 = ⟨f, gen, (headB gen cp).length, false, L.down⟩ := by
  have e0 : emptyR p L f = (0, p, L) := by unfold emptyR; rw [hx]; rfl
  obtain ⟨a1, a2, a3⟩ := h.app hf (headB gen cp) (by omega)
  obtain ⟨b1, b2, b3⟩ := a3.syn (f := f) hf
  have e : rewR p L f gen cp = (0, synP (appP p f (headB gen cp)) f, ⟨f, gen, (headB gen cp).length, false, L.down⟩) := by
    unfold rewR
    rw [e0, if_pos rfl]
    unfold rewA
    rw [if_pos a1]
    unfold rewS
    rw [if_pos b1]
  rw [e]
  have hx2 : (appP p f (headB gen cp)).xs = upd p.xs f (headB gen cp) := by rw [a2]; show upd p.xs f (p.xs f ++ _) = _; rw [hx, List.nil_append]
  have hs2 : (appP p f (headB gen cp)).s = p.s := by rw [a2]; exact upd_self _ _
  refine ⟨rfl, b3, ?_, ?_, ?_, rfl⟩
  · show (synP (appP p f (headB gen cp)) f).xs = _
    rw [b2]; exact hx2
  · show (synP (appP p f (headB gen cp)) f).s = _
    rw [b2]
    show upd (appP p f (headB gen cp)).s f _ = _
    rw [hs2, hx2, upd_same]
  · show (synP (appP p f (headB gen cp)) f).cap = _
    rw [b2]
    show (appP p f (headB gen cp)).cap = _
    rw [a2]; rfl
theorem LS.compact {p : PD} {L : LV} {cp : List UInt8} {gs : List (List (List UInt8))} (h : LS p L cp gs) (cp' : List UInt8) (hr : ((p.xs L.f).length : Int) + (headB (L.gen + 1) cp').length ≤ p.cap) :
    (compactR p L cp').1 = 0 ∧ LS (compactR p L cp').2.1 (compactR p L cp').2.2 cp' [] ∧ (compactR p L cp').2.1.cap = p.cap ∧ (compactR p L cp').2.2.gen = L.gen + 1 ∧ (compactR p L cp').2.2.f = 1 - L.f ∧ (compactR p L cp').2.2.loose = false := by
  have hf := h.f
  obtain ⟨a1, a2, a3, a4, a5, a6⟩ := rew_calm h.cm L (f := 1 - L.f) (by omega) (L.gen + 1) cp' h.xo (by rw [h.used]; omega)
  unfold compactR
  rw [powR_up h.dn]
  unfold compR
  rw [if_pos a1]
  obtain ⟨b1, b2, b3⟩ := a2.ct (f := L.f) (n := 0) (by omega) (Nat.zero_le _)
  have b1' : ctE (rewR p L (1 - L.f) (L.gen + 1) cp').2.1 L.f 0 = 0 := b1
  have b2' : ctP (rewR p L (1 - L.f) (L.gen + 1) cp').2.1 L.f 0 = _ := b2
  rw [a6]
  simp only
  rw [b1']
  have b3' : Cm (ctP (rewR p L (1 - L.f) (L.gen + 1) cp').2.1 L.f 0) := b3
  have hx : (ctP (rewR p L (1 - L.f) (L.gen + 1) cp').2.1 L.f 0).xs = upd (upd p.xs (1 - L.f) (headB (L.gen + 1) cp')) L.f [] := by rw [b2', a3]; rfl
  have hs : (ctP (rewR p L (1 - L.f) (L.gen + 1) cp').2.1 L.f 0).s = upd (upd p.s (1 - L.f) ((headB (L.gen + 1) cp').length : Nat)) L.f 0 := by rw [b2', a4]; rfl
  have hc : (ctP (rewR p L (1 - L.f) (L.gen + 1) cp').2.1 L.f 0).cap = p.cap := by rw [b2']; exact a5
  have hx1 : (ctP (rewR p L (1 - L.f) (L.gen + 1) cp').2.1 L.f 0).xs (1 - L.f) = headB (L.gen + 1) cp' := by rw [hx, upd_other _ _ (by omega), upd_same]
  have hs1 : (ctP (rewR p L (1 - L.f) (L.gen + 1) cp').2.1 L.f 0).s (1 - L.f) = ((headB (L.gen + 1) cp').length : Nat) := by rw [hs, upd_other _ _ (by omega), upd_same]
  refine ⟨rfl, ⟨b3', rfl, by show 1 - L.f < 2; omega, ?_, ?_, ?_, ?_, ?_, ?_, ?_, fun _ => ?_⟩, hc, by first | trivial | exact ⟨rfl, rfl, rfl⟩⟩
  · show (ctP _ _ _).xs (1 - L.f) = _
    rw [hx1]; simp [catG]
  · show (ctP _ _ _).xs (1 - (1 - L.f)) = _
    rw [show 1 - (1 - L.f) = L.f by omega, hx, upd_same]
  · show (ctP _ _ _).xs 2 = _
    rw [hx, upd_other _ _ (by omega), upd_other _ _ (by omega)]; exact h.x2
  · show (ctP _ _ _).xs 3 = _
    rw [hx, upd_other _ _ (by omega), upd_other _ _ (by omega)]; exact h.x3
  · have := h.g1; show 1 ≤ L.gen + 1; omega
  · show (headB (L.gen + 1) cp').length = ((ctP _ _ _).xs (1 - L.f)).length
    rw [hx1]
  · show _ ≤ (ctP _ _ _).s (1 - L.f)
    rw [hs1]; exact Int.le_refl _
  · show (ctP _ _ _).s (1 - L.f) = ((ctP _ _ _).xs (1 - L.f)).length
    rw [hs1, hx1]
end Go.Proofs.YtkdebebpnkjmdaaDoor
namespace Go.Proofs.YtkdebebpnkjmdaaDoor

/-- Records and checkpoints are short. -/
def ShortG (gs : List (List (List UInt8))) : Prop := ∀ rs ∈ gs, rs.length ≤ 2000 ∧ ∀ r ∈ rs, r.length ≤ 2000
theorem fileB_all (gen : Int) (cp : List UInt8) (gs : List (List (List UInt8))) : headB gen cp ++ catG gs = allB (headC gen cp :: gs.map groupC) := by
  rw [allB_cons]
  unfold catG allB
  rw [List.flatMap_map]
  rfl
theorem grps_enc {gs : List (List (List UInt8))} (h : ShortG gs) : grpsM (gs.map groupC) = gs := by
  induction gs with
  | nil => rfl
  | cons rs t ih =>
    have h1 := h rs (by simp)
    rw [List.map_cons, grpsM, groupM_enc rs (by omega) fun r hr => by have := h1.2 r hr; omega]
    simp only
    rw [ih fun x hx => h x (by simp [hx])]
theorem segF_enc {gen : Int} {cp : List UInt8} {gs : List (List (List UInt8))} (hg : Int64 gen) (h1 : 1 ≤ gen) (hc : cp.length ≤ 2000) (h : ShortG gs) : segF (headC gen cp :: gs.map groupC) = ⟨gen, (headB gen cp ++ catG gs).length, cp, gs⟩ := by
  rw [segF_cons (headM_enc hg h1 cp (by omega)), grps_enc h, fileB_all]
  congr 1
  unfold endsL
  rw [List.take_of_length_le (by simp; omega)]
theorem cut_at (ls : List (List UInt8)) (m : Nat) : ∀ d n, n + d = ls.length → endsL ls n ≤ m → ∃ k, n ≤ k ∧ k ≤ ls.length ∧ endsL ls k ≤ m ∧ (k < ls.length → m < endsL ls (k + 1))
  | 0, n, hd, hn => ⟨n, Nat.le_refl _, by omega, hn, fun h => by omega⟩
  | d + 1, n, hd, hn => by
    by_cases h : m < endsL ls (n + 1)
    · exact ⟨n, Nat.le_refl _, by omega, hn, fun _ => h⟩
    · obtain ⟨k, h1, h2, h3, h4⟩ := cut_at ls m d (n + 1) (by omega) (by omega)
      exact ⟨k, by omega, h2, h3, h4⟩
theorem headC_len (gen : Int) (cp : List UInt8) : (headC gen cp).length ≤ 30 + cp.length := by
  have e : (headC gen cp).length = (intB 1).length + (intB gen).length + (textB cp).length := by simp [headC]; omega
  have := intB_len 1
  have := intB_len gen
  have := textB_bd cp
  omega
theorem groupC_len {rs : List (List UInt8)} (h : rs.length ≤ 2000 ∧ ∀ r ∈ rs, r.length ≤ 2000) : (groupC rs).length ≤ 5000000 := by
  have e : (groupC rs).length = (intB 2).length + (intB rs.length).length + (encR rs).length := by simp [groupC]; omega
  have := intB_len 2
  have := intB_len rs.length
  have h3 := (encR_bd rs 2000 h.2).2
  have h4 : (9 + 2000) * rs.length ≤ 2009 * 2000 := Nat.mul_le_mul (by omega) h.1
  omega
theorem frames_short {gen : Int} {cp : List UInt8} {gs : List (List (List UInt8))} (hc : cp.length ≤ 2000) (h : ShortG gs) : ∀ x ∈ headC gen cp :: gs.map groupC, x.length ≤ 1073741824 := fun x hx => by
  rcases List.mem_cons.1 hx with e | e
  · rw [e]; have := headC_len gen cp; omega
  · obtain ⟨rs, hr, e⟩ := List.mem_map.1 e
    rw [← e]; have := groupC_len (h rs hr); omega
/-- A file cut off behind its head has the first of its groups. -/
theorem seg_cut {gen : Int} {cp : List UInt8} {gs : List (List (List UInt8))} (hg : Int64 gen) (h1 : 1 ≤ gen) (hc : cp.length ≤ 2000) (h : ShortG gs) (m : Nat) (hm : (headB gen cp).length ≤ m) (hl : (headB gen cp ++ catG gs).length ≤ 4294960000) :
    ∃ n, n ≤ gs.length ∧ Scanned ((headB gen cp ++ catG gs).take m) (headC gen cp :: (gs.take n).map groupC) ∧ segM ((headB gen cp ++ catG gs).take m) = ⟨gen, (headB gen cp ++ catG (gs.take n)).length, cp, gs.take n⟩ ∧ (headB gen cp ++ catG (gs.take n)).length ≤ m ∧ (∀ u, u ≤ gs.length → (headB gen cp ++ catG (gs.take u)).length ≤ m → u ≤ n) := by
  have hls := frames_short (gen := gen) hc h
  have hlen : (headC gen cp :: gs.map groupC).length = gs.length + 1 := by simp
  have hends : ∀ k, k ≤ gs.length → endsL (headC gen cp :: gs.map groupC) (k + 1) = (headB gen cp ++ catG (gs.take k)).length := fun k hk => by
    unfold endsL
    rw [fileB_all, List.take_succ_cons, List.map_take]
  obtain ⟨k, k1, k2, k3, k4⟩ := cut_at (headC gen cp :: gs.map groupC) m gs.length 1 (by rw [hlen]; omega) (by rw [endsL_cons]; exact hm)
  obtain ⟨n, rfl⟩ : ∃ n, k = n + 1 := ⟨k - 1, by omega⟩
  have hn : n ≤ gs.length := by omega
  have hsc := scanned_cut (ls := headC gen cp :: gs.map groupC) (n := n + 1) (cut := m) k2 k3 k4 (fun j hj => by
    rw [List.getD_eq_getElem?_getD, List.getElem?_eq_getElem hj]
    exact hls _ (List.getElem_mem hj))
  rw [List.take_succ_cons, ← List.map_take, ← fileB_all] at hsc
  have hsh : ShortG (gs.take n) := fun rs hr => h rs (List.mem_of_mem_take hr)
  refine ⟨n, hn, hsc, ?_, ?_, fun u hu hum => ?_⟩
  · rw [segM_of hsc (by rw [List.length_take]; omega), segF_enc hg h1 hc hsh]
  · rw [← hends n hn]; exact k3
  · rcases Nat.lt_or_ge n u with hlt | hge
    · exfalso
      have h5 := k4 (by rw [hlen]; omega)
      have h6 : endsL (headC gen cp :: gs.map groupC) (n + 1 + 1) ≤ endsL (headC gen cp :: gs.map groupC) (u + 1) := by
        unfold endsL
        have e : (headC gen cp :: gs.map groupC).take (n + 1 + 1) = ((headC gen cp :: gs.map groupC).take (u + 1)).take (n + 1 + 1) := by rw [List.take_take]; congr 1; omega
        rw [e, allB_split ((headC gen cp :: gs.map groupC).take (u + 1)) (n + 1 + 1), List.length_append]
        omega
      rw [hends u hu] at h6
      omega
    · exact hge
/-- A torn head is none; nothing is none. -/
theorem seg_torn {gen : Int} {cp : List UInt8} (hc : cp.length ≤ 2000) (m : Nat) (hm : m < (headB gen cp).length) : Scanned ((headB gen cp).take m) [] ∧ segM ((headB gen cp).take m) = seg0 := by
  have hs : Scanned ((headB gen cp).take m) [] := by
    refine ⟨(headB gen cp).take m, by simp [allB], ?_⟩
    have h := frm_cut (headC gen cp) [] m (by have := headC_len gen cp; omega) hm
    rw [List.append_nil] at h
    exact h
  have hb := (headB_bd gen cp).2
  exact ⟨hs, by rw [segM_of hs (by rw [List.length_take]; omega)]; rfl⟩
theorem seg_nil : Scanned [] [] ∧ segM [] = seg0 := by
  have hs : Scanned [] [] := ⟨[], rfl, frm_nil⟩
  exact ⟨hs, by rw [segM_of hs (by simp)]; rfl⟩
theorem seg_full {gen : Int} {cp : List UInt8} {gs : List (List (List UInt8))} (hg : Int64 gen) (h1 : 1 ≤ gen) (hc : cp.length ≤ 2000) (h : ShortG gs) (hl : (headB gen cp ++ catG gs).length ≤ 4294960000) : segM (headB gen cp ++ catG gs) = ⟨gen, (headB gen cp ++ catG gs).length, cp, gs⟩ := by
  obtain ⟨n, h2, h3, h4, h5, h6⟩ := seg_cut hg h1 hc h (headB gen cp ++ catG gs).length (by rw [List.length_append]; omega) hl
  have e : n = gs.length := by have := h6 gs.length (Nat.le_refl _) (by rw [List.take_length]; exact Nat.le_refl _); omega
  rw [List.take_length] at h4
  rw [h4, e, List.take_length]
/-- One segment; the other file has none. -/
structure One (p : PD) (f : Nat) (gen : Int) (cp : List UInt8) (gs : List (List (List UInt8))) : Prop where
  hf : f < 2
  g1 : 1 ≤ gen
  g2 : Int64 gen
  hc : cp.length ≤ 2000
  hs : ShortG gs
  hl : (headB gen cp ++ catG gs).length ≤ 1073741824
  seg : segM (p.xs f) = ⟨gen, (headB gen cp ++ catG gs).length, cp, gs⟩
  low : (segM (p.xs (1 - f))).gen < gen ∨ ((segM (p.xs (1 - f))).gen = gen ∧ f = 0)
  x : (p.xs f).take (headB gen cp ++ catG gs).length = headB gen cp ++ catG gs
  x2 : p.xs 2 = []
  x3 : p.xs 3 = []
  safe : ∀ i, i < 4 → p.s i = (p.xs i).length
theorem One.open {p : PD} {f : Nat} {gen : Int} {cp : List UInt8} {gs : List (List (List UInt8))} (h : One p f gen cp gs) : openF p = f ∧ openS p = ⟨gen, (headB gen cp ++ catG gs).length, cp, gs⟩ := by
  have e : openF p = f := by
    have h1 := h.seg
    have h2 := h.low
    have h3 := h.hf
    unfold openF
    rcases (by omega : f = 0 ∨ f = 1) with rfl | rfl
    · rw [h1]
      rw [if_neg]
      intro hlt
      have hlt' : gen < (segM (p.xs (1 - 0))).gen := hlt
      omega
    · rw [h1]
      rw [if_pos]
      have h2' : (segM (p.xs 0)).gen < gen := by
        rcases h2 with h2 | h2
        · exact h2
        · omega
      exact h2'
  refine ⟨e, ?_⟩
  unfold openS
  rw [e, h.seg]
/-- A command that cuts: done, or the power has gone. -/
theorem ct_gen {p : PD} (hd : p.down = false) {i n : Nat} (hi : i < 4) (hn : n ≤ (p.xs i).length) :
    (ctE p i n = 40 ∧ (ctP p i n).xs = p.xs ∧ (ctP p i n).s = p.s) ∨ (ctE p i n = 0 ∧ (ctP p i n).xs = upd p.xs i ((p.xs i).take n) ∧ (ctP p i n).s = upd p.s i n ∧ (ctP p i n).down = false) := by
  have hc : checkE p i = 0 := by unfold checkE; rw [hd, file_lt hi]; rfl
  have hr : 0 ≤ (n : Int) ∧ (n : Int) ≤ (p.xs (i : Int).toNat).length := by rw [Int.toNat_natCast]; omega
  obtain ⟨h1, h2, -⟩ := cmd_xs p
  by_cases h0 : p.left = 0
  · left
    have e : cmdE p = 40 := if_pos h0
    unfold ctE ctP secP
    rw [if_pos hc, if_pos hc, if_pos hr, if_pos hr, e, if_neg (by decide)]
    exact ⟨rfl, h1, h2⟩
  · right
    have e : cmdE p = 0 := if_neg h0
    have hdn : (cmdP p).down = false := by unfold cmdP; rw [if_neg h0]; exact hd
    unfold ctE ctP secP
    rw [if_pos hc, if_pos hc, if_pos hr, if_pos hr, e, if_pos rfl, Int.toNat_natCast, Int.toNat_natCast]
    refine ⟨rfl, ?_, ?_, hdn⟩
    · show upd (cmdP p).xs i (((cmdP p).xs i).take n) = _
      rw [h1]
    · show upd (cmdP p).s i n = _
      rw [h2]
theorem One.same {p q : PD} {f : Nat} {gen : Int} {cp : List UInt8} {gs : List (List (List UInt8))} (h : One p f gen cp gs) (hx : q.xs = p.xs) (hs : q.s = p.s) : One q f gen cp gs := by
  obtain ⟨a1, a2, a3, a4, a5, a6, a7, a8, a9, b1, b2, b3⟩ := h
  exact ⟨a1, a2, a3, a4, a5, a6, by rw [hx]; exact a7, by rw [hx]; exact a8, by rw [hx]; exact a9, by rw [hx]; exact b1, by rw [hx]; exact b2, fun i hi => by rw [hx, hs]; exact b3 i hi⟩
theorem One.cut {p q : PD} {f : Nat} {gen : Int} {cp : List UInt8} {gs : List (List (List UInt8))} (h : One p f gen cp gs) (hx : q.xs = upd p.xs f ((p.xs f).take (headB gen cp ++ catG gs).length)) (hs : q.s = upd p.s f ((headB gen cp ++ catG gs).length : Nat)) : One q f gen cp gs := by
  obtain ⟨a1, a2, a3, a4, a5, a6, a7, a8, a9, b1, b2, b3⟩ := h
  have hxf : q.xs f = headB gen cp ++ catG gs := by rw [hx, upd_same, a9]
  refine ⟨a1, a2, a3, a4, a5, a6, ?_, ?_, ?_, ?_, ?_, fun i hi => ?_⟩
  · rw [hxf]; exact seg_full a3 a2 a4 a5 (by omega)
  · rw [hx, upd_other _ _ (by omega)]; exact a8
  · rw [hxf, List.take_length]
  · rw [hx, upd_other _ _ (by omega)]; exact b1
  · rw [hx, upd_other _ _ (by omega)]; exact b2
  · by_cases e : i = f
    · rw [e, hxf, hs, upd_same]
    · rw [hx, hs, upd_other _ _ e, upd_other _ _ e]; exact b3 i hi
theorem One.empty {p q : PD} {f : Nat} {gen : Int} {cp : List UInt8} {gs : List (List (List UInt8))} (h : One p f gen cp gs) (hx : q.xs = upd p.xs (1 - f) []) (hs : q.s = upd p.s (1 - f) 0) : One q f gen cp gs := by
  obtain ⟨a1, a2, a3, a4, a5, a6, a7, a8, a9, b1, b2, b3⟩ := h
  refine ⟨a1, a2, a3, a4, a5, a6, ?_, ?_, ?_, ?_, ?_, fun i hi => ?_⟩
  · rw [hx, upd_other _ _ (by omega)]; exact a7
  · left
    rw [hx, upd_same, seg_nil.2]
    show (0 : Int) < gen
    omega
  · rw [hx, upd_other _ _ (by omega)]; exact a9
  · rw [hx, upd_other _ _ (by omega)]; exact b1
  · rw [hx, upd_other _ _ (by omega)]; exact b2
  · by_cases e : i = 1 - f
    · rw [e, hx, hs, upd_same, upd_same]; rfl
    · rw [hx, hs, upd_other _ _ e, upd_other _ _ e]; exact b3 i hi
/-- Open, whenever the power goes. -/
theorem One.opens {p : PD} {f : Nat} {gen : Int} {cp : List UInt8} {gs : List (List (List UInt8))} (h : One p f gen cp gs) (hd : p.down = false) : ((openR p).1 = 0 ∨ (openR p).1 = 40) ∧ One (openR p).2.1 f gen cp gs ∧ (p.left < 0 → (openR p).1 = 0) := by
  have hgen : ¬ gen = 0 := by have := h.g1; omega
  obtain ⟨e1, e2⟩ := h.open
  have eL : openL p = ⟨f, gen, (headB gen cp ++ catG gs).length, false, false⟩ := by unfold openL; rw [e1, e2]
  have hle : (headB gen cp ++ catG gs).length ≤ (p.xs f).length := by
    have := congrArg List.length h.x
    rw [List.length_take] at this; omega
  have hf := h.hf
  -- trim
  have ht : ((trimR p (openL p)).1 = 0 ∧ One (trimR p (openL p)).2.1 f gen cp gs ∧ (trimR p (openL p)).2.1.down = false ∧ (p.left < 0 → (trimR p (openL p)).2.1.left < 0)) ∨ ((trimR p (openL p)).1 = 40 ∧ One (trimR p (openL p)).2.1 f gen cp gs ∧ ¬ p.left < 0) := by
    rw [eL]
    unfold trimR
    by_cases hz : (headB gen cp ++ catG gs).length < (p.xs f).length
    · rw [if_pos hz]
      have hl : ¬ p.left = 0 → (p.left < 0 → (ctP p f ((headB gen cp ++ catG gs).length : Nat)).left < 0) := fun h0 h1 => by
        have hc : checkE p f = 0 := by unfold checkE; rw [hd, file_lt (by omega : f < 4)]; rfl
        have hr : 0 ≤ (((headB gen cp ++ catG gs).length : Nat) : Int) ∧ (((headB gen cp ++ catG gs).length : Nat) : Int) ≤ (p.xs (f : Int).toNat).length := by rw [Int.toNat_natCast]; omega
        have e : cmdE p = 0 := if_neg h0
        unfold ctP secP
        rw [if_pos hc, if_pos hr, if_pos e]
        show (cmdP p).left < 0
        unfold cmdP
        rw [if_neg h0, if_neg (by omega)]
        exact h1
      rcases ct_gen (i := f) (n := (headB gen cp ++ catG gs).length) hd (by omega) hle with ⟨a1, a2, a3⟩ | ⟨a1, a2, a3, a4⟩
      · right
        refine ⟨a1, h.same a2 a3, fun hlt => ?_⟩
        have hc : checkE p f = 0 := by unfold checkE; rw [hd, file_lt (by omega : f < 4)]; rfl
        have hr : 0 ≤ (((headB gen cp ++ catG gs).length : Nat) : Int) ∧ (((headB gen cp ++ catG gs).length : Nat) : Int) ≤ (p.xs (f : Int).toNat).length := by rw [Int.toNat_natCast]; omega
        unfold ctE at a1
        rw [if_pos hc, if_pos hr] at a1
        unfold cmdE at a1
        rw [if_neg (by omega)] at a1
        exact absurd a1 (by decide)
      · left
        exact ⟨a1, h.cut a2 a3, a4, fun h1 => hl (by omega) h1⟩
    · rw [if_neg hz, if_neg (by show ¬ p.s f < ((p.xs f).length : Int); rw [h.safe f (by omega)]; omega)]
      exact .inl ⟨rfl, h, hd, fun h1 => h1⟩
  have eR : openR p = if (trimR p (openL p)).1 = 0 then emptyR (trimR p (openL p)).2.1 (openL p) (1 - f) else trimR p (openL p) := by
    unfold openR prepR
    rw [if_neg (by rw [eL]; exact hgen)]
    rw [show (openL p).f = f by rw [eL]]
  rcases ht with ⟨t1, t2, t3, t4⟩ | ⟨t1, t2, t3⟩
  · rw [eR, if_pos t1]
    generalize (trimR p (openL p)).2.1 = q at *
    unfold emptyR
    by_cases h0 : (q.xs (1 - f)).length = 0
    · rw [if_pos h0]; exact ⟨.inl rfl, t2, fun _ => rfl⟩
    · rw [if_neg h0]
      rcases ct_gen (p := q) (i := 1 - f) (n := 0) t3 (by omega) (Nat.zero_le _) with ⟨a1, a2, a3⟩ | ⟨a1, a2, a3, a4⟩
      · have a1' : ctE q (1 - f : Nat) 0 = 40 := a1
        refine ⟨.inr a1', t2.same a2 a3, fun hlt => ?_⟩
        have hc : checkE q (1 - f : Nat) = 0 := by unfold checkE; rw [t3, file_lt (by omega : 1 - f < 4)]; rfl
        have hr : 0 ≤ (0 : Int) ∧ (0 : Int) ≤ (q.xs ((1 - f : Nat) : Int).toNat).length := by omega
        have h9 := t4 hlt
        unfold ctE at a1'
        rw [if_pos hc, if_pos hr] at a1'
        unfold cmdE at a1'
        rw [if_neg (by omega)] at a1'
        exact absurd a1' (by decide)
      · have a2' : (ctP q (1 - f : Nat) 0).xs = upd q.xs (1 - f) [] := a2
        have a3' : (ctP q (1 - f : Nat) 0).s = upd q.s (1 - f) 0 := a3
        exact ⟨.inl a1, t2.empty a2' a3', fun _ => a1⟩
  · rw [eR, if_neg (by rw [t1]; decide)]
    exact ⟨.inr t1, t2, fun hlt => absurd hlt t3⟩
theorem crK_at {p : PD} (ks : List Int) : ∀ k, k ≤ 4 → (∀ i, i < k → (crK p ks k).xs i = (p.xs i).take (crN p ks i) ∧ (crK p ks k).s i = (crN p ks i : Nat)) ∧ ∀ i, k ≤ i → (crK p ks k).xs i = p.xs i ∧ (crK p ks k).s i = p.s i
  | 0, _ => ⟨fun i hi => by omega, fun i _ => ⟨rfl, rfl⟩⟩
  | k + 1, hk => by
    obtain ⟨h1, h2⟩ := crK_at (p := p) ks k (by omega)
    have e : crN (crK p ks k) ks k = crN p ks k := by unfold crN crI; rw [(h2 k (Nat.le_refl _)).1, (h2 k (Nat.le_refl _)).2]
    have e1 : crK p ks (k + 1) = cutP (crK p ks k) k (crN p ks k) := by rw [crK, e]
    refine ⟨fun i hi => ?_, fun i hi => ?_⟩
    · by_cases ei : i = k
      · subst ei
        rw [e1]
        exact ⟨(upd_same _ _ _).trans (by rw [(h2 i (Nat.le_refl _)).1]), upd_same _ _ _⟩
      · rw [e1]
        exact ⟨(upd_other _ _ ei).trans (h1 i (by omega)).1, (upd_other _ _ ei).trans (h1 i (by omega)).2⟩
    · rw [e1]
      exact ⟨(upd_other _ _ (by omega)).trans (h2 i (by omega)).1, (upd_other _ _ (by omega)).trans (h2 i (by omega)).2⟩
theorem crash_at {p : PD} (ks : List Int) {i : Nat} (hi : i < 4) : (crashP p ks).xs i = (p.xs i).take (crN p ks i) ∧ (crashP p ks).s i = (crN p ks i : Nat) := (crK_at (p := p) ks 4 (Nat.le_refl _)).1 i hi
theorem crash_done (p : PD) (ks : List Int) : (crashP p ks).done = p.done ∧ (crashP p ks).cap = p.cap ∧ (crashP p ks).down = false ∧ (crashP p ks).left = -1 := ⟨rfl, rfl, rfl, rfl⟩
theorem crN_ge {p : PD} (h : p.Ok) (ks : List Int) {i : Nat} (hi : i < 4) : p.s i ≤ (crN p ks i : Nat) := by
  have h0 := h.s0 i hi
  have h1 := h.s1 i hi
  rw [(crI_ok h ks hi).1]
  unfold crI
  split <;> omega
/-- A crash of one segment that is safe changes nothing. -/
theorem One.crash {p : PD} {f : Nat} {gen : Int} {cp : List UInt8} {gs : List (List (List UInt8))} (h : One p f gen cp gs) (ho : p.Ok) (ks : List Int) : One (crashP p ks) f gen cp gs := by
  have hk : ∀ i, i < 4 → (crashP p ks).xs i = p.xs i ∧ (crashP p ks).s i = p.s i := fun i hi => by
    obtain ⟨h1, h2⟩ := crash_at (p := p) ks hi
    have h3 := crN_ge ho ks hi
    have h4 := (crI_ok ho ks hi).2
    have h5 := h.safe i hi
    have e : crN p ks i = (p.xs i).length := by omega
    rw [h1, h2, e, List.take_length, h5]
    exact ⟨rfl, rfl⟩
  obtain ⟨a1, a2, a3, a4, a5, a6, a7, a8, a9, b1, b2, b3⟩ := h
  exact ⟨a1, a2, a3, a4, a5, a6, by rw [(hk f (by omega)).1]; exact a7, by rw [(hk (1 - f) (by omega)).1]; exact a8, by rw [(hk f (by omega)).1]; exact a9, by rw [(hk 2 (by omega)).1]; exact b1, by rw [(hk 3 (by omega)).1]; exact b2, fun i hi => by rw [(hk i hi).1, (hk i hi).2]; exact b3 i hi⟩
/-- A crash of a log that lives: a beginning of its groups, with all that were safe. -/
theorem LS.crash {p : PD} {L : LV} {cp : List UInt8} {gs : List (List (List UInt8))} (h : LS p L cp gs) (ks : List Int) (hg : Int64 L.gen) (hc : cp.length ≤ 2000) (hs : ShortG gs) (hl : (p.xs L.f).length ≤ 1073741824) :
    ∃ n, n ≤ gs.length ∧ One (crashP p ks) L.f L.gen cp (gs.take n) ∧ ∀ u, u ≤ gs.length → ((headB L.gen cp ++ catG (gs.take u)).length : Int) ≤ p.s L.f → u ≤ n := by
  have hf := h.f
  obtain ⟨hxf, hsf⟩ := crash_at (p := p) ks (i := L.f) (by omega)
  obtain ⟨hxo, hso⟩ := crash_at (p := p) ks (i := 1 - L.f) (by omega)
  have hge := crN_ge h.cm.ok ks (i := L.f) (by omega)
  have hle := (crI_ok h.cm.ok ks (i := L.f) (by omega)).2
  have hs0 := h.s0
  have hxl := h.x
  rw [hxl] at hl
  obtain ⟨n, n1, n2, n3, n4, n5⟩ := seg_cut hg h.g1 hc hs (crN p ks L.f) (by omega) (by omega)
  have hsh : ShortG (gs.take n) := fun rs hr => hs rs (List.mem_of_mem_take hr)
  have hpre : (headB L.gen cp ++ catG gs).take (headB L.gen cp ++ catG (gs.take n)).length = headB L.gen cp ++ catG (gs.take n) := by
    have e : headB L.gen cp ++ catG gs = (headB L.gen cp ++ catG (gs.take n)) ++ catG (gs.drop n) := by
      have e0 : catG gs = catG (gs.take n) ++ catG (gs.drop n) := by unfold catG; rw [← List.flatMap_append, List.take_append_drop]
      rw [List.append_assoc, ← e0]
    rw [e, List.take_left]
  have hln : (headB L.gen cp ++ catG (gs.take n)).length ≤ 1073741824 := by
    have := congrArg List.length hpre
    rw [List.length_take] at this; omega
  refine ⟨n, n1, ⟨hf, h.g1, hg, hc, hsh, hln, ?_, ?_, ?_, ?_, ?_, fun i hi => ?_⟩, fun u hu hum => n5 u hu (by omega)⟩
  · rw [hxf, hxl]; exact n3
  · left
    rw [hxo, h.xo, List.take_nil, seg_nil.2]
    have := h.g1
    show (0 : Int) < L.gen
    omega
  · rw [hxf, hxl, List.take_take, Nat.min_eq_left n4]; exact hpre
  · rw [(crash_at (p := p) ks (i := 2) (by omega)).1, h.x2, List.take_nil]
  · rw [(crash_at (p := p) ks (i := 3) (by omega)).1, h.x3, List.take_nil]
  · obtain ⟨q1, q2⟩ := crash_at (p := p) ks hi
    rw [q1, q2, List.length_take, Nat.min_eq_left (crI_ok h.cm.ok ks hi).2]
end Go.Proofs.YtkdebebpnkjmdaaDoor
namespace Go.Proofs.YtkdebebpnkjmdaaDoor

theorem newP_cm {cap : Int} (h : capBK cap = true) : Cm (newP cap) := ⟨new_ok h, rfl, by show (-1 : Int) < 0; decide⟩
theorem open_new {cap : Int} (h : capBK cap = true) (hc : ((headB 1 []).length : Int) ≤ cap) : (openR (newP cap)).1 = 0 ∧ LS (openR (newP cap)).2.1 (openR (newP cap)).2.2 [] [] ∧ (openR (newP cap)).2.1.cap = cap ∧ (openR (newP cap)).2.2.gen = 1 ∧ (openR (newP cap)).2.2.f = 0 ∧ (openR (newP cap)).2.2.loose = false ∧ openS (newP cap) = seg0 ∧ (openR (newP cap)).2.1.xs 0 = headB 1 [] := by
  have e0 : segM ((newP cap).xs 0) = seg0 := seg_nil.2
  have e1 : segM ((newP cap).xs 1) = seg0 := seg_nil.2
  have eF : openF (newP cap) = 0 := by unfold openF; rw [e0, e1]; rfl
  have eS : openS (newP cap) = seg0 := by unfold openS; rw [eF]; exact e0
  have eL : openL (newP cap) = ⟨0, 0, 0, false, false⟩ := by unfold openL; rw [eF, eS]; rfl
  have eE : emptyR (newP cap) ⟨0, 0, 0, false, false⟩ 1 = (0, newP cap, ⟨0, 0, 0, false, false⟩) := rfl
  have eR : openR (newP cap) = rewR (newP cap) ⟨0, 0, 0, false, false⟩ 0 1 [] := by
    unfold openR
    rw [eL]
    unfold prepR
    rw [if_pos rfl]
    unfold beginR
    rw [eE, if_pos rfl]
  have hu : (newP cap).used = 0 := rfl
  obtain ⟨a1, a2, a3, a4, a5, a6⟩ := rew_calm (newP_cm h) ⟨0, 0, 0, false, false⟩ (f := 0) (by omega) 1 [] rfl (by rw [hu]; show (0 : Int) + _ ≤ cap; omega)
  rw [eR]
  have hx0 : (rewR (newP cap) ⟨0, 0, 0, false, false⟩ 0 1 []).2.1.xs 0 = headB 1 [] := by rw [a3, upd_same]
  have hs0 : (rewR (newP cap) ⟨0, 0, 0, false, false⟩ 0 1 []).2.1.s 0 = ((headB 1 []).length : Nat) := by rw [a4, upd_same]
  refine ⟨a1, ?_, a5, by rw [a6], by rw [a6], by rw [a6], eS, hx0⟩
  rw [a6]
  refine ⟨a2, rfl, by show 0 < 2; omega, ?_, ?_, ?_, ?_, by show (1 : Int) ≤ 1; omega, ?_, ?_, fun _ => ?_⟩
  · show (rewR (newP cap) ⟨0, 0, 0, false, false⟩ 0 1 []).2.1.xs 0 = _
    rw [hx0]; simp [catG]
  · show (rewR (newP cap) ⟨0, 0, 0, false, false⟩ 0 1 []).2.1.xs 1 = _
    rw [a3, upd_other _ _ (by omega)]; rfl
  · rw [a3, upd_other _ _ (by omega)]; rfl
  · rw [a3, upd_other _ _ (by omega)]; rfl
  · show (headB 1 []).length = ((rewR (newP cap) ⟨0, 0, 0, false, false⟩ 0 1 []).2.1.xs 0).length
    rw [hx0]
  · show _ ≤ (rewR (newP cap) ⟨0, 0, 0, false, false⟩ 0 1 []).2.1.s 0
    rw [hs0]; exact Int.le_refl _
  · show (rewR (newP cap) ⟨0, 0, 0, false, false⟩ 0 1 []).2.1.s 0 = ((rewR (newP cap) ⟨0, 0, 0, false, false⟩ 0 1 []).2.1.xs 0).length
    rw [hs0, hx0]
theorem trimR_ok2 {p : PD} (h : p.Ok) (L : LV) : (trimR p L).2.1.Ok ∧ (trimR p L).2.1.done ≤ p.done + 1 := by have := trimR_ok h L; exact ⟨this.1, this.2.2⟩
theorem prepR_ok {p : PD} (h : p.Ok) (L : LV) : (prepR p L).2.1.Ok ∧ (prepR p L).2.1.done ≤ p.done + 5 := by
  unfold prepR
  split
  · unfold beginR
    have h1 := emptyR_ok h L 1
    split
    · have h2 := rewR_ok h1.1 L 0 1 []
      exact ⟨h2.1, by omega⟩
    · exact ⟨h1.1, by omega⟩
  · have h1 := trimR_ok2 h L
    split
    · have h2 := emptyR_ok h1.1 L (1 - L.f)
      exact ⟨h2.1, by omega⟩
    · exact ⟨h1.1, by omega⟩
theorem openR_ok {p : PD} (h : p.Ok) : (openR p).2.1.Ok ∧ (openR p).2.1.done ≤ p.done + 5 := prepR_ok h _
/-- The laws' fixed example. -/
noncomputable def ex0 : PD := newP 1000
noncomputable def ex1 : Int × PD × LV := openR ex0
noncomputable def ex2 : Int × PD × LV := commitR ex1.2.1 ex1.2.2 [[120], [121]]
noncomputable def ex3 : Int × PD × LV := appendR ex2.2.1 ex2.2.2 [[122]]
noncomputable def ex4 : PD := crashP ex3.2.1 []
theorem ex_all : ex1.1 = 0 ∧ ex2.1 = 0 ∧ ex3.1 = 0 ∧ openS ex0 = seg0 ∧ (openR ex4).1 = 0 ∧ (openS ex4).gs = [[[120], [121]]] ∧ ex1.2.1.Ok ∧ ex2.2.1.Ok ∧ ex3.2.1.Ok ∧ ex4.Ok ∧ ex1.2.2.size ≤ 1000 ∧ ex2.2.2.size ≤ 1000 ∧ ex1.2.1.done ≤ 100 ∧ ex2.2.1.done ≤ 100 ∧ ex3.2.1.done ≤ 100 ∧ ex4.done ≤ 100 := by
  have hc : capBK 1000 = true := rfl
  have hh := (headB_bd 1 []).2
  simp at hh
  obtain ⟨a1, a2, a3, a4, a5, a6, a7, a8⟩ := open_new (cap := 1000) hc (by omega)
  have g1 := (groupB_bd [[120], [121]] 1 (by simp)).2
  have g2 := (groupB_bd [[122]] 1 (by simp)).2
  simp at g1 g2
  have hx1 : (ex1.2.1.xs ex1.2.2.f).length = (headB 1 []).length := by
    show ((openR (newP 1000)).2.1.xs (openR (newP 1000)).2.2.f).length = _
    rw [a5, a8]
  have b0 : LS ex1.2.1 ex1.2.2 [] [] := a2
  have c0 : ex1.2.1.cap = 1000 := a3
  obtain ⟨b1, b2, b3, b4, b5, b6⟩ := b0.commit [[120], [121]] (by simp) (by rw [hx1, c0]; omega)
  have c2 : LS ex2.2.1 ex2.2.2 [] [[[120], [121]]] := b2
  have hx2 : (ex2.2.1.xs ex2.2.2.f).length = (headB 1 []).length + (groupB [[120], [121]]).length := by
    rw [c2.x, List.length_append]
    have e : ex2.2.2.gen = 1 := b4.trans a4
    rw [e]; simp [catG]
  have c3 : ex2.2.1.cap = 1000 := b3.trans c0
  obtain ⟨d1, d2, d3, d4, d5, d6, d7⟩ := c2.append [[122]] (by simp) (by rw [hx2, c3]; omega)
  have e3 : LS ex3.2.1 ex3.2.2 [] ([[[120], [121]]] ++ [[[122]]]) := d2
  have g3 : ex3.2.2.gen = 1 := d4.trans (b4.trans a4)
  have f3 : ex3.2.2.f = ex2.2.2.f := d5
  have hxl : (ex3.2.1.xs ex3.2.2.f).length ≤ 1073741824 := by
    have h1 := e3.cm.ok.len (i := ex3.2.2.f) (by have := e3.f; omega)
    exact h1
  obtain ⟨n, n1, n2, n3⟩ := e3.crash [] (by rw [g3]; constructor <;> decide) (by simp) (by intro rs hr; simp at hr; rcases hr with rfl | rfl <;> simp) hxl
  have hs : ex3.2.1.s ex3.2.2.f = ((headB ex3.2.2.gen [] ++ catG [[[120], [121]]]).length : Nat) := by
    have h1 : ex3.2.1.s = ex2.2.1.s := d7
    rw [h1, f3, c2.lo b6, c2.x, g3, show ex2.2.2.gen = 1 from b4.trans a4]
  have hn : 1 ≤ n := n3 1 (by simp) (by rw [hs]; simp)
  have hsure : n = 1 := by
    have hub : crN ex3.2.1 [] ex3.2.2.f = (headB ex3.2.2.gen [] ++ catG [[[120], [121]]]).length := by
      unfold crN crI
      simp [hs]
      omega
    have hz := n2.x
    have hxc := (crash_at (p := ex3.2.1) [] (i := ex3.2.2.f) (by have := e3.f; omega)).1
    rw [hxc, hub] at hz
    have hzl := congrArg List.length hz
    rw [List.length_take, List.length_take] at hzl
    rcases Nat.lt_or_ge 1 n with h1 | h1
    · exfalso
      have e2 : n = 2 := by simp at n1; omega
      subst e2
      have hg2 := (groupB_bd [[122]] 1 (by simp)).1
      simp [catG] at hzl
      omega
    · omega
  subst hsure
  obtain ⟨o1, o2, o3⟩ := n2.opens (show (crashP ex3.2.1 []).down = false from rfl)
  have k1 : ex1.2.1.Ok := (openR_ok (new_ok hc)).1
  have k2 : ex2.2.1.Ok := (commitR_ok k1 ex1.2.2 [[120], [121]]).1
  have k3 : ex3.2.1.Ok := (appendR_ok k2 ex2.2.2 [[122]]).1
  have q1 : ex1.2.1.done ≤ 5 := by have := (openR_ok (new_ok hc)).2; exact this
  have q2 := (commitR_ok k1 ex1.2.2 [[120], [121]]).2.2
  have q3 := (appendR_ok k2 ex2.2.2 [[122]]).2.2
  have q2' : ex2.2.1.done ≤ ex1.2.1.done + 2 := q2
  have q3' : ex3.2.1.done ≤ ex2.2.1.done + 1 := q3
  refine ⟨a1, b1, d1, a7, o3 (by show (-1 : Int) < 0; decide), ?_, k1, k2, k3, crash_ok k3 _, ?_, ?_, by omega, by omega, by omega, ?_⟩
  · show (openS (crashP ex3.2.1 [])).gs = _
    rw [n2.open.2]; rfl
  · rw [b0.sz, hx1]; omega
  · rw [c2.sz, hx2]; omega
  · show (crashP ex3.2.1 []).done ≤ 100
    rw [(crash_done ex3.2.1 []).1]; omega
end Go.Proofs.YtkdebebpnkjmdaaDoor
namespace Go.Proofs.YtkdebebpnkjmdaaDoor

theorem segF_zero (fs : List (List UInt8)) (h : (segF fs).gen = 0) : segF fs = seg0 := by
  cases fs with
  | nil => rfl
  | cons c t =>
    cases hm : headM c with
    | none => rw [segF_none hm]
    | some p =>
      obtain ⟨g, cp⟩ := p
      rw [segF_cons hm] at h
      obtain ⟨h1, h2, h3⟩ := headM_bd hm
      have : g = 0 := h
      omega
theorem segM_zero {b : List UInt8} {fs : List (List UInt8)} (hs : Scanned b fs) (hl : b.length ≤ 4294960000) (h : (segM b).gen = 0) : segM b = seg0 := by
  rw [segM_of hs hl] at h ⊢
  exact segF_zero _ h
theorem empty_twice (p : PD) (L : LV) (f : Nat) (gen : Int) (cp : List UInt8) (h1 : (emptyR p L f).1 = 0) (hx : (emptyR p L f).2.1.xs f = []) : rewR p L f gen cp = rewR (emptyR p L f).2.1 L f gen cp := by
  have e0 : emptyR (emptyR p L f).2.1 L f = (0, (emptyR p L f).2.1, L) := by
    show (if ((emptyR p L f).2.1.xs f).length = 0 then _ else _) = _
    rw [hx]; rfl
  unfold rewR
  rw [if_pos h1, e0, if_pos rfl]
theorem headB1_len : (headB 1 []).length ≤ 40 := by decide
/-- What an Open leaves. -/
theorem openR_two {p : PD} (hc : Cm p) {fs gs : List (List UInt8)} (h0 : Scanned (p.xs 0) fs) (h1 : Scanned (p.xs 1) gs) (h2 : p.xs 2 = []) (h3 : p.xs 3 = []) (hcap : 40 ≤ p.cap) :
    (openR p).1 = 0 ∧ Cm (openR p).2.1 ∧ (openR p).2.1.xs (1 - openF p) = [] ∧ openF p < 2 ∧ openS p = segM (p.xs (openF p)) ∧ (openS p).size ≤ (p.xs (openF p)).length ∧
    ((openS p).gen = 0 → openF p = 0 ∧ openS p = seg0 ∧ (openR p).2.1.xs 0 = headB 1 [] ∧ (openR p).2.1.s 0 = ((headB 1 []).length : Nat) ∧ (openR p).2.2 = ⟨0, 1, (headB 1 []).length, false, false⟩) ∧
    (¬ (openS p).gen = 0 → (openR p).2.1.xs (openF p) = (p.xs (openF p)).take (openS p).size ∧ (openR p).2.1.s (openF p) = ((openS p).size : Nat) ∧ (openR p).2.2 = ⟨openF p, (openS p).gen, (openS p).size, false, false⟩) := by
  have hl : ∀ i, i < 4 → (p.xs i).length ≤ 4294960000 := fun i hi => by have := hc.ok.len hi; omega
  have b0 := segM_bd h0 (hl 0 (by omega))
  have b1 := segM_bd h1 (hl 1 (by omega))
  have hf : openF p < 2 := by unfold openF; split <;> omega
  have hS : openS p = segM (p.xs (openF p)) := rfl
  have hsz : (openS p).size ≤ (p.xs (openF p)).length := by
    rw [hS]
    rcases (by omega : openF p = 0 ∨ openF p = 1) with e | e
    · rw [e]; exact b0.2.2.1
    · rw [e]; exact b1.2.2.1
  by_cases hg : (openS p).gen = 0
  · have hF : openF p = 0 := by
      rcases (by omega : openF p = 0 ∨ openF p = 1) with e | e
      · exact e
      · exfalso
        rw [hS, e] at hg
        unfold openF at e
        by_cases hx : (segM (p.xs 0)).gen < (segM (p.xs 1)).gen
        · omega
        · rw [if_neg hx] at e; omega
    have hz : openS p = seg0 := by rw [hS, hF] at hg ⊢; exact segM_zero h0 (hl 0 (by omega)) hg
    have eL : openL p = ⟨0, 0, 0, false, false⟩ := by unfold openL; rw [hF, hz]; rfl
    obtain ⟨m1, m2, m3, m4, m5, m6⟩ := hc.empty ⟨0, 0, 0, false, false⟩ (f := 1) (by omega)
    obtain ⟨n1, n2, n3, n4, n5, n6⟩ := m2.empty ⟨0, 0, 0, false, false⟩ (f := 0) (by omega)
    have eR : openR p = rewR (emptyR (emptyR p ⟨0, 0, 0, false, false⟩ 1).2.1 ⟨0, 0, 0, false, false⟩ 0).2.1 ⟨0, 0, 0, false, false⟩ 0 1 [] := by
      unfold openR
      rw [eL]
      unfold prepR
      rw [if_pos rfl]
      unfold beginR
      rw [if_pos m1]
      exact empty_twice _ _ _ _ _ n1 (by rw [n3]; exact upd_same _ _ _)
    generalize hq : (emptyR (emptyR p ⟨0, 0, 0, false, false⟩ 1).2.1 ⟨0, 0, 0, false, false⟩ 0).2.1 = q at *
    have x0 : q.xs 0 = [] := by rw [n3]; exact upd_same _ _ _
    have x1 : q.xs 1 = [] := by rw [n3, upd_other _ _ (by omega), m3]; exact upd_same _ _ _
    have x2 : q.xs 2 = [] := by rw [n3, upd_other _ _ (by omega), m3, upd_other _ _ (by omega)]; exact h2
    have x3 : q.xs 3 = [] := by rw [n3, upd_other _ _ (by omega), m3, upd_other _ _ (by omega)]; exact h3
    have hu : q.used = 0 := by unfold PD.used; rw [x0, x1, x2, x3]; rfl
    obtain ⟨a1, a2, a3, a4, a5, a6⟩ := rew_calm n2 ⟨0, 0, 0, false, false⟩ (f := 0) (by omega) 1 [] x0 (by rw [hu, n5, m5]; have := headB1_len; show ((0 : Nat) : Int) + _ ≤ _; omega)
    rw [eR]
    refine ⟨a1, a2, ?_, hf, hS, hsz, fun _ => ⟨hF, hz, ?_, ?_, a6⟩, fun hn => absurd hg hn⟩
    · rw [hF, a3, upd_other _ _ (by omega)]; exact x1
    · rw [a3]; exact upd_same _ _ _
    · rw [a4]; exact upd_same _ _ _
  · have ht : (trimR p (openL p)).1 = 0 ∧ Cm (trimR p (openL p)).2.1 ∧ (trimR p (openL p)).2.1.xs = upd p.xs (openF p) ((p.xs (openF p)).take (openS p).size) ∧ (trimR p (openL p)).2.1.s (openF p) = ((openS p).size : Nat) := by
      unfold trimR
      rw [show (openL p).size = (openS p).size from rfl, show (openL p).f = openF p from rfl]
      generalize openF p = f at *
      generalize (openS p).size = n at *
      by_cases hz : n < (p.xs f).length
      · rw [if_pos hz]
        obtain ⟨a1, a2, a3⟩ := hc.ct (f := f) (n := n) (by omega) hsz
        refine ⟨a1, a3, ?_, ?_⟩
        · show (ctP p f _).xs = _
          rw [a2]
        · show (ctP p f _).s f = _
          rw [a2]; exact upd_same _ _ _
      · rw [if_neg hz]
        have hn : n = (p.xs f).length := by omega
        have hT : (p.xs f).take n = p.xs f := List.take_of_length_le (by omega)
        by_cases hy : p.s f < ((p.xs f).length : Int)
        · rw [if_pos hy]
          obtain ⟨a1, a2, a3⟩ := hc.syn (f := f) (by omega)
          refine ⟨a1, a3, ?_, ?_⟩
          · show (synP p f).xs = _
            rw [a2, hT, upd_self]
          · show (synP p f).s f = _
            rw [a2, hn]; exact upd_same _ _ _
        · rw [if_neg hy]
          refine ⟨rfl, hc, ?_, ?_⟩
          · show p.xs = _
            rw [hT, upd_self]
          · show p.s f = _
            have := hc.ok.s1 f (by omega)
            rw [hn]; omega
    obtain ⟨t1, t2, t3, t4⟩ := ht
    have eR : openR p = emptyR (trimR p (openL p)).2.1 (openL p) (1 - openF p) := by
      unfold openR prepR
      rw [if_neg (show ¬ (openL p).gen = 0 from hg), if_pos t1]
      rfl
    obtain ⟨m1, m2, m3, m4, m5, m6⟩ := t2.empty (openL p) (f := 1 - openF p) (by omega)
    rw [eR]
    refine ⟨m1, m2, ?_, hf, hS, hsz, fun hn => absurd hn hg, fun _ => ⟨?_, ?_, ?_⟩⟩
    · rw [m3]; exact upd_same _ _ _
    · rw [m3, upd_other _ _ (by omega), t3]; exact upd_same _ _ _
    · rw [m4, upd_other _ _ (by omega)]; exact t4
    · rw [m6]; rfl
end Go.Proofs.YtkdebebpnkjmdaaDoor
namespace Go.Proofs.YtkdebebpnkjmdaaDoor
open Go.RowKit

theorem found_at {w : World} {a b : Value} : ∃ w', w' = w.alloc (.cells #[a, b] 34) ∧ Below w.heap.size w w' ∧ w'.heap[w.heap.size]? = some (.cells #[a, b] 34 (0, 0)) ∧ w'.heap.size = w.heap.size + 1 :=
  ⟨_, rfl, (Below.refl _ _).alloc (Nat.le_refl _) _, heap_alloc_new w _, by simp⟩
/-- Two records of one byte, one behind the other; one record. -/
theorem recs2 (w : World) (x y : UInt8) : ∃ w', w' = ((w.alloc (.cells #[.int .u8 x.toNat] 5 (1, 2))).alloc (.cells #[.int .u8 y.toNat] 5 (1, 2))).alloc (.cells #[.slice (some ⟨w.heap.size, 0, none⟩) 1 1, .slice (some ⟨w.heap.size + 1, 0, none⟩) 1 1] 22) ∧ Below w.heap.size w w' ∧
    RecsIn (fun b => w.heap.size ≤ b) w' (some ⟨w.heap.size + 2, 0, none⟩) [⟨some ⟨w.heap.size, 0, none⟩, 1, [x]⟩, ⟨some ⟨w.heap.size + 1, 0, none⟩, 1, [y]⟩] := by
  refine ⟨_, rfl, (((Below.refl _ _).alloc (Nat.le_refl _) _).alloc (by simp) _).alloc (by simp; omega) _, fun j hj => ?_⟩
  have hh : (((w.alloc (.cells #[.int .u8 x.toNat] 5 (1, 2))).alloc (.cells #[.int .u8 y.toNat] 5 (1, 2))).alloc (.cells #[.slice (some ⟨w.heap.size, 0, none⟩) 1 1, .slice (some ⟨w.heap.size + 1, 0, none⟩) 1 1] 22)).heap[w.heap.size + 2]? = some (.cells #[.slice (some ⟨w.heap.size, 0, none⟩) 1 1, .slice (some ⟨w.heap.size + 1, 0, none⟩) 1 1] 22 (0, 0)) := by
    have h := heap_alloc_new ((w.alloc (.cells #[.int .u8 x.toNat] 5 (1, 2))).alloc (.cells #[.int .u8 y.toNat] 5 (1, 2))) (.cells #[.slice (some ⟨w.heap.size, 0, none⟩) 1 1, .slice (some ⟨w.heap.size + 1, 0, none⟩) 1 1] 22)
    simpa using h
  have h0 : (((w.alloc (.cells #[.int .u8 x.toNat] 5 (1, 2))).alloc (.cells #[.int .u8 y.toNat] 5 (1, 2))).alloc (.cells #[.slice (some ⟨w.heap.size, 0, none⟩) 1 1, .slice (some ⟨w.heap.size + 1, 0, none⟩) 1 1] 22)).heap[w.heap.size]? = some (.cells #[.int .u8 x.toNat] 5 (1, 2)) := (Below.heap_alloc _ _ _ (by simp; omega)).trans ((Below.heap_alloc _ _ _ (by simp)).trans (heap_alloc_new w _))
  have h1 : (((w.alloc (.cells #[.int .u8 x.toNat] 5 (1, 2))).alloc (.cells #[.int .u8 y.toNat] 5 (1, 2))).alloc (.cells #[.slice (some ⟨w.heap.size, 0, none⟩) 1 1, .slice (some ⟨w.heap.size + 1, 0, none⟩) 1 1] 22)).heap[w.heap.size + 1]? = some (.cells #[.int .u8 y.toNat] 5 (1, 2)) := (Below.heap_alloc _ _ _ (by simp)).trans (by
    have h := heap_alloc_new (w.alloc (.cells #[.int .u8 x.toNat] 5 (1, 2))) (.cells #[.int .u8 y.toNat] 5 (1, 2))
    simpa using h)
  have hb0 := block_lt h0
  have hb1 := block_lt h1
  have hb2 := block_lt hh
  simp at hj
  rcases (by omega : j = 0 ∨ j = 1) with rfl | rfl
  · refine ⟨w.heap.size + 2, 0, rfl, Nat.le_add_right _ _, hb2, ?_, fun i hi => ⟨w.heap.size, 0, rfl, Nat.le_refl _, hb0, ?_⟩, ⟨Nat.le_of_lt (by show 1 < maxLen; unfold maxLen; decide), fun e => by cases e⟩⟩
    · exact Lib.cell_of_heap hh 0
    · have : i = 0 := by have : i < 1 := hi; omega
      subst this
      exact Lib.cell_of_heap h0 0
  · refine ⟨w.heap.size + 2, 0, rfl, Nat.le_add_right _ _, hb2, ?_, fun i hi => ⟨w.heap.size + 1, 0, rfl, Nat.le_succ _, hb1, ?_⟩, ⟨Nat.le_of_lt (by show 1 < maxLen; unfold maxLen; decide), fun e => by cases e⟩⟩
    · exact Lib.cell_of_heap hh 1
    · have : i = 0 := by have : i < 1 := hi; omega
      subst this
      exact Lib.cell_of_heap h1 0
theorem recs1 (w : World) (x : UInt8) : ∃ w', w' = (w.alloc (.cells #[.int .u8 x.toNat] 5 (1, 2))).alloc (.cells #[.slice (some ⟨w.heap.size, 0, none⟩) 1 1] 22) ∧ Below w.heap.size w w' ∧
    RecsIn (fun b => w.heap.size ≤ b) w' (some ⟨w.heap.size + 1, 0, none⟩) [⟨some ⟨w.heap.size, 0, none⟩, 1, [x]⟩] := by
  refine ⟨_, rfl, ((Below.refl _ _).alloc (Nat.le_refl _) _).alloc (by simp) _, fun j hj => ?_⟩
  have hh : ((w.alloc (.cells #[.int .u8 x.toNat] 5 (1, 2))).alloc (.cells #[.slice (some ⟨w.heap.size, 0, none⟩) 1 1] 22)).heap[w.heap.size + 1]? = some (.cells #[.slice (some ⟨w.heap.size, 0, none⟩) 1 1] 22 (0, 0)) := by
    have h := heap_alloc_new (w.alloc (.cells #[.int .u8 x.toNat] 5 (1, 2))) (.cells #[.slice (some ⟨w.heap.size, 0, none⟩) 1 1] 22)
    simpa using h
  have h0 : ((w.alloc (.cells #[.int .u8 x.toNat] 5 (1, 2))).alloc (.cells #[.slice (some ⟨w.heap.size, 0, none⟩) 1 1] 22)).heap[w.heap.size]? = some (.cells #[.int .u8 x.toNat] 5 (1, 2)) := (Below.heap_alloc _ _ _ (by simp)).trans (heap_alloc_new w _)
  have hb0 := block_lt h0
  have hb2 := block_lt hh
  simp at hj
  obtain rfl : j = 0 := by omega
  refine ⟨w.heap.size + 1, 0, rfl, Nat.le_add_right _ _, hb2, ?_, fun i hi => ⟨w.heap.size, 0, rfl, Nat.le_refl _, hb0, ?_⟩, ⟨Nat.le_of_lt (by show 1 < maxLen; unfold maxLen; decide), fun e => by cases e⟩⟩
  · exact Lib.cell_of_heap hh 0
  · have : i = 0 := by have : i < 1 := hi; omega
    subst this
    exact Lib.cell_of_heap h0 0
set_option maxHeartbeats 12800000 in
set_option maxRecDepth 100000 in
theorem awake_any (w : World) (hT : Tab w) (hgt : 0 < w.heap.size) : Calls Tryd.prog 7 #[] w fun e w' => e = .returned (.bool true) ∧ Below w.heap.size w w' := by
  obtain ⟨a1, a2, a3, a4, a5, a6, k1, k2, k3, k4, z1, z2, q1, q2, q3, q4⟩ := ex_all
  have HA := hide (And.intro a1 (And.intro a2 (And.intro a3 (And.intro a4 (And.intro a5 a6)))))
  have HK := hide (And.intro k1 (And.intro k2 (And.intro k3 k4)))
  have HZ := hide (And.intro z1 z2)
  have HQ := hide (And.intro q1 (And.intro q2 (And.intro q3 q4)))
  have HN := hide (new_yes 1000 w rfl)
  have HT := hide hT
  have HX2 := hide (show commitR (openR (newP 1000)).2.1 (openR (newP 1000)).2.2 [[120], [121]] = ex2 from rfl)
  clear a1 a2 a3 a4 a5 a6 k1 k2 k3 k4 z1 z2 q1 q2 q3 q4 hT
  go_enter Tryd.func7, Tryd.ntmps7
  go_wp2_with fail
  refine HN.out.mono ?_
  rintro e w1 ⟨⟨g, rfl, hD1⟩, hb1⟩
  have HB1 := hide hb1
  have HOp := hide (open_any w1 hD1 (new_ok (cap := 1000) rfl) (by show (0 : Int) ≤ _; decide) (HT.out.on hb1) hgt)
  unfold OpenRes at HOp
  have HD1 := hide hD1
  clear hb1 hD1 HN
  go_wp2_with fail
  refine HOp.out.mono ?_
  rintro e w2 hc
  rcases hc with ⟨hdn, -⟩ | ⟨-, -, hc⟩
  · exact absurd (show (newP 1000).down = true from hdn) (by decide)
  rcases hc with ⟨hne, -⟩ | ⟨-, h, A, c, A2, c2, gs, D2, rfl, hh, hp2, hL2, ht2, hgs, hcp, hgr, -, -, -⟩
  · exact absurd HA.out.1 hne
  have hg0 : gs = [] := by
    have h1 : openS (newD 1000).p = seg0 := HA.out.2.2.2.1
    rw [h1] at hgs
    have h2 := congrArg List.length hgs
    rw [gsOf_len] at h2
    exact List.length_eq_zero_iff.1 h2
  subst hg0
  have hcp0 : (openS (newD 1000).p).cp = [] := by
    have h1 : openS (newD 1000).p = seg0 := HA.out.2.2.2.1
    rw [h1]; rfl
  rw [hcp0]
  have HL2 := hide hL2
  have HP2 := hide hp2
  have HB2 := hide (HB1.out.trans ((ht2.below HD1.out)))
  clear hp2 hL2 ht2 hgs hcp hgr hcp0 HOp
  simp only [List.length_nil]
  obtain ⟨w3, hw3⟩ : ∃ w3, w3 = w2.alloc (.cells #[.slice A 0 c, .slice A2 0 c2] 34) := ⟨_, rfl⟩
  have hb3 : Below w2.heap.size w2 w3 := by rw [hw3]; exact (Below.refl _ _).alloc (Nat.le_refl _) _
  have hx3 : w3.heap[w2.heap.size]? = some (.cells #[.slice A 0 c, .slice A2 0 c2] 34 (0, 0)) := by rw [hw3]; exact heap_alloc_new w2 _
  have HWE := hide hw3
  obtain ⟨⟨s0, s1⟩, -, hlt3⟩ := found_cells hx3
  clear hw3 hx3
  have kc := fun (w : World) (C : Array Value) (n c : Nat) => Lib.run_convert_bytes_const (P := Tryd.prog) w 22 5 C n c Tryd.underlying22 Tryd.underlying5
  have kc2 : (convert 22 22 (.slice (some ⟨w3.heap.size + 1, 0, none⟩) 1 1)).run Tryd.prog ((w3.alloc (.cells #[.int .u8 120] 5 (1, 2))).alloc (.cells #[.int .u8 121] 5)) = .ok (.slice (some ⟨w3.heap.size + 1, 0, none⟩) 1 1) ((w3.alloc (.cells #[.int .u8 120] 5 (1, 2))).alloc (.cells #[.int .u8 121] 5 (1, 2))) := by
    have h := kc (w3.alloc (.cells #[.int .u8 120] 5 (1, 2))) #[.int .u8 121] 1 1
    simpa using h
  obtain ⟨w4, hw4, hb4, hr4⟩ := recs2 w3 120 121
  have HWE4 := hide (show w4 = ((w3.alloc (.cells #[.int .u8 120] 5 (1, 2))).alloc (.cells #[.int .u8 121] 5 (1, 2))).alloc (.cells #[.slice (some ⟨w3.heap.size, 0, none⟩) 1 1, .slice (some ⟨w3.heap.size + 1, 0, none⟩) 1 1] 22) from hw4)
  have HB3 := hide (hb3.trans (hb4.mono hb3.size))
  have HL4 := hide (HL2.out.below HB3.out)
  have HB4 := hide (HB2.out.trans (HB3.out.mono HB2.out.size))
  have HR4 := hide hr4
  have HS3 := hide hb3.size
  have hs4 : w4.heap.size = w3.heap.size + 3 := by rw [hw4]; simp
  have HC := hide (logCommit_any (some ⟨w3.heap.size + 2, 0, none⟩) 2 [⟨some ⟨w3.heap.size, 0, none⟩, 1, [120]⟩, ⟨some ⟨w3.heap.size + 1, 0, none⟩, 1, [121]⟩] w4 HL4.out (by rw [HP2.out]; exact HK.out.1) (by rw [HP2.out]; have h := HQ.out.1; show ex1.2.1.done ≤ _; omega) (by have h := HZ.out.1; show ex1.2.2.size ≤ _; omega) ((HT.out.on HB4.out)) (HR4.out.mono fun b h1 _ => HL2.out.off_new (Nat.le_trans HS3.out h1)) (by simp) (by intro j hj; simp at hj; rcases (by omega : j = 0 ∨ j = 1) with rfl | rfl <;> simp))
  rw [HP2.out] at HC
  have HC2 := hide (show Calls Tryd.prog 25 #[vD h, .slice (some ⟨w3.heap.size + 1 + 1, 0, none⟩) 2 2] w4 (LRes w.heap.size h g D2 w4 ex2) from HC.out)
  unfold LRes at HC2
  rw [HA.out.2.1] at HC2
  clear hw4 hb4 hr4 hb3 HC
  go_wp2_with (first | (guard_target =~ wpList _ _ _ (Oper.mk _ (Op.fieldAddr _ _ _) _ _ _ _ :: _) _ _; rw [← HWE.out]) | fail)
  rw [← HWE4.out]
  refine HC2.out.mono ?_
  rintro e w5 ⟨rfl, D5, hp5, hL5, ht5⟩
  have HL5 := hide hL5
  have HP5 := hide hp5
  have HT5 := hide ht5
  have HB5 := hide (HB4.out.trans (ht5.below HL4.out))
  obtain ⟨w6, hw6, hb6, hr6⟩ := recs1 w5 122
  have HWE6 := hide (show w6 = (w5.alloc (.cells #[.int .u8 122] 5 (1, 2))).alloc (.cells #[.slice (some ⟨w5.heap.size, 0, none⟩) 1 1] 22) from hw6)
  have HL6 := hide (HL5.out.below hb6)
  have HB6 := hide (HB5.out.trans (hb6.mono HB5.out.size))
  have HC6 := hide (logAppend_any (some ⟨w5.heap.size + 1, 0, none⟩) 1 [⟨some ⟨w5.heap.size, 0, none⟩, 1, [122]⟩] w6 HL6.out (by rw [HP5.out]; exact HK.out.2.1) (by rw [HP5.out]; have h := HQ.out.2.1; omega) (by have h := HZ.out.2; omega) (HT.out.on HB6.out) (hr6.mono fun b h1 _ => HL5.out.off_new h1) (by simp) (by intro j hj; simp at hj; subst hj; simp))
  rw [HP5.out] at HC6
  have HC7 := hide (show Calls Tryd.prog 24 #[vD h, .slice (some ⟨w5.heap.size + 1, 0, none⟩) 1 1] w6 (LRes w.heap.size h g D5 w6 ex3) from HC6.out)
  unfold LRes at HC7
  rw [HA.out.2.2.1] at HC7
  clear hw6 hb6 hr6 hp5 hL5 ht5 HC6 HC2 s0 s1 hlt3 kc2
  go_wp2_with fail
  rw [← HWE6.out]
  refine HC7.out.mono ?_
  rintro e w7 ⟨rfl, D7, hp7, hL7, ht7⟩
  have HP7 := hide hp7
  have HD7 := hide hL7.disk
  have HB7 := hide (HB6.out.trans (ht7.below HL6.out))
  have HCr := hide (crash_any none 0 [] w7 hL7.disk (by rw [hp7]; exact HK.out.2.2.1) (fun j hj => by simp at hj) (by simp) (fun j hj => by simp at hj))
  rw [hp7] at HCr
  have HCr2 := hide (show Calls Tryd.prog 30 #[vD g, .slice none 0 0] w7 fun e w' => e = .returned (.tuple #[]) ∧ ∃ D' : DS, D'.p = ex4 ∧ DiskAt w.heap.size g w' D' ∧ Turned g D7 D' w7 w' from HCr.out)
  clear hp7 hL7 ht7 HCr HC7
  go_wp2_with fail
  refine HCr2.out.mono ?_
  rintro e w8 ⟨rfl, D8, hp8, hD8, ht8⟩
  have HB8 := hide (HB7.out.trans (ht8.below HD7.out))
  have HO8 := hide (open_any w8 hD8 (by rw [hp8]; exact HK.out.2.2.2) (by rw [hp8]; have h := HQ.out.2.2.2; omega) (HT.out.on HB8.out) hgt)
  unfold OpenRes at HO8
  rw [hp8] at HO8
  have HD8 := hide hD8
  clear hp8 hD8 ht8 HCr2
  go_wp2_with fail
  refine HO8.out.mono ?_
  rintro e w9 hc
  rcases hc with ⟨hdn, -⟩ | ⟨-, -, hc⟩
  · exact absurd (show (crashP ex3.2.1 []).down = true from hdn) (by decide)
  rcases hc with ⟨hne, -⟩ | ⟨-, h9, A9, c9, B9, d9, gs9, D9, rfl, hh9, hp9, hL9, ht9, hgs9, hcp9, hgr9, -, -, -⟩
  · exact absurd HA.out.2.2.2.2.1 hne
  have HB9 := hide (HB8.out.trans (ht9.below HD8.out))
  rw [HA.out.2.2.2.2.2] at hgs9
  have hl9 : gs9.length = 1 := by have h2 := congrArg List.length hgs9; rw [gsOf_len] at h2; exact h2
  obtain ⟨x9, rfl⟩ : ∃ x, gs9 = [x] := by
    match gs9, hl9 with
    | [x], _ => exact ⟨x, rfl⟩
  have hx9 : lsOf x9.rs = [[120], [121]] := by simpa [gsOf] using hgs9
  obtain ⟨b, off, A0, c0, rs0, rfl, -, hbl, hcell, hrs, hg0, -, -⟩ := hgr9.got (k := 0) (by simp)
  have hrs0 : lsOf rs0 = [[120], [121]] := by rw [← hg0]; simp [gsOf, hx9]
  have hrl : rs0.length = 2 := by have h2 := congrArg List.length hrs0; rw [lsOf_len] at h2; exact h2
  obtain ⟨b2, off2, A1, c1, l1, rfl, -, hbl2, hcell2, hby, hl1, -, -⟩ := hrs.got (k := 1) (by omega)
  have hl1' : l1 = [121] := by rw [← hl1, hrs0]; rfl
  subst hl1'
  rw [hrl] at hcell
  have HB9r := hide ((Below.refl w9.heap.size w9).alloc (Nat.le_refl _) (.cells #[.slice A9 (openS ex4).cp.length c9, .slice (some ⟨b, off, none⟩) 1 d9] 34))
  have hcv : (convert 22 9 (.slice A1 1 c1)).run Tryd.prog (w9.alloc (.cells #[.slice A9 (openS ex4).cp.length c9, .slice (some ⟨b, off, none⟩) 1 d9] 34)) = .ok (.string ⟨#[121]⟩) (w9.alloc (.cells #[.slice A9 (openS ex4).cp.length c9, .slice (some ⟨b, off, none⟩) 1 d9] 34)) := conv_bytes A1 c1 [121] _ (hby.bytes.on HB9r.out)
  have hca := (HB9r.out.cell (p := ⟨b, off + 0, none⟩) hbl).trans hcell
  have hcb := (HB9r.out.cell (p := ⟨b2, off2 + 1, none⟩) hbl2).trans hcell2
  clear hgs9 hl9 hx9 hg0 hrs0 hrl hrs hl1 hgr9 hcp9 hp9 hL9 ht9 hh9
  rw [Nat.add_zero] at hca
  have hcb1 : (w9.alloc (.cells #[.slice A9 (openS ex4).cp.length c9, .slice (some ⟨b, off, none⟩) 1 d9] 34)).cell? ⟨b2, off2 + 1, none⟩ = some (.slice A1 1 c1) := hcb
  clear hcb
  have HB10 := hide (HB9.out.trans (HB9r.out.mono HB9.out.size))
  clear hcell hcell2 hby
  simp only [List.length_singleton]
  go_wp2_with fail
  go_ret
  exact ⟨rfl, HB10.out⟩
end Go.Proofs.YtkdebebpnkjmdaaDoor
namespace Go.Proofs.YtkdebebpnkjmdaaDoor
open Go.RowKit

set_option maxHeartbeats 3200000 in
set_option maxRecDepth 100000 in
theorem refHead_any (g : Int) (A : Option Addr) (c : Nat) (cp : List UInt8) (w : World) (hg : Int64 g) (hB : BytesAt w.heap.size w A cp) (hl : cp.length ≤ 1073741000) :
    Calls Tryd.prog 15 #[.int .i64 g, .slice A cp.length c] w (OwnRes w (headB g cp)) := by
  have hdt : (⟨cp.toArray⟩ : ByteArray).data.toList = cp := rfl
  have hsz : (⟨cp.toArray⟩ : ByteArray).size = cp.length := by simp [ByteArray.size]
  have HI1 := hide (refInt_any 1 w ⟨by decide, by decide⟩)
  have HI2 := hide (fun w' => refInt_any g w' hg)
  have HT := hide (fun w' => refText_any ⟨cp.toArray⟩ w' (by rw [hsz]; omega))
  rw [hdt] at HT
  have HCv := hide (fun (w' : World) (h : Below w.heap.size w w') => conv_bytes A c cp w' (hB.on h))
  have htl : (textB cp).length ≤ 9 + cp.length := by unfold textB; rw [List.length_append]; have := (intB_len (cp.length : Int)).2; omega
  have h1l := (intB_len 1).2
  have h2l := (intB_len g).2
  have HF := hide (fun (A : Option Addr) (n c : Nat) (l : List UInt8) (w' : World) (hn : n = l.length) (hB : BytesAt w'.heap.size w' A l) (hl : l.length ≤ 1073741824) => refFrame_any A n c l w' hn hB hl)
  have HE := hide (show headB g cp = frameB (intB 1 ++ intB g ++ textB cp) from rfl)
  unfold OwnRes at HI1 HI2 HT HF ⊢
  rw [HE.out]
  clear hdt hsz hB HE
  generalize intB 1 = i1 at *
  generalize intB g = i2 at *
  generalize textB cp = tb at *
  go_enter Tryd.func15, Tryd.ntmps15
  go_wp2_with fail
  refine HI1.out.mono ?_
  rintro e w1 ⟨v1, rfl, hr1, hb1⟩
  have HR1 := hide hr1
  have HB1 := hide hb1
  have hs1 := hb1.size
  obtain ⟨A1, c1, rfl, -⟩ := row_slice hr1
  clear hr1 hb1 HI1
  go_wp2_with fail
  refine (HI2.out w1).mono ?_
  rintro e w2 ⟨v2, rfl, hr2, hb2⟩
  have HB2 := hide (HB1.out.trans (hb2.mono hs1))
  have hs2 := HB2.out.size
  have HR2 := hide (row_keep HR1.out (w' := w2) fun b e => hb2.block b (HR1.out.lt b e).2)
  obtain ⟨A2, c2, rfl, hBy2, _, hn2, _⟩ := bytes_of_row hr2
  clear hr2 hb2 HI2
  go_wp2_with (at_builtin; go_must (refine append_bytes rfl _ _ rfl w.heap.size (.slice A1 i1.length c1) i1 i2 i1.length rfl HR2.out _ A2 i2.length c2 rfl rfl hBy2 hn2 (by omega) hs2 ?_))
  intro v3 w3 hown3 hgrow3 hat3
  have HB3 := hide (grow_below0 HB2.out HR2.out hs2 hgrow3)
  have HR3 := hide hown3
  have hs3 := HB3.out.size
  have hcv := HCv.out w3 HB3.out
  obtain ⟨A3, c3, rfl, -⟩ := row_slice hown3
  clear hown3 hgrow3 hat3 hBy2 hn2 HCv
  go_wp2_with fail
  refine (HT.out w3).mono ?_
  rintro e w4 ⟨v4, rfl, hr4, hb4⟩
  have HB4 := hide (HB3.out.trans (hb4.mono hs3))
  have hs4 := HB4.out.size
  have HR4 := hide (row_keep HR3.out (w' := w4) fun b e => hb4.block b (HR3.out.lt b e).2)
  obtain ⟨A4, c4, rfl, hBy4, _, hn4, _⟩ := bytes_of_row hr4
  clear hr4 hb4 HT hcv
  go_wp2_with (at_builtin; go_must (refine append_bytes rfl _ _ rfl w.heap.size (.slice A3 (i1.length + i2.length) c3) (i1 ++ i2) tb (i1.length + i2.length) rfl HR4.out _ A4 tb.length c4 rfl rfl hBy4 hn4 (by omega) hs4 ?_))
  intro v5 w5 hown5 hgrow5 hat5
  have HB5 := hide (grow_below0 HB4.out HR4.out hs4 hgrow5)
  have hs5 := HB5.out.size
  have HLn := hide (show i1.length + i2.length + tb.length = (i1 ++ i2 ++ tb).length by rw [List.length_append, List.length_append])
  have hown6 : w5.ownsRow w.heap.size 5 1 v5 (i1 ++ i2 ++ tb).length (byC (i1 ++ i2 ++ tb)) := by rw [← HLn.out]; first | exact hown5 | (rw [List.append_assoc]; exact hown5)
  have hll : (i1 ++ i2 ++ tb).length ≤ 1073741824 := by rw [← HLn.out]; omega
  obtain ⟨l, hl5⟩ : ∃ l, l = i1 ++ i2 ++ tb := ⟨_, rfl⟩
  rw [← hl5] at hown6 hll
  have HL5 := hide hl5
  obtain ⟨A5, c5, rfl, hBy5, _, _, _⟩ := bytes_of_row hown6
  have HFr := hide (HF.out A5 l.length c5 l w5 rfl hBy5 hll)
  clear hown5 hown6 hgrow5 hat5 hBy4 hn4 hBy5 HF hl5 hll HLn HR1 HR2 HR3 HR4
  go_wp2_with fail
  refine HFr.out.mono ?_
  rintro e w6 ⟨v6, rfl, hr6, hb6⟩
  have HR6 := hide hr6
  have HO6 := hide (HB5.out.trans (hb6.mono hs5))
  have hr7 : w6.ownsRow w.heap.size 5 1 v6 (frameB l).length (byC (frameB l)) := ⟨hr6.1, by
    rcases hr6.2 with h | ⟨g', cap, cur, e1, e2, e3⟩
    · exact .inl h
    · exact .inr ⟨g', cap, cur, e1, Nat.le_trans hs5 e2, e3⟩⟩
  have HR7 := hide hr7
  obtain ⟨A6, c6, rfl, -⟩ := row_slice hr6
  clear hr6 hb6 hr7
  go_wp2_with fail
  go_ret
  rw [← HL5.out]
  exact ⟨_, rfl, HR7.out, HO6.out⟩
end Go.Proofs.YtkdebebpnkjmdaaDoor
namespace Go.Proofs.YtkdebebpnkjmdaaDoor
open Go.RowKit

theorem slice_end (b off n c : Nat) (l h : Int) (el : l = c) (eh : h = c) (w : World) :
    (Instr.slice 22 (.slice (some ⟨b, off, none⟩) n c) (some (.int .i64 l)) (some (.int .i64 h)) none).run Tryd.prog w = .ok (.slice (some ⟨b, off, none⟩) 0 0) w := by
  subst el; subst eh
  rw [run_slice_lh (P := Tryd.prog) w 22 _ _ _ und_bytes .i64 .i64 (c : Int) (c : Int) (by omega) (by omega) (by omega), elem_bytes, size_u8]
  simp only [Result.andThen, sliced, Int.toNat_natCast, Option.map_some, Nat.mul_one]
  simp
theorem part_in {P : Nat → Prop} (b off : Nat) (l : List UInt8) (p v : Nat) (w : World) (hB : BytesIn P w (some ⟨b, off, none⟩) l) (h : p + v ≤ l.length) : BytesIn P w (some ⟨b, off + p, none⟩) ((l.drop p).take v) := fun j hj => by
  rw [List.length_take, List.length_drop] at hj
  obtain ⟨b', off', e, hp, hlt, h0⟩ := hB (p + j) (by omega)
  injection e with e; injection e with ea eb
  subst ea; subst eb
  refine ⟨b, off + p, rfl, hp, hlt, ?_⟩
  rw [Nat.add_assoc, h0, List.getD_eq_getElem?_getD, List.getD_eq_getElem?_getD, List.getElem?_take_of_lt (by omega), List.getElem?_drop]
/-- A text at a place, or none. -/
def RTxt (P : Nat → Prop) (W w : World) (l : List UInt8) (a : Nat) (e : Ending) (w' : World) : Prop :=
  Below w.heap.size w w' ∧ ((txtX (l.drop a) = true ∧ e = .returned (.tuple #[.slice none 0 0, .int .i64 (-1)])) ∨
    (txtX (l.drop a) = false ∧ ∃ A' c', e = .returned (.tuple #[.slice A' (txtS (l.drop a)).length c', .int .i64 ((l.length - (txtL (l.drop a)).length : Nat) : Int)]) ∧ BytesIn P W A' (txtS (l.drop a)) ∧ (A' = none → c' = 0) ∧ (txtL (l.drop a)).length ≤ l.length ∧ l.drop (l.length - (txtL (l.drop a)).length) = txtL (l.drop a) ∧ c' ≤ 9223372036854775807))
set_option maxHeartbeats 6400000 in
set_option maxRecDepth 100000 in
theorem rtext_any {P : Nat → Prop} (A : Option Addr) (c : Nat) (l : List UInt8) (a : Nat) (W w : World) (hB : BytesIn P W A l) (hbw : Below W.heap.size W w) (hc : l.length ≤ c) (hcm : c ≤ 9223372036854775807) (hl : l.length ≤ 1073741824) (ha : a ≤ l.length) :
    Calls Tryd.prog 59 #[.slice A l.length c, .int .i64 a] w (RTxt P W w l a) := by
  have HB := hide hB
  have HRd := hide (refRead_any A c l a w (hB.bytes.on hbw) hc hl ha)
  unfold ReadRes at HRd
  clear hB hbw
  rcases hr : readI (l.drop a) with _ | ⟨n, q⟩
  · have hx : txtX (l.drop a) = true := by unfold txtX; split; (unfold intX; rw [hr]; rfl); rfl
    have HX := hide hx
    have HN := hide (rd_none hr)
    rw [HN.out.1, HN.out.2] at HRd
    clear hr hx
    go_enter Tryd.func59, Tryd.ntmps59
    go_wp2_with fail
    refine HRd.out.mono ?_
    rintro e w2 ⟨rfl, hb2⟩
    have HB2 := hide hb2
    clear hb2
    go_wp2_with fail
    go_ret2
    exact ⟨HB2.out, .inl ⟨HX.out, rfl⟩⟩
  · have hle := readI_le hr
    obtain ⟨n0, n1⟩ := readI_i64 hr
    rw [List.length_drop] at hle
    have HN := hide (rd_some hr)
    rw [HN.out.1, HN.out.2] at HRd
    obtain ⟨i1, i2, i3⟩ := live_int hr
    rw [List.drop_drop] at i2
    obtain ⟨p, hp⟩ : ∃ p, p = a + q := ⟨_, rfl⟩
    rw [← hp] at HRd i2
    have hq := readI_iff.1 hr
    have hpl : p ≤ l.length := by omega
    have bp : decide ((p : Int) < 0) = false := by simp
    clear hp hle ha
    by_cases ho : 0 ≤ n ∧ n ≤ (l.length : Int) - (p : Int)
    · obtain ⟨o1, o2⟩ := ho
      obtain ⟨v, hv⟩ : ∃ v : Nat, n = v := ⟨n.toNat, by omega⟩
      subst hv
      have ok : TxtOk (l.drop a) := by unfold TxtOk; rw [i1, i2, List.length_drop]; omega
      have t1 : txtS (l.drop a) = (l.drop p).take v := by unfold txtS; rw [if_pos ok, i1, i2, Int.toNat_natCast]
      have t2 : txtL (l.drop a) = l.drop (p + v) := by unfold txtL; rw [if_pos ok, i1, i2, Int.toNat_natCast, List.drop_drop]
      have t3 : txtX (l.drop a) = false := by unfold txtX; rw [if_pos ok, i3]
      have hpv : p + v ≤ l.length := by omega
      have HRes : Hid (∀ A' c', BytesIn P W A' ((l.drop p).take v) → (A' = none → c' = 0) → c' ≤ 9223372036854775807 → ∀ w', Below w.heap.size w w' → RTxt P W w l a (.returned (.tuple #[.slice A' v c', .int .i64 ((p : Int) + (v : Int))])) w') := hide (by
        intro A' c' h1 h2 h3 w' hb
        have e1 : ((l.drop p).take v).length = v := by rw [List.length_take, List.length_drop]; omega
        have e2 : l.length - (l.drop (p + v)).length = p + v := by rw [List.length_drop]; omega
        refine ⟨hb, .inr ⟨t3, A', c', ?_, by rw [t1]; exact h1, h2, by rw [t2, List.length_drop]; omega, by rw [t2, e2], h3⟩⟩
        rw [t1, t2, e1, e2]; rfl)
      have b1 : decide ((v : Int) < 0) = false := by simp
      have b2 : decide ((l.length : Int) - (p : Int) < (v : Int)) = false := by simp; omega
      have HPt : Hid (∀ b off, A = some ⟨b, off, none⟩ → BytesIn P W (some ⟨b, off + p, none⟩) ((l.drop p).take v)) := hide (fun b off e => part_in b off l p v W (e ▸ HB.out) hpv)
      have hq1 : 1 ≤ l.length := by
        rcases Nat.eq_zero_or_pos l.length with h0 | h0
        · have : l = [] := List.length_eq_zero_iff.1 h0
          rw [this] at hr; simp [readI] at hr
        · exact h0
      obtain ⟨b, off, rfl⟩ := some_of HB.out.bytes hq1
      clear hr i1 i2 i3 ok t1 t2 t3 hq o1 o2
      by_cases hcp : p < c
      · have hsl := fun w' => slice_lh b off l.length c p (p + v) (by omega) (by omega) hcp (p : Int) ((p : Int) + (v : Int)) rfl (by omega) w'
        rw [show p + v - p = v by omega] at hsl
        go_enter Tryd.func59, Tryd.ntmps59
        go_wp2_with fail
        refine HRd.out.mono ?_
        rintro e w2 ⟨rfl, hb2⟩
        have HB2 := hide hb2
        clear hb2
        go_wp2_with fail
        go_ret2
        exact HRes.out _ _ (HPt.out b off rfl) (fun e => by cases e) (by omega) _ HB2.out
      · have hv0 : v = 0 := by omega
        have hpc : p = c := by omega
        have hsl := fun w' => slice_end b off l.length c (p : Int) ((p : Int) + (v : Int)) (by omega) (by omega) w'
        have HV := hide hv0
        clear hv0 hpc
        go_enter Tryd.func59, Tryd.ntmps59
        go_wp2_with fail
        refine HRd.out.mono ?_
        rintro e w2 ⟨rfl, hb2⟩
        have HB2 := hide hb2
        clear hb2
        go_wp2_with fail
        go_ret2
        have h0 := HRes.out (some ⟨b, off, none⟩) 0 (fun j hj => by rw [HV.out] at hj; simp at hj) (fun e => by cases e) (by omega) _ HB2.out
        have e : (Value.slice (some ⟨b, off, none⟩) v 0) = .slice (some ⟨b, off, none⟩) 0 0 := by rw [HV.out]
        rw [e] at h0
        exact h0
    · have hx : txtX (l.drop a) = true := by
        unfold txtX
        rw [if_neg (fun h => ho ?_)]
        unfold TxtOk at h
        rw [i1, i2, List.length_drop] at h
        omega
      have HX := hide hx
      clear hr i1 i2 i3 hq hx
      by_cases hn : n < 0
      · have b1 : decide (n < 0) = true := by simp; omega
        go_enter Tryd.func59, Tryd.ntmps59
        go_wp2_with fail
        refine HRd.out.mono ?_
        rintro e w2 ⟨rfl, hb2⟩
        have HB2 := hide hb2
        clear hb2
        go_wp2_with fail
        go_ret2
        exact ⟨HB2.out, .inl ⟨HX.out, rfl⟩⟩
      · have b1 : decide (n < 0) = false := by simp; omega
        have b2 : decide ((l.length : Int) - (p : Int) < n) = true := by simp; omega
        clear ho
        go_enter Tryd.func59, Tryd.ntmps59
        go_wp2_with fail
        refine HRd.out.mono ?_
        rintro e w2 ⟨rfl, hb2⟩
        have HB2 := hide hb2
        clear hb2
        go_wp2_with fail
        go_ret2
        exact ⟨HB2.out, .inl ⟨HX.out, rfl⟩⟩
end Go.Proofs.YtkdebebpnkjmdaaDoor
namespace Go.Proofs.YtkdebebpnkjmdaaDoor
open Go.RowKit

/-- A head, or none. -/
def RHead (P : Nat → Prop) (W w : World) (l : List UInt8) (e : Ending) (w' : World) : Prop :=
  Below w.heap.size w w' ∧ ((headM l = none ∧ e = .returned (.tuple #[.int .i64 0, .slice none 0 0])) ∨
    ∃ g cp A' c', headM l = some (g, cp) ∧ e = .returned (.tuple #[.int .i64 g, .slice A' cp.length c']) ∧ BytesIn P W A' cp ∧ (A' = none → c' = 0) ∧ c' ≤ 9223372036854775807)
theorem headM_no1 {l : List UInt8} (h : intN l ≠ 1) : headM l = none := if_neg fun x => h x.1
theorem headM_no2 {l : List UInt8} (h : ¬ 1 ≤ intN (intL l)) : headM l = none := if_neg fun x => h x.2.1
theorem headM_no3 {l : List UInt8} (h : txtX (intL (intL l)) = true) : headM l = none := if_neg fun x => by rw [h] at x; cases x.2.2.1
theorem headM_no4 {l : List UInt8} (h : txtL (intL (intL l)) ≠ []) : headM l = none := if_neg fun x => h x.2.2.2
set_option maxHeartbeats 6400000 in
set_option maxRecDepth 100000 in
theorem rhead_any {P : Nat → Prop} (A : Option Addr) (c : Nat) (l : List UInt8) (W w : World) (hB : BytesIn P W A l) (hbw : Below W.heap.size W w) (hc : l.length ≤ c) (hcm : c ≤ 9223372036854775807) (hl : l.length ≤ 1073741824) :
    Calls Tryd.prog 37 #[.slice A l.length c] w (RHead P W w l) := by
  have HRd := hide (fun a (ha : a ≤ l.length) w' (hb : Below w.heap.size w w') => refRead_any A c l a w' (hB.bytes.on (hbw.trans (hb.mono hbw.size))) hc hl ha)
  unfold ReadRes at HRd
  have HTx := hide (fun a (ha : a ≤ l.length) w' (hb : Below w.heap.size w w') => rtext_any A c l a W w' hB (hbw.trans (hb.mono hbw.size)) hc hcm hl ha)
  unfold RTxt at HTx
  have HB := hide hB
  have HB0 := hide (Below.refl w.heap.size w)
  clear hB hc hcm hbw
  have HL := hide hl
  have H0 := hide (HRd.out 0 (Nat.zero_le _))
  rcases hr : readI l with _ | ⟨n, q⟩
  · obtain ⟨e1, e2⟩ := rd_none (l := l) (a := 0) (by rw [List.drop_zero]; exact hr)
    rw [e1, e2] at H0
    have HNo := hide (headM_no1 (l := l) (by unfold intN; rw [hr]; decide))
    clear hr e1 e2
    go_enter Tryd.func37, Tryd.ntmps37
    go_wp2_with fail
    refine (H0.out _ HB0.out).mono ?_
    rintro e w1 ⟨rfl, hb⟩
    have HB1 := hide (HB0.out.trans (hb.mono HB0.out.size))
    clear hb
    go_wp2_with fail
    go_ret2
    exact ⟨HB1.out, .inl ⟨HNo.out, rfl⟩⟩
  · obtain ⟨e1, e2⟩ := rd_some (l := l) (a := 0) (by rw [List.drop_zero]; exact hr)
    rw [e1, e2, Nat.zero_add] at H0
    have hq := (readI_le hr).2.1
    obtain ⟨i1, i2, -⟩ := live_int hr
    clear hr e1 e2
    have bq : decide ((q : Int) < 0) = false := by simp
    by_cases hn : n = 1
    · subst hn
      have H1 := hide (HRd.out q hq)
      rcases hr1 : readI (l.drop q) with _ | ⟨g, q1⟩
      · obtain ⟨e1, e2⟩ := rd_none hr1
        rw [e1, e2] at H1
        have HNo := hide (headM_no2 (l := l) (by rw [i2]; unfold intN; rw [hr1]; decide))
        clear hr1 e1 e2 i1 i2
        go_enter Tryd.func37, Tryd.ntmps37
        go_wp2_with fail
        refine (H0.out _ HB0.out).mono ?_
        rintro e w1 ⟨rfl, hb⟩
        have HB1 := hide (HB0.out.trans (hb.mono HB0.out.size))
        clear hb
        go_wp2_with fail
        refine (H1.out _ HB1.out).mono ?_
        rintro e w2 ⟨rfl, hb⟩
        have HB2 := hide (HB1.out.trans (hb.mono HB1.out.size))
        clear hb
        go_wp2_with fail
        go_ret2
        exact ⟨HB2.out, .inl ⟨HNo.out, rfl⟩⟩
      · obtain ⟨e1, e2⟩ := rd_some hr1
        rw [e1, e2] at H1
        have hq1 := (readI_le hr1).2.1
        rw [List.length_drop] at hq1
        obtain ⟨j1, j2, -⟩ := live_int hr1
        rw [List.drop_drop] at j2
        rw [← i2] at j1 j2
        obtain ⟨p, hp⟩ : ∃ p, p = q + q1 := ⟨_, rfl⟩
        rw [← hp] at H1 j2
        have hpl : p ≤ l.length := by omega
        clear hr1 e1 e2 hp i2
        have bp : decide ((p : Int) < 0) = false := by simp
        by_cases hg : g < 1
        · have HNo := hide (headM_no2 (l := l) (by rw [j1]; omega))
          have bg : decide (g < 1) = true := by simpa using hg
          clear j1 j2 i1
          go_enter Tryd.func37, Tryd.ntmps37
          go_wp2_with fail
          refine (H0.out _ HB0.out).mono ?_
          rintro e w1 ⟨rfl, hb⟩
          have HB1 := hide (HB0.out.trans (hb.mono HB0.out.size))
          clear hb
          go_wp2_with fail
          refine (H1.out _ HB1.out).mono ?_
          rintro e w2 ⟨rfl, hb⟩
          have HB2 := hide (HB1.out.trans (hb.mono HB1.out.size))
          clear hb
          go_wp2_with fail
          go_ret2
          exact ⟨HB2.out, .inl ⟨HNo.out, rfl⟩⟩
        · have bg : decide (g < 1) = false := by simp; omega
          have H2 := hide (HTx.out p hpl)
          have HJ := hide (And.intro i1 (And.intro j1 j2))
          clear j1 j2 i1
          go_enter Tryd.func37, Tryd.ntmps37
          go_wp2_with fail
          refine (H0.out _ HB0.out).mono ?_
          rintro e w1 ⟨rfl, hb⟩
          have HB1 := hide (HB0.out.trans (hb.mono HB0.out.size))
          clear hb
          go_wp2_with fail
          refine (H1.out _ HB1.out).mono ?_
          rintro e w2 ⟨rfl, hb⟩
          have HB2 := hide (HB1.out.trans (hb.mono HB1.out.size))
          clear hb
          go_wp2_with fail
          refine (H2.out _ HB2.out).mono ?_
          rintro e w3 ⟨hb, hh⟩
          have HB3 := hide (HB2.out.trans (hb.mono HB2.out.size))
          clear hb
          rcases hh with ⟨hx, rfl⟩ | ⟨hx, A', c', rfl, hby, hn', hle, hdr, hcm⟩
          · have HNo := hide (headM_no3 (l := l) (by rw [HJ.out.2.2]; exact hx))
            have bl : ((-1 : Int) != (l.length : Int)) = true := by simp
            clear hx
            go_wp2_with fail
            go_ret2
            exact ⟨HB3.out, .inl ⟨HNo.out, rfl⟩⟩
          · by_cases hz : txtL (l.drop p) = []
            · have HYes := hide (show headM l = some (g, txtS (l.drop p)) by
                unfold headM
                rw [HJ.out.1, HJ.out.2.1, HJ.out.2.2, if_pos ⟨rfl, by omega, hx, hz⟩])
              have e0 : l.length - (txtL (l.drop p)).length = l.length := by rw [hz]; rfl
              rw [e0]
              have HBy := hide hby
              have HN' := hide hn'
              have HCm := hide hcm
              clear hx hdr hle e0 hz hby hn' hcm
              generalize txtS (l.drop p) = cp at *
              go_wp2_with fail
              go_ret2
              exact ⟨HB3.out, .inr ⟨g, cp, A', c', HYes.out, rfl, HBy.out, HN'.out, HCm.out⟩⟩
            · have HNo := hide (headM_no4 (l := l) (by rw [HJ.out.2.2]; exact hz))
              have hpos : 0 < (txtL (l.drop p)).length := List.length_pos_iff.2 hz
              have bl : ((((l.length - (txtL (l.drop p)).length : Nat)) : Int) != (l.length : Int)) = true := by simp; omega
              have bl2 : ((l.length - (txtL (l.drop p)).length) != l.length) = true := by simp; omega
              clear hx hdr hle hz hby hn' hcm
              generalize l.length - (txtL (l.drop p)).length = zz at *
              go_wp2_with fail
              go_ret2
              exact ⟨HB3.out, .inl ⟨HNo.out, rfl⟩⟩
    · have HNo := hide (headM_no1 (l := l) (by rw [i1]; exact hn))
      have bn : (n != 1) = true := by simpa using hn
      clear i1 i2
      go_enter Tryd.func37, Tryd.ntmps37
      go_wp2_with fail
      refine (H0.out _ HB0.out).mono ?_
      rintro e w1 ⟨rfl, hb⟩
      have HB1 := hide (HB0.out.trans (hb.mono HB0.out.size))
      clear hb
      go_wp2_with fail
      go_ret2
      exact ⟨HB1.out, .inl ⟨HNo.out, rfl⟩⟩
end Go.Proofs.YtkdebebpnkjmdaaDoor
namespace Go.Proofs.YtkdebebpnkjmdaaDoor
open Go.RowKit

set_option maxRecDepth 100000 in
/-- append of one byte slice; where it lies. -/
theorem append_headN {w : World} {ops : Array Oper} {rest : List Oper} {o : Oper} {a : Act} {Q : Exit → Act → World → Prop} (hgd : o.guard = none) (s x : Operand)
    (ho : o.op = .call { callee := .builtin .append, args := #[s, x], argTypes := #[46, 46] })
    (base : Nat) (v : Value) (hs : List BH) (n : Nat) (hn : n = hs.length) (he : a.eval s = v) (hown : HeadsOwn base w v hs) (h : BH) (bl : Nat) (hx : a.eval x = .slice (some ⟨bl, 0, none⟩) 1 1) (hc : w.cell? ⟨bl, 0, none⟩ = some (hdr h))
    (hh : HAt base w v h) (hlen : n ≤ 1073741824) (hbase : base ≤ w.heap.size)
    (hk : ∀ v' w', HeadsOwn base w' v' (hs ++ [h]) → w'.ownsRow base 22 1 v' (n + 1) ((hs ++ [h]).map hdr) → w.grownBy w' v.ownBlock → (v'.ownBlock = v.ownBlock ∨ v'.ownBlock = some w.heap.size) → wpList Tryd.prog ops Q rest (a.put o.dst v') w') : wpList Tryd.prog ops Q (o :: rest) a w := by
  subst hn
  obtain ⟨i0, hi, hz0, hz1, hz2⟩ := info_parts head_info
  have hcat : (hs ++ [h]).map hdr = hs.map hdr ++ [hdr h] := by simp
  refine wpList_append_own_at w hgd s x _ ho base 22 i0 (.slice none 0 0) 1 24 Tryd.underlying46 hi hz0 hz1 hz2 rfl (by decide) v hs.length _ he hown.row ⟨bl, 0, none⟩ 1 1 [hdr h] hx rfl ?_ ?_ (by unfold maxLen; omega) (by omega) hbase ?_
  · intro j u hu
    match j, hu with
    | 0, hu =>
      simp at hu
      subst hu
      exact hc
  · intro u hu
    simp at hu
    subst hu
    rfl
  · intro v' w' h1 h2 _ h4
    rw [← hcat] at h1
    have hap : ∀ b, b < w.heap.size → v.ownBlock ≠ some b → v'.ownBlock ≠ some b := fun b hb hv e => by
      rcases h4 with h5 | h5
      · exact hv (h5.symm.trans e)
      · rw [e] at h5; injection h5 with h5; omega
    have hkeep : ∀ k, HAt base w v k → HAt base w' v' k := fun k hk' j hj => by
      obtain ⟨b, off, e, e1, e2, e3, e4⟩ := hk' j hj
      refine ⟨b, off, e, e1, Nat.lt_of_lt_of_le e2 h2.size, hap b e2 e3, ?_⟩
      rw [← e4]
      simp only [World.cell?]
      rw [h2.block b e2 (fun q => e3 q.symm)]
    refine hk v' w' ⟨by rw [List.length_append]; exact h1, fun k hm => ?_⟩ h1 h2 h4
    rcases List.mem_append.1 hm with hm | hm
    · exact hkeep k (hown.lies k hm)
    · simp at hm; subst hm; exact hkeep k hh

/-- A group's records, or none. -/
def RGroup (P : Nat → Prop) (B0 : Nat) (W w : World) (l : List UInt8) (e : Ending) (w' : World) : Prop :=
  Below w.heap.size w w' ∧ ((groupM l = none ∧ ∃ v, e = .returned (.tuple #[v, .bool false])) ∨
    ∃ v hs, groupM l = some (lsOf hs) ∧ e = .returned (.tuple #[v, .bool true]) ∧ HeadsOwn B0 w' v hs ∧ (∀ x, x ∈ hs → WfH x) ∧ hs.length ≤ l.length ∧ (∀ b, v.ownBlock = some b → w.heap.size ≤ b) ∧ ∀ x, x ∈ hs → BytesIn P W x.A x.l)
theorem groupM_no1 {l : List UInt8} (h : intN l ≠ 2) : groupM l = none := if_neg fun x => h x.1
theorem groupM_no2 {l : List UInt8} (h : ¬ 0 ≤ intN (intL l)) : groupM l = none := if_neg fun x => h x.2.1
theorem groupM_no3 {l : List UInt8} (h : intX (intL l) = true) : groupM l = none := if_neg fun x => by rw [h] at x; cases x.2.2
theorem groupM_go {l : List UInt8} {v : Nat} (h0 : intN l = 2) (h1 : intN (intL l) = v) (h2 : intX (intL l) = false) : groupM l = grpE (txtsP v (intL (intL l))) := by
  unfold groupM
  rw [if_pos ⟨h0, by omega, h2⟩, h1, Int.toNat_natCast]
theorem txtS_short {n : Nat} (hn : n ≤ 1073741824) (r : List UInt8) (h : r.length ≤ n) : (txtS r).length ≤ 1073741824 := by
  unfold txtS
  split
  · have h1 := int_shrinks r
    rw [List.length_take]; omega
  · simp
set_option maxHeartbeats 12800000 in
set_option maxRecDepth 100000 in
theorem rgroup_any {P : Nat → Prop} (B0 : Nat) (hP : ∀ b, P b → B0 ≤ b) (A : Option Addr) (c : Nat) (l : List UInt8) (W w : World) (hB : BytesIn P W A l) (hbw : Below W.heap.size W w) (h0 : B0 ≤ W.heap.size) (hc : l.length ≤ c) (hcm : c ≤ 9223372036854775807) (hl : l.length ≤ 1073741824) :
    Calls Tryd.prog 38 #[.slice A l.length c] w (RGroup P B0 W w l) := by
  have HRd := hide (fun a (ha : a ≤ l.length) w' (hb : Below w.heap.size w w') => refRead_any A c l a w' (hB.bytes.on (hbw.trans (hb.mono hbw.size))) hc hl ha)
  unfold ReadRes at HRd
  have HTx := hide (fun a (ha : a ≤ l.length) w' (hb : Below w.heap.size w w') => rtext_any A c l a W w' hB (hbw.trans (hb.mono hbw.size)) hc hcm hl ha)
  unfold RTxt at HTx
  have HBW := hide hbw
  have hsW := hbw.size
  have HP := hide hP
  have HB0 := hide (Below.refl w.heap.size w)
  have HAL := hide (fun (w' : World) o => (Below.refl w'.heap.size w').alloc (Nat.le_refl _) o)
  clear hB hc hcm hbw hP
  have HL := hide hl
  have H0 := hide (HRd.out 0 (Nat.zero_le _))
  rcases hr : readI l with _ | ⟨n, q⟩
  · obtain ⟨e1, e2⟩ := rd_none (l := l) (a := 0) (by rw [List.drop_zero]; exact hr)
    rw [e1, e2] at H0
    have HNo := hide (groupM_no1 (l := l) (by unfold intN; rw [hr]; decide))
    clear hr e1 e2
    go_enter Tryd.func38, Tryd.ntmps38
    go_wp2_with fail
    refine (H0.out _ HB0.out).mono ?_
    rintro e w1 ⟨rfl, hb⟩
    have HB1 := hide (HB0.out.trans (hb.mono HB0.out.size))
    clear hb
    go_wp2_with fail
    go_ret2
    exact ⟨HB1.out, .inl ⟨HNo.out, _, rfl⟩⟩
  · obtain ⟨e1, e2⟩ := rd_some (l := l) (a := 0) (by rw [List.drop_zero]; exact hr)
    rw [e1, e2, Nat.zero_add] at H0
    have hq := (readI_le hr).2.1
    obtain ⟨i1, i2, -⟩ := live_int hr
    clear hr e1 e2
    have bq : decide ((q : Int) < 0) = false := by simp
    by_cases hn : n = 2
    · subst hn
      have H1 := hide (HRd.out q hq)
      rcases hr1 : readI (l.drop q) with _ | ⟨g, q1⟩
      · obtain ⟨e1, e2⟩ := rd_none hr1
        rw [e1, e2] at H1
        have HNo := hide (groupM_no3 (l := l) (by rw [i2]; unfold intX; rw [hr1]; rfl))
        clear hr1 e1 e2 i1 i2
        go_enter Tryd.func38, Tryd.ntmps38
        go_wp2_with fail
        refine (H0.out _ HB0.out).mono ?_
        rintro e w1 ⟨rfl, hb⟩
        have HB1 := hide (HB0.out.trans (hb.mono HB0.out.size))
        clear hb
        go_wp2_with fail
        refine (H1.out _ HB1.out).mono ?_
        rintro e w2 ⟨rfl, hb⟩
        have HB2 := hide (HB1.out.trans (hb.mono HB1.out.size))
        clear hb
        go_wp2_with fail
        go_ret2
        exact ⟨HB2.out, .inl ⟨HNo.out, _, rfl⟩⟩
      · obtain ⟨e1, e2⟩ := rd_some hr1
        rw [e1, e2] at H1
        have hq1 := (readI_le hr1).2.1
        rw [List.length_drop] at hq1
        obtain ⟨j1, j2, j3⟩ := live_int hr1
        rw [List.drop_drop] at j2
        rw [← i2] at j1 j2 j3
        obtain ⟨p, hp⟩ : ∃ p, p = q + q1 := ⟨_, rfl⟩
        rw [← hp] at H1 j2
        have hpl : p ≤ l.length := by omega
        clear hr1 e1 e2 hp i2
        have bp : decide ((p : Int) < 0) = false := by simp
        by_cases hg : g < 0
        · have HNo := hide (groupM_no2 (l := l) (by rw [j1]; omega))
          have bg : decide (g < 0) = true := by simpa using hg
          clear j1 j2 j3 i1
          go_enter Tryd.func38, Tryd.ntmps38
          go_wp2_with fail
          refine (H0.out _ HB0.out).mono ?_
          rintro e w1 ⟨rfl, hb⟩
          have HB1 := hide (HB0.out.trans (hb.mono HB0.out.size))
          clear hb
          go_wp2_with fail
          refine (H1.out _ HB1.out).mono ?_
          rintro e w2 ⟨rfl, hb⟩
          have HB2 := hide (HB1.out.trans (hb.mono HB1.out.size))
          clear hb
          go_wp2_with fail
          go_ret2
          exact ⟨HB2.out, .inl ⟨HNo.out, _, rfl⟩⟩
        · have bg : decide (g < 0) = false := by simp; omega
          by_cases hm : 1073741824 < g
          · have HNo := hide (groupM_many (c := l) (by rw [j1]; omega))
            have bm : decide (1073741824 < g) = true := by simpa using hm
            clear j1 j2 j3 i1
            go_enter Tryd.func38, Tryd.ntmps38
            go_wp2_with fail
            refine (H0.out _ HB0.out).mono ?_
            rintro e w1 ⟨rfl, hb⟩
            have HB1 := hide (HB0.out.trans (hb.mono HB0.out.size))
            clear hb
            go_wp2_with fail
            refine (H1.out _ HB1.out).mono ?_
            rintro e w2 ⟨rfl, hb⟩
            have HB2 := hide (HB1.out.trans (hb.mono HB1.out.size))
            clear hb
            go_wp2_with fail
            go_ret2
            exact ⟨HB2.out, .inl ⟨HNo.out, _, rfl⟩⟩
          · have bm : decide (1073741824 < g) = false := by simp; omega
            obtain ⟨v, rfl⟩ : ∃ v : Nat, g = v := ⟨g.toNat, by omega⟩
            have HGo := hide (groupM_go i1 j1 j3)
            rw [j2] at HGo
            have hvm : v ≤ 1073741824 := by omega
            clear j1 j2 j3 i1 hg hm
            go_enter Tryd.func38, Tryd.ntmps38
            go_wp2_with fail
            refine (H0.out _ HB0.out).mono ?_
            rintro e w1 ⟨rfl, hb⟩
            have HB1 := hide (HB0.out.trans (hb.mono HB0.out.size))
            clear hb
            go_wp2_with fail
            refine (H1.out _ HB1.out).mono ?_
            rintro e w2 ⟨rfl, hb⟩
            have HB2 := hide (HB1.out.trans (hb.mono HB1.out.size))
            clear hb
            go_wp2_with fail
            go_loopw [5, 7, 8] (fun av ov iv wr => ∃ (k : Nat) (hs : List BH) (r : List UInt8), k ≤ v ∧ iv = .int .i64 (k : Int) ∧ av = .int .i64 ((l.length - r.length : Nat) : Int) ∧ r.length ≤ l.length ∧ l.drop (l.length - r.length) = r ∧ txtsP k (l.drop p) = some (lsOf hs, r) ∧ HeadsOwn B0 wr ov hs ∧ (∀ x, x ∈ hs → WfH x) ∧ (∀ b, ov.ownBlock = some b → w.heap.size ≤ b) ∧ Below w.heap.size w wr ∧ hs.length = k ∧ ∀ x, x ∈ hs → BytesIn P W x.A x.l) (fun _ _ iv _ => v - (intOf iv).toNat)
            case atStart =>
              have e0 : l.length - (l.drop p).length = p := by rw [List.length_drop]; omega
              exact ⟨0, [], l.drop p, Nat.zero_le _, rfl, by rw [e0], by rw [List.length_drop]; omega, by rw [e0], rfl, HeadsOwn.nil _ _, (fun x hx => by cases hx), (fun b e => by simp [Value.ownBlock] at e), HB2.out, rfl, fun x hx => by cases hx⟩
            case round =>
              clear H0 H1 HB2
              obtain ⟨k, hs, r, hk, rfl, rfl, hrl, hdr, htx, hho, hwf, hob, hbw, hsl, htxs⟩ := hrel
              have HTxs := hide htxs
              clear htxs
              have HHo := hide hho
              have HWf := hide hwf
              have HOb := hide hob
              have HBw := hide hbw
              have HTp := hide htx
              have HSl := hide hsl
              have hsz := hbw.size
              clear hho hwf hob hbw htx hsl
              obtain ⟨a, ha⟩ : ∃ a, a = l.length - r.length := ⟨_, rfl⟩
              have hal : a ≤ l.length := by omega
              rw [← ha] at hdr ⊢
              have HA := hide ha
              clear ha
              by_cases hkv : k < v
              · have H2 := hide (HTx.out a hal wr HBw.out)
                rw [hdr] at H2
                clear hdr
                go_wp2_with fail
                refine H2.out.mono ?_
                rintro e w3 ⟨hb, hh⟩
                have HB3 := hide (HBw.out.trans (hb.mono hsz))
                have HHo3 := hide (HHo.out.below hb)
                clear hb
                rcases hh with ⟨hx, rfl⟩ | ⟨hx, A', c', rfl, hby, hn', hle, hdr2, hcm'⟩
                · have HNo := hide (show groupM l = none by rw [HGo.out, txtsP_none (txtsP_stop HTp.out hx) v (by omega)]; rfl)
                  clear hx
                  go_wp2_with fail
                  go_ret2
                  exact ⟨HB3.out, .inl ⟨HNo.out, _, rfl⟩⟩
                · have HTp3 := hide (txtsP_step HTp.out hx)
                  have HDr3 := hide hdr2
                  have HLe3 := hide hle
                  have hs3 := HB3.out.size
                  have HAt3 := hide (show HAt B0 w3 u7 ⟨A', c', txtS r⟩ from fun j hj => by
                    obtain ⟨b, off, e, hp1, hlt, hcell⟩ := hby j hj
                    have hbW := (HBW.out.trans (HB3.out.mono hsW))
                    have hw3 := hbW.size
                    exact ⟨b, off, e, HP.out b hp1, by omega, (fun e2 => by have := HOb.out b e2; omega), (hbW.cell (p := ⟨b, off + j, none⟩) hlt).trans hcell⟩)
                  have hsl3 : (txtS r).length ≤ 1073741824 := txtS_short (by omega) r hrl
                  have HWf3 := hide (show WfH ⟨A', c', txtS r⟩ from ⟨by unfold maxLen; show (txtS r).length ≤ _; omega, hn'⟩)
                  have HBy3 := hide hby
                  clear hx hby hn' hle hdr2 hcm'
                  have HHd := hide (show hdr ⟨A', c', txtS r⟩ = .slice A' (txtS r).length c' from rfl)
                  generalize txtS r = ts at *
                  go_wp2_with (at_builtin; go_must (refine append_headN rfl _ _ rfl B0 u7 hs hs.length rfl rfl (HHo3.out.below (HAL.out w3 _)) ⟨A', c', ts⟩ w3.heap.size rfl (Lib.cell_of_heap (heap_alloc_new w3 _) 0) (HAt3.out.keep (by simp) fun b _ h _ => Below.heap_alloc _ _ _ h) (by have := HSl.out; omega) (by simp; omega) ?_))
                  intro v6 w6 hho6 hown6 hgrow6 hat6
                  have HHo6 := hide hho6
                  have HB6 := hide (HB3.out.trans (((HAL.out w3 (.cells #[.slice A' ts.length c'] 22)).mono hs3).trans ((Below.refl w.heap.size _).grown hgrow6 (by simp; omega) fun j e => HOb.out j e)))
                  have HOb6 := hide (show ∀ b, v6.ownBlock = some b → w.heap.size ≤ b from fun b e => by
                    rcases hat6 with h6 | h6
                    · exact HOb.out b (h6.symm.trans e)
                    · rw [e] at h6; injection h6 with h6; omega)
                  obtain ⟨A6, c6, rfl, -⟩ := row_slice hown6
                  clear hho6 hown6 hgrow6 hat6
                  go_wp2_with fail
                  go_roundw
                  case rel => exact ⟨k + 1, hs ++ [⟨A', c', ts⟩], txtL r, by omega, by go_num, rfl, HLe3.out, HDr3.out, by rw [lsOf_snoc]; exact HTp3.out, HHo6.out, (fun x hx => by
                      rcases List.mem_append.1 hx with hx | hx
                      · exact HWf.out x hx
                      · simp at hx; rw [hx]; exact HWf3.out), HOb6.out, HB6.out, by rw [List.length_append, HSl.out]; rfl, (fun x hx => by
                      rcases List.mem_append.1 hx with hx | hx
                      · exact HTxs.out x hx
                      · simp at hx; rw [hx]; exact HBy3.out)⟩
                  case measure => simp [intOf]; omega
              · obtain rfl : k = v := by omega
                by_cases hz : r = []
                · have HYes := hide (show groupM l = some (lsOf hs) by rw [HGo.out, HTp.out, hz]; rfl)
                  have hal2 : a = l.length := by have := HA.out; rw [hz] at this; simpa using this
                  have be : ((a : Int) == (l.length : Int)) = true := by rw [hal2]; simp
                  have be2 : (a == l.length) = true := by rw [hal2]; simp
                  have HLs := hide (show hs.length ≤ l.length by have := (txtsP_len HTp.out).1; have := (txtsP_len HTp.out).2; rw [lsOf_len] at *; rw [List.length_drop] at *; omega)
                  clear hal2 hz hdr
                  go_wp2_with fail
                  go_ret2
                  exact ⟨HBw.out, .inr ⟨_, hs, HYes.out, rfl, HHo.out, HWf.out, HLs.out, HOb.out, HTxs.out⟩⟩
                · have HNo := hide (show groupM l = none by
                    rw [HGo.out, HTp.out]
                    rcases r with _ | ⟨x, r⟩
                    · exact absurd rfl hz
                    · rfl)
                  have hpos : 0 < r.length := List.length_pos_iff.2 hz
                  have hal2 : a ≠ l.length := by have := HA.out; omega
                  have be : ((a : Int) == (l.length : Int)) = false := by rw [beq_eq_false_iff_ne]; omega
                  have be2 : (a == l.length) = false := by rw [beq_eq_false_iff_ne]; exact hal2
                  clear hal2 hz hdr hpos
                  go_wp2_with fail
                  go_ret2
                  exact ⟨HBw.out, .inl ⟨HNo.out, _, rfl⟩⟩
    · have HNo := hide (groupM_no1 (l := l) (by rw [i1]; exact hn))
      have bn : (n != 2) = true := by simpa using hn
      clear i1 i2
      go_enter Tryd.func38, Tryd.ntmps38
      go_wp2_with fail
      refine (H0.out _ HB0.out).mono ?_
      rintro e w1 ⟨rfl, hb⟩
      have HB1 := hide (HB0.out.trans (hb.mono HB0.out.size))
      clear hb
      go_wp2_with fail
      go_ret2
      exact ⟨HB1.out, .inl ⟨HNo.out, _, rfl⟩⟩
/-- A row of records whose blocks P tells. -/
theorem row_recs {P : Nat → Prop} {base : Nat} {w : World} {v : Value} {hs : List BH} (h : HeadsOwn base w v hs) (hb : ∀ b, v.ownBlock = some b → P b) (hx : ∀ x, x ∈ hs → BytesIn P w x.A x.l) (hn : ∀ x, x ∈ hs → WfH x) :
    ∃ A c, v = .slice A hs.length c ∧ RecsIn P w A hs ∧ (A = none → c = 0) ∧ hs.length ≤ c := by
  obtain ⟨A, c, rfl, hnc, -⟩ := row_slice h.row
  refine ⟨A, c, rfl, fun j hj => ?_, ?_, hnc⟩
  · rcases h.row.2 with ⟨_, h0⟩ | ⟨g, cap, cur, e, hb', hg, hn', _, hsz, htk⟩
    · omega
    · injection e with e1 e2 e3
      subst e1
      have hm : hs.getD j dH ∈ hs := by
        rw [List.getD_eq_getElem?_getD, List.getElem?_eq_getElem hj]; exact List.getElem_mem hj
      refine ⟨g, 0, rfl, hb g rfl, (Array.getElem?_eq_some_iff.1 hg).1, ?_, hx _ hm, hn _ hm⟩
      rw [Nat.zero_add, Lib.cell_of_heap hg]
      have hc : (hs.map hdr)[j]? = some (hdr (hs.getD j dH)) := by
        rw [List.getElem?_map, List.getElem?_eq_getElem hj, List.getD_eq_getElem?_getD, List.getElem?_eq_getElem hj]
        rfl
      rw [← htk, List.getElem?_take_of_lt (by omega)] at hc
      simpa using hc
  · rintro rfl
    rcases h.row.2 with ⟨e, _⟩ | ⟨g, c', cur, e, _⟩
    · injection e
    · injection e with e1; cases e1
end Go.Proofs.YtkdebebpnkjmdaaDoor
namespace Go.Proofs.YtkdebebpnkjmdaaDoor
open Go.RowKit

/-- A slice whose header is sound. -/
def WfB (x : BH) : Prop := x.l.length ≤ x.c ∧ x.c ≤ 9223372036854775807 ∧ (x.A = none → x.c = 0)
def ScanResB (base : Nat) (w : World) (l : List UInt8) (e : Ending) (w' : World) : Prop :=
  ∃ v' hs, e = .returned (.tuple #[v', .int .i64 ((allB (lsOf hs)).length : Nat)]) ∧ Scanned l (lsOf hs) ∧ HeadsOwn base w' v' hs ∧ Below w.heap.size w w' ∧ ∀ x, x ∈ hs → WfB x
set_option maxHeartbeats 25600000 in
set_option maxRecDepth 100000 in
theorem refScanB_any (A : Option Addr) (c : Nat) (l : List UInt8) (w : World) (hB : BytesAt w.heap.size w A l) (hl : l.length ≤ 16777216) (hcap : l.length ≤ c) :
    Calls Tryd.prog 36 #[.slice A l.length c] w (ScanResB w.heap.size w l) := by
  have HB := hide hB
  clear hB
  have HB1 := hide (fun (w' : World) o => (Below.refl w'.heap.size w').alloc (Nat.le_refl _) o)
  unfold ScanResB
  go_enter Tryd.func36, Tryd.ntmps36
  go_wp2_with fail
  go_loopw [4, 5] (fun ov av wr => ∃ hs a, l = allB (lsOf hs) ++ l.drop a ∧ av = .int .i64 (a : Nat) ∧ a = (allB (lsOf hs)).length ∧ a ≤ l.length ∧ HeadsOwn w.heap.size wr ov hs ∧ Below w.heap.size w wr ∧ hs.length ≤ a ∧ ∀ x, x ∈ hs → WfB x) (fun _ av _ => l.length - (intOf av).toNat)
  case atStart => exact ⟨[], 0, rfl, rfl, rfl, Nat.zero_le _, HeadsOwn.nil _ _, Below.refl _ _, Nat.le_refl _, fun x hx => by cases hx⟩
  case round =>
    obtain ⟨hs, a, hsp, rfl, hend, hal, hho, hbw, hhl, hwb⟩ := hrel
    have HWb := hide hwb
    clear hwb
    have HHo := hide hho
    have HBw := hide hbw
    have HSp := hide hsp
    have HEnd := hide (show (a : Int) = ((allB (lsOf hs)).length : Nat) by rw [hend])
    have hsz := hbw.size
    have HRd := hide (refRead_any A c l a wr (HB.out.on hbw) hcap (by omega) hal)
    unfold ReadRes at HRd
    clear hho hbw hsp hend
    rcases hr : readI (l.drop a) with _ | ⟨n, q⟩
    · have HSc := hide (show Scanned l (lsOf hs) from ⟨l.drop a, HSp.out, fun h => by obtain ⟨n, k, hk⟩ := frm_live h; rw [hr] at hk; cases hk⟩)
      have HN := hide (rd_none hr)
      rw [HN.out.1, HN.out.2] at HRd
      clear hr
      go_wp2_with fail
      refine HRd.out.mono ?_
      rintro e w2 ⟨rfl, hb2⟩
      have HHo2 := hide (HHo.out.below hb2)
      have HB2 := hide (HBw.out.trans (hb2.mono hsz))
      clear hb2
      go_wp2_with fail
      go_ret2
      exact ⟨_, hs, ret_pair HEnd.out, HSc.out, HHo2.out, HB2.out, HWb.out⟩
    · have hle := readI_le hr
      have hn64 := readI_i64 hr
      have hii := readI_iff.1 hr
      rw [List.length_drop] at hle
      have HN := hide (rd_some hr)
      rw [HN.out.1, HN.out.2] at HRd
      obtain ⟨n0, n1⟩ := hn64
      obtain ⟨i1, i2, i3⟩ := live_int hr
      rw [List.drop_drop] at i2
      obtain ⟨p, hp⟩ : ∃ p, p = a + q := ⟨_, rfl⟩
      rw [← hp] at HRd i2
      have hpl : p ≤ l.length := by omega
      have hl0 : 0 < l.length := by omega
      have bp : decide ((p : Int) < 0) = false := by simp
      have bp2 : ¬ (p : Int) < 0 := by omega
      by_cases ho : 0 ≤ n ∧ n ≤ (l.length : Int) - (p : Int)
      · obtain ⟨o1, o2⟩ := ho
        obtain ⟨v, hv⟩ : ∃ v : Nat, n = v := ⟨n.toNat, by omega⟩
        subst hv
        have ok : TxtOk (l.drop a) := by unfold TxtOk; rw [i1, i2, List.length_drop]; omega
        have hpv : p + v ≤ l.length := by omega
        have t1 : txtS (l.drop a) = (l.drop p).take v := by unfold txtS; rw [if_pos ok, i1, i2, Int.toNat_natCast]
        have hcl : ((l.drop p).take v).length = v := by rw [List.length_take, List.length_drop]; omega
        have hfl : (frameB ((l.drop p).take v)).length = q + v + 4 := by rw [frameB_len, hcl, ← hii.2.1]
        have HOk1 := hide (fun (h : FrmOk (l.drop a)) => (show a + (q + v + 4) ≤ l.length ∧ frameB ((l.drop p).take v) = (l.drop a).take (q + v + 4) from by
          have hd := (frm_dec h).1
          rw [t1] at hd
          have h2 := congrArg List.length hd
          rw [List.length_append, hfl, List.length_drop] at h2
          refine ⟨by omega, ?_⟩
          conv => rhs; rw [hd]
          rw [← hfl, List.take_left]))
        have HOk2 := hide (fun (h : frameB ((l.drop p).take v) = (l.drop a).take (q + v + 4)) => (show l.drop a = frameB ((l.drop p).take v) ++ l.drop (a + (q + v + 4)) from by
          rw [h, ← List.drop_drop, List.take_append_drop]))
        have HCl := hide hcl
        have HFl := hide hfl
        have HP := hide hp
        have b1 : decide ((v : Int) < 0) = false := by simp
        have b2 : decide ((l.length : Int) - (p : Int) < (v : Int)) = false := by simp; omega
        have o3 : ¬ (l.length : Int) - (p : Int) < (v : Int) := by omega
        have k1 : (p : Int) ≤ (p : Int) + (v : Int) := by omega
        have k2 : (p : Int) + (v : Int) ≤ (c : Int) := by omega
        clear hr i1 i2 i3 hii ok t1 hcl hfl o1 o2 hp
        by_cases hfit : a + (q + v + 4) ≤ l.length
        · have hcp : ¬ c = p := by have := HP.out; omega
          have hca : ¬ c = a := by omega
          obtain ⟨ba, offa, rfl⟩ := some_of HB.out hl0
          go_wp2_with fail
          refine HRd.out.mono ?_
          rintro e w2 ⟨rfl, hb2⟩
          have HHo2 := hide (HHo.out.below hb2)
          have HB2 := hide (HBw.out.trans (hb2.mono hsz))
          have hs2 := HB2.out.size
          have HFr := hide (refFrame_any (some ⟨ba, offa + p, none⟩) v (c - p) ((l.drop p).take v) w2 HCl.out.symm (part_at ba offa l p v w2 (HB.out.on HB2.out) hpv) (by rw [HCl.out]; omega))
          unfold OwnRes at HFr
          clear hb2
          go_wp2_with fail
          refine HFr.out.mono ?_
          rintro e w3 ⟨v3, rfl, hr3, hb3⟩
          have HHo3 := hide (HHo2.out.below hb3)
          have HB3 := hide (HB2.out.trans (hb3.mono hs2))
          have hs3 := HB3.out.size
          obtain ⟨A3, c3, rfl, hBy3, _, hn3, _⟩ := bytes_of_row hr3
          have hcv3 := fun n => conv_bytes A3 c3 (frameB ((l.drop p).take v)) (w3.drewN n) (hBy3.on (below_drewN w3 n))
          have hcvb := fun n => part_str2 ba offa l a (q + v + 4) (c - a) (w3.drewN n) (HB.out.on (HB3.out.trans ((below_drewN w3 n).mono hs3))) hfit
          have hcv4 := conv_bytes A3 c3 (frameB ((l.drop p).take v)) w3.drew (hBy3.on (Below.refl _ _).drew)
          have hcvc := part_str2 ba offa l a (q + v + 4) (c - a) w3.drew (HB.out.on HB3.out.drew) hfit
          have HSrc := hide (fun n => part_at ba offa l p v (w3.drewN n) (HB.out.on (HB3.out.trans ((below_drewN w3 n).mono hs3))) hpv)
          rw [HFl.out] at hcv3 hcv4 ⊢
          clear hr3 hb3 hBy3 hn3
          have HSl := hide (fun w' => slice_lh ba offa l.length c a (a + (q + v + 4)) (by omega) (by omega) (by omega) (a : Int) ((a : Int) + ((q + v + 4 : Nat) : Int)) rfl (by omega) w')
          rw [show a + (q + v + 4) - a = q + v + 4 by omega] at HSl
          have hslc := HSl.out
          have g1 : ¬ (l.length : Int) < (a : Int) + ((q + v + 4 : Nat) : Int) := by omega
          have g2 : decide ((l.length : Int) < (a : Int) + ((q + v + 4 : Nat) : Int)) = false := by simpa using g1
          have hwa : IntKind.i64.wrap ((a : Int) + ((q + v + 4 : Nat) : Int)) = (a : Int) + ((q + v + 4 : Nat) : Int) := IntWalk.i64_in _ (by omega)
          have hfl0 : q + v + 4 ≤ 1073741824 := by omega
          have hq4 : 0 < q + v + 4 := by omega
          by_cases heq : frameB ((l.drop p).take v) = (l.drop a).take (q + v + 4)
          · have hbe : (frameB ((l.drop p).take v) == (l.drop a).take (q + v + 4)) = true := by rw [heq, beq_self_eq_true]
            have HSp2 := hide (HOk2.out heq)
            generalize hfl : q + v + 4 = fl at *
            clear heq hfl
            have hvs : v ≤ 16777216 := by omega
            generalize hct : (l.drop p).take v = ct at *
            clear hct
            generalize hfb : frameB ct = fb at *
            have HFb := hide hfb
            clear hfb
            go_wp2_with fail
            go_quiet (fail)
            obtain ⟨w4, hw4⟩ : ∃ w4, w4 = w3.drewN nq := ⟨_, rfl⟩
            have HHo4 := hide (show HeadsOwn w.heap.size w4 u4 hs from hw4 ▸ HHo3.out.below (below_drewN _ _))
            have HB4 := hide (show Below w.heap.size w w4 from hw4 ▸ HB3.out.trans ((below_drewN w3 _).mono hs3))
            have HSrc4 := hide (show BytesAt w4.heap.size w4 (some ⟨ba, offa + p, none⟩) ct from hw4 ▸ HSrc.out nq)
            rw [← hw4]
            clear hw4 hcv3 hcvb hcv4 hcvc hslc hwa HSrc HHo3 HB3 HHo2 HB2 hbe
            have hs4 := HB4.out.size
            go_wp2_with (at_builtin; go_must (refine append_bytes rfl _ _ rfl w4.heap.size (.slice none 0 0) [] ct 0 rfl (World.ownsRow_nil _ _ _ _) _ (some ⟨ba, offa + p, none⟩) (p + v - p) (c - p) (by rw [HCl.out]; omega) rfl HSrc4.out (fun e => by cases e) (by omega) (Nat.le_refl _) ?_))
            intro v5 w5 hown5 hgrow5 hat5
            have hr5 : w5.ownsRow w4.heap.size 5 1 v5 ct.length (byC ct) := by rw [HCl.out]; simpa using hown5
            have hb5 : Below w4.heap.size w4 w5 := (Below.refl _ _).grown hgrow5 (Nat.le_refl _) (fun k e => by cases e)
            have HHo5 := hide (HHo4.out.below hb5)
            have HB5 := hide (HB4.out.trans (hb5.mono hs4))
            have hs5 := HB5.out.size
            obtain ⟨A5, c5, e5, hBy5, hA5, hn5, hl5⟩ := bytes_of_row hr5
            have HWb5 := hide (show WfB ⟨A5, c5, ct⟩ from ⟨hl5, (by obtain ⟨_, _, e6, _, h6⟩ := row_slice hr5; rw [e5] at e6; injection e6 with e61 e62 e63; unfold maxLen at h6; show c5 ≤ _; omega), hn5⟩)
            have HH5 := hide (show HAt w.heap.size w5 u4 ⟨A5, c5, ct⟩ from fun j hj => by
              obtain ⟨b, off, e, e1, e2⟩ := hBy5 j hj
              have h1 : w4.heap.size ≤ b := (hA5 _ e).1
              exact ⟨b, off, e, by omega, e1, fun e3 => by have := (HHo4.out.row.lt b e3).2; omega, e2⟩)
            have HHd := hide (show hdr ⟨A5, c5, ct⟩ = .slice A5 v c5 by unfold hdr; rw [HCl.out])
            rw [HCl.out] at e5
            subst e5
            clear hr5 hb5 hBy5 hA5 hn5 hl5 hown5 hgrow5 hat5
            go_wp2_with (at_builtin; go_must (refine append_head rfl _ _ rfl w.heap.size u4 hs hs.length rfl rfl (HHo5.out.below (HB1.out w5 _)) ⟨A5, c5, ct⟩ w5.heap.size rfl (by rw [HHd.out]; exact Lib.cell_of_heap (heap_alloc_new w5 _) 0) (HH5.out.keep (by simp) fun b _ h _ => Below.heap_alloc _ _ _ h) (by omega) (by simp; omega) ?_))
            intro v6 w6 hho6 hown6 hgrow6
            have HHo6 := hide hho6
            have HB6 := hide (HB5.out.trans (((HB1.out w5 _).mono hs5).trans ((Below.refl w.heap.size _).grown hgrow6 (by simp; omega) fun j e => (HHo5.out.row.lt j e).1)))
            obtain ⟨A6, c6, rfl, -⟩ := row_slice hown6
            have HNw := hide (show l = allB (lsOf (hs ++ [⟨A5, c5, ct⟩])) ++ l.drop (a + fl) by rw [lsOf_snoc, allB_snoc, HFb.out, List.append_assoc, ← HSp2.out]; exact HSp.out)
            have HNe := hide (show a + fl = (allB (lsOf (hs ++ [⟨A5, c5, ct⟩]))).length by rw [lsOf_snoc, allB_snoc, HFb.out, List.length_append, HFl.out]; have := HEnd.out; omega)
            clear hho6 hown6 hgrow6
            go_wp2_with fail
            go_roundw
            case rel => exact ⟨hs ++ [⟨A5, c5, ct⟩], a + fl, HNw.out, by go_num, HNe.out, hfit, HHo6.out, HB6.out, by rw [List.length_append]; simp; omega, fun x hx => by
              rcases List.mem_append.1 hx with hx | hx
              · exact HWb.out x hx
              · simp at hx; rw [hx]; exact HWb5.out⟩
            case measure => simp [intOf]; omega
          · have hbe : (frameB ((l.drop p).take v) == (l.drop a).take (q + v + 4)) = false := by rw [beq_eq_false_iff_ne]; exact heq
            have HSc := hide (show Scanned l (lsOf hs) from ⟨l.drop a, HSp.out, fun h => heq (HOk1.out h).2⟩)
            generalize q + v + 4 = fl at *
            clear heq
            generalize frameB ((l.drop p).take v) = fb at *
            go_wp2_with fail
            go_quiet (fail)
            go_wp2_with fail
            go_ret2
            exact ⟨_, hs, ret_pair HEnd.out, HSc.out, HHo3.out.below (below_drewN _ _), HB3.out.trans ((below_drewN w3 _).mono hs3), HWb.out⟩
        · have HSc := hide (show Scanned l (lsOf hs) from ⟨l.drop a, HSp.out, fun h => hfit (HOk1.out h).1⟩)
          have g1 : (l.length : Int) < (a : Int) + ((q + v + 4 : Nat) : Int) := by omega
          by_cases hcp : c = p
          · subst hcp
            obtain rfl : v = 0 := by omega
            have HEmp := hide (show (l.drop c).take 0 = [] from rfl)
            go_wp2_with fail
            refine HRd.out.mono ?_
            rintro e w2 ⟨rfl, hb2⟩
            have HHo2 := hide (HHo.out.below hb2)
            have HB2 := hide (HBw.out.trans (hb2.mono hsz))
            have hs2 := HB2.out.size
            have HFr := hide (refFrame_any A 0 0 [] w2 rfl (fun j hj => by simp at hj) (by simp))
            rw [← HEmp.out] at HFr
            unfold OwnRes at HFr
            clear hb2
            go_wp2_with fail
            refine HFr.out.mono ?_
            rintro e w3 ⟨v3, rfl, hr3, hb3⟩
            have HHo3 := hide (HHo2.out.below hb3)
            have HB3 := hide (HB2.out.trans (hb3.mono hs2))
            have hs3 := HB3.out.size
            obtain ⟨A3, c3, rfl, hBy3, _, hn3, _⟩ := bytes_of_row hr3
            rw [HFl.out]
            clear hr3 hb3 hBy3 hn3
            have g2 : decide ((l.length : Int) < (a : Int) + ((q + 0 + 4 : Nat) : Int)) = true := by simpa using g1
            have hwa : IntKind.i64.wrap ((a : Int) + ((q + 0 + 4 : Nat) : Int)) = (a : Int) + ((q + 0 + 4 : Nat) : Int) := IntWalk.i64_in _ (by omega)
            generalize q + 0 + 4 = fl at *
            go_wp2_with fail
            go_quiet (fail)
            go_wp2_with fail
            go_ret2
            exact ⟨_, hs, ret_pair HEnd.out, HSc.out, HHo3.out.below (below_drewN _ _), HB3.out.trans ((below_drewN w3 _).mono hs3), HWb.out⟩
          · obtain ⟨ba, offa, rfl⟩ := some_of HB.out hl0
            go_wp2_with fail
            refine HRd.out.mono ?_
            rintro e w2 ⟨rfl, hb2⟩
            have HHo2 := hide (HHo.out.below hb2)
            have HB2 := hide (HBw.out.trans (hb2.mono hsz))
            have hs2 := HB2.out.size
            have HFr := hide (refFrame_any (some ⟨ba, offa + p, none⟩) v (c - p) ((l.drop p).take v) w2 HCl.out.symm (part_at ba offa l p v w2 (HB.out.on HB2.out) hpv) (by rw [HCl.out]; omega))
            unfold OwnRes at HFr
            clear hb2
            go_wp2_with fail
            refine HFr.out.mono ?_
            rintro e w3 ⟨v3, rfl, hr3, hb3⟩
            have HHo3 := hide (HHo2.out.below hb3)
            have HB3 := hide (HB2.out.trans (hb3.mono hs2))
            have hs3 := HB3.out.size
            obtain ⟨A3, c3, rfl, hBy3, _, hn3, _⟩ := bytes_of_row hr3
            rw [HFl.out]
            clear hr3 hb3 hBy3 hn3
            have g2 : decide ((l.length : Int) < (a : Int) + ((q + v + 4 : Nat) : Int)) = true := by simpa using g1
            have hwa : IntKind.i64.wrap ((a : Int) + ((q + v + 4 : Nat) : Int)) = (a : Int) + ((q + v + 4 : Nat) : Int) := IntWalk.i64_in _ (by omega)
            generalize q + v + 4 = fl at *
            go_wp2_with fail
            go_quiet (fail)
            go_wp2_with fail
            go_ret2
            exact ⟨_, hs, ret_pair HEnd.out, HSc.out, HHo3.out.below (below_drewN _ _), HB3.out.trans ((below_drewN w3 _).mono hs3), HWb.out⟩
      · have hno : ¬ TxtOk (l.drop a) := by unfold TxtOk; rw [i1, i2, List.length_drop]; omega
        have HSc := hide (show Scanned l (lsOf hs) from ⟨l.drop a, HSp.out, fun h => hno h.1⟩)
        clear hr hno i1 i2 i3 hii hp hle
        by_cases hneg : n < 0
        · have b1 : decide (n < 0) = true := by simpa using hneg
          clear ho
          go_wp2_with fail
          refine HRd.out.mono ?_
          rintro e w2 ⟨rfl, hb2⟩
          have HHo2 := hide (HHo.out.below hb2)
          have HB2 := hide (HBw.out.trans (hb2.mono hsz))
          clear hb2
          go_wp2_with fail
          go_ret2
          exact ⟨_, hs, ret_pair HEnd.out, HSc.out, HHo2.out, HB2.out, HWb.out⟩
        · have hbig : (l.length : Int) - (p : Int) < n := by omega
          have b1 : decide (n < 0) = false := by simp; omega
          have b2 : decide ((l.length : Int) - (p : Int) < n) = true := by simpa using hbig
          clear ho
          go_wp2_with fail
          refine HRd.out.mono ?_
          rintro e w2 ⟨rfl, hb2⟩
          have HHo2 := hide (HHo.out.below hb2)
          have HB2 := hide (HBw.out.trans (hb2.mono hsz))
          clear hb2
          go_wp2_with fail
          go_ret2
          exact ⟨_, hs, ret_pair HEnd.out, HSc.out, HHo2.out, HB2.out, HWb.out⟩
end Go.Proofs.YtkdebebpnkjmdaaDoor
namespace Go.Proofs.YtkdebebpnkjmdaaDoor
open Go.RowKit
section
variable {P : Program} {ops : Array Oper} {Q : Exit → Act → World → Prop} {md : Region.Mode} {S : World → Prop} {L : Nat}

/-- Whatever order is picked, and S holds behind each operation but number L. -/
def heldBut (P : Program) (md : Region.Mode) (ops : Array Oper) (Q : Exit → Act → World → Prop) (S : World → Prop) (L : Nat) : Nat → Array Bool → Act → World → Prop
  | 0, listed, a, w => Region.ready md ops listed = [] ∧ Q .normal a w
  | n + 1, listed, a, w => (Region.ready md ops listed = [] → Q .normal a w) ∧
      ∀ i ∈ Region.ready md ops listed, wpOp P ops Q i (fun a' w' => (i = L ∨ S w') ∧ heldBut P md ops Q S L n (listed.setIfInBounds i true) a' w') a w
theorem any_of_heldBut : ∀ (n : Nat) (listed : Array Bool) (a : Act) (w : World), heldBut P md ops Q S L n listed a w → wpAny P md ops Q n listed a w
  | 0, _, _, _, h => h
  | n + 1, _, _, _, h => ⟨h.1, fun i hi => wpOp_mono (fun a' w' h' => any_of_heldBut n _ a' w' h'.2) (h.2 i hi)⟩
theorem not_last {i : Nat} {listed : Array Bool} (hw : Region.waitsFor md ops L i = true) (hr : i ∈ Region.ready md ops listed) : ∀ j ∈ Region.ready md ops listed, j ≠ L := by
  intro j hj e
  subst e
  obtain ⟨oj, hoj, e, he, hb, hon⟩ := Region.waitsFor_spec hw
  obtain ⟨_, ok, hok, hall⟩ := mem_ready.1 hj
  have : oj = ok := Option.some.inj (hoj.symm.trans hok)
  subst this
  have h1 := hall e he hb
  have h0 := (mem_ready.1 hr).1
  rw [hon] at h1
  rcases Nat.lt_or_ge i listed.size with h' | h'
  · simp [h'] at h0 h1; rw [h0] at h1; cases h1
  · simp [Array.getElem?_eq_none h'] at h1
theorem heldBut_first {i : Nat} {oi : Oper} {v : Value} (hi : ops[i]? = some oi) (hsel : ∀ (j : Nat) (o : Oper) cs b, ops[j]? = some o → o.op ≠ .select cs b)
    (hQ : ∀ c a w, Q (.panic c) (a.put oi.dst v) w → Q (.panic c) a w) (hw : Region.waitsFor md ops L i = true) :
    ∀ (n : Nat) (listed : Array Bool) (a : Act) (w : World),
      (∀ j oj, ops[j]? = some oj → j ≠ i → listed.getD j true = false → (∀ e ∈ oj.after, Region.binds md e = true → e.on ≠ i) → oi.apart ops oj = true) →
      i ∈ Region.ready md ops listed → YieldsIf P ops S oi v a → S w →
      heldBut P md ops Q S L n (listed.setIfInBounds i true) (a.put oi.dst v) w → heldBut P md ops Q S L (n + 1) listed a w := by
  intro n
  induction n with
  | zero =>
    intro listed a w _ hr hy hS H
    refine ⟨fun h => (by rw [h] at hr; cases hr), fun j hj => ?_⟩
    by_cases hji : j = i
    · subst hji; exact hy.wpOp hi hS ⟨.inr hS, H⟩
    · have := ready_mono hj hji
      rw [H.1] at this
      cases this
  | succ n ih =>
    intro listed a w hfree hr hy hS H
    refine ⟨fun h => (by rw [h] at hr; cases hr), fun j hj => ?_⟩
    by_cases hji : j = i
    · subst hji; exact hy.wpOp hi hS ⟨.inr hS, H⟩
    · have hjL := not_last hw hr j hj
      have h1 := H.2 j (ready_mono hj hji)
      obtain ⟨hjun, oj, hoj, hall⟩ := mem_ready.1 hj
      have hnot : ∀ e ∈ oj.after, Region.binds md e = true → e.on ≠ i := fun e he hb heq => by
        have h1 := hall e he hb
        have h0 := (mem_ready.1 hr).1
        rw [heq] at h1
        rcases Nat.lt_or_ge i listed.size with h' | h'
        · simp [h'] at h0 h1; rw [h0] at h1; cases h1
        · simp [Array.getElem?_eq_none h'] at h1
      have h2 := wpOp_putIf hoj (hfree j oj hoj hji hjun hnot) (fun cs b => hsel i oi cs b hi) (fun cs b => hsel j oj cs b hoj) hQ hy h1
      have hfree' : ∀ k ok, ops[k]? = some ok → k ≠ i → (listed.setIfInBounds j true).getD k true = false →
          (∀ e ∈ ok.after, Region.binds md e = true → e.on ≠ i) → oi.apart ops ok = true := fun k ok hk hki hun hno => by
        refine hfree k ok hk hki ?_ hno
        by_cases hjk : j = k
        · subst hjk; exact hjun
        · rw [getD_set_ne true hjk] at hun; exact hun
      refine wpOp_mono (fun a' w' h3 => ⟨h3.2.1, ih (listed.setIfInBounds j true) a' w' hfree' (ready_mono hr (Ne.symm hji)) h3.1 (h3.2.1.resolve_left hjL) ?_⟩) h2
      rw [Array.setIfInBounds_comm _ _ hji]
      exact h3.2.2
theorem heldBut_take {i : Nat} {oi : Oper} {v : Value} {n : Nat} {listed : Array Bool} {a : Act} {w : World} (hi : ops[i]? = some oi)
    (hs : Region.noSelect ops = true) (hf : Region.free md ops listed i = true) (hr : (Region.ready md ops listed).contains i = true) (hw : Region.waitsFor md ops L i = true)
    (hQ : ∀ c a w, Q (.panic c) (a.put oi.dst v) w → Q (.panic c) a w) (hy : YieldsIf P ops S oi v a) (hS : S w)
    (h : heldBut P md ops Q S L n (listed.setIfInBounds i true) (a.put oi.dst v) w) : heldBut P md ops Q S L (n + 1) listed a w :=
  heldBut_first hi (Region.noSelect_spec hs) hQ hw n listed a w (Region.free_spec hi hf) (by simpa using hr) hy hS h
theorem heldBut_one {i : Nat} {o : Oper} {n : Nat} {listed : Array Bool} {a : Act} {w : World} (hr : Region.ready md ops listed = [i]) (ho : ops[i]? = some o)
    (h : ∀ K' : Act → World → Prop, Shut (∀ a w, (i = L ∨ S w) → (i = L ∨ S w → heldBut P md ops Q S L n (listed.setIfInBounds i true) a w) → K' a w) → if Region.wanted o (yielded ops a.tmps) = true then Oper.wp P o a w K' Q else K' (a.put o.dst undef) w) :
    heldBut P md ops Q S L (n + 1) listed a w :=
  ⟨fun h0 => (by rw [hr] at h0; cases h0), fun j hj => by
    rw [hr] at hj
    obtain rfl : j = i := by simpa using hj
    exact wpOp_step ho (fun K' hK => h K' (fun a w hS hW => hK a w ⟨hS, hW hS⟩))⟩
theorem heldBut_done {listed : Array Bool} {a : Act} {w : World} (hr : Region.ready md ops listed = []) (h : Q .normal a w) : ∀ n, heldBut P md ops Q S L n listed a w
  | 0 => ⟨hr, h⟩
  | _ + 1 => ⟨fun _ => h, by rw [hr]; simp⟩
theorem wp_region_heldBut {id : Nat} {a : Act} {w : World} (hm : P.follows .mixedOrders = true) (hS : S w.drew)
    (h : S w.drew → heldBut P .any ops Q S L ops.size (Array.replicate ops.size false) a w.drew) : (Code.region id ops true).wp P Q a w :=
  wp_region_any hm (any_of_heldBut _ _ _ _ (h hS))
end
end Go.Proofs.YtkdebebpnkjmdaaDoor
namespace Go.Proofs.YtkdebebpnkjmdaaDoor
open Go.RowKit

theorem rseg_cells {wk : World} {R : Nat} {v0 v1 v2 v3 : Value} (h : wk.heap[R]? = some (.cells #[v0, v1, v2, v3] 30 (0, 0))) :
    (wk.cell? ⟨R, 0, none⟩ = some v0 ∧ wk.cell? ⟨R, 1, none⟩ = some v1 ∧ wk.cell? ⟨R, 2, none⟩ = some v2 ∧ wk.cell? ⟨R, 3, none⟩ = some v3) ∧ (wk.frozen? ⟨R, 0, none⟩ = false ∧ wk.frozen? ⟨R, 1, none⟩ = false ∧ wk.frozen? ⟨R, 2, none⟩ = false ∧ wk.frozen? ⟨R, 3, none⟩ = false) ∧ R < wk.heap.size :=
  ⟨⟨Lib.cell_of_heap h 0, Lib.cell_of_heap h 1, Lib.cell_of_heap h 2, Lib.cell_of_heap h 3⟩, ⟨Lib.frozen_of_heap h 0, Lib.frozen_of_heap h 1, Lib.frozen_of_heap h 2, Lib.frozen_of_heap h 3⟩, block_lt h⟩
/-- A frame's slice, in the memory of the call's own. -/
theorem frame_at {B : Nat} {w1 : World} {v : Value} {hs : List BH} {k : Nat} (h : HeadsOwn B w1 v hs) (hk : k < hs.length) (hw : ∀ x, x ∈ hs → WfB x) :
    ∃ b1 c1, v = .slice (some ⟨b1, 0, none⟩) hs.length c1 ∧ B ≤ b1 ∧ b1 < w1.heap.size ∧ hs.length ≤ c1 ∧ c1 ≤ maxLen ∧ (∀ j, j < hs.length → w1.cell? ⟨b1, j, none⟩ = some (hdr (hs.getD j dH)) ∧ BytesIn (fun b => B ≤ b ∧ b < w1.heap.size) w1 (hs.getD j dH).A (hs.getD j dH).l ∧ WfB (hs.getD j dH)) := by
  rcases h.row.2 with ⟨_, h0⟩ | ⟨g, cap, cur, e, hb', hg, hn', hcm, hsz, htk⟩
  · omega
  · refine ⟨g, cap, e, hb', (Array.getElem?_eq_some_iff.1 hg).1, hn', hcm, fun j hj => ?_⟩
    have hm : hs.getD j dH ∈ hs := by
      rw [List.getD_eq_getElem?_getD, List.getElem?_eq_getElem hj]; exact List.getElem_mem hj
    refine ⟨?_, fun i hi => ?_, hw _ hm⟩
    · rw [Lib.cell_of_heap hg]
      have hc : (hs.map hdr)[j]? = some (hdr (hs.getD j dH)) := by
        rw [List.getElem?_map, List.getElem?_eq_getElem hj, List.getD_eq_getElem?_getD, List.getElem?_eq_getElem hj]
        rfl
      rw [← htk, List.getElem?_take_of_lt (by omega)] at hc
      simpa using hc
    · obtain ⟨b, off, e, h1, h2, _, h4⟩ := h.lies _ hm i hi
      exact ⟨b, off, e, ⟨h1, h2⟩, h2, h4⟩
/-- What stands behind k frames, one of them the head. -/
structure RSt (B RS : Nat) (w1 wr : World) (fs : List (List UInt8)) (k : Nat) (g : Int) (cp : List UInt8) (A5 : Option Addr) (c5 : Nat) (gs : List GH) (gv : Value) : Prop where
  hd : headM (fs.getD 0 []) = some (g, cp)
  gp : GP (fs.drop 1) (k - 1) (gsOf gs)
  box : wr.heap[RS]? = some (.cells #[.int .i64 g, .int .i64 ((endsL fs k : Nat) : Int), .slice A5 cp.length c5, gv] 30 (0, 0))
  b : BytesIn (fun b => B ≤ b ∧ b < w1.heap.size) wr A5 cp
  n : A5 = none → c5 = 0
  go : GrpsOwn B wr gv gs
  gb : ∀ b, gv.ownBlock = some b → w1.heap.size ≤ b
theorem RSt.mem {B RS : Nat} {w1 wr : World} {fs : List (List UInt8)} {k : Nat} {g : Int} {cp : List UInt8} {A5 : Option Addr} {c5 : Nat} {gs : List GH} {gv : Value} {l : List UInt8} (h : RSt B RS w1 wr fs k g cp A5 c5 gs gv) (h1 : 1 ≤ k) (hk : k ≤ fs.length) (hs : k = fs.length ∨ groupM (fs.getD k []) = none) (hsc : Scanned l fs) (hl : l.length ≤ 4294960000) :
    SegMem B wr (segM l) (.agg #[.int .i64 g, .int .i64 ((endsL fs k : Nat) : Int), .slice A5 cp.length c5, gv]) := by
  rcases fs with _ | ⟨f0, t⟩
  · simp at hk; omega
  have hd := h.hd
  simp at hd
  have hg : grpsM t = gsOf gs := by
    have := h.gp
    simp at this
    refine this.all (by simp at hk; omega) ?_
    rcases hs with hs | hs
    · left; simp at hs; omega
    · right
      obtain ⟨j, rfl⟩ : ∃ j, k = j + 1 := ⟨k - 1, by omega⟩
      simpa using hs
  have hkk : (gsOf gs).length = k - 1 := h.gp.1
  obtain ⟨A6, c6, rfl, hgi, hgn, hgl⟩ := h.go.grps
  rw [segM_of hsc hl, segF_cons hd, hg]
  refine ⟨A5, c5, A6, c6, gs, ?_, rfl, h.b.mono fun b p _ => p.1, h.n, hgi, hgn, hgl⟩
  show _ = vSeg g _ _ _
  rw [hkk, show 1 + (k - 1) = k by omega]
theorem RSt.below {B RS : Nat} {w1 wr w2 : World} {fs : List (List UInt8)} {k : Nat} {g : Int} {cp : List UInt8} {A5 : Option Addr} {c5 : Nat} {gs : List GH} {gv : Value} (h : RSt B RS w1 wr fs k g cp A5 c5 gs gv) (hb : Below wr.heap.size wr w2) : RSt B RS w1 w2 fs k g cp A5 c5 gs gv :=
  ⟨h.hd, h.gp, (hb.block _ (block_lt h.box)).trans h.box, h.b.below hb, h.n, h.go.below hb, h.gb⟩
def RRead (w : World) (l : List UInt8) (e : Ending) (w' : World) : Prop := ∃ v, e = .returned v ∧ SegMem w.heap.size w' (segM l) v ∧ Below w.heap.size w w'
set_option maxHeartbeats 25600000 in
set_option maxRecDepth 100000 in
theorem rread_any (A : Option Addr) (c : Nat) (l : List UInt8) (w : World) (hB : BytesAt w.heap.size w A l) (hl : l.length ≤ 16777216) (hcap : l.length ≤ c) :
    Calls Tryd.prog 10 #[.slice A l.length c] w (RRead w l) := by
  obtain ⟨W0, hW0⟩ : ∃ W0, W0 = (w.alloc (.cells #[.int .i64 0, .int .i64 0, .slice none 0 0, .slice none 0 0] 30)).alloc (.cells #[.int .i64 0, .int .i64 0, .slice none 0 0, .slice none 0 0] 30) := ⟨_, rfl⟩
  have hal : Below w.heap.size w W0 := by rw [hW0]; exact ((Below.refl _ _).alloc (Nat.le_refl _) _).alloc (by simp) _
  have hz0 : W0.heap.size = w.heap.size + 2 := by rw [hW0]; simp
  have hx1 : W0.heap[w.heap.size + 1]? = some (.cells #[.int .i64 0, .int .i64 0, .slice none 0 0, .slice none 0 0] 30 (0, 0)) := by
    rw [hW0]
    have h := heap_alloc_new (w.alloc (.cells #[.int .i64 0, .int .i64 0, .slice none 0 0, .slice none 0 0] 30)) (.cells #[.int .i64 0, .int .i64 0, .slice none 0 0, .slice none 0 0] 30)
    simpa using h
  have hx0 : W0.heap[w.heap.size]? = some (.cells #[.int .i64 0, .int .i64 0, .slice none 0 0, .slice none 0 0] 30 (0, 0)) := by
    rw [hW0, Below.heap_alloc _ _ _ (by simp)]; exact heap_alloc_new w _
  have HSc := hide (refScanB_any A c l W0 (hB.on hal) hl hcap)
  unfold ScanResB at HSc
  have HWE := hide hW0
  have HAl := hide hal
  have HX0 := hide hx0
  have HX1 := hide hx1
  have HZ0 := hide hz0
  have HAL := hide (fun (w' : World) o => (Below.refl w'.heap.size w').alloc (Nat.le_refl _) o)
  unfold RRead
  clear hB hcap hW0 hal hx0 hx1 hz0
  go_enter Tryd.func10, Tryd.ntmps10
  go_wp2_with fail
  rw [← HWE.out]
  refine HSc.out.mono ?_
  rintro e w1 ⟨v1, hs, rfl, hsc, hho, hb1, hwb⟩
  rw [HZ0.out] at hho
  have HS := hide hsc
  have HB1 := hide hb1
  have HX0 := hide ((hb1.block _ (block_lt HX0.out)).trans HX0.out)
  have HX1 := hide ((hb1.block _ (block_lt HX1.out)).trans HX1.out)
  have hsz1 : w.heap.size + 2 ≤ w1.heap.size := by have := hb1.size; have := HZ0.out; omega
  have HAll := hide (show (allB (lsOf hs)).length ≤ 16777216 by
    obtain ⟨r, hr, _⟩ := hsc
    have := congrArg List.length hr
    rw [List.length_append] at this
    omega)
  have HFin := hide (fun (wr wr' : World) (S : SegV) (v : Value) (hm : SegMem (w.heap.size + 2) wr S v) (hb : Below (w.heap.size + 1) w1 wr) (he : ∀ b, b ≠ w.heap.size → wr'.heap[b]? = wr.heap[b]?) (hsz : wr.heap.size ≤ wr'.heap.size) (hbw : Below w.heap.size wr wr') => (show SegMem w.heap.size wr' S v ∧ Below w.heap.size w wr' from
    ⟨hm.keep hsz fun b h1 _ => ⟨by omega, he b (by omega)⟩, (HAl.out.trans ((HB1.out.mono (by have := HZ0.out; omega)).trans ((hb.mono (by omega)).trans hbw)))⟩))
  have HHo := hide hho
  have HWb := hide hwb
  obtain ⟨A1, c1, rfl, hnc, hcm⟩ := row_slice hho.row
  have hn : hs.length ≤ 16777216 := by
    have h1 := HAll.out
    have h2 : ∀ l : List (List UInt8), l.length ≤ (allB l).length := fun l => by
      induction l with
      | nil => simp
      | cons c t ih => rw [allB_cons, List.length_append, List.length_cons]; have := (frameB_bd c).1; omega
    have h3 := h2 (lsOf hs)
    rw [lsOf_len] at h3
    omega
  unfold maxLen at hcm
  clear hsc hho hb1 hwb HSc
  go_wp2_with fail
  go_loopw [6] (fun iv wr => ∃ k : Nat, k ≤ hs.length ∧ iv = .int .i64 (k : Int) ∧ w1.heap.size ≤ wr.heap.size ∧ (∀ b, b ≠ w.heap.size + 1 → b < w1.heap.size → wr.heap[b]? = w1.heap[b]?) ∧ Below (w.heap.size + 1) w1 wr ∧ ((k = 0 ∧ wr.heap[w.heap.size + 1]? = some (.cells #[.int .i64 0, .int .i64 0, .slice none 0 0, .slice none 0 0] 30 (0, 0))) ∨ (1 ≤ k ∧ ∃ g cp A5 c5 gs gv, RSt (w.heap.size + 2) (w.heap.size + 1) w1 wr (lsOf hs) k g cp A5 c5 gs gv))) (fun iv _ => hs.length - (intOf iv).toNat)
  case atStart => exact ⟨0, Nat.zero_le _, rfl, Nat.le_refl _, (fun _ _ _ => rfl), Below.refl _ _, .inl ⟨rfl, HX1.out⟩⟩
  case round =>
    obtain ⟨k, hk, rfl, hsw, hot, hbe, hst⟩ := hrel
    have HOt := hide hot
    have HBe := hide hbe
    have hx0 := (hot w.heap.size (by omega) (by omega)).trans HX0.out
    have HX0r := hide hx0
    clear hot hbe hx0
    by_cases hlt : k < hs.length
    · obtain ⟨b1, c1', e1, hb1B, hb1l, hnc', hcm', hat⟩ := frame_at HHo.out hlt HWb.out
      injection e1 with e1 e2 e3
      subst e1; subst e3
      obtain ⟨hdrc1, hby1, hwb1⟩ := hat k hlt
      have HFs : Hid (∃ t, lsOf hs = (lsOf hs).getD 0 [] :: t) := hide (by
        have h0 : 0 < (lsOf hs).length := by rw [lsOf_len]; omega
        cases hx : lsOf hs with
        | nil => rw [hx] at h0; simp at h0
        | cons x t => exact ⟨t, rfl⟩)
      clear hat
      have hdrc := (cell_same k (HOt.out b1 (by omega) hb1l)).trans hdrc1
      have HBy := hide (hby1.keep (Q := fun b => w.heap.size + 2 ≤ b ∧ b < w1.heap.size) hsw fun b p h => ⟨p, HOt.out b (by omega) h⟩)
      have HL7 := hide (show (lsOf hs).getD k [] = (hs.getD k dH).l by simp [lsOf, List.getD_eq_getElem?_getD, List.getElem?_map, List.getElem?_eq_getElem hlt])
      have hle7 : (hs.getD k dH).l.length ≤ 16777216 := by
        have h1 := mem_allB (fs := lsOf hs) (x := (hs.getD k dH).l) (by
          rw [← HL7.out, List.getD_eq_getElem?_getD, List.getElem?_eq_getElem (by rw [lsOf_len]; exact hlt)]
          exact List.getElem_mem _)
        have := HAll.out
        omega
      have HLt := hide hlt
      have hb1x : b1 < wr.heap.size := by omega
      unfold hdr at hdrc
      obtain ⟨hwb7, hwc7, -⟩ := hwb1
      clear hdrc1 hby1
      generalize (hs.getD k dH).A = A7 at *
      generalize (hs.getD k dH).c = c7 at *
      generalize (hs.getD k dH).l = l7 at *
      rcases hst with ⟨rfl, hbx⟩ | ⟨hk1, g, cp, A5, c5, gs, gv, hst⟩
      · have HHd := hide (rhead_any A7 c7 l7 wr wr HBy.out (Below.refl _ _) hwb7 hwc7 (by omega))
        unfold RHead at HHd
        have HBx := hide hbx
        have hhd0 : (lsOf hs).getD 0 [] = l7 := HL7.out
        have HH0 := hide hhd0
        clear hbx hhd0
        go_wp2_with fail
        refine HHd.out.mono ?_
        rintro e w2 ⟨hb2, hcase⟩
        have hbx2 := (hb2.block _ (block_lt HBx.out)).trans HBx.out
        have hx02 := (hb2.block _ (block_lt HX0r.out)).trans HX0r.out
        have HBe2 := hide (HBe.out.trans (hb2.mono (by omega)))
        have HB2 := hide hb2
        have HBx2 := hide hbx2
        obtain ⟨⟨s0, s1, s2, s3⟩, ⟨g0, g1, g2, g3⟩, hltS⟩ := rseg_cells hbx2
        obtain ⟨⟨r0, r1, r2, r3⟩, ⟨f0, f1, f2, f3⟩, hltR⟩ := rseg_cells hx02
        clear hb2 hbx2 hx02 HBx HHd
        rcases hcase with ⟨hno, rfl⟩ | ⟨g, cp, A5, c5, hyes, rfl, hby5, hn5, hc5⟩
        · have HQ := hide (show segM l = seg0 by
            rw [segM_of HS.out (by omega)]
            obtain ⟨t, ht⟩ := HFs.out
            rw [ht]
            exact segF_none (by rw [HH0.out]; exact hno))
          clear hno
          have HBe3 := hide ((HBe2.out.setCell (p := ⟨w.heap.size + 1, 0, none⟩) (Nat.le_refl _) (.int .i64 0)).setCell (p := ⟨w.heap.size + 1, 2, none⟩) (Nat.le_refl _) (.slice none 0 0))
          generalize hW3 : ((w2.setCell ⟨w.heap.size + 1, 0, none⟩ (.int .i64 0)).setCell ⟨w.heap.size + 1, 2, none⟩ (.slice none 0 0)) = w3 at HBe3
          have HW3 := hide hW3
          clear hW3
          go_wp2_with fail
          refine bodyPost_ret (v := vSeg0) (by simp [results, Tryd.results10, go_sem, r0, r1, r2, r3]) rfl ?_
          rw [HW3.out]
          exact ⟨_, rfl, HFin.out w3 _ _ _ (by rw [HQ.out]; exact segMem0 _ _) HBe3.out (fun b hb => (set4_but w3 w.heap.size _ _ _ _).1 b hb) (Nat.le_of_eq (set4_but w3 w.heap.size _ _ _ _).2.symm) (set4_below (Below.refl w.heap.size w3) _ _ _ _)⟩
        · have hg1 := (headM_bd hyes).1
          have hgb : (g == 0) = false := by rw [beq_eq_false_iff_ne]; omega
          have HYes := hide (show headM ((lsOf hs).getD 0 []) = some (g, cp) by rw [HH0.out]; exact hyes)
          have hb0 := Joins.block_setCell (i := 0) HBx2.out (.int .i64 g)
          have hb2 := Joins.block_setCell (i := 2) hb0 (.slice A5 cp.length c5)
          have HBX := hide (show ((w2.setCell ⟨w.heap.size + 1, 0, none⟩ (.int .i64 g)).setCell ⟨w.heap.size + 1, 2, none⟩ (.slice A5 cp.length c5)).heap[w.heap.size + 1]? = some (.cells #[.int .i64 g, .int .i64 ((0 : Nat) : Int), .slice A5 cp.length c5, .slice none 0 0] 30 (0, 0)) by rw [hb2]; rfl)
          have HBe3 := hide ((HBe2.out.setCell (p := ⟨w.heap.size + 1, 0, none⟩) (Nat.le_refl _) (.int .i64 g)).setCell (p := ⟨w.heap.size + 1, 2, none⟩) (Nat.le_refl _) (.slice A5 cp.length c5))
          have HOt3 := hide (show ∀ b, b ≠ w.heap.size + 1 → b < wr.heap.size → ((w2.setCell ⟨w.heap.size + 1, 0, none⟩ (.int .i64 g)).setCell ⟨w.heap.size + 1, 2, none⟩ (.slice A5 cp.length c5)).heap[b]? = wr.heap[b]? from fun b h1 h2 => (Below.heap_setCell _ _ _ _ h1).trans ((Below.heap_setCell _ _ _ _ h1).trans (HB2.out.block b h2)))
          have hs3 : wr.heap.size ≤ ((w2.setCell ⟨w.heap.size + 1, 0, none⟩ (.int .i64 g)).setCell ⟨w.heap.size + 1, 2, none⟩ (.slice A5 cp.length c5)).heap.size := Nat.le_trans HB2.out.size (by simp)
          have HBy5 := hide hby5
          have HN5 := hide hn5
          go_wp2_with fail
          generalize hW3 : ((w2.setCell ⟨w.heap.size + 1, 0, none⟩ (.int .i64 g)).setCell ⟨w.heap.size + 1, 2, none⟩ (.slice A5 cp.length c5)) = w3 at *
          clear hW3 hb0 hb2 s0 s1 s2 s3 g0 g1 g2 g3 r0 r1 r2 r3 f0 f1 f2 f3 hyes hby5 hn5 hltS hltR
          have hdrc := (cell_same 0 (HOt3.out b1 (by omega) hb1x)).trans hdrc
          have hb1x : b1 < w3.heap.size := by omega
          obtain ⟨⟨s0, s1, s2, s3⟩, -, hlR⟩ := rseg_cells HBX.out
          have HBy3 := hide (HBy.out.keep (Q := fun b => w.heap.size + 2 ≤ b ∧ b < w1.heap.size) hs3 fun b p h => ⟨p, HOt3.out b (by omega) h⟩)
          have HFr := hide (fun w' (hb : Below w3.heap.size w3 w') => refFrame_any A7 l7.length c7 l7 w' rfl (HBy3.out.bytes.on hb) (by omega))
          unfold OwnRes at HFr
          refine wp_region_heldBut (S := fun w' => Below w3.heap.size w3 w') (L := 10) (by kernel_rfl) ((Below.refl _ _).drew) (fun hS => ?_)
          refine heldBut_take (i := 0) (oi := ⟨some 52, _, _, _, _, _⟩) (v := ?_) rfl (by kernel_rfl) (by kernel_rfl) (by kernel_rfl) (by kernel_rfl) (fun _ _ _ h => h) (Or.inl ⟨by rfl, ?_⟩) hS ?_
          rotate_left 1
          · intro w' hw'
            have k0 := (hw'.cell (p := ⟨w.heap.size + 1, 1, none⟩) hlR).trans s1; have k1 := (hw'.cell (p := ⟨b1, 0, none⟩) hb1x).trans hdrc
            go_simp
            all_goals with_reducible rfl
          try simp only [Act.put, List.setIfInBounds_toArray, List.set_cons_zero, List.set_cons_succ]
          refine heldBut_take (i := 2) (oi := ⟨some 54, _, _, _, _, _⟩) (v := ?_) rfl (by kernel_rfl) (by kernel_rfl) (by kernel_rfl) (by kernel_rfl) (fun _ _ _ h => h) (Or.inl ⟨by rfl, ?_⟩) hS ?_
          rotate_left 1
          · intro w' hw'
            have k0 := (hw'.cell (p := ⟨w.heap.size + 1, 1, none⟩) hlR).trans s1; have k1 := (hw'.cell (p := ⟨b1, 0, none⟩) hb1x).trans hdrc
            go_simp
            all_goals with_reducible rfl
          try simp only [Act.put, List.setIfInBounds_toArray, List.set_cons_zero, List.set_cons_succ]
          refine heldBut_take (i := 3) (oi := ⟨some 55, _, _, _, _, _⟩) (v := ?_) rfl (by kernel_rfl) (by kernel_rfl) (by kernel_rfl) (by kernel_rfl) (fun _ _ _ h => h) (Or.inl ⟨by rfl, ?_⟩) hS ?_
          rotate_left 1
          · intro w' hw'
            have k0 := (hw'.cell (p := ⟨w.heap.size + 1, 1, none⟩) hlR).trans s1; have k1 := (hw'.cell (p := ⟨b1, 0, none⟩) hb1x).trans hdrc
            go_simp
            all_goals with_reducible rfl
          try simp only [Act.put, List.setIfInBounds_toArray, List.set_cons_zero, List.set_cons_succ]
          refine heldBut_take (i := 1) (oi := ⟨some 53, _, _, _, _, _⟩) (v := ?_) rfl (by kernel_rfl) (by kernel_rfl) (by kernel_rfl) (by kernel_rfl) (fun _ _ _ h => h) (Or.inl ⟨by rfl, ?_⟩) hS ?_
          rotate_left 1
          · intro w' hw'
            have k0 := (hw'.cell (p := ⟨w.heap.size + 1, 1, none⟩) hlR).trans s1; have k1 := (hw'.cell (p := ⟨b1, 0, none⟩) hb1x).trans hdrc
            go_simp
            all_goals with_reducible rfl
          try simp only [Act.put, List.setIfInBounds_toArray, List.set_cons_zero, List.set_cons_succ]
          refine heldBut_take (i := 4) (oi := ⟨some 56, _, _, _, _, _⟩) (v := ?_) rfl (by kernel_rfl) (by kernel_rfl) (by kernel_rfl) (by kernel_rfl) (fun _ _ _ h => h) (Or.inl ⟨by rfl, ?_⟩) hS ?_
          rotate_left 1
          · intro w' hw'
            have k0 := (hw'.cell (p := ⟨w.heap.size + 1, 1, none⟩) hlR).trans s1; have k1 := (hw'.cell (p := ⟨b1, 0, none⟩) hb1x).trans hdrc
            go_simp
            all_goals with_reducible rfl
          try simp only [Act.put, List.setIfInBounds_toArray, List.set_cons_zero, List.set_cons_succ]
          refine heldBut_take (i := 5) (oi := ⟨some 57, _, _, _, _, _⟩) (v := ?_) rfl (by kernel_rfl) (by kernel_rfl) (by kernel_rfl) (by kernel_rfl) (fun _ _ _ h => h) (Or.inl ⟨by rfl, ?_⟩) hS ?_
          rotate_left 1
          · intro w' hw'
            have k0 := (hw'.cell (p := ⟨w.heap.size + 1, 1, none⟩) hlR).trans s1; have k1 := (hw'.cell (p := ⟨b1, 0, none⟩) hb1x).trans hdrc
            go_simp
            all_goals with_reducible rfl
          try simp only [Act.put, List.setIfInBounds_toArray, List.set_cons_zero, List.set_cons_succ]
          refine heldBut_one (i := 6) (o := ⟨some 58, _, _, _, _, _⟩) (by kernel_rfl) rfl (fun K hK => ?_)
          go_simp
          go_at_call 39
          refine (HFr.out _ hS).mono ?_
          rintro e8 w8 ⟨v88, rfl, hr88, hb8⟩
          have HB8 := hide (hS.trans (hb8.mono hS.size))
          obtain ⟨A88, c88, rfl, -⟩ := row_slice hr88
          clear hr88 hb8
          refine hK.out _ _ (.inr HB8.out) (fun _ => ?_)
          clear hK K
          try simp only [Act.put, List.setIfInBounds_toArray, List.set_cons_zero, List.set_cons_succ]
          refine heldBut_one (i := 7) (o := ⟨some 59, _, _, _, _, _⟩) (by kernel_rfl) rfl (fun K hK => ?_)
          go_simp
          refine hK.out _ _ (.inr HB8.out) (fun _ => ?_)
          clear hK K
          try simp only [Act.put, List.setIfInBounds_toArray, List.set_cons_zero, List.set_cons_succ]
          refine heldBut_one (i := 8) (o := ⟨some 60, _, _, _, _, _⟩) (by kernel_rfl) rfl (fun K hK => ?_)
          go_simp
          refine hK.out _ _ (.inr HB8.out) (fun _ => ?_)
          clear hK K
          try simp only [Act.put, List.setIfInBounds_toArray, List.set_cons_zero, List.set_cons_succ]
          refine heldBut_one (i := 9) (o := ⟨some 61, _, _, _, _, _⟩) (by kernel_rfl) rfl (fun K hK => ?_)
          go_simp
          refine hK.out _ _ (.inr HB8.out) (fun _ => ?_)
          clear hK K
          try simp only [Act.put, List.setIfInBounds_toArray, List.set_cons_zero, List.set_cons_succ]
          have hbx8 := (HB8.out.block _ hlR).trans HBX.out
          obtain ⟨⟨y0, y1, y2, y3⟩, ⟨z0, z1, z2, z3⟩, hlR8⟩ := rseg_cells hbx8
          refine heldBut_one (i := 10) (o := ⟨none, _, _, _, _, _⟩) (by kernel_rfl) rfl (fun K hK => ?_)
          go_simp
          refine hK.out _ _ (.inl rfl) (fun _ => ?_)
          clear hK K y0 y1 y2 y3 z0 z1 z2 z3
          try simp only [Act.put, List.setIfInBounds_toArray, List.set_cons_zero, List.set_cons_succ]
          refine heldBut_done (by kernel_rfl) ?_ _
          have HBX9 := hide (show (w8.setCell ⟨w.heap.size + 1, 1, none⟩ (.int .i64 (((frameB l7).length : Nat) : Int))).heap[w.heap.size + 1]? = some (.cells #[.int .i64 g, .int .i64 (((frameB l7).length : Nat) : Int), .slice A5 cp.length c5, .slice none 0 0] 30 (0, 0)) by rw [Joins.block_setCell (i := 1) hbx8 _]; rfl)
          have HOt9 := hide (show ∀ b, b ≠ w.heap.size + 1 → b < w3.heap.size → (w8.setCell ⟨w.heap.size + 1, 1, none⟩ (.int .i64 (((frameB l7).length : Nat) : Int))).heap[b]? = w3.heap[b]? from fun b h1 h2 => (Below.heap_setCell _ _ _ _ h1).trans (HB8.out.block b h2))
          have HSz9 := hide (show w3.heap.size ≤ (w8.setCell ⟨w.heap.size + 1, 1, none⟩ (.int .i64 (((frameB l7).length : Nat) : Int))).heap.size from Nat.le_trans HB8.out.size (by simp))
          have HBe9 := hide (show Below (w.heap.size + 1) w3 (w8.setCell ⟨w.heap.size + 1, 1, none⟩ (.int .i64 (((frameB l7).length : Nat) : Int))) from (HB8.out.mono (Nat.le_of_lt hlR)).setCell (p := ⟨w.heap.size + 1, 1, none⟩) (Nat.le_refl _) _)
          obtain ⟨w9, hw9⟩ : ∃ w9, w9 = w8.setCell ⟨w.heap.size + 1, 1, none⟩ (.int .i64 (((frameB l7).length : Nat) : Int)) := ⟨_, rfl⟩
          rw [← hw9] at HBX9 HOt9 HSz9 HBe9
          have HWE9 := hide hw9
          clear hbx8 hS hw9
          have hlb := frameB_bd l7
          have HSt9 := hide (show RSt (w.heap.size + 2) (w.heap.size + 1) w1 w9 (lsOf hs) (0 + 1) g cp A5 c5 [] (.slice none 0 0) from
            ⟨HYes.out, ⟨rfl, fun j hj => by omega⟩, (by rw [endsL_succ (by rw [lsOf_len]; exact HLt.out), HH0.out, show endsL (lsOf hs) 0 = 0 by simp [endsL, allB], Nat.zero_add]; exact HBX9.out), (HBy5.out.keep (by have := HSz9.out; omega) fun b p h => ⟨p, (HOt9.out b (by omega) (by omega)).trans (HOt3.out b (by omega) h)⟩), HN5.out, GrpsOwn.nil _ _, fun b e => by simp [Value.ownBlock] at e⟩)
          have HBe9' := hide (HBe3.out.trans HBe9.out)
          have HOt9' := hide (show ∀ b, b ≠ w.heap.size + 1 → b < w1.heap.size → w9.heap[b]? = w1.heap[b]? from fun b h1 h2 => (HOt9.out b h1 (by omega)).trans ((HOt3.out b h1 (by omega)).trans (HOt.out b h1 h2)))
          have hsz9 := HSz9.out
          go_wp2_with fail
          go_roundw
          case rel => rw [← HWE9.out]; exact ⟨0 + 1, HLt.out, by go_num, by omega, HOt9'.out, HBe9'.out, .inr ⟨by omega, g, cp, A5, c5, [], _, HSt9.out⟩⟩
          case measure => have := HLt.out; simp [intOf]; omega
      · have HRg := hide (rgroup_any (w.heap.size + 2) (fun b h => h.1) A7 c7 l7 wr wr HBy.out (Below.refl _ _) (by omega) hwb7 hwc7 (by omega))
        unfold RGroup at HRg
        have hk0 : ¬ k = 0 := by omega
        have hkb : ((k : Int) == 0) = false := by rw [beq_eq_false_iff_ne]; omega
        have hkb2 : (k == 0) = false := by rw [beq_eq_false_iff_ne]; exact hk0
        have HGltR := hide (fun b e => (hst.go.row.lt b e).2)
        have HSt := hide hst
        clear hst
        go_wp2_with fail
        refine HRg.out.mono ?_
        rintro e w2 ⟨hb2, hcase⟩
        have HSt2 := hide (HSt.out.below hb2)
        have hx02 := (hb2.block _ (block_lt HX0r.out)).trans HX0r.out
        have HBe2 := hide (HBe.out.trans (hb2.mono (by omega)))
        have HB2 := hide hb2
        have hs2 := hb2.size
        obtain ⟨⟨s0, s1, s2, s3⟩, ⟨g0, g1, g2, g3⟩, hltS⟩ := rseg_cells HSt2.out.box
        obtain ⟨⟨r0, r1, r2, r3⟩, ⟨f0, f1, f2, f3⟩, hltR⟩ := rseg_cells hx02
        clear hb2 hx02 HSt HRg
        rcases hcase with ⟨hno, v, rfl⟩ | ⟨v, rs, hyes, rfl, hho2, hwf2, hln2, hob2, hby2⟩
        · have HMem := hide (HSt2.out.mem (l := l) hk1 (by rw [lsOf_len]; omega) (.inr (by rw [HL7.out]; exact hno)) HS.out (by omega))
          obtain ⟨A6, c6, rfl, -, -, -⟩ := HSt2.out.go.grps
          clear hno
          go_wp2_with fail
          refine bodyPost_ret (v := .agg #[.int .i64 g, .int .i64 ((endsL (lsOf hs) k : Nat) : Int), .slice A5 cp.length c5, .slice A6 gs.length c6]) (by simp [results, Tryd.results10, go_sem, r0, r1, r2, r3]) rfl ?_
          exact ⟨_, rfl, HFin.out w2 _ _ _ (HMem.out) (HBe2.out) (fun b hb => (set4_but w2 w.heap.size _ _ _ _).1 b hb) (Nat.le_of_eq (set4_but w2 w.heap.size _ _ _ _).2.symm) (set4_below (Below.refl w.heap.size w2) _ _ _ _)⟩
        · obtain ⟨A8, c8, rfl, hr8, hn8, hl8⟩ := row_recs (P := fun b => (w.heap.size + 2 ≤ b ∧ b < w1.heap.size) ∨ wr.heap.size ≤ b) hho2 (fun b e => .inr (hob2 b e)) (fun x hx => ((hby2 x hx).keep (Q := fun b => (w.heap.size + 2 ≤ b ∧ b < w1.heap.size) ∨ wr.heap.size ≤ b) HB2.out.size fun b p h => ⟨.inl p, HB2.out.block b h⟩)) hwf2
          have HYg := hide (show groupM ((lsOf hs).getD k []) = some (lsOf rs) by rw [HL7.out]; exact hyes)
          have HR8 := hide hr8
          have HN8 := hide hn8
          have HGb := hide HSt2.out.gb
          have HGlt := hide (fun b e => (HSt2.out.go.row.lt b e).2)
          have hgl : gs.length ≤ 16777216 := by have := HSt2.out.gp.1; rw [gsOf_len] at this; omega
          have HGw := hide (show RecsIn (fun b => w.heap.size + 2 ≤ b ∧ gv.ownBlock ≠ some b) w2 A8 rs from HR8.out.mono fun b p h => by
            rcases p with ⟨p1, p2⟩ | p
            · exact ⟨p1, fun e => by have := HGb.out b e; omega⟩
            · exact ⟨by omega, fun e => by have := HGltR.out b e; omega⟩)
          have HWg := hide (show WfG ⟨A8, c8, rs⟩ from ⟨by unfold maxLen; show rs.length ≤ _; omega, HN8.out⟩)
          have HO2 := hide (show ∀ b, b ≠ w.heap.size + 1 → b < wr.heap.size → w2.heap[b]? = wr.heap[b]? from fun b _ h => HB2.out.block b h)
          clear hyes hho2 hwf2 hob2 hby2 hr8 hn8 hl8 r0 r1 r2 r3 f0 f1 f2 f3
          go_wp2_with (at_builtin; go_must (refine append_grp rfl _ _ rfl (w.heap.size + 2) gv gs gs.length rfl rfl (HSt2.out.go.below (HAL.out w2 _)) ⟨A8, c8, rs⟩ w2.heap.size rfl (Lib.cell_of_heap (heap_alloc_new w2 _) 0) (HGw.out.below (HAL.out w2 _)) HWg.out (by omega) (by simp; omega) ?_))
          intro v6 w6 hgo6 hrow6 hgrow6 hat6
          have hs6 : w2.heap.size + 1 ≤ w6.heap.size := by have := hgrow6.size; simp at this; omega
          have hold : ∀ b, b < w2.heap.size → gv.ownBlock ≠ some b → w6.heap[b]? = w2.heap[b]? := fun b h1 h2 => by
            rw [hgrow6.block b (by simp; omega) (fun e => h2 e.symm), Below.heap_alloc _ _ _ h1]
          have hbx6 : w6.heap[w.heap.size + 1]? = some (.cells #[.int .i64 g, .int .i64 ((endsL (lsOf hs) k : Nat) : Int), .slice A5 cp.length c5, gv] 30 (0, 0)) := (hold _ hltS (fun e => by have := HGb.out _ e; omega)).trans HSt2.out.box
          obtain ⟨A6, c6, rfl, -⟩ := row_slice hrow6
          have HGb6 := hide (show ∀ b, (Value.slice A6 (gs.length + 1) c6).ownBlock = some b → w1.heap.size ≤ b from fun b e => by
            rcases hat6 with h6 | h6
            · exact HGb.out b (h6.symm.trans e)
            · rw [e] at h6; injection h6 with h6; omega)
          have hb7 := Joins.block_setCell (i := 3) hbx6 (.slice A6 (gs.length + 1) c6)
          have HBX := hide (show (w6.setCell ⟨w.heap.size + 1, 3, none⟩ (.slice A6 (gs.length + 1) c6)).heap[w.heap.size + 1]? = some (.cells #[.int .i64 g, .int .i64 ((endsL (lsOf hs) k : Nat) : Int), .slice A5 cp.length c5, .slice A6 (gs.length + 1) c6] 30 (0, 0)) by rw [hb7]; rfl)
          have HGo7 := hide (show GrpsOwn (w.heap.size + 2) (w6.setCell ⟨w.heap.size + 1, 3, none⟩ (.slice A6 (gs.length + 1) c6)) (.slice A6 (gs.length + 1) c6) (gs ++ [⟨A8, c8, rs⟩]) from hgo6.keep (by simp) fun b h1 _ => Below.heap_setCell _ _ _ _ (show b ≠ w.heap.size + 1 by omega))
          have HOt7 := hide (show ∀ b, b ≠ w.heap.size + 1 → b < w1.heap.size → (w6.setCell ⟨w.heap.size + 1, 3, none⟩ (.slice A6 (gs.length + 1) c6)).heap[b]? = w1.heap[b]? from fun b h1 h2 => (Below.heap_setCell _ _ _ _ h1).trans ((hold b (by omega) (fun e => by have := HGb.out _ e; omega)).trans ((HO2.out b h1 (by omega)).trans (HOt.out b h1 h2))))
          have HBe7 := hide (show Below (w.heap.size + 1) w1 (w6.setCell ⟨w.heap.size + 1, 3, none⟩ (.slice A6 (gs.length + 1) c6)) from ((HBe2.out.trans ((HAL.out w2 (.cells #[ghd ⟨A8, c8, rs⟩] 46)).mono (by omega))).trans ((Below.refl (w.heap.size + 1) _).grown hgrow6 (by simp; omega) fun j e => by have := HGb.out j e; omega)).setCell (p := ⟨w.heap.size + 1, 3, none⟩) (Nat.le_refl _) _)
          have hs7 : w1.heap.size ≤ (w6.setCell ⟨w.heap.size + 1, 3, none⟩ (.slice A6 (gs.length + 1) c6)).heap.size := by simp; omega
          obtain ⟨⟨q0, q1, q2, q3⟩, ⟨n0, n1, n2, n3⟩, hlt6⟩ := rseg_cells hbx6
          have HBy7 := hide (HSt2.out.b.keep (Q := fun b => w.heap.size + 2 ≤ b ∧ b < w1.heap.size) (w' := w6.setCell ⟨w.heap.size + 1, 3, none⟩ (.slice A6 (gs.length + 1) c6)) (by simp; omega) fun b p h => ⟨p, (HOt7.out b (by omega) p.2).trans (((HO2.out b (by omega) (by omega)).trans (HOt.out b (by omega) p.2)).symm)⟩)
          clear hb7 hgo6 hrow6 hgrow6 hat6
          go_wp2_with fail
          generalize hW7 : w6.setCell ⟨w.heap.size + 1, 3, none⟩ (.slice A6 (gs.length + 1) c6) = w7 at *
          clear hW7 s0 s1 s2 s3 g0 g1 g2 g3 q0 q1 q2 q3 n0 n1 n2 n3 hold hbx6 hltS hltR hlt6 hs6
          have hw17 : ∀ b, w.heap.size + 2 ≤ b → b < w1.heap.size → w7.heap[b]? = wr.heap[b]? := fun b h1 h2 => (HOt7.out b (by omega) h2).trans (HOt.out b (by omega) h2).symm
          have hdrc := (cell_same k (hw17 b1 hb1B hb1l)).trans hdrc
          have hb1x : b1 < w7.heap.size := by omega
          obtain ⟨⟨s0, s1, s2, s3⟩, -, hlR⟩ := rseg_cells HBX.out
          have HBy3 := hide (show BytesIn (fun b => w.heap.size + 2 ≤ b ∧ b < w1.heap.size) w7 A7 l7 from fun j hj => by
            obtain ⟨b, off, e, p, h, hc⟩ := HBy.out j hj
            exact ⟨b, off, e, p, by omega, (cell_same _ (hw17 b p.1 p.2)).trans hc⟩)
          have HFr := hide (fun w' (hb : Below w7.heap.size w7 w') => refFrame_any A7 l7.length c7 l7 w' rfl (HBy3.out.bytes.on hb) (by omega))
          unfold OwnRes at HFr
          clear hw17
          have hen : endsL (lsOf hs) k ≤ 16777216 := Nat.le_trans (endsL_le _ _) HAll.out
          have hlb := (frameB_bd l7).2
          have hwr : IntKind.i64.wrap (((endsL (lsOf hs) k : Nat) : Int) + ((frameB l7).length : Nat)) = ((endsL (lsOf hs) k : Nat) : Int) + ((frameB l7).length : Nat) := by
            unfold IntKind.wrap
            simp [IntKind.signed, IntKind.bits]
            omega
          refine wp_region_heldBut (S := fun w' => Below w7.heap.size w7 w') (L := 10) (by kernel_rfl) ((Below.refl _ _).drew) (fun hS => ?_)
          refine heldBut_take (i := 0) (oi := ⟨some 52, _, _, _, _, _⟩) (v := ?_) rfl (by kernel_rfl) (by kernel_rfl) (by kernel_rfl) (by kernel_rfl) (fun _ _ _ h => h) (Or.inl ⟨by rfl, ?_⟩) hS ?_
          rotate_left 1
          · intro w' hw'
            have k0 := (hw'.cell (p := ⟨w.heap.size + 1, 1, none⟩) hlR).trans s1; have k1 := (hw'.cell (p := ⟨b1, k, none⟩) hb1x).trans hdrc
            go_simp
            all_goals with_reducible rfl
          try simp only [Act.put, List.setIfInBounds_toArray, List.set_cons_zero, List.set_cons_succ]
          refine heldBut_take (i := 2) (oi := ⟨some 54, _, _, _, _, _⟩) (v := ?_) rfl (by kernel_rfl) (by kernel_rfl) (by kernel_rfl) (by kernel_rfl) (fun _ _ _ h => h) (Or.inl ⟨by rfl, ?_⟩) hS ?_
          rotate_left 1
          · intro w' hw'
            have k0 := (hw'.cell (p := ⟨w.heap.size + 1, 1, none⟩) hlR).trans s1; have k1 := (hw'.cell (p := ⟨b1, k, none⟩) hb1x).trans hdrc
            go_simp
            all_goals with_reducible rfl
          try simp only [Act.put, List.setIfInBounds_toArray, List.set_cons_zero, List.set_cons_succ]
          refine heldBut_take (i := 3) (oi := ⟨some 55, _, _, _, _, _⟩) (v := ?_) rfl (by kernel_rfl) (by kernel_rfl) (by kernel_rfl) (by kernel_rfl) (fun _ _ _ h => h) (Or.inl ⟨by rfl, ?_⟩) hS ?_
          rotate_left 1
          · intro w' hw'
            have k0 := (hw'.cell (p := ⟨w.heap.size + 1, 1, none⟩) hlR).trans s1; have k1 := (hw'.cell (p := ⟨b1, k, none⟩) hb1x).trans hdrc
            go_simp
            all_goals with_reducible rfl
          try simp only [Act.put, List.setIfInBounds_toArray, List.set_cons_zero, List.set_cons_succ]
          refine heldBut_take (i := 1) (oi := ⟨some 53, _, _, _, _, _⟩) (v := ?_) rfl (by kernel_rfl) (by kernel_rfl) (by kernel_rfl) (by kernel_rfl) (fun _ _ _ h => h) (Or.inl ⟨by rfl, ?_⟩) hS ?_
          rotate_left 1
          · intro w' hw'
            have k0 := (hw'.cell (p := ⟨w.heap.size + 1, 1, none⟩) hlR).trans s1; have k1 := (hw'.cell (p := ⟨b1, k, none⟩) hb1x).trans hdrc
            go_simp
            all_goals with_reducible rfl
          try simp only [Act.put, List.setIfInBounds_toArray, List.set_cons_zero, List.set_cons_succ]
          refine heldBut_take (i := 4) (oi := ⟨some 56, _, _, _, _, _⟩) (v := ?_) rfl (by kernel_rfl) (by kernel_rfl) (by kernel_rfl) (by kernel_rfl) (fun _ _ _ h => h) (Or.inl ⟨by rfl, ?_⟩) hS ?_
          rotate_left 1
          · intro w' hw'
            have k0 := (hw'.cell (p := ⟨w.heap.size + 1, 1, none⟩) hlR).trans s1; have k1 := (hw'.cell (p := ⟨b1, k, none⟩) hb1x).trans hdrc
            go_simp
            all_goals with_reducible rfl
          try simp only [Act.put, List.setIfInBounds_toArray, List.set_cons_zero, List.set_cons_succ]
          refine heldBut_take (i := 5) (oi := ⟨some 57, _, _, _, _, _⟩) (v := ?_) rfl (by kernel_rfl) (by kernel_rfl) (by kernel_rfl) (by kernel_rfl) (fun _ _ _ h => h) (Or.inl ⟨by rfl, ?_⟩) hS ?_
          rotate_left 1
          · intro w' hw'
            have k0 := (hw'.cell (p := ⟨w.heap.size + 1, 1, none⟩) hlR).trans s1; have k1 := (hw'.cell (p := ⟨b1, k, none⟩) hb1x).trans hdrc
            go_simp
            all_goals with_reducible rfl
          try simp only [Act.put, List.setIfInBounds_toArray, List.set_cons_zero, List.set_cons_succ]
          refine heldBut_one (i := 6) (o := ⟨some 58, _, _, _, _, _⟩) (by kernel_rfl) rfl (fun K hK => ?_)
          go_simp
          go_at_call 39
          refine (HFr.out _ hS).mono ?_
          rintro e8 w8 ⟨v88, rfl, hr88, hb8⟩
          have HB8 := hide (hS.trans (hb8.mono hS.size))
          obtain ⟨A88, c88, rfl, -⟩ := row_slice hr88
          clear hr88 hb8
          refine hK.out _ _ (.inr HB8.out) (fun _ => ?_)
          clear hK K
          try simp only [Act.put, List.setIfInBounds_toArray, List.set_cons_zero, List.set_cons_succ]
          refine heldBut_one (i := 7) (o := ⟨some 59, _, _, _, _, _⟩) (by kernel_rfl) rfl (fun K hK => ?_)
          go_simp
          refine hK.out _ _ (.inr HB8.out) (fun _ => ?_)
          clear hK K
          try simp only [Act.put, List.setIfInBounds_toArray, List.set_cons_zero, List.set_cons_succ]
          refine heldBut_one (i := 8) (o := ⟨some 60, _, _, _, _, _⟩) (by kernel_rfl) rfl (fun K hK => ?_)
          go_simp
          refine hK.out _ _ (.inr HB8.out) (fun _ => ?_)
          clear hK K
          try simp only [Act.put, List.setIfInBounds_toArray, List.set_cons_zero, List.set_cons_succ]
          refine heldBut_one (i := 9) (o := ⟨some 61, _, _, _, _, _⟩) (by kernel_rfl) rfl (fun K hK => ?_)
          go_simp
          refine hK.out _ _ (.inr HB8.out) (fun _ => ?_)
          clear hK K
          try simp only [Act.put, List.setIfInBounds_toArray, List.set_cons_zero, List.set_cons_succ]
          have hbx8 := (HB8.out.block _ hlR).trans HBX.out
          obtain ⟨⟨y0, y1, y2, y3⟩, ⟨z0, z1, z2, z3⟩, hlR8⟩ := rseg_cells hbx8
          refine heldBut_one (i := 10) (o := ⟨none, _, _, _, _, _⟩) (by kernel_rfl) rfl (fun K hK => ?_)
          go_simp
          refine hK.out _ _ (.inl rfl) (fun _ => ?_)
          clear hK K y0 y1 y2 y3 z0 z1 z2 z3
          try simp only [Act.put, List.setIfInBounds_toArray, List.set_cons_zero, List.set_cons_succ]
          refine heldBut_done (by kernel_rfl) ?_ _
          have HBX9 := hide (show (w8.setCell ⟨w.heap.size + 1, 1, none⟩ (.int .i64 (((endsL (lsOf hs) k : Nat) : Int) + ((frameB l7).length : Nat)))).heap[w.heap.size + 1]? = some (.cells #[.int .i64 g, .int .i64 (((endsL (lsOf hs) k : Nat) : Int) + ((frameB l7).length : Nat)), .slice A5 cp.length c5, .slice A6 (gs.length + 1) c6] 30 (0, 0)) by rw [Joins.block_setCell (i := 1) hbx8 _]; rfl)
          have HOt9 := hide (show ∀ b, b ≠ w.heap.size + 1 → b < w7.heap.size → (w8.setCell ⟨w.heap.size + 1, 1, none⟩ (.int .i64 (((endsL (lsOf hs) k : Nat) : Int) + ((frameB l7).length : Nat)))).heap[b]? = w7.heap[b]? from fun b h1 h2 => (Below.heap_setCell _ _ _ _ h1).trans (HB8.out.block b h2))
          have HSz9 := hide (show w7.heap.size ≤ (w8.setCell ⟨w.heap.size + 1, 1, none⟩ (.int .i64 (((endsL (lsOf hs) k : Nat) : Int) + ((frameB l7).length : Nat)))).heap.size from Nat.le_trans HB8.out.size (by simp))
          have HBe9 := hide (show Below (w.heap.size + 1) w7 (w8.setCell ⟨w.heap.size + 1, 1, none⟩ (.int .i64 (((endsL (lsOf hs) k : Nat) : Int) + ((frameB l7).length : Nat)))) from (HB8.out.mono (Nat.le_of_lt hlR)).setCell (p := ⟨w.heap.size + 1, 1, none⟩) (Nat.le_refl _) _)
          obtain ⟨w9, hw9⟩ : ∃ w9, w9 = w8.setCell ⟨w.heap.size + 1, 1, none⟩ (.int .i64 (((endsL (lsOf hs) k : Nat) : Int) + ((frameB l7).length : Nat))) := ⟨_, rfl⟩
          rw [← hw9] at HBX9 HOt9 HSz9 HBe9
          have HWE9 := hide hw9
          clear hbx8 hS hw9
          have HSt9 := hide (show RSt (w.heap.size + 2) (w.heap.size + 1) w1 w9 (lsOf hs) (k + 1) g cp A5 c5 (gs ++ [⟨A8, c8, rs⟩]) (.slice A6 (gs.length + 1) c6) from
            ⟨HSt2.out.hd, (by
              have h1 := HSt2.out.gp.snoc (rs := lsOf rs) (by rw [List.getD_eq_getElem?_getD, List.getElem?_drop, show 1 + (k - 1) = k by omega, ← List.getD_eq_getElem?_getD]; exact HYg.out)
              rw [gsOf_snoc, show k + 1 - 1 = k - 1 + 1 by omega]; exact h1),
              (by rw [endsL_succ (by rw [lsOf_len]; exact HLt.out), HL7.out, Int.natCast_add]; exact HBX9.out),
              (HBy7.out.keep HSz9.out fun b p h => ⟨p, HOt9.out b (by omega) h⟩), HSt2.out.n,
              HGo7.out.keep HSz9.out fun b h1 h2 => HOt9.out b (by omega) h2, HGb6.out⟩)
          have HBe9' := hide (HBe7.out.trans HBe9.out)
          have HOt9' := hide (show ∀ b, b ≠ w.heap.size + 1 → b < w1.heap.size → w9.heap[b]? = w1.heap[b]? from fun b h1 h2 => (HOt9.out b h1 (by omega)).trans (HOt7.out b h1 h2))
          have hsz9 := HSz9.out
          go_wp2_with fail
          go_roundw
          case rel => rw [← HWE9.out]; exact ⟨k + 1, HLt.out, by go_num, by omega, HOt9'.out, HBe9'.out, .inr ⟨by omega, g, cp, A5, c5, _, _, HSt9.out⟩⟩
          case measure => have := HLt.out; simp [intOf]; omega
    · obtain rfl : k = hs.length := by omega
      rcases hst with ⟨hk0, hbx0⟩ | ⟨hk1, g, cp, A5, c5, gs, gv, hst⟩
      · have HQ := hide (show segM l = seg0 by
          have h0 : hs = [] := List.length_eq_zero_iff.1 hk0
          rw [segM_of HS.out (by omega), h0]; rfl)
        obtain ⟨⟨s0, s1, s2, s3⟩, -, hltS⟩ := rseg_cells hbx0
        obtain ⟨⟨r0, r1, r2, r3⟩, ⟨f0, f1, f2, f3⟩, hltR⟩ := rseg_cells HX0r.out
        clear hk0 hbx0
        go_wp2_with fail
        refine bodyPost_ret (v := vSeg0) (by simp [results, Tryd.results10, go_sem, r0, r1, r2, r3]) rfl ?_
        exact ⟨_, rfl, HFin.out wr _ _ _ (by rw [HQ.out]; exact segMem0 _ _) (HBe.out) (fun b hb => (set4_but wr w.heap.size _ _ _ _).1 b hb) (Nat.le_of_eq (set4_but wr w.heap.size _ _ _ _).2.symm) (set4_below (Below.refl w.heap.size wr) _ _ _ _)⟩
      · have HMem := hide (hst.mem (l := l) hk1 (by rw [lsOf_len]; exact Nat.le_refl _) (.inl (by rw [lsOf_len])) HS.out (by omega))
        obtain ⟨⟨s0, s1, s2, s3⟩, -, hltS⟩ := rseg_cells hst.box
        obtain ⟨⟨r0, r1, r2, r3⟩, ⟨f0, f1, f2, f3⟩, hltR⟩ := rseg_cells HX0r.out
        obtain ⟨A6, c6, rfl, -, -, -⟩ := hst.go.grps
        clear hst
        go_wp2_with fail
        refine bodyPost_ret (v := .agg #[.int .i64 g, .int .i64 ((endsL (lsOf hs) hs.length : Nat) : Int), .slice A5 cp.length c5, .slice A6 gs.length c6]) (by simp [results, Tryd.results10, go_sem, r0, r1, r2, r3]) rfl ?_
        exact ⟨_, rfl, HFin.out wr _ _ _ (HMem.out) (HBe.out) (fun b hb => (set4_but wr w.heap.size _ _ _ _).1 b hb) (Nat.le_of_eq (set4_but wr w.heap.size _ _ _ _).2.symm) (set4_below (Below.refl w.heap.size wr) _ _ _ _)⟩
end Go.Proofs.YtkdebebpnkjmdaaDoor
