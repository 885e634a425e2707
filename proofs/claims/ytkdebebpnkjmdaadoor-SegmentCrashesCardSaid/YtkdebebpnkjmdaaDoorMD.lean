/-
  A log without crashes (no program).
  What is found in a file that was cut off (no program).
  A new disk is opened (no program).
  The laws' fixed example.
  A script of calls without crashes, one round; openings again and again.
  A log whose power may go at any command (no program).
  A log whose power may go: Compact, and what is found behind it (no program).
  Does what was found fit?
  For SegmentCrashes: append to a full slice of groups; what the law's state holds; each call, whole.
  A region that draws its order, with a condition on the world that holds up to its last operation, which waits for all others; append of a group as a step of such a region.
-/
import Derived.Test.YtkdebebpnkjmdaaDoorMG5
import Derived.Test.YtkdebebpnkjmdaaDoorKAwake
import Derived.Deep.DeepCutAuto
import Derived.Tactics2
import Derived.Deep.RegionHeld3
import Derived.ArgAppend
import Derived.StillTail
import Derived.Deep.RegionLawGrows
namespace Go.Proofs.YtkdebebpnkjmdaaDoor

/-- The disk's power stays. -/
structure Cm (p : PD) : Prop where
  ok : p.Ok
  down : p.down = false
  left : p.left < 0
theorem Cm.cmd {p : PD} (h : Cm p) : cmdE p = 0 ∧ cmdP p = { p with done := p.done + 1 } := by
  have h1 : ¬ p.left = 0 := by have := h.left; omega
  have h2 : ¬ 0 < p.left := by have := h.left; omega
  unfold cmdE cmdP
  rw [if_neg h1, if_neg h1, if_neg h2]
  exact ⟨rfl, rfl⟩
theorem Cm.check {p : PD} (h : Cm p) {f : Nat} (hf : f < 4) : checkE p f = 0 := by unfold checkE; rw [h.down, file_lt hf]; rfl
theorem Cm.app {p : PD} (h : Cm p) {f : Nat} (hf : f < 4) (ys : List UInt8) (hr : p.used + ys.length ≤ p.cap) :
    appE p f ys.length = 0 ∧ appP p f ys = { addP p f ys with done := p.done + 1 } ∧ Cm (appP p f ys) := by
  have hc := h.check hf
  have hn : ¬ p.cap < ((p.used + ys.length : Nat) : Int) := by omega
  have ha : Cm (addP p f ys) := ⟨add_ok h.ok hf (by have := h.ok.cap1; omega), h.down, h.left⟩
  have e : appP p f ys = { addP p f ys with done := p.done + 1 } := by
    unfold appP
    rw [if_pos hc, if_neg hn, Int.toNat_natCast, ha.cmd.2]; rfl
  refine ⟨?_, e, app_ok h.ok _ _, by rw [e]; exact h.down, by rw [e]; exact h.left⟩
  unfold appE
  rw [if_pos hc, if_neg hn, h.cmd.1]
theorem Cm.full {p : PD} (h : Cm p) {f : Nat} (hf : f < 4) (ys : List UInt8) (hr : ¬ (p.used + ys.length : Nat) ≤ p.cap) : appE p f ys.length = 41 ∧ appP p f ys = p := by
  have hc := h.check hf
  have hn : p.cap < ((p.used + ys.length : Nat) : Int) := by omega
  unfold appE appP
  rw [if_pos hc, if_pos hn, if_pos hc, if_pos hn]
  exact ⟨rfl, rfl⟩
theorem Cm.syn {p : PD} (h : Cm p) {f : Nat} (hf : f < 4) : synE p f = 0 ∧ synP p f = { p with s := upd p.s f (p.xs f).length, done := p.done + 1 } ∧ Cm (synP p f) := by
  have hc := h.check hf
  have e : synP p f = { p with s := upd p.s f (p.xs f).length, done := p.done + 1 } := by
    unfold synP secP cutP
    rw [if_pos hc, if_pos h.cmd.1, Int.toNat_natCast, h.cmd.2]
    show PD.mk (upd p.xs f ((p.xs f).take (p.xs f).length)) _ _ _ _ _ = _
    rw [List.take_length, upd_self]
  refine ⟨?_, e, syn_okG h.ok _, by rw [e]; exact h.down, by rw [e]; exact h.left⟩
  unfold synE
  rw [if_pos hc, h.cmd.1]
theorem Cm.ct {p : PD} (h : Cm p) {f n : Nat} (hf : f < 4) (hn : n ≤ (p.xs f).length) : ctE p f n = 0 ∧ ctP p f n = { p with xs := upd p.xs f ((p.xs f).take n), s := upd p.s f n, done := p.done + 1 } ∧ Cm (ctP p f n) := by
  have hc := h.check hf
  have hr : 0 ≤ (n : Int) ∧ (n : Int) ≤ (p.xs (f : Int).toNat).length := by rw [Int.toNat_natCast]; omega
  have e : ctP p f n = { p with xs := upd p.xs f ((p.xs f).take n), s := upd p.s f n, done := p.done + 1 } := by
    unfold ctP secP cutP
    rw [if_pos hc, if_pos hr, if_pos h.cmd.1, Int.toNat_natCast, Int.toNat_natCast, h.cmd.2]
  refine ⟨?_, e, ct_ok h.ok _ _, by rw [e]; exact h.down, by rw [e]; exact h.left⟩
  unfold ctE
  rw [if_pos hc, if_pos hr, h.cmd.1]
theorem Cm.empty {p : PD} (h : Cm p) (L : LV) {f : Nat} (hf : f < 4) : (emptyR p L f).1 = 0 ∧ Cm (emptyR p L f).2.1 ∧ (emptyR p L f).2.1.xs = upd p.xs f [] ∧ (emptyR p L f).2.1.s = upd p.s f 0 ∧ (emptyR p L f).2.1.cap = p.cap ∧ (emptyR p L f).2.2 = L := by
  unfold emptyR
  by_cases h0 : (p.xs f).length = 0
  · rw [if_pos h0]
    have e0 : p.xs f = [] := List.length_eq_zero_iff.1 h0
    have e1 : p.s f = 0 := by have h1 := h.ok.s0 f hf; have h2 := h.ok.s1 f hf; rw [h0] at h2; omega
    exact ⟨rfl, h, by show p.xs = _; rw [← e0, upd_self], by show p.s = _; rw [← e1, upd_self], rfl, rfl⟩
  · rw [if_neg h0]
    obtain ⟨a, b, c⟩ := h.ct (n := 0) hf (Nat.zero_le _)
    have b' : ctP p f 0 = { p with xs := upd p.xs f ((p.xs f).take 0), s := upd p.s f ((0 : Nat) : Int), done := p.done + 1 } := b
    exact ⟨a, c, by show (ctP p f 0).xs = _; rw [b']; rfl, by show (ctP p f 0).s = _; rw [b']; rfl, by show (ctP p f 0).cap = _; rw [b'], rfl⟩
def catG (gs : List (List (List UInt8))) : List UInt8 := gs.flatMap groupB
theorem catG_snoc (gs : List (List (List UInt8))) (rs : List (List UInt8)) : catG (gs ++ [rs]) = catG gs ++ groupB rs := by unfold catG; rw [List.flatMap_append]; simp
/-- A log that lives on a disk. -/
structure LS (p : PD) (L : LV) (cp : List UInt8) (gs : List (List (List UInt8))) : Prop where
  cm : Cm p
  dn : L.down = false
  f : L.f < 2
  x : p.xs L.f = headB L.gen cp ++ catG gs
  xo : p.xs (1 - L.f) = []
  x2 : p.xs 2 = []
  x3 : p.xs 3 = []
  g1 : 1 ≤ L.gen
  sz : L.size = (p.xs L.f).length
  s0 : ((headB L.gen cp).length : Int) ≤ p.s L.f
  lo : L.loose = false → p.s L.f = (p.xs L.f).length
theorem LS.used {p : PD} {L : LV} {cp : List UInt8} {gs : List (List (List UInt8))} (h : LS p L cp gs) : p.used = (p.xs L.f).length := by
  unfold PD.used
  have hf := h.f
  have h2 := h.x2
  have h3 := h.x3
  have ho := h.xo
  rcases (by omega : L.f = 0 ∨ L.f = 1) with e | e
  · rw [e] at ho ⊢
    rw [show p.xs 1 = [] from ho, h2, h3]; simp
  · rw [e] at ho ⊢
    rw [show p.xs 0 = [] from ho, h2, h3]; simp
theorem powR_up {p : PD} {L : LV} {r : Int × PD × LV} (h : L.down = false) : powR p L r = (r.1, r.2.1, ⟨r.2.2.f, r.2.2.gen, r.2.2.size, r.2.2.loose, r.1 == 40⟩) := by
  unfold powR; rw [h]; rfl
theorem LS.append {p : PD} {L : LV} {cp : List UInt8} {gs : List (List (List UInt8))} (h : LS p L cp gs) (rs : List (List UInt8)) (hrs : rs.length ≠ 0) (hr : ((p.xs L.f).length : Int) + (groupB rs).length ≤ p.cap) :
    (appendR p L rs).1 = 0 ∧ LS (appendR p L rs).2.1 (appendR p L rs).2.2 cp (gs ++ [rs]) ∧ (appendR p L rs).2.1.cap = p.cap ∧ (appendR p L rs).2.2.gen = L.gen ∧ (appendR p L rs).2.2.f = L.f ∧ (appendR p L rs).2.2.loose = true ∧ (appendR p L rs).2.1.s = p.s := by
  have hu := h.used
  obtain ⟨a1, a2, a3⟩ := h.cm.app (f := L.f) (by have := h.f; omega) (groupB rs) (by rw [hu]; omega)
  have hf := h.f
  have e : appendR p L rs = (0, { addP p L.f (groupB rs) with done := p.done + 1 }, ⟨L.f, L.gen, L.size + (groupB rs).length, true, false⟩) := by
    unfold appendR
    rw [powR_up h.dn]
    unfold appR
    rw [if_neg hrs, if_pos a1, a2]
    rfl
  rw [a2] at a3
  rw [e]
  have hx : (addP p L.f (groupB rs)).xs L.f = p.xs L.f ++ groupB rs := upd_same _ _ _
  have hso : (addP p L.f (groupB rs)).s = p.s := upd_self _ _
  refine ⟨rfl, ⟨a3, rfl, hf, ?_, ?_, ?_, ?_, h.g1, ?_, ?_, fun e => by cases e⟩, rfl, rfl, rfl, rfl, hso⟩
  · show (addP p L.f (groupB rs)).xs L.f = _
    rw [hx, h.x, catG_snoc, List.append_assoc]
  · show (addP p L.f (groupB rs)).xs (1 - L.f) = _
    exact (upd_other _ _ (by omega)).trans h.xo
  · exact (upd_other _ _ (by omega)).trans h.x2
  · exact (upd_other _ _ (by omega)).trans h.x3
  · show L.size + _ = ((addP p L.f (groupB rs)).xs L.f).length
    rw [hx, h.sz, List.length_append]
  · show _ ≤ (addP p L.f (groupB rs)).s L.f
    rw [hso]; exact h.s0
theorem LS.append0 {p : PD} {L : LV} {cp : List UInt8} {gs : List (List (List UInt8))} (h : LS p L cp gs) : (appendR p L []).1 = 0 ∧ (appendR p L []).2.1 = p ∧ (appendR p L []).2.2 = L := by
  unfold appendR
  rw [powR_up h.dn]
  refine ⟨rfl, rfl, ?_⟩
  show (⟨L.f, L.gen, L.size, L.loose, false⟩ : LV) = L
  have := h.dn
  cases L
  simp_all
theorem LS.sync {p : PD} {L : LV} {cp : List UInt8} {gs : List (List (List UInt8))} (h : LS p L cp gs) :
    (syncR p L).1 = 0 ∧ LS (syncR p L).2.1 (syncR p L).2.2 cp gs ∧ (syncR p L).2.1.cap = p.cap ∧ (syncR p L).2.2.gen = L.gen ∧ (syncR p L).2.2.f = L.f ∧ (syncR p L).2.2.loose = false ∧ (syncR p L).2.1.xs = p.xs := by
  unfold syncR
  rw [powR_up h.dn]
  unfold synR
  cases hlo : L.loose with
  | false =>
    rw [if_neg (by decide)]
    have hd := h.dn
    refine ⟨rfl, ?_, rfl, rfl, rfl, by show L.loose = false; exact hlo, rfl⟩
    have e : (⟨L.f, L.gen, L.size, L.loose, (0 : Int) == 40⟩ : LV) = L := by cases L; simp_all
    show LS p ⟨L.f, L.gen, L.size, L.loose, (0 : Int) == 40⟩ cp gs
    rw [e]; exact h
  | true =>
    rw [if_pos rfl]
    have hf := h.f
    obtain ⟨a1, a2, a3⟩ := h.cm.syn (f := L.f) (by omega)
    show (synE p L.f) = 0 ∧ LS (synP p L.f) ⟨L.f, L.gen, L.size, synE p L.f != 0, synE p L.f == 40⟩ cp gs ∧ (synP p L.f).cap = p.cap ∧ L.gen = L.gen ∧ L.f = L.f ∧ (synE p L.f != 0) = false ∧ (synP p L.f).xs = p.xs
    rw [a1]
    rw [a2] at a3 ⊢
    have hs : upd p.s L.f ((p.xs L.f).length : Int) L.f = (p.xs L.f).length := upd_same _ _ _
    refine ⟨rfl, ⟨a3, rfl, hf, h.x, h.xo, h.x2, h.x3, h.g1, h.sz, ?_, fun _ => hs⟩, rfl, rfl, rfl, rfl, rfl⟩
    show ((headB L.gen cp).length : Int) ≤ upd p.s L.f ((p.xs L.f).length : Int) L.f
    rw [hs, h.x, List.length_append]; omega
theorem LS.commit {p : PD} {L : LV} {cp : List UInt8} {gs : List (List (List UInt8))} (h : LS p L cp gs) (rs : List (List UInt8)) (hrs : rs.length ≠ 0) (hr : ((p.xs L.f).length : Int) + (groupB rs).length ≤ p.cap) :
    (commitR p L rs).1 = 0 ∧ LS (commitR p L rs).2.1 (commitR p L rs).2.2 cp (gs ++ [rs]) ∧ (commitR p L rs).2.1.cap = p.cap ∧ (commitR p L rs).2.2.gen = L.gen ∧ (commitR p L rs).2.2.f = L.f ∧ (commitR p L rs).2.2.loose = false := by
  obtain ⟨a1, a2, a3, a4, a5, -, -⟩ := h.append rs hrs hr
  obtain ⟨b1, b2, b3, b4, b5, b6, -⟩ := a2.sync
  unfold commitR
  rw [if_pos a1]
  exact ⟨b1, b2, b3.trans a3, b4.trans a4, b5.trans a5, b6⟩
theorem LS.commit0 {p : PD} {L : LV} {cp : List UInt8} {gs : List (List (List UInt8))} (h : LS p L cp gs) :
    (commitR p L []).1 = 0 ∧ LS (commitR p L []).2.1 (commitR p L []).2.2 cp gs ∧ (commitR p L []).2.1.cap = p.cap ∧ (commitR p L []).2.2.gen = L.gen ∧ (commitR p L []).2.2.f = L.f ∧ (commitR p L []).2.2.loose = false ∧ (commitR p L []).2.1.xs = p.xs := by
  obtain ⟨a1, a2, a3⟩ := h.append0
  unfold commitR
  rw [if_pos a1, a2, a3]
  exact h.sync
/-- A head is written into an empty file. -/
theorem rew_calm {p : PD} (h : Cm p) (L : LV) {f : Nat} (hf : f < 4) (gen : Int) (cp : List UInt8) (hx : p.xs f = []) (hr : (p.used : Int) + (headB gen cp).length ≤ p.cap) :
    (rewR p L f gen cp).1 = 0 ∧ Cm (rewR p L f gen cp).2.1 ∧ (rewR p L f gen cp).2.1.xs = upd p.xs f (headB gen cp) ∧ (rewR p L f gen cp).2.1.s = upd p.s f ((headB gen cp).length : Nat) ∧ (rewR p L f gen cp).2.1.cap = p.cap ∧ (rewR p L f gen cp).2.2 = ⟨f, gen, (headB gen cp).length, false, L.down⟩ := by
  have e0 : emptyR p L f = (0, p, L) := by unfold emptyR; rw [hx]; rfl
  obtain ⟨a1, a2, a3⟩ := h.app hf (headB gen cp) (by omega)
  obtain ⟨b1, b2, b3⟩ := a3.syn (f := f) hf
  have e : rewR p L f gen cp = (0, synP (appP p f (headB gen cp)) f, ⟨f, gen, (headB gen cp).length, false, L.down⟩) := by
    unfold rewR
    rw [e0, if_pos rfl]
    unfold rewA
    rw [if_pos a1]
    unfold rewS
    rw [if_pos b1]
  rw [e]
  have hx2 : (appP p f (headB gen cp)).xs = upd p.xs f (headB gen cp) := by rw [a2]; show upd p.xs f (p.xs f ++ _) = _; rw [hx, List.nil_append]
  have hs2 : (appP p f (headB gen cp)).s = p.s := by rw [a2]; exact upd_self _ _
  refine ⟨rfl, b3, ?_, ?_, ?_, rfl⟩
  · show (synP (appP p f (headB gen cp)) f).xs = _
    rw [b2]; exact hx2
  · show (synP (appP p f (headB gen cp)) f).s = _
    rw [b2]
    show upd (appP p f (headB gen cp)).s f _ = _
    rw [hs2, hx2, upd_same]
  · show (synP (appP p f (headB gen cp)) f).cap = _
    rw [b2]
    show (appP p f (headB gen cp)).cap = _
    rw [a2]; rfl
theorem LS.compact {p : PD} {L : LV} {cp : List UInt8} {gs : List (List (List UInt8))} (h : LS p L cp gs) (cp' : List UInt8) (hr : ((p.xs L.f).length : Int) + (headB (L.gen + 1) cp').length ≤ p.cap) :
    (compactR p L cp').1 = 0 ∧ LS (compactR p L cp').2.1 (compactR p L cp').2.2 cp' [] ∧ (compactR p L cp').2.1.cap = p.cap ∧ (compactR p L cp').2.2.gen = L.gen + 1 ∧ (compactR p L cp').2.2.f = 1 - L.f ∧ (compactR p L cp').2.2.loose = false := by
  have hf := h.f
  obtain ⟨a1, a2, a3, a4, a5, a6⟩ := rew_calm h.cm L (f := 1 - L.f) (by omega) (L.gen + 1) cp' h.xo (by rw [h.used]; omega)
  unfold compactR
  rw [powR_up h.dn]
  unfold compR
  rw [if_pos a1]
  obtain ⟨b1, b2, b3⟩ := a2.ct (f := L.f) (n := 0) (by omega) (Nat.zero_le _)
  have b1' : ctE (rewR p L (1 - L.f) (L.gen + 1) cp').2.1 L.f 0 = 0 := b1
  have b2' : ctP (rewR p L (1 - L.f) (L.gen + 1) cp').2.1 L.f 0 = _ := b2
  rw [a6]
  simp only
  rw [b1']
  have b3' : Cm (ctP (rewR p L (1 - L.f) (L.gen + 1) cp').2.1 L.f 0) := b3
  have hx : (ctP (rewR p L (1 - L.f) (L.gen + 1) cp').2.1 L.f 0).xs = upd (upd p.xs (1 - L.f) (headB (L.gen + 1) cp')) L.f [] := by rw [b2', a3]; rfl
  have hs : (ctP (rewR p L (1 - L.f) (L.gen + 1) cp').2.1 L.f 0).s = upd (upd p.s (1 - L.f) ((headB (L.gen + 1) cp').length : Nat)) L.f 0 := by rw [b2', a4]; rfl
  have hc : (ctP (rewR p L (1 - L.f) (L.gen + 1) cp').2.1 L.f 0).cap = p.cap := by rw [b2']; exact a5
  have hx1 : (ctP (rewR p L (1 - L.f) (L.gen + 1) cp').2.1 L.f 0).xs (1 - L.f) = headB (L.gen + 1) cp' := by rw [hx, upd_other _ _ (by omega), upd_same]
  have hs1 : (ctP (rewR p L (1 - L.f) (L.gen + 1) cp').2.1 L.f 0).s (1 - L.f) = ((headB (L.gen + 1) cp').length : Nat) := by rw [hs, upd_other _ _ (by omega), upd_same]
  refine ⟨rfl, ⟨b3', rfl, by show 1 - L.f < 2; omega, ?_, ?_, ?_, ?_, ?_, ?_, ?_, fun _ => ?_⟩, hc, by first | trivial | exact ⟨rfl, rfl, rfl⟩⟩
  · show (ctP _ _ _).xs (1 - L.f) = _
    rw [hx1]; simp [catG]
  · show (ctP _ _ _).xs (1 - (1 - L.f)) = _
    rw [show 1 - (1 - L.f) = L.f by omega, hx, upd_same]
  · show (ctP _ _ _).xs 2 = _
    rw [hx, upd_other _ _ (by omega), upd_other _ _ (by omega)]; exact h.x2
  · show (ctP _ _ _).xs 3 = _
    rw [hx, upd_other _ _ (by omega), upd_other _ _ (by omega)]; exact h.x3
  · have := h.g1; show 1 ≤ L.gen + 1; omega
  · show (headB (L.gen + 1) cp').length = ((ctP _ _ _).xs (1 - L.f)).length
    rw [hx1]
  · show _ ≤ (ctP _ _ _).s (1 - L.f)
    rw [hs1]; exact Int.le_refl _
  · show (ctP _ _ _).s (1 - L.f) = ((ctP _ _ _).xs (1 - L.f)).length
    rw [hs1, hx1]
end Go.Proofs.YtkdebebpnkjmdaaDoor
namespace Go.Proofs.YtkdebebpnkjmdaaDoor

/-- Records and checkpoints are short. -/
def ShortG (gs : List (List (List UInt8))) : Prop := ∀ rs ∈ gs, rs.length ≤ 2000 ∧ ∀ r ∈ rs, r.length ≤ 2000
theorem fileB_all (gen : Int) (cp : List UInt8) (gs : List (List (List UInt8))) : headB gen cp ++ catG gs = allB (headC gen cp :: gs.map groupC) := by
  rw [allB_cons]
  unfold catG allB
  rw [List.flatMap_map]
  rfl
theorem grps_enc {gs : List (List (List UInt8))} (h : ShortG gs) : grpsM (gs.map groupC) = gs := by
  induction gs with
  | nil => rfl
  | cons rs t ih =>
    have h1 := h rs (by simp)
    rw [List.map_cons, grpsM, groupM_enc rs (by omega) fun r hr => by have := h1.2 r hr; omega]
    simp only
    rw [ih fun x hx => h x (by simp [hx])]
theorem segF_enc {gen : Int} {cp : List UInt8} {gs : List (List (List UInt8))} (hg : Int64 gen) (h1 : 1 ≤ gen) (hc : cp.length ≤ 2000) (h : ShortG gs) : segF (headC gen cp :: gs.map groupC) = ⟨gen, (headB gen cp ++ catG gs).length, cp, gs⟩ := by
  rw [segF_cons (headM_enc hg h1 cp (by omega)), grps_enc h, fileB_all]
  congr 1
  unfold endsL
  rw [List.take_of_length_le (by simp; omega)]
theorem cut_at (ls : List (List UInt8)) (m : Nat) : ∀ d n, n + d = ls.length → endsL ls n ≤ m → ∃ k, n ≤ k ∧ k ≤ ls.length ∧ endsL ls k ≤ m ∧ (k < ls.length → m < endsL ls (k + 1))
  | 0, n, hd, hn => ⟨n, Nat.le_refl _, by omega, hn, fun h => by omega⟩
  | d + 1, n, hd, hn => by
    by_cases h : m < endsL ls (n + 1)
    · exact ⟨n, Nat.le_refl _, by omega, hn, fun _ => h⟩
    · obtain ⟨k, h1, h2, h3, h4⟩ := cut_at ls m d (n + 1) (by omega) (by omega)
      exact ⟨k, by omega, h2, h3, h4⟩
theorem headC_len (gen : Int) (cp : List UInt8) : (headC gen cp).length ≤ 30 + cp.length := by
  have e : (headC gen cp).length = (intB 1).length + (intB gen).length + (textB cp).length := by simp [headC]; omega
  have := intB_len 1
  have := intB_len gen
  have := textB_bd cp
  omega
theorem groupC_len {rs : List (List UInt8)} (h : rs.length ≤ 2000 ∧ ∀ r ∈ rs, r.length ≤ 2000) : (groupC rs).length ≤ 5000000 := by
  have e : (groupC rs).length = (intB 2).length + (intB rs.length).length + (encR rs).length := by simp [groupC]; omega
  have := intB_len 2
  have := intB_len rs.length
  have h3 := (encR_bd rs 2000 h.2).2
  have h4 : (9 + 2000) * rs.length ≤ 2009 * 2000 := Nat.mul_le_mul (by omega) h.1
  omega
theorem frames_short {gen : Int} {cp : List UInt8} {gs : List (List (List UInt8))} (hc : cp.length ≤ 2000) (h : ShortG gs) : ∀ x ∈ headC gen cp :: gs.map groupC, x.length ≤ 1073741824 := fun x hx => by
  rcases List.mem_cons.1 hx with e | e
  · rw [e]; have := headC_len gen cp; omega
  · obtain ⟨rs, hr, e⟩ := List.mem_map.1 e
    rw [← e]; have := groupC_len (h rs hr); omega
/-- A file cut off behind its head has the first of its groups. -/
theorem seg_cut {gen : Int} {cp : List UInt8} {gs : List (List (List UInt8))} (hg : Int64 gen) (h1 : 1 ≤ gen) (hc : cp.length ≤ 2000) (h : ShortG gs) (m : Nat) (hm : (headB gen cp).length ≤ m) (hl : (headB gen cp ++ catG gs).length ≤ 4294960000) :
    ∃ n, n ≤ gs.length ∧ Scanned ((headB gen cp ++ catG gs).take m) (headC gen cp :: (gs.take n).map groupC) ∧ segM ((headB gen cp ++ catG gs).take m) = ⟨gen, (headB gen cp ++ catG (gs.take n)).length, cp, gs.take n⟩ ∧ (headB gen cp ++ catG (gs.take n)).length ≤ m ∧ (∀ u, u ≤ gs.length → (headB gen cp ++ catG (gs.take u)).length ≤ m → u ≤ n) := by
  have hls := frames_short (gen := gen) hc h
  have hlen : (headC gen cp :: gs.map groupC).length = gs.length + 1 := by simp
  have hends : ∀ k, k ≤ gs.length → endsL (headC gen cp :: gs.map groupC) (k + 1) = (headB gen cp ++ catG (gs.take k)).length := fun k hk => by
    unfold endsL
    rw [fileB_all, List.take_succ_cons, List.map_take]
  obtain ⟨k, k1, k2, k3, k4⟩ := cut_at (headC gen cp :: gs.map groupC) m gs.length 1 (by rw [hlen]; omega) (by rw [endsL_cons]; exact hm)
  obtain ⟨n, rfl⟩ : ∃ n, k = n + 1 := ⟨k - 1, by omega⟩
  have hn : n ≤ gs.length := by omega
  have hsc := scanned_cut (ls := headC gen cp :: gs.map groupC) (n := n + 1) (cut := m) k2 k3 k4 (fun j hj => by
    rw [List.getD_eq_getElem?_getD, List.getElem?_eq_getElem hj]
    exact hls _ (List.getElem_mem hj))
  rw [List.take_succ_cons, ← List.map_take, ← fileB_all] at hsc
  have hsh : ShortG (gs.take n) := fun rs hr => h rs (List.mem_of_mem_take hr)
  refine ⟨n, hn, hsc, ?_, ?_, fun u hu hum => ?_⟩
  · rw [segM_of hsc (by rw [List.length_take]; omega), segF_enc hg h1 hc hsh]
  · rw [← hends n hn]; exact k3
  · rcases Nat.lt_or_ge n u with hlt | hge
    · exfalso
      have h5 := k4 (by rw [hlen]; omega)
      have h6 : endsL (headC gen cp :: gs.map groupC) (n + 1 + 1) ≤ endsL (headC gen cp :: gs.map groupC) (u + 1) := by
        unfold endsL
        have e : (headC gen cp :: gs.map groupC).take (n + 1 + 1) = ((headC gen cp :: gs.map groupC).take (u + 1)).take (n + 1 + 1) := by rw [List.take_take]; congr 1; omega
        rw [e, allB_split ((headC gen cp :: gs.map groupC).take (u + 1)) (n + 1 + 1), List.length_append]
        omega
      rw [hends u hu] at h6
      omega
    · exact hge
/-- A torn head is none; nothing is none. -/
theorem seg_torn {gen : Int} {cp : List UInt8} (hc : cp.length ≤ 2000) (m : Nat) (hm : m < (headB gen cp).length) : Scanned ((headB gen cp).take m) [] ∧ segM ((headB gen cp).take m) = seg0 := by
  have hs : Scanned ((headB gen cp).take m) [] := by
    refine ⟨(headB gen cp).take m, by simp [allB], ?_⟩
    have h := frm_cut (headC gen cp) [] m (by have := headC_len gen cp; omega) hm
    rw [List.append_nil] at h
    exact h
  have hb := (headB_bd gen cp).2
  exact ⟨hs, by rw [segM_of hs (by rw [List.length_take]; omega)]; rfl⟩
theorem seg_nil : Scanned [] [] ∧ segM [] = seg0 := by
  have hs : Scanned [] [] := ⟨[], rfl, frm_nil⟩
  exact ⟨hs, by rw [segM_of hs (by simp)]; rfl⟩
theorem seg_full {gen : Int} {cp : List UInt8} {gs : List (List (List UInt8))} (hg : Int64 gen) (h1 : 1 ≤ gen) (hc : cp.length ≤ 2000) (h : ShortG gs) (hl : (headB gen cp ++ catG gs).length ≤ 4294960000) : segM (headB gen cp ++ catG gs) = ⟨gen, (headB gen cp ++ catG gs).length, cp, gs⟩ := by
  obtain ⟨n, h2, h3, h4, h5, h6⟩ := seg_cut hg h1 hc h (headB gen cp ++ catG gs).length (by rw [List.length_append]; omega) hl
  have e : n = gs.length := by have := h6 gs.length (Nat.le_refl _) (by rw [List.take_length]; exact Nat.le_refl _); omega
  rw [List.take_length] at h4
  rw [h4, e, List.take_length]
/-- One segment; the other file has none. -/
structure One (p : PD) (f : Nat) (gen : Int) (cp : List UInt8) (gs : List (List (List UInt8))) : Prop where
  hf : f < 2
  g1 : 1 ≤ gen
  g2 : Int64 gen
  hc : cp.length ≤ 2000
  hs : ShortG gs
  hl : (headB gen cp ++ catG gs).length ≤ 1073741824
  seg : segM (p.xs f) = ⟨gen, (headB gen cp ++ catG gs).length, cp, gs⟩
  low : (segM (p.xs (1 - f))).gen < gen ∨ ((segM (p.xs (1 - f))).gen = gen ∧ f = 0)
  x : (p.xs f).take (headB gen cp ++ catG gs).length = headB gen cp ++ catG gs
  x2 : p.xs 2 = []
  x3 : p.xs 3 = []
  safe : ∀ i, i < 4 → p.s i = (p.xs i).length
theorem One.open {p : PD} {f : Nat} {gen : Int} {cp : List UInt8} {gs : List (List (List UInt8))} (h : One p f gen cp gs) : openF p = f ∧ openS p = ⟨gen, (headB gen cp ++ catG gs).length, cp, gs⟩ := by
  have e : openF p = f := by
    have h1 := h.seg
    have h2 := h.low
    have h3 := h.hf
    unfold openF
    rcases (by omega : f = 0 ∨ f = 1) with rfl | rfl
    · rw [h1]
      rw [if_neg]
      intro hlt
      have hlt' : gen < (segM (p.xs (1 - 0))).gen := hlt
      omega
    · rw [h1]
      rw [if_pos]
      have h2' : (segM (p.xs 0)).gen < gen := by
        rcases h2 with h2 | h2
        · exact h2
        · omega
      exact h2'
  refine ⟨e, ?_⟩
  unfold openS
  rw [e, h.seg]
/-- A command that cuts: done, or the power has gone. -/
theorem ct_gen {p : PD} (hd : p.down = false) {i n : Nat} (hi : i < 4) (hn : n ≤ (p.xs i).length) :
    (ctE p i n = 40 ∧ (ctP p i n).xs = p.xs ∧ (ctP p i n).s = p.s) ∨ (ctE p i n = 0 ∧ (ctP p i n).xs = upd p.xs i ((p.xs i).take n) ∧ (ctP p i n).s = upd p.s i n ∧ (ctP p i n).down = false) := by
  have hc : checkE p i = 0 := by unfold checkE; rw [hd, file_lt hi]; rfl
  have hr : 0 ≤ (n : Int) ∧ (n : Int) ≤ (p.xs (i : Int).toNat).length := by rw [Int.toNat_natCast]; omega
  obtain ⟨h1, h2, -⟩ := cmd_xs p
  by_cases h0 : p.left = 0
  · left
    have e : cmdE p = 40 := if_pos h0
    unfold ctE ctP secP
    rw [if_pos hc, if_pos hc, if_pos hr, if_pos hr, e, if_neg (by decide)]
    exact ⟨rfl, h1, h2⟩
  · right
    have e : cmdE p = 0 := if_neg h0
    have hdn : (cmdP p).down = false := by unfold cmdP; rw [if_neg h0]; exact hd
    unfold ctE ctP secP
    rw [if_pos hc, if_pos hc, if_pos hr, if_pos hr, e, if_pos rfl, Int.toNat_natCast, Int.toNat_natCast]
    refine ⟨rfl, ?_, ?_, hdn⟩
    · show upd (cmdP p).xs i (((cmdP p).xs i).take n) = _
      rw [h1]
    · show upd (cmdP p).s i n = _
      rw [h2]
theorem One.same {p q : PD} {f : Nat} {gen : Int} {cp : List UInt8} {gs : List (List (List UInt8))} (h : One p f gen cp gs) (hx : q.xs = p.xs) (hs : q.s = p.s) : One q f gen cp gs := by
  obtain ⟨a1, a2, a3, a4, a5, a6, a7, a8, a9, b1, b2, b3⟩ := h
  exact ⟨a1, a2, a3, a4, a5, a6, by rw [hx]; exact a7, by rw [hx]; exact a8, by rw [hx]; exact a9, by rw [hx]; exact b1, by rw [hx]; exact b2, fun i hi => by rw [hx, hs]; exact b3 i hi⟩
theorem One.cut {p q : PD} {f : Nat} {gen : Int} {cp : List UInt8} {gs : List (List (List UInt8))} (h : One p f gen cp gs) (hx : q.xs = upd p.xs f ((p.xs f).take (headB gen cp ++ catG gs).length)) (hs : q.s = upd p.s f ((headB gen cp ++ catG gs).length : Nat)) : One q f gen cp gs := by
  obtain ⟨a1, a2, a3, a4, a5, a6, a7, a8, a9, b1, b2, b3⟩ := h
  have hxf : q.xs f = headB gen cp ++ catG gs := by rw [hx, upd_same, a9]
  refine ⟨a1, a2, a3, a4, a5, a6, ?_, ?_, ?_, ?_, ?_, fun i hi => ?_⟩
  · rw [hxf]; exact seg_full a3 a2 a4 a5 (by omega)
  · rw [hx, upd_other _ _ (by omega)]; exact a8
  · rw [hxf, List.take_length]
  · rw [hx, upd_other _ _ (by omega)]; exact b1
  · rw [hx, upd_other _ _ (by omega)]; exact b2
  · by_cases e : i = f
    · rw [e, hxf, hs, upd_same]
    · rw [hx, hs, upd_other _ _ e, upd_other _ _ e]; exact b3 i hi
theorem One.empty {p q : PD} {f : Nat} {gen : Int} {cp : List UInt8} {gs : List (List (List UInt8))} (h : One p f gen cp gs) (hx : q.xs = upd p.xs (1 - f) []) (hs : q.s = upd p.s (1 - f) 0) : One q f gen cp gs := by
  obtain ⟨a1, a2, a3, a4, a5, a6, a7, a8, a9, b1, b2, b3⟩ := h
  refine ⟨a1, a2, a3, a4, a5, a6, ?_, ?_, ?_, ?_, ?_, fun i hi => ?_⟩
  · rw [hx, upd_other _ _ (by omega)]; exact a7
  · left
    rw [hx, upd_same, seg_nil.2]
    show (0 : Int) < gen
    omega
  · rw [hx, upd_other _ _ (by omega)]; exact a9
  · rw [hx, upd_other _ _ (by omega)]; exact b1
  · rw [hx, upd_other _ _ (by omega)]; exact b2
  · by_cases e : i = 1 - f
    · rw [e, hx, hs, upd_same, upd_same]; rfl
    · rw [hx, hs, upd_other _ _ e, upd_other _ _ e]; exact b3 i hi
/-- Open, whenever the power goes. -/
theorem One.opens {p : PD} {f : Nat} {gen : Int} {cp : List UInt8} {gs : List (List (List UInt8))} (h : One p f gen cp gs) (hd : p.down = false) : ((openR p).1 = 0 ∨ (openR p).1 = 40) ∧ One (openR p).2.1 f gen cp gs ∧ (p.left < 0 → (openR p).1 = 0) := by
  have hgen : ¬ gen = 0 := by have := h.g1; omega
  obtain ⟨e1, e2⟩ := h.open
  have eL : openL p = ⟨f, gen, (headB gen cp ++ catG gs).length, false, false⟩ := by unfold openL; rw [e1, e2]
  have hle : (headB gen cp ++ catG gs).length ≤ (p.xs f).length := by
    have := congrArg List.length h.x
    rw [List.length_take] at this; omega
  have hf := h.hf
  -- trim
  have ht : ((trimR p (openL p)).1 = 0 ∧ One (trimR p (openL p)).2.1 f gen cp gs ∧ (trimR p (openL p)).2.1.down = false ∧ (p.left < 0 → (trimR p (openL p)).2.1.left < 0)) ∨ ((trimR p (openL p)).1 = 40 ∧ One (trimR p (openL p)).2.1 f gen cp gs ∧ ¬ p.left < 0) := by
    rw [eL]
    unfold trimR
    by_cases hz : (headB gen cp ++ catG gs).length < (p.xs f).length
    · rw [if_pos hz]
      have hl : ¬ p.left = 0 → (p.left < 0 → (ctP p f ((headB gen cp ++ catG gs).length : Nat)).left < 0) := fun h0 h1 => by
        have hc : checkE p f = 0 := by unfold checkE; rw [hd, file_lt (by omega : f < 4)]; rfl
        have hr : 0 ≤ (((headB gen cp ++ catG gs).length : Nat) : Int) ∧ (((headB gen cp ++ catG gs).length : Nat) : Int) ≤ (p.xs (f : Int).toNat).length := by rw [Int.toNat_natCast]; omega
        have e : cmdE p = 0 := if_neg h0
        unfold ctP secP
        rw [if_pos hc, if_pos hr, if_pos e]
        show (cmdP p).left < 0
        unfold cmdP
        rw [if_neg h0, if_neg (by omega)]
        exact h1
      rcases ct_gen (i := f) (n := (headB gen cp ++ catG gs).length) hd (by omega) hle with ⟨a1, a2, a3⟩ | ⟨a1, a2, a3, a4⟩
      · right
        refine ⟨a1, h.same a2 a3, fun hlt => ?_⟩
        have hc : checkE p f = 0 := by unfold checkE; rw [hd, file_lt (by omega : f < 4)]; rfl
        have hr : 0 ≤ (((headB gen cp ++ catG gs).length : Nat) : Int) ∧ (((headB gen cp ++ catG gs).length : Nat) : Int) ≤ (p.xs (f : Int).toNat).length := by rw [Int.toNat_natCast]; omega
        unfold ctE at a1
        rw [if_pos hc, if_pos hr] at a1
        unfold cmdE at a1
        rw [if_neg (by omega)] at a1
        exact absurd a1 (by decide)
      · left
        exact ⟨a1, h.cut a2 a3, a4, fun h1 => hl (by omega) h1⟩
    · rw [if_neg hz, if_neg (by show ¬ p.s f < ((p.xs f).length : Int); rw [h.safe f (by omega)]; omega)]
      exact .inl ⟨rfl, h, hd, fun h1 => h1⟩
  have eR : openR p = if (trimR p (openL p)).1 = 0 then emptyR (trimR p (openL p)).2.1 (openL p) (1 - f) else trimR p (openL p) := by
    unfold openR prepR
    rw [if_neg (by rw [eL]; exact hgen)]
    rw [show (openL p).f = f by rw [eL]]
  rcases ht with ⟨t1, t2, t3, t4⟩ | ⟨t1, t2, t3⟩
  · rw [eR, if_pos t1]
    generalize (trimR p (openL p)).2.1 = q at *
    unfold emptyR
    by_cases h0 : (q.xs (1 - f)).length = 0
    · rw [if_pos h0]; exact ⟨.inl rfl, t2, fun _ => rfl⟩
    · rw [if_neg h0]
      rcases ct_gen (p := q) (i := 1 - f) (n := 0) t3 (by omega) (Nat.zero_le _) with ⟨a1, a2, a3⟩ | ⟨a1, a2, a3, a4⟩
      · have a1' : ctE q (1 - f : Nat) 0 = 40 := a1
        refine ⟨.inr a1', t2.same a2 a3, fun hlt => ?_⟩
        have hc : checkE q (1 - f : Nat) = 0 := by unfold checkE; rw [t3, file_lt (by omega : 1 - f < 4)]; rfl
        have hr : 0 ≤ (0 : Int) ∧ (0 : Int) ≤ (q.xs ((1 - f : Nat) : Int).toNat).length := by omega
        have h9 := t4 hlt
        unfold ctE at a1'
        rw [if_pos hc, if_pos hr] at a1'
        unfold cmdE at a1'
        rw [if_neg (by omega)] at a1'
        exact absurd a1' (by decide)
      · have a2' : (ctP q (1 - f : Nat) 0).xs = upd q.xs (1 - f) [] := a2
        have a3' : (ctP q (1 - f : Nat) 0).s = upd q.s (1 - f) 0 := a3
        exact ⟨.inl a1, t2.empty a2' a3', fun _ => a1⟩
  · rw [eR, if_neg (by rw [t1]; decide)]
    exact ⟨.inr t1, t2, fun hlt => absurd hlt t3⟩
theorem crK_at {p : PD} (ks : List Int) : ∀ k, k ≤ 4 → (∀ i, i < k → (crK p ks k).xs i = (p.xs i).take (crN p ks i) ∧ (crK p ks k).s i = (crN p ks i : Nat)) ∧ ∀ i, k ≤ i → (crK p ks k).xs i = p.xs i ∧ (crK p ks k).s i = p.s i
  | 0, _ => ⟨fun i hi => by omega, fun i _ => ⟨rfl, rfl⟩⟩
  | k + 1, hk => by
    obtain ⟨h1, h2⟩ := crK_at (p := p) ks k (by omega)
    have e : crN (crK p ks k) ks k = crN p ks k := by unfold crN crI; rw [(h2 k (Nat.le_refl _)).1, (h2 k (Nat.le_refl _)).2]
    have e1 : crK p ks (k + 1) = cutP (crK p ks k) k (crN p ks k) := by rw [crK, e]
    refine ⟨fun i hi => ?_, fun i hi => ?_⟩
    · by_cases ei : i = k
      · subst ei
        rw [e1]
        exact ⟨(upd_same _ _ _).trans (by rw [(h2 i (Nat.le_refl _)).1]), upd_same _ _ _⟩
      · rw [e1]
        exact ⟨(upd_other _ _ ei).trans (h1 i (by omega)).1, (upd_other _ _ ei).trans (h1 i (by omega)).2⟩
    · rw [e1]
      exact ⟨(upd_other _ _ (by omega)).trans (h2 i (by omega)).1, (upd_other _ _ (by omega)).trans (h2 i (by omega)).2⟩
theorem crash_at {p : PD} (ks : List Int) {i : Nat} (hi : i < 4) : (crashP p ks).xs i = (p.xs i).take (crN p ks i) ∧ (crashP p ks).s i = (crN p ks i : Nat) := (crK_at (p := p) ks 4 (Nat.le_refl _)).1 i hi
theorem crash_done (p : PD) (ks : List Int) : (crashP p ks).done = p.done ∧ (crashP p ks).cap = p.cap ∧ (crashP p ks).down = false ∧ (crashP p ks).left = -1 := ⟨rfl, rfl, rfl, rfl⟩
theorem crN_ge {p : PD} (h : p.Ok) (ks : List Int) {i : Nat} (hi : i < 4) : p.s i ≤ (crN p ks i : Nat) := by
  have h0 := h.s0 i hi
  have h1 := h.s1 i hi
  rw [(crI_ok h ks hi).1]
  unfold crI
  split <;> omega
/-- A crash of one segment that is safe changes nothing. -/
theorem One.crash {p : PD} {f : Nat} {gen : Int} {cp : List UInt8} {gs : List (List (List UInt8))} (h : One p f gen cp gs) (ho : p.Ok) (ks : List Int) : One (crashP p ks) f gen cp gs := by
  have hk : ∀ i, i < 4 → (crashP p ks).xs i = p.xs i ∧ (crashP p ks).s i = p.s i := fun i hi => by
    obtain ⟨h1, h2⟩ := crash_at (p := p) ks hi
    have h3 := crN_ge ho ks hi
    have h4 := (crI_ok ho ks hi).2
    have h5 := h.safe i hi
    have e : crN p ks i = (p.xs i).length := by omega
    rw [h1, h2, e, List.take_length, h5]
    exact ⟨rfl, rfl⟩
  obtain ⟨a1, a2, a3, a4, a5, a6, a7, a8, a9, b1, b2, b3⟩ := h
  exact ⟨a1, a2, a3, a4, a5, a6, by rw [(hk f (by omega)).1]; exact a7, by rw [(hk (1 - f) (by omega)).1]; exact a8, by rw [(hk f (by omega)).1]; exact a9, by rw [(hk 2 (by omega)).1]; exact b1, by rw [(hk 3 (by omega)).1]; exact b2, fun i hi => by rw [(hk i hi).1, (hk i hi).2]; exact b3 i hi⟩
/-- A crash of a log that lives: a beginning of its groups, with all that were safe. -/
theorem LS.crash {p : PD} {L : LV} {cp : List UInt8} {gs : List (List (List UInt8))} (h : LS p L cp gs) (ks : List Int) (hg : Int64 L.gen) (hc : cp.length ≤ 2000) (hs : ShortG gs) (hl : (p.xs L.f).length ≤ 1073741824) :
    ∃ n, n ≤ gs.length ∧ One (crashP p ks) L.f L.gen cp (gs.take n) ∧ ∀ u, u ≤ gs.length → ((headB L.gen cp ++ catG (gs.take u)).length : Int) ≤ p.s L.f → u ≤ n := by
  have hf := h.f
  obtain ⟨hxf, hsf⟩ := crash_at (p := p) ks (i := L.f) (by omega)
  obtain ⟨hxo, hso⟩ := crash_at (p := p) ks (i := 1 - L.f) (by omega)
  have hge := crN_ge h.cm.ok ks (i := L.f) (by omega)
  have hle := (crI_ok h.cm.ok ks (i := L.f) (by omega)).2
  have hs0 := h.s0
  have hxl := h.x
  rw [hxl] at hl
  obtain ⟨n, n1, n2, n3, n4, n5⟩ := seg_cut hg h.g1 hc hs (crN p ks L.f) (by omega) (by omega)
  have hsh : ShortG (gs.take n) := fun rs hr => hs rs (List.mem_of_mem_take hr)
  have hpre : (headB L.gen cp ++ catG gs).take (headB L.gen cp ++ catG (gs.take n)).length = headB L.gen cp ++ catG (gs.take n) := by
    have e : headB L.gen cp ++ catG gs = (headB L.gen cp ++ catG (gs.take n)) ++ catG (gs.drop n) := by
      have e0 : catG gs = catG (gs.take n) ++ catG (gs.drop n) := by unfold catG; rw [← List.flatMap_append, List.take_append_drop]
      rw [List.append_assoc, ← e0]
    rw [e, List.take_left]
  have hln : (headB L.gen cp ++ catG (gs.take n)).length ≤ 1073741824 := by
    have := congrArg List.length hpre
    rw [List.length_take] at this; omega
  refine ⟨n, n1, ⟨hf, h.g1, hg, hc, hsh, hln, ?_, ?_, ?_, ?_, ?_, fun i hi => ?_⟩, fun u hu hum => n5 u hu (by omega)⟩
  · rw [hxf, hxl]; exact n3
  · left
    rw [hxo, h.xo, List.take_nil, seg_nil.2]
    have := h.g1
    show (0 : Int) < L.gen
    omega
  · rw [hxf, hxl, List.take_take, Nat.min_eq_left n4]; exact hpre
  · rw [(crash_at (p := p) ks (i := 2) (by omega)).1, h.x2, List.take_nil]
  · rw [(crash_at (p := p) ks (i := 3) (by omega)).1, h.x3, List.take_nil]
  · obtain ⟨q1, q2⟩ := crash_at (p := p) ks hi
    rw [q1, q2, List.length_take, Nat.min_eq_left (crI_ok h.cm.ok ks hi).2]
end Go.Proofs.YtkdebebpnkjmdaaDoor
namespace Go.Proofs.YtkdebebpnkjmdaaDoor

theorem newP_cm {cap : Int} (h : capBK cap = true) : Cm (newP cap) := ⟨new_ok h, rfl, by show (-1 : Int) < 0; decide⟩
theorem open_new {cap : Int} (h : capBK cap = true) (hc : ((headB 1 []).length : Int) ≤ cap) : (openR (newP cap)).1 = 0 ∧ LS (openR (newP cap)).2.1 (openR (newP cap)).2.2 [] [] ∧ (openR (newP cap)).2.1.cap = cap ∧ (openR (newP cap)).2.2.gen = 1 ∧ (openR (newP cap)).2.2.f = 0 ∧ (openR (newP cap)).2.2.loose = false ∧ openS (newP cap) = seg0 ∧ (openR (newP cap)).2.1.xs 0 = headB 1 [] := by
  have e0 : segM ((newP cap).xs 0) = seg0 := seg_nil.2
  have e1 : segM ((newP cap).xs 1) = seg0 := seg_nil.2
  have eF : openF (newP cap) = 0 := by unfold openF; rw [e0, e1]; rfl
  have eS : openS (newP cap) = seg0 := by unfold openS; rw [eF]; exact e0
  have eL : openL (newP cap) = ⟨0, 0, 0, false, false⟩ := by unfold openL; rw [eF, eS]; rfl
  have eE : emptyR (newP cap) ⟨0, 0, 0, false, false⟩ 1 = (0, newP cap, ⟨0, 0, 0, false, false⟩) := rfl
  have eR : openR (newP cap) = rewR (newP cap) ⟨0, 0, 0, false, false⟩ 0 1 [] := by
    unfold openR
    rw [eL]
    unfold prepR
    rw [if_pos rfl]
    unfold beginR
    rw [eE, if_pos rfl]
  have hu : (newP cap).used = 0 := rfl
  obtain ⟨a1, a2, a3, a4, a5, a6⟩ := rew_calm (newP_cm h) ⟨0, 0, 0, false, false⟩ (f := 0) (by omega) 1 [] rfl (by rw [hu]; show (0 : Int) + _ ≤ cap; omega)
  rw [eR]
  have hx0 : (rewR (newP cap) ⟨0, 0, 0, false, false⟩ 0 1 []).2.1.xs 0 = headB 1 [] := by rw [a3, upd_same]
  have hs0 : (rewR (newP cap) ⟨0, 0, 0, false, false⟩ 0 1 []).2.1.s 0 = ((headB 1 []).length : Nat) := by rw [a4, upd_same]
  refine ⟨a1, ?_, a5, by rw [a6], by rw [a6], by rw [a6], eS, hx0⟩
  rw [a6]
  refine ⟨a2, rfl, by show 0 < 2; omega, ?_, ?_, ?_, ?_, by show (1 : Int) ≤ 1; omega, ?_, ?_, fun _ => ?_⟩
  · show (rewR (newP cap) ⟨0, 0, 0, false, false⟩ 0 1 []).2.1.xs 0 = _
    rw [hx0]; simp [catG]
  · show (rewR (newP cap) ⟨0, 0, 0, false, false⟩ 0 1 []).2.1.xs 1 = _
    rw [a3, upd_other _ _ (by omega)]; rfl
  · rw [a3, upd_other _ _ (by omega)]; rfl
  · rw [a3, upd_other _ _ (by omega)]; rfl
  · show (headB 1 []).length = ((rewR (newP cap) ⟨0, 0, 0, false, false⟩ 0 1 []).2.1.xs 0).length
    rw [hx0]
  · show _ ≤ (rewR (newP cap) ⟨0, 0, 0, false, false⟩ 0 1 []).2.1.s 0
    rw [hs0]; exact Int.le_refl _
  · show (rewR (newP cap) ⟨0, 0, 0, false, false⟩ 0 1 []).2.1.s 0 = ((rewR (newP cap) ⟨0, 0, 0, false, false⟩ 0 1 []).2.1.xs 0).length
    rw [hs0, hx0]
theorem trimR_ok2 {p : PD} (h : p.Ok) (L : LV) : (trimR p L).2.1.Ok ∧ (trimR p L).2.1.done ≤ p.done + 1 := by have := trimR_ok h L; exact ⟨this.1, this.2.2⟩
theorem prepR_ok {p : PD} (h : p.Ok) (L : LV) : (prepR p L).2.1.Ok ∧ (prepR p L).2.1.done ≤ p.done + 5 := by
  unfold prepR
  split
  · unfold beginR
    have h1 := emptyR_ok h L 1
    split
    · have h2 := rewR_ok h1.1 L 0 1 []
      exact ⟨h2.1, by omega⟩
    · exact ⟨h1.1, by omega⟩
  · have h1 := trimR_ok2 h L
    split
    · have h2 := emptyR_ok h1.1 L (1 - L.f)
      exact ⟨h2.1, by omega⟩
    · exact ⟨h1.1, by omega⟩
theorem openR_ok {p : PD} (h : p.Ok) : (openR p).2.1.Ok ∧ (openR p).2.1.done ≤ p.done + 5 := prepR_ok h _
/-- The laws' fixed example. -/
noncomputable def ex0 : PD := newP 1000
noncomputable def ex1 : Int × PD × LV := openR ex0
noncomputable def ex2 : Int × PD × LV := commitR ex1.2.1 ex1.2.2 [[120], [121]]
noncomputable def ex3 : Int × PD × LV := appendR ex2.2.1 ex2.2.2 [[122]]
noncomputable def ex4 : PD := crashP ex3.2.1 []
theorem ex_all : ex1.1 = 0 ∧ ex2.1 = 0 ∧ ex3.1 = 0 ∧ openS ex0 = seg0 ∧ (openR ex4).1 = 0 ∧ (openS ex4).gs = [[[120], [121]]] ∧ ex1.2.1.Ok ∧ ex2.2.1.Ok ∧ ex3.2.1.Ok ∧ ex4.Ok ∧ ex1.2.2.size ≤ 1000 ∧ ex2.2.2.size ≤ 1000 ∧ ex1.2.1.done ≤ 100 ∧ ex2.2.1.done ≤ 100 ∧ ex3.2.1.done ≤ 100 ∧ ex4.done ≤ 100 := by
  have hc : capBK 1000 = true := rfl
  have hh := (headB_bd 1 []).2
  simp at hh
  obtain ⟨a1, a2, a3, a4, a5, a6, a7, a8⟩ := open_new (cap := 1000) hc (by omega)
  have g1 := (groupB_bd [[120], [121]] 1 (by simp)).2
  have g2 := (groupB_bd [[122]] 1 (by simp)).2
  simp at g1 g2
  have hx1 : (ex1.2.1.xs ex1.2.2.f).length = (headB 1 []).length := by
    show ((openR (newP 1000)).2.1.xs (openR (newP 1000)).2.2.f).length = _
    rw [a5, a8]
  have b0 : LS ex1.2.1 ex1.2.2 [] [] := a2
  have c0 : ex1.2.1.cap = 1000 := a3
  obtain ⟨b1, b2, b3, b4, b5, b6⟩ := b0.commit [[120], [121]] (by simp) (by rw [hx1, c0]; omega)
  have c2 : LS ex2.2.1 ex2.2.2 [] [[[120], [121]]] := b2
  have hx2 : (ex2.2.1.xs ex2.2.2.f).length = (headB 1 []).length + (groupB [[120], [121]]).length := by
    rw [c2.x, List.length_append]
    have e : ex2.2.2.gen = 1 := b4.trans a4
    rw [e]; simp [catG]
  have c3 : ex2.2.1.cap = 1000 := b3.trans c0
  obtain ⟨d1, d2, d3, d4, d5, d6, d7⟩ := c2.append [[122]] (by simp) (by rw [hx2, c3]; omega)
  have e3 : LS ex3.2.1 ex3.2.2 [] ([[[120], [121]]] ++ [[[122]]]) := d2
  have g3 : ex3.2.2.gen = 1 := d4.trans (b4.trans a4)
  have f3 : ex3.2.2.f = ex2.2.2.f := d5
  have hxl : (ex3.2.1.xs ex3.2.2.f).length ≤ 1073741824 := by
    have h1 := e3.cm.ok.len (i := ex3.2.2.f) (by have := e3.f; omega)
    exact h1
  obtain ⟨n, n1, n2, n3⟩ := e3.crash [] (by rw [g3]; constructor <;> decide) (by simp) (by intro rs hr; simp at hr; rcases hr with rfl | rfl <;> simp) hxl
  have hs : ex3.2.1.s ex3.2.2.f = ((headB ex3.2.2.gen [] ++ catG [[[120], [121]]]).length : Nat) := by
    have h1 : ex3.2.1.s = ex2.2.1.s := d7
    rw [h1, f3, c2.lo b6, c2.x, g3, show ex2.2.2.gen = 1 from b4.trans a4]
  have hn : 1 ≤ n := n3 1 (by simp) (by rw [hs]; simp)
  have hsure : n = 1 := by
    have hub : crN ex3.2.1 [] ex3.2.2.f = (headB ex3.2.2.gen [] ++ catG [[[120], [121]]]).length := by
      unfold crN crI
      simp [hs]
      omega
    have hz := n2.x
    have hxc := (crash_at (p := ex3.2.1) [] (i := ex3.2.2.f) (by have := e3.f; omega)).1
    rw [hxc, hub] at hz
    have hzl := congrArg List.length hz
    rw [List.length_take, List.length_take] at hzl
    rcases Nat.lt_or_ge 1 n with h1 | h1
    · exfalso
      have e2 : n = 2 := by simp at n1; omega
      subst e2
      have hg2 := (groupB_bd [[122]] 1 (by simp)).1
      simp [catG] at hzl
      omega
    · omega
  subst hsure
  obtain ⟨o1, o2, o3⟩ := n2.opens (show (crashP ex3.2.1 []).down = false from rfl)
  have k1 : ex1.2.1.Ok := (openR_ok (new_ok hc)).1
  have k2 : ex2.2.1.Ok := (commitR_ok k1 ex1.2.2 [[120], [121]]).1
  have k3 : ex3.2.1.Ok := (appendR_ok k2 ex2.2.2 [[122]]).1
  have q1 : ex1.2.1.done ≤ 5 := by have := (openR_ok (new_ok hc)).2; exact this
  have q2 := (commitR_ok k1 ex1.2.2 [[120], [121]]).2.2
  have q3 := (appendR_ok k2 ex2.2.2 [[122]]).2.2
  have q2' : ex2.2.1.done ≤ ex1.2.1.done + 2 := q2
  have q3' : ex3.2.1.done ≤ ex2.2.1.done + 1 := q3
  refine ⟨a1, b1, d1, a7, o3 (by show (-1 : Int) < 0; decide), ?_, k1, k2, k3, crash_ok k3 _, ?_, ?_, by omega, by omega, by omega, ?_⟩
  · show (openS (crashP ex3.2.1 [])).gs = _
    rw [n2.open.2]; rfl
  · rw [b0.sz, hx1]; omega
  · rw [c2.sz, hx2]; omega
  · show (crashP ex3.2.1 []).done ≤ 100
    rw [(crash_done ex3.2.1 []).1]; omega
end Go.Proofs.YtkdebebpnkjmdaaDoor
namespace Go.Proofs.YtkdebebpnkjmdaaDoor
open Go.RowKit

theorem found_at {w : World} {a b : Value} : ∃ w', w' = w.alloc (.cells #[a, b] 34) ∧ Below w.heap.size w w' ∧ w'.heap[w.heap.size]? = some (.cells #[a, b] 34 (0, 0)) ∧ w'.heap.size = w.heap.size + 1 :=
  ⟨_, rfl, (Below.refl _ _).alloc (Nat.le_refl _) _, heap_alloc_new w _, by simp⟩
/-- Two records of one byte, one behind the other; one record. -/
theorem recs2 (w : World) (x y : UInt8) : ∃ w', w' = ((w.alloc (.cells #[.int .u8 x.toNat] 5 (1, 2))).alloc (.cells #[.int .u8 y.toNat] 5 (1, 2))).alloc (.cells #[.slice (some ⟨w.heap.size, 0, none⟩) 1 1, .slice (some ⟨w.heap.size + 1, 0, none⟩) 1 1] 22) ∧ Below w.heap.size w w' ∧
    RecsIn (fun b => w.heap.size ≤ b) w' (some ⟨w.heap.size + 2, 0, none⟩) [⟨some ⟨w.heap.size, 0, none⟩, 1, [x]⟩, ⟨some ⟨w.heap.size + 1, 0, none⟩, 1, [y]⟩] := by
  refine ⟨_, rfl, (((Below.refl _ _).alloc (Nat.le_refl _) _).alloc (by simp) _).alloc (by simp; omega) _, fun j hj => ?_⟩
  have hh : (((w.alloc (.cells #[.int .u8 x.toNat] 5 (1, 2))).alloc (.cells #[.int .u8 y.toNat] 5 (1, 2))).alloc (.cells #[.slice (some ⟨w.heap.size, 0, none⟩) 1 1, .slice (some ⟨w.heap.size + 1, 0, none⟩) 1 1] 22)).heap[w.heap.size + 2]? = some (.cells #[.slice (some ⟨w.heap.size, 0, none⟩) 1 1, .slice (some ⟨w.heap.size + 1, 0, none⟩) 1 1] 22 (0, 0)) := by
    have h := heap_alloc_new ((w.alloc (.cells #[.int .u8 x.toNat] 5 (1, 2))).alloc (.cells #[.int .u8 y.toNat] 5 (1, 2))) (.cells #[.slice (some ⟨w.heap.size, 0, none⟩) 1 1, .slice (some ⟨w.heap.size + 1, 0, none⟩) 1 1] 22)
    simpa using h
  have h0 : (((w.alloc (.cells #[.int .u8 x.toNat] 5 (1, 2))).alloc (.cells #[.int .u8 y.toNat] 5 (1, 2))).alloc (.cells #[.slice (some ⟨w.heap.size, 0, none⟩) 1 1, .slice (some ⟨w.heap.size + 1, 0, none⟩) 1 1] 22)).heap[w.heap.size]? = some (.cells #[.int .u8 x.toNat] 5 (1, 2)) := (Below.heap_alloc _ _ _ (by simp; omega)).trans ((Below.heap_alloc _ _ _ (by simp)).trans (heap_alloc_new w _))
  have h1 : (((w.alloc (.cells #[.int .u8 x.toNat] 5 (1, 2))).alloc (.cells #[.int .u8 y.toNat] 5 (1, 2))).alloc (.cells #[.slice (some ⟨w.heap.size, 0, none⟩) 1 1, .slice (some ⟨w.heap.size + 1, 0, none⟩) 1 1] 22)).heap[w.heap.size + 1]? = some (.cells #[.int .u8 y.toNat] 5 (1, 2)) := (Below.heap_alloc _ _ _ (by simp)).trans (by
    have h := heap_alloc_new (w.alloc (.cells #[.int .u8 x.toNat] 5 (1, 2))) (.cells #[.int .u8 y.toNat] 5 (1, 2))
    simpa using h)
  have hb0 := block_lt h0
  have hb1 := block_lt h1
  have hb2 := block_lt hh
  simp at hj
  rcases (by omega : j = 0 ∨ j = 1) with rfl | rfl
  · refine ⟨w.heap.size + 2, 0, rfl, Nat.le_add_right _ _, hb2, ?_, fun i hi => ⟨w.heap.size, 0, rfl, Nat.le_refl _, hb0, ?_⟩, ⟨Nat.le_of_lt (by show 1 < maxLen; unfold maxLen; decide), fun e => by cases e⟩⟩
    · exact Lib.cell_of_heap hh 0
    · have : i = 0 := by have : i < 1 := hi; omega
      subst this
      exact Lib.cell_of_heap h0 0
  · refine ⟨w.heap.size + 2, 0, rfl, Nat.le_add_right _ _, hb2, ?_, fun i hi => ⟨w.heap.size + 1, 0, rfl, Nat.le_succ _, hb1, ?_⟩, ⟨Nat.le_of_lt (by show 1 < maxLen; unfold maxLen; decide), fun e => by cases e⟩⟩
    · exact Lib.cell_of_heap hh 1
    · have : i = 0 := by have : i < 1 := hi; omega
      subst this
      exact Lib.cell_of_heap h1 0
theorem recs1 (w : World) (x : UInt8) : ∃ w', w' = (w.alloc (.cells #[.int .u8 x.toNat] 5 (1, 2))).alloc (.cells #[.slice (some ⟨w.heap.size, 0, none⟩) 1 1] 22) ∧ Below w.heap.size w w' ∧
    RecsIn (fun b => w.heap.size ≤ b) w' (some ⟨w.heap.size + 1, 0, none⟩) [⟨some ⟨w.heap.size, 0, none⟩, 1, [x]⟩] := by
  refine ⟨_, rfl, ((Below.refl _ _).alloc (Nat.le_refl _) _).alloc (by simp) _, fun j hj => ?_⟩
  have hh : ((w.alloc (.cells #[.int .u8 x.toNat] 5 (1, 2))).alloc (.cells #[.slice (some ⟨w.heap.size, 0, none⟩) 1 1] 22)).heap[w.heap.size + 1]? = some (.cells #[.slice (some ⟨w.heap.size, 0, none⟩) 1 1] 22 (0, 0)) := by
    have h := heap_alloc_new (w.alloc (.cells #[.int .u8 x.toNat] 5 (1, 2))) (.cells #[.slice (some ⟨w.heap.size, 0, none⟩) 1 1] 22)
    simpa using h
  have h0 : ((w.alloc (.cells #[.int .u8 x.toNat] 5 (1, 2))).alloc (.cells #[.slice (some ⟨w.heap.size, 0, none⟩) 1 1] 22)).heap[w.heap.size]? = some (.cells #[.int .u8 x.toNat] 5 (1, 2)) := (Below.heap_alloc _ _ _ (by simp)).trans (heap_alloc_new w _)
  have hb0 := block_lt h0
  have hb2 := block_lt hh
  simp at hj
  obtain rfl : j = 0 := by omega
  refine ⟨w.heap.size + 1, 0, rfl, Nat.le_add_right _ _, hb2, ?_, fun i hi => ⟨w.heap.size, 0, rfl, Nat.le_refl _, hb0, ?_⟩, ⟨Nat.le_of_lt (by show 1 < maxLen; unfold maxLen; decide), fun e => by cases e⟩⟩
  · exact Lib.cell_of_heap hh 0
  · have : i = 0 := by have : i < 1 := hi; omega
    subst this
    exact Lib.cell_of_heap h0 0
set_option maxHeartbeats 12800000 in
set_option maxRecDepth 100000 in
theorem awake_any (w : World) (hT : Tab w) (hgt : 0 < w.heap.size) : Calls Tryd.prog 7 #[] w fun e w' => e = .returned (.bool true) ∧ Below w.heap.size w w' := by
  obtain ⟨a1, a2, a3, a4, a5, a6, k1, k2, k3, k4, z1, z2, q1, q2, q3, q4⟩ := ex_all
  have HA := hide (And.intro a1 (And.intro a2 (And.intro a3 (And.intro a4 (And.intro a5 a6)))))
  have HK := hide (And.intro k1 (And.intro k2 (And.intro k3 k4)))
  have HZ := hide (And.intro z1 z2)
  have HQ := hide (And.intro q1 (And.intro q2 (And.intro q3 q4)))
  have HN := hide (new_yes 1000 w rfl)
  have HT := hide hT
  have HX2 := hide (show commitR (openR (newP 1000)).2.1 (openR (newP 1000)).2.2 [[120], [121]] = ex2 from rfl)
  clear a1 a2 a3 a4 a5 a6 k1 k2 k3 k4 z1 z2 q1 q2 q3 q4 hT
  go_enter Tryd.func7, Tryd.ntmps7
  go_wp2_with fail
  refine HN.out.mono ?_
  rintro e w1 ⟨⟨g, rfl, hD1⟩, hb1⟩
  have HB1 := hide hb1
  have HOp := hide (open_any w1 hD1 (new_ok (cap := 1000) rfl) (by show (0 : Int) ≤ _; decide) (HT.out.on hb1) hgt)
  unfold OpenRes at HOp
  have HD1 := hide hD1
  clear hb1 hD1 HN
  go_wp2_with fail
  refine HOp.out.mono ?_
  rintro e w2 hc
  rcases hc with ⟨hdn, -⟩ | ⟨-, -, hc⟩
  · exact absurd (show (newP 1000).down = true from hdn) (by decide)
  rcases hc with ⟨hne, -⟩ | ⟨-, h, A, c, A2, c2, gs, D2, rfl, hh, hp2, hL2, ht2, hgs, hcp, hgr, -, -, -⟩
  · exact absurd HA.out.1 hne
  have hg0 : gs = [] := by
    have h1 : openS (newD 1000).p = seg0 := HA.out.2.2.2.1
    rw [h1] at hgs
    have h2 := congrArg List.length hgs
    rw [gsOf_len] at h2
    exact List.length_eq_zero_iff.1 h2
  subst hg0
  have hcp0 : (openS (newD 1000).p).cp = [] := by
    have h1 : openS (newD 1000).p = seg0 := HA.out.2.2.2.1
    rw [h1]; rfl
  rw [hcp0]
  have HL2 := hide hL2
  have HP2 := hide hp2
  have HB2 := hide (HB1.out.trans ((ht2.below HD1.out)))
  clear hp2 hL2 ht2 hgs hcp hgr hcp0 HOp
  simp only [List.length_nil]
  obtain ⟨w3, hw3⟩ : ∃ w3, w3 = w2.alloc (.cells #[.slice A 0 c, .slice A2 0 c2] 34) := ⟨_, rfl⟩
  have hb3 : Below w2.heap.size w2 w3 := by rw [hw3]; exact (Below.refl _ _).alloc (Nat.le_refl _) _
  have hx3 : w3.heap[w2.heap.size]? = some (.cells #[.slice A 0 c, .slice A2 0 c2] 34 (0, 0)) := by rw [hw3]; exact heap_alloc_new w2 _
  have HWE := hide hw3
  obtain ⟨⟨s0, s1⟩, -, hlt3⟩ := found_cells hx3
  clear hw3 hx3
  have kc := fun (w : World) (C : Array Value) (n c : Nat) => Lib.run_convert_bytes_const (P := Tryd.prog) w 22 5 C n c Tryd.underlying22 Tryd.underlying5
  have kc2 : (convert 22 22 (.slice (some ⟨w3.heap.size + 1, 0, none⟩) 1 1)).run Tryd.prog ((w3.alloc (.cells #[.int .u8 120] 5 (1, 2))).alloc (.cells #[.int .u8 121] 5)) = .ok (.slice (some ⟨w3.heap.size + 1, 0, none⟩) 1 1) ((w3.alloc (.cells #[.int .u8 120] 5 (1, 2))).alloc (.cells #[.int .u8 121] 5 (1, 2))) := by
    have h := kc (w3.alloc (.cells #[.int .u8 120] 5 (1, 2))) #[.int .u8 121] 1 1
    simpa using h
  obtain ⟨w4, hw4, hb4, hr4⟩ := recs2 w3 120 121
  have HWE4 := hide (show w4 = ((w3.alloc (.cells #[.int .u8 120] 5 (1, 2))).alloc (.cells #[.int .u8 121] 5 (1, 2))).alloc (.cells #[.slice (some ⟨w3.heap.size, 0, none⟩) 1 1, .slice (some ⟨w3.heap.size + 1, 0, none⟩) 1 1] 22) from hw4)
  have HB3 := hide (hb3.trans (hb4.mono hb3.size))
  have HL4 := hide (HL2.out.below HB3.out)
  have HB4 := hide (HB2.out.trans (HB3.out.mono HB2.out.size))
  have HR4 := hide hr4
  have HS3 := hide hb3.size
  have hs4 : w4.heap.size = w3.heap.size + 3 := by rw [hw4]; simp
  have HC := hide (logCommit_any (some ⟨w3.heap.size + 2, 0, none⟩) 2 [⟨some ⟨w3.heap.size, 0, none⟩, 1, [120]⟩, ⟨some ⟨w3.heap.size + 1, 0, none⟩, 1, [121]⟩] w4 HL4.out (by rw [HP2.out]; exact HK.out.1) (by rw [HP2.out]; have h := HQ.out.1; show ex1.2.1.done ≤ _; omega) (by have h := HZ.out.1; show ex1.2.2.size ≤ _; omega) ((HT.out.on HB4.out)) (HR4.out.mono fun b h1 _ => HL2.out.off_new (Nat.le_trans HS3.out h1)) (by simp) (by intro j hj; simp at hj; rcases (by omega : j = 0 ∨ j = 1) with rfl | rfl <;> simp))
  rw [HP2.out] at HC
  have HC2 := hide (show Calls Tryd.prog 25 #[vD h, .slice (some ⟨w3.heap.size + 1 + 1, 0, none⟩) 2 2] w4 (LRes w.heap.size h g D2 w4 ex2) from HC.out)
  unfold LRes at HC2
  rw [HA.out.2.1] at HC2
  clear hw4 hb4 hr4 hb3 HC
  go_wp2_with (first | (guard_target =~ wpList _ _ _ (Oper.mk _ (Op.fieldAddr _ _ _) _ _ _ _ :: _) _ _; rw [← HWE.out]) | fail)
  rw [← HWE4.out]
  refine HC2.out.mono ?_
  rintro e w5 ⟨rfl, D5, hp5, hL5, ht5⟩
  have HL5 := hide hL5
  have HP5 := hide hp5
  have HT5 := hide ht5
  have HB5 := hide (HB4.out.trans (ht5.below HL4.out))
  obtain ⟨w6, hw6, hb6, hr6⟩ := recs1 w5 122
  have HWE6 := hide (show w6 = (w5.alloc (.cells #[.int .u8 122] 5 (1, 2))).alloc (.cells #[.slice (some ⟨w5.heap.size, 0, none⟩) 1 1] 22) from hw6)
  have HL6 := hide (HL5.out.below hb6)
  have HB6 := hide (HB5.out.trans (hb6.mono HB5.out.size))
  have HC6 := hide (logAppend_any (some ⟨w5.heap.size + 1, 0, none⟩) 1 [⟨some ⟨w5.heap.size, 0, none⟩, 1, [122]⟩] w6 HL6.out (by rw [HP5.out]; exact HK.out.2.1) (by rw [HP5.out]; have h := HQ.out.2.1; omega) (by have h := HZ.out.2; omega) (HT.out.on HB6.out) (hr6.mono fun b h1 _ => HL5.out.off_new h1) (by simp) (by intro j hj; simp at hj; subst hj; simp))
  rw [HP5.out] at HC6
  have HC7 := hide (show Calls Tryd.prog 24 #[vD h, .slice (some ⟨w5.heap.size + 1, 0, none⟩) 1 1] w6 (LRes w.heap.size h g D5 w6 ex3) from HC6.out)
  unfold LRes at HC7
  rw [HA.out.2.2.1] at HC7
  clear hw6 hb6 hr6 hp5 hL5 ht5 HC6 HC2 s0 s1 hlt3 kc2
  go_wp2_with fail
  rw [← HWE6.out]
  refine HC7.out.mono ?_
  rintro e w7 ⟨rfl, D7, hp7, hL7, ht7⟩
  have HP7 := hide hp7
  have HD7 := hide hL7.disk
  have HB7 := hide (HB6.out.trans (ht7.below HL6.out))
  have HCr := hide (crash_any none 0 [] w7 hL7.disk (by rw [hp7]; exact HK.out.2.2.1) (fun j hj => by simp at hj) (by simp) (fun j hj => by simp at hj))
  rw [hp7] at HCr
  have HCr2 := hide (show Calls Tryd.prog 30 #[vD g, .slice none 0 0] w7 fun e w' => e = .returned (.tuple #[]) ∧ ∃ D' : DS, D'.p = ex4 ∧ DiskAt w.heap.size g w' D' ∧ Turned g D7 D' w7 w' from HCr.out)
  clear hp7 hL7 ht7 HCr HC7
  go_wp2_with fail
  refine HCr2.out.mono ?_
  rintro e w8 ⟨rfl, D8, hp8, hD8, ht8⟩
  have HB8 := hide (HB7.out.trans (ht8.below HD7.out))
  have HO8 := hide (open_any w8 hD8 (by rw [hp8]; exact HK.out.2.2.2) (by rw [hp8]; have h := HQ.out.2.2.2; omega) (HT.out.on HB8.out) hgt)
  unfold OpenRes at HO8
  rw [hp8] at HO8
  have HD8 := hide hD8
  clear hp8 hD8 ht8 HCr2
  go_wp2_with fail
  refine HO8.out.mono ?_
  rintro e w9 hc
  rcases hc with ⟨hdn, -⟩ | ⟨-, -, hc⟩
  · exact absurd (show (crashP ex3.2.1 []).down = true from hdn) (by decide)
  rcases hc with ⟨hne, -⟩ | ⟨-, h9, A9, c9, B9, d9, gs9, D9, rfl, hh9, hp9, hL9, ht9, hgs9, hcp9, hgr9, -, -, -⟩
  · exact absurd HA.out.2.2.2.2.1 hne
  have HB9 := hide (HB8.out.trans (ht9.below HD8.out))
  rw [HA.out.2.2.2.2.2] at hgs9
  have hl9 : gs9.length = 1 := by have h2 := congrArg List.length hgs9; rw [gsOf_len] at h2; exact h2
  obtain ⟨x9, rfl⟩ : ∃ x, gs9 = [x] := by
    match gs9, hl9 with
    | [x], _ => exact ⟨x, rfl⟩
  have hx9 : lsOf x9.rs = [[120], [121]] := by simpa [gsOf] using hgs9
  obtain ⟨b, off, A0, c0, rs0, rfl, -, hbl, hcell, hrs, hg0, -, -⟩ := hgr9.got (k := 0) (by simp)
  have hrs0 : lsOf rs0 = [[120], [121]] := by rw [← hg0]; simp [gsOf, hx9]
  have hrl : rs0.length = 2 := by have h2 := congrArg List.length hrs0; rw [lsOf_len] at h2; exact h2
  obtain ⟨b2, off2, A1, c1, l1, rfl, -, hbl2, hcell2, hby, hl1, -, -⟩ := hrs.got (k := 1) (by omega)
  have hl1' : l1 = [121] := by rw [← hl1, hrs0]; rfl
  subst hl1'
  rw [hrl] at hcell
  have HB9r := hide ((Below.refl w9.heap.size w9).alloc (Nat.le_refl _) (.cells #[.slice A9 (openS ex4).cp.length c9, .slice (some ⟨b, off, none⟩) 1 d9] 34))
  have hcv : (convert 22 9 (.slice A1 1 c1)).run Tryd.prog (w9.alloc (.cells #[.slice A9 (openS ex4).cp.length c9, .slice (some ⟨b, off, none⟩) 1 d9] 34)) = .ok (.string ⟨#[121]⟩) (w9.alloc (.cells #[.slice A9 (openS ex4).cp.length c9, .slice (some ⟨b, off, none⟩) 1 d9] 34)) := conv_bytes A1 c1 [121] _ (hby.bytes.on HB9r.out)
  have hca := (HB9r.out.cell (p := ⟨b, off + 0, none⟩) hbl).trans hcell
  have hcb := (HB9r.out.cell (p := ⟨b2, off2 + 1, none⟩) hbl2).trans hcell2
  clear hgs9 hl9 hx9 hg0 hrs0 hrl hrs hl1 hgr9 hcp9 hp9 hL9 ht9 hh9
  rw [Nat.add_zero] at hca
  have hcb1 : (w9.alloc (.cells #[.slice A9 (openS ex4).cp.length c9, .slice (some ⟨b, off, none⟩) 1 d9] 34)).cell? ⟨b2, off2 + 1, none⟩ = some (.slice A1 1 c1) := hcb
  clear hcb
  have HB10 := hide (HB9.out.trans (HB9r.out.mono HB9.out.size))
  clear hcell hcell2 hby
  simp only [List.length_singleton]
  go_wp2_with fail
  go_ret
  exact ⟨rfl, HB10.out⟩
end Go.Proofs.YtkdebebpnkjmdaaDoor
namespace Go.Proofs.YtkdebebpnkjmdaaDoor
open Go.RowKit

/-- What stands behind k calls of a script, without crashes, on a disk of 1 << 20. -/
structure Calmly (k : Nat) (p : PD) (L : LV) (cp : List UInt8) (gs : List (List (List UInt8))) : Prop where
  ls : LS p L cp gs
  g2 : L.gen ≤ k + 1
  n : (p.xs L.f).length ≤ 400 + 1800 * k
  d : p.done ≤ 10 + 10 * k
  sh : ShortG gs
  hc : cp.length ≤ 300
  cap : p.cap = 1048576
theorem Calmly.ok {k : Nat} {p : PD} {L : LV} {cp : List UInt8} {gs : List (List (List UInt8))} (h : Calmly k p L cp gs) : p.Ok := h.ls.cm.ok
theorem Calmly.more {k : Nat} {p : PD} {L : LV} {cp : List UInt8} {gs : List (List (List UInt8))} (h : Calmly k p L cp gs) : Calmly (k + 1) p L cp gs :=
  ⟨h.ls, by have := h.g2; omega, by have := h.n; omega, by have := h.d; omega, h.sh, h.hc, h.cap⟩
/-- Records that a script's call has. -/
def RecOk (rs : List (List UInt8)) : Prop := rs.length ≤ 8 ∧ ∀ r ∈ rs, r.length ≤ 200
theorem recOk_of {o : OpS} (h : OkS o) : RecOk (lsOf o.rs) := by
  refine ⟨by rw [lsOf_len]; exact h.r, fun r hr => ?_⟩
  obtain ⟨j, hj, e⟩ := List.getElem_of_mem hr
  rw [lsOf_len] at hj
  have h1 := h.rr j hj
  rw [← lsOf_get hj, List.getD_eq_getElem?_getD, List.getElem?_eq_getElem (by rw [lsOf_len]; exact hj), e] at h1
  exact h1
theorem recOk_len {rs : List (List UInt8)} (h : RecOk rs) : (groupB rs).length ≤ 1800 := by
  have h1 := (groupB_bd rs 200 h.2).2
  have h2 := h.1
  have h3 : (9 + 200) * rs.length ≤ 209 * 8 := Nat.mul_le_mul (by omega) h2
  omega
theorem short_snoc {gs : List (List (List UInt8))} {rs : List (List UInt8)} (h : ShortG gs) (hr : RecOk rs) : ShortG (gs ++ [rs]) := fun x hx => by
  rcases List.mem_append.1 hx with hx | hx
  · exact h x hx
  · simp at hx
    subst hx
    exact ⟨by have := hr.1; omega, fun r hr' => by have := hr.2 r hr'; omega⟩
theorem Calmly.append {k : Nat} {p : PD} {L : LV} {cp : List UInt8} {gs : List (List (List UInt8))} (h : Calmly k p L cp gs) (hk : k ≤ 60) {rs : List (List UInt8)} (hr : RecOk rs) :
    ∃ gs', (appendR p L rs).1 = 0 ∧ Calmly (k + 1) (appendR p L rs).2.1 (appendR p L rs).2.2 cp gs' := by
  by_cases h0 : rs.length = 0
  · obtain rfl := List.length_eq_zero_iff.1 h0
    obtain ⟨a1, a2, a3⟩ := h.ls.append0
    rw [a1, a2, a3]
    exact ⟨gs, rfl, h.more⟩
  · have hl := recOk_len hr
    have hn := h.n
    obtain ⟨a1, a2, a3, a4, a5, a6, a7⟩ := h.ls.append rs h0 (by rw [h.cap]; omega)
    refine ⟨gs ++ [rs], a1, a2, by rw [a4]; have := h.g2; omega, ?_, ?_, short_snoc h.sh hr, h.hc, a3.trans h.cap⟩
    · rw [a2.x, a4, catG_snoc, ← List.append_assoc, List.length_append, ← h.ls.x]; omega
    · have := (appendR_ok h.ok L rs).2.2
      have := h.d
      omega
theorem Calmly.commit {k : Nat} {p : PD} {L : LV} {cp : List UInt8} {gs : List (List (List UInt8))} (h : Calmly k p L cp gs) (hk : k ≤ 60) {rs : List (List UInt8)} (hr : RecOk rs) :
    ∃ gs', (commitR p L rs).1 = 0 ∧ Calmly (k + 1) (commitR p L rs).2.1 (commitR p L rs).2.2 cp gs' := by
  by_cases h0 : rs.length = 0
  · obtain rfl := List.length_eq_zero_iff.1 h0
    obtain ⟨a1, a2, a3, a4, a5, a6, a7⟩ := h.ls.commit0
    refine ⟨gs, a1, a2, by rw [a4]; have := h.g2; omega, by rw [a7, a5]; have := h.n; omega, ?_, h.sh, h.hc, a3.trans h.cap⟩
    have := (commitR_ok h.ok L []).2.2
    have := h.d
    omega
  · have hl := recOk_len hr
    have hn := h.n
    obtain ⟨a1, a2, a3, a4, a5, a6⟩ := h.ls.commit rs h0 (by rw [h.cap]; omega)
    refine ⟨gs ++ [rs], a1, a2, by rw [a4]; have := h.g2; omega, ?_, ?_, short_snoc h.sh hr, h.hc, a3.trans h.cap⟩
    · rw [a2.x, a4, catG_snoc, ← List.append_assoc, List.length_append, ← h.ls.x]; omega
    · have := (commitR_ok h.ok L rs).2.2
      have := h.d
      omega
theorem Calmly.compact {k : Nat} {p : PD} {L : LV} {cp : List UInt8} {gs : List (List (List UInt8))} (h : Calmly k p L cp gs) (hk : k ≤ 60) {cp' : List UInt8} (hr : cp'.length ≤ 300) :
    (compactR p L cp').1 = 0 ∧ Calmly (k + 1) (compactR p L cp').2.1 (compactR p L cp').2.2 cp' [] := by
  have hb := (headB_bd (L.gen + 1) cp').2
  have hn := h.n
  obtain ⟨a1, a2, a3, a4, a5, a6⟩ := h.ls.compact cp' (by rw [h.cap]; omega)
  refine ⟨a1, a2, by rw [a4]; have := h.g2; omega, ?_, ?_, (fun x hx => by simp at hx), hr, a3.trans h.cap⟩
  · rw [a2.x, a4]; simp [catG]; omega
  · have := (compactR_ok h.ok L cp').2.2
    have := h.d
    omega
theorem calmly_new : (openR (newP 1048576)).1 = 0 ∧ Calmly 0 (openR (newP 1048576)).2.1 (openR (newP 1048576)).2.2 [] [] := by
  have hh := (headB_bd 1 []).2
  simp at hh
  obtain ⟨a1, a2, a3, a4, a5, a6, a7, a8⟩ := open_new (cap := 1048576) rfl (by omega)
  refine ⟨a1, a2, by rw [a4]; decide, by rw [a5, a8]; omega, ?_, (fun x hx => by simp at hx), by simp, a3⟩
  have := (openR_ok (new_ok (cap := 1048576) rfl)).2
  have h0 : (newP 1048576).done = 0 := rfl
  omega
/-- Behind a crash: one segment. -/
theorem Calmly.crash {k : Nat} {p : PD} {L : LV} {cp : List UInt8} {gs : List (List (List UInt8))} (h : Calmly k p L cp gs) (hk : k ≤ 60) (ks : List Int) :
    ∃ gs', One (crashP p ks) L.f L.gen cp gs' ∧ (crashP p ks).Ok ∧ (crashP p ks).down = false ∧ (crashP p ks).left = -1 ∧ (crashP p ks).done ≤ 10 + 10 * k := by
  have h1 := h.ls.g1
  have h2 := h.g2
  obtain ⟨n, _, h4, _⟩ := h.ls.crash ks ⟨by omega, by omega⟩ (by have := h.hc; omega) h.sh (by have := h.n; omega)
  exact ⟨gs.take n, h4, crash_ok h.ok ks, rfl, rfl, h.d⟩
theorem One.opens_calm {p : PD} {f : Nat} {gen : Int} {cp : List UInt8} {gs : List (List (List UInt8))} (h : One p f gen cp gs) (hc : Cm p) : Cm (openR p).2.1 := by
  have hgen : ¬ gen = 0 := by have := h.g1; omega
  obtain ⟨e1, e2⟩ := h.open
  have eL : openL p = ⟨f, gen, (headB gen cp ++ catG gs).length, false, false⟩ := by unfold openL; rw [e1, e2]
  have hle : (headB gen cp ++ catG gs).length ≤ (p.xs f).length := by
    have := congrArg List.length h.x
    rw [List.length_take] at this; omega
  have hf := h.hf
  have ht : Cm (trimR p (openL p)).2.1 := by
    rw [eL]
    unfold trimR
    split
    · exact (hc.ct (f := f) (n := (headB gen cp ++ catG gs).length) (by omega) hle).2.2
    · split
      · exact (hc.syn (f := f) (by omega)).2.2
      · exact hc
  unfold openR prepR
  rw [if_neg (by rw [eL]; exact hgen)]
  rw [show (openL p).f = f by rw [eL]]
  split
  · exact (ht.empty (openL p) (f := 1 - f) (by omega)).2.1
  · exact ht
theorem One.crash_calm {p : PD} (ho : p.Ok) (ks : List Int) : Cm (crashP p ks) := ⟨crash_ok ho ks, rfl, by show (-1 : Int) < 0; decide⟩
/-- The disk is armed. -/
theorem arm_ok {p : PD} (h : p.Ok) {n : Int} (h0 : -9223372036854775808 ≤ n) (h1 : n ≤ 9223372036854775807) : ({ p with left := n } : PD).Ok := ⟨h.cap0, h.cap1, h.used, h.s0, h.s1, h.done0, h0, h1⟩
/-- A block that is not the disk's. -/
def OffD (g : Nat) (D : DS) (b : Nat) : Prop := b ≠ g ∧ ∀ i, i < 4 → (D.v i).ownBlock ≠ some b
theorem Turned.offD {g : Nat} {D D' : DS} {w w' : World} (t : Turned g D D' w w') (b : Nat) (ho : OffD g D b) (hb : b < w.heap.size) : OffD g D' b ∧ w'.heap[b]? = w.heap[b]? := by
  refine ⟨⟨ho.1, fun i hi e => ?_⟩, t.block b hb ho.1 ho.2⟩
  rcases t.own i hi b e with ⟨j, hj, e2⟩ | e2
  · exact ho.2 j hj e2
  · omega
theorem off_offD {h g : Nat} {D : DS} {b : Nat} (ho : Off h g D b) : OffD g D b := ⟨ho.2.1, ho.2.2⟩
theorem DiskAt.offD_new {base g : Nat} {w : World} {D : DS} (H : DiskAt base g w D) {b : Nat} (hb : w.heap.size ≤ b) : OffD g D b :=
  ⟨by have := H.lt; omega, fun i hi e => by have := ((H.row i hi).lt b e).2; omega⟩
theorem DiskAt.offD_old {base g : Nat} {w : World} {D : DS} (H : DiskAt base g w D) {b : Nat} (hb : b < base) : OffD g D b :=
  ⟨by have := H.hg; omega, fun i hi e => by have := ((H.row i hi).lt b e).1; omega⟩
/-- What was found first, in memory that is not the disk's. -/
structure FoundAt (g : Nat) (D : DS) (w : World) (B : Nat) (A : Option Addr) (c : Nat) (A2 : Option Addr) (c2 : Nat) (cp : List UInt8) (gs : List GH) : Prop where
  box : w.heap[B]? = some (.cells #[.slice A cp.length c, .slice A2 gs.length c2] 34 (0, 0))
  off : OffD g D B
  b : BytesIn (OffD g D) w A cp
  g : GrpsIn (OffD g D) w A2 gs
  l : gs.length ≤ maxLen
theorem FoundAt.turn {g : Nat} {D D' : DS} {w w' : World} {B : Nat} {A : Option Addr} {c : Nat} {A2 : Option Addr} {c2 : Nat} {cp : List UInt8} {gs : List GH} (h : FoundAt g D w B A c A2 c2 cp gs) (t : Turned g D D' w w') : FoundAt g D' w' B A c A2 c2 cp gs :=
  ⟨(t.offD B h.off (block_lt h.box)).2.trans h.box, (t.offD B h.off (block_lt h.box)).1, h.b.keep t.size fun b ho hb => t.offD b ho hb, h.g.keep t.size fun b ho hb => t.offD b ho hb, h.l⟩
theorem KeepAt.of_ints {base g : Nat} {w w' : World} {D : DS} {A : Option Addr} {ks : List Int} (h : IntsIn (fun b => b < base) w A ks) (hb : Below base w w') (H : DiskAt base g w' D) : KeepAt g D w' A ks := fun j hj => by
  obtain ⟨b, off, e, h1, h2, h3⟩ := h j hj
  have ho := H.offD_old h1
  exact ⟨b, off, e, Nat.lt_of_lt_of_le h2 hb.size, ho.1, ho.2, (hb.cell (p := ⟨b, off + j, none⟩) h1).trans h3⟩
end Go.Proofs.YtkdebebpnkjmdaaDoor
namespace Go.Proofs.YtkdebebpnkjmdaaDoor

theorem app_gen {p : PD} (hd : p.down = false) {f : Nat} (hf : f < 4) (ys : List UInt8) (hr : (p.used : Int) + ys.length ≤ p.cap) :
    (appP p f ys).xs = upd p.xs f (p.xs f ++ ys) ∧ (appP p f ys).s = p.s ∧ (appP p f ys).cap = p.cap ∧ ((appE p f ys.length = 40 ∧ (appP p f ys).down = true) ∨ (appE p f ys.length = 0 ∧ (appP p f ys).down = false)) := by
  have hc : checkE p f = 0 := by unfold checkE; rw [hd, file_lt hf]; rfl
  have hn : ¬ p.cap < ((p.used + ys.length : Nat) : Int) := by omega
  obtain ⟨h1, h2, h3⟩ := cmd_xs (addP p f ys)
  unfold appE appP
  rw [if_pos hc, if_pos hc, if_neg hn, if_neg hn, Int.toNat_natCast, h1, h2, h3]
  refine ⟨rfl, upd_self _ _, rfl, ?_⟩
  by_cases h0 : p.left = 0
  · exact .inl ⟨if_pos h0, by unfold cmdP; rw [if_pos (show (addP p f ys).left = 0 from h0)]⟩
  · exact .inr ⟨if_neg h0, by unfold cmdP; rw [if_neg (show ¬ (addP p f ys).left = 0 from h0)]; exact hd⟩
theorem syn_gen {p : PD} (hd : p.down = false) {f : Nat} (hf : f < 4) :
    (synP p f).xs = p.xs ∧ (synP p f).cap = p.cap ∧ ((synE p f = 40 ∧ (synP p f).s = p.s ∧ (synP p f).down = true) ∨ (synE p f = 0 ∧ (synP p f).s = upd p.s f (p.xs f).length ∧ (synP p f).down = false)) := by
  have hc : checkE p f = 0 := by unfold checkE; rw [hd, file_lt hf]; rfl
  obtain ⟨h1, h2, h3⟩ := cmd_xs p
  by_cases h0 : p.left = 0
  · have e : cmdE p = 40 := if_pos h0
    unfold synE synP secP
    rw [if_pos hc, if_pos hc, e, if_neg (by decide)]
    exact ⟨h1, h3, .inl ⟨rfl, h2, by unfold cmdP; rw [if_pos h0]⟩⟩
  · have e : cmdE p = 0 := if_neg h0
    unfold synE synP secP
    rw [if_pos hc, if_pos hc, e, if_pos rfl, Int.toNat_natCast]
    refine ⟨?_, h3, .inr ⟨rfl, ?_, ?_⟩⟩
    · show upd (cmdP p).xs f (((cmdP p).xs f).take (p.xs f).length) = p.xs
      rw [h1, List.take_length, upd_self]
    · show upd (cmdP p).s f _ = _
      rw [h2]
    · show (cmdP p).down = false
      unfold cmdP; rw [if_neg h0]; exact hd
theorem ct_gen2 {p : PD} (hd : p.down = false) {i n : Nat} (hi : i < 4) (hn : n ≤ (p.xs i).length) :
    (ctP p i n).cap = p.cap ∧ ((ctE p i n = 40 ∧ (ctP p i n).xs = p.xs ∧ (ctP p i n).s = p.s ∧ (ctP p i n).down = true) ∨ (ctE p i n = 0 ∧ (ctP p i n).xs = upd p.xs i ((p.xs i).take n) ∧ (ctP p i n).s = upd p.s i n ∧ (ctP p i n).down = false)) := by
  have hc : checkE p i = 0 := by unfold checkE; rw [hd, file_lt hi]; rfl
  have hr : 0 ≤ (n : Int) ∧ (n : Int) ≤ (p.xs (i : Int).toNat).length := by rw [Int.toNat_natCast]; omega
  obtain ⟨h1, h2, h3⟩ := cmd_xs p
  by_cases h0 : p.left = 0
  · have e : cmdE p = 40 := if_pos h0
    unfold ctE ctP secP
    rw [if_pos hc, if_pos hc, if_pos hr, if_pos hr, e, if_neg (by decide)]
    exact ⟨h3, .inl ⟨rfl, h1, h2, by unfold cmdP; rw [if_pos h0]⟩⟩
  · have e : cmdE p = 0 := if_neg h0
    unfold ctE ctP secP
    rw [if_pos hc, if_pos hc, if_pos hr, if_pos hr, e, if_pos rfl, Int.toNat_natCast, Int.toNat_natCast]
    refine ⟨h3, .inr ⟨rfl, ?_, ?_, ?_⟩⟩
    · show upd (cmdP p).xs i (((cmdP p).xs i).take n) = _
      rw [h1]
    · show upd (cmdP p).s i n = _
      rw [h2]
    · show (cmdP p).down = false
      unfold cmdP; rw [if_neg h0]; exact hd
/-- What lies on the disk behind k calls: a segment, and maybe the head that is to follow it. -/
structure Cr (k : Nat) (p : PD) (f : Nat) (gen : Int) (cp : List UInt8) (gs : List (List (List UInt8))) (u : Nat) (ot : Option (List UInt8)) : Prop where
  ok : p.Ok
  f2 : f < 2
  x : p.xs f = headB gen cp ++ catG gs
  xo : p.xs (1 - f) = ot.elim [] (headB (gen + 1))
  x2 : p.xs 2 = []
  x3 : p.xs 3 = []
  g1 : 1 ≤ gen
  g2 : gen ≤ k + 1
  hs : ((headB gen cp ++ catG (gs.take u)).length : Int) ≤ p.s f
  hu : u ≤ gs.length
  n : (p.xs f).length ≤ 400 + 1800 * k
  d : p.done ≤ 10 + 10 * k
  sh : ShortG gs
  hc : cp.length ≤ 300
  ho : ∀ c, ot = some c → c.length ≤ 300
  cap : p.cap = 1048576
theorem Cr.more {k : Nat} {p : PD} {f : Nat} {gen : Int} {cp : List UInt8} {gs : List (List (List UInt8))} {u : Nat} {ot : Option (List UInt8)} (h : Cr k p f gen cp gs u ot) : Cr (k + 1) p f gen cp gs u ot := by
  obtain ⟨a1, a2, a3, a4, a5, a6, a7, a8, a9, b1, b2, b3, b4, b5, b6, b7⟩ := h
  exact ⟨a1, a2, a3, a4, a5, a6, a7, by omega, a9, b1, by omega, by omega, b4, b5, b6, b7⟩
/-- The log is open, the power there. -/
structure Lv (p : PD) (L : LV) (f : Nat) (gen : Int) : Prop where
  lf : L.f = f
  g : L.gen = gen
  sz : L.size = (p.xs f).length
  lo : L.loose = false → p.s f = (p.xs f).length
  dn : L.down = false
  pd : p.down = false
/-- The power has gone. -/
structure Gone (p : PD) (L : LV) : Prop where
  dn : L.down = true
  pd : p.down = true
  f2 : L.f < 2
  g0 : 0 ≤ L.gen
  g1 : L.gen ≤ 1000
  sz : L.size ≤ 1000000
theorem Cr.used {k : Nat} {p : PD} {f : Nat} {gen : Int} {cp : List UInt8} {gs : List (List (List UInt8))} {u : Nat} (h : Cr k p f gen cp gs u none) : p.used = (p.xs f).length := by
  unfold PD.used
  have hf := h.f2
  have h2 := h.x2
  have h3 := h.x3
  have ho := h.xo
  rcases (by omega : f = 0 ∨ f = 1) with e | e
  · rw [e] at ho ⊢
    rw [show p.xs 1 = [] from ho, h2, h3]; simp
  · rw [e] at ho ⊢
    rw [show p.xs 0 = [] from ho, h2, h3]; simp
theorem Cr.append {k : Nat} {p : PD} {L : LV} {f : Nat} {gen : Int} {cp : List UInt8} {gs : List (List (List UInt8))} {u : Nat} (h : Cr k p f gen cp gs u none) (v : Lv p L f gen) (hk : k ≤ 100) {rs : List (List UInt8)} (hr : RecOk rs) (h0 : rs.length ≠ 0) :
    Cr (k + 1) (appendR p L rs).2.1 f gen cp (gs ++ [rs]) u none ∧ (((appendR p L rs).1 = 0 ∧ Lv (appendR p L rs).2.1 (appendR p L rs).2.2 f gen) ∨ ((appendR p L rs).1 = 40 ∧ Gone (appendR p L rs).2.1 (appendR p L rs).2.2)) := by
  have hl := recOk_len hr
  have hn := h.n
  have hf := h.f2
  have hu := h.used
  have hcap := h.cap
  obtain ⟨a1, a2, a3, a4⟩ := app_gen v.pd (f := L.f) (by rw [v.lf]; omega) (groupB rs) (by rw [hu]; omega)
  rw [v.lf] at a1 a2 a3 a4
  have e : appendR p L rs = (appE p f (groupB rs).length, appP p f (groupB rs), if appE p f (groupB rs).length = 0 then ⟨L.f, L.gen, L.size + (groupB rs).length, true, false⟩ else ⟨L.f, L.gen, L.size, L.loose, appE p f (groupB rs).length == 40⟩) := by
    unfold appendR
    rw [powR_up v.dn]
    unfold appR
    rw [if_neg h0, v.lf]
    by_cases hz : appE p f (groupB rs).length = 0
    · rw [if_pos hz, if_pos hz, hz]; rfl
    · rw [if_neg hz, if_neg hz]
      show (appE p f (groupB rs).length, appP p f (groupB rs), (⟨L.f, L.gen, L.size, L.loose, appE p f (groupB rs).length == 40⟩ : LV)) = _
      rw [v.lf]
  have hx : (appP p f (groupB rs)).xs f = p.xs f ++ groupB rs := by rw [a1, upd_same]
  have hcr : Cr (k + 1) (appP p f (groupB rs)) f gen cp (gs ++ [rs]) u none := by
    refine ⟨app_ok h.ok _ _, hf, ?_, ?_, ?_, ?_, h.g1, by have := h.g2; omega, ?_, by have := h.hu; rw [List.length_append]; omega, ?_, ?_, short_snoc h.sh hr, h.hc, h.ho, a3.trans hcap⟩
    · rw [hx, h.x, catG_snoc, List.append_assoc]
    · rw [a1, upd_other _ _ (by omega)]; exact h.xo
    · rw [a1, upd_other _ _ (by omega)]; exact h.x2
    · rw [a1, upd_other _ _ (by omega)]; exact h.x3
    · rw [a2, List.take_append_of_le_length h.hu]; exact h.hs
    · rw [hx, List.length_append]; omega
    · have := (app_done p f (groupB rs)).2
      have := h.d
      omega
  rw [e]
  refine ⟨hcr, ?_⟩
  rcases a4 with ⟨b1, b2⟩ | ⟨b1, b2⟩
  · right
    refine ⟨b1, ?_⟩
    show Gone _ (if appE p f (groupB rs).length = 0 then _ else _ : LV)
    rw [b1, if_neg (by decide)]
    exact ⟨rfl, b2, (by show L.f < 2; rw [v.lf]; exact hf), (by show 0 ≤ L.gen; rw [v.g]; have := h.g1; omega), (by show L.gen ≤ 1000; rw [v.g]; have := h.g2; omega), (by show L.size ≤ 1000000; rw [v.sz]; omega)⟩
  · left
    refine ⟨b1, ?_⟩
    show Lv _ (if appE p f (groupB rs).length = 0 then _ else _ : LV) f gen
    rw [b1, if_pos rfl]
    exact ⟨v.lf, v.g, by show L.size + _ = _; rw [hx, v.sz, List.length_append], (fun e => by cases e), rfl, b2⟩
theorem Cr.sync {k : Nat} {p : PD} {L : LV} {f : Nat} {gen : Int} {cp : List UInt8} {gs : List (List (List UInt8))} {u : Nat} (h : Cr k p f gen cp gs u none) (v : Lv p L f gen) (hk : k ≤ 100) :
    ((syncR p L).1 = 0 ∧ Cr (k + 1) (syncR p L).2.1 f gen cp gs gs.length none ∧ Lv (syncR p L).2.1 (syncR p L).2.2 f gen) ∨ ((syncR p L).1 = 40 ∧ Cr (k + 1) (syncR p L).2.1 f gen cp gs u none ∧ Gone (syncR p L).2.1 (syncR p L).2.2) := by
  have hf := h.f2
  unfold syncR
  rw [powR_up v.dn]
  unfold synR
  cases hlo : L.loose with
  | false =>
    rw [if_neg (by decide)]
    left
    refine ⟨rfl, ?_, v.lf, v.g, v.sz, fun _ => v.lo hlo, rfl, v.pd⟩
    obtain ⟨a1, a2, a3, a4, a5, a6, a7, a8, a9, b1, b2, b3, b4, b5, b6, b7⟩ := h.more
    exact ⟨a1, a2, a3, a4, a5, a6, a7, a8, by rw [List.take_length, v.lo hlo, ← a3]; exact Int.le_refl _, Nat.le_refl _, b2, b3, b4, b5, b6, b7⟩
  | true =>
    rw [if_pos rfl]
    have LG0 : 0 ≤ L.gen := by rw [v.g]; have := h.g1; omega
    have LG1 : L.gen ≤ 1000 := by rw [v.g]; have := h.g2; omega
    have LS' : L.size ≤ 1000000 := by rw [v.sz]; have := h.n; omega
    obtain ⟨a1, a2, a3⟩ := syn_gen v.pd (f := L.f) (by rw [v.lf]; omega)
    rw [v.lf] at a1 a2 a3 ⊢
    have hd := (syn_done p f).2
    have hok := syn_okG h.ok (f : Int)
    rcases a3 with ⟨b1, b2, b3⟩ | ⟨b1, b2, b3⟩
    · right
      refine ⟨b1, ⟨hok, hf, by show (synP p f).xs f = _; rw [a1]; exact h.x, by show (synP p f).xs _ = _; rw [a1]; exact h.xo, by show (synP p f).xs _ = _; rw [a1]; exact h.x2, by show (synP p f).xs _ = _; rw [a1]; exact h.x3, h.g1, by have := h.g2; omega, by show _ ≤ (synP p f).s f; rw [b2]; exact h.hs, h.hu, by show ((synP p f).xs f).length ≤ _; rw [a1]; have := h.n; omega, by show (synP p f).done ≤ _; have := h.d; omega, h.sh, h.hc, h.ho, a2.trans h.cap⟩, ?_, b3, hf, LG0, LG1, LS'⟩
      show (synE p f == 40) = true
      rw [b1]; rfl
    · left
      have hs : (synP p f).s f = (p.xs f).length := by rw [b2, upd_same]
      refine ⟨b1, ⟨hok, hf, by show (synP p f).xs f = _; rw [a1]; exact h.x, by show (synP p f).xs _ = _; rw [a1]; exact h.xo, by show (synP p f).xs _ = _; rw [a1]; exact h.x2, by show (synP p f).xs _ = _; rw [a1]; exact h.x3, h.g1, by have := h.g2; omega, ?_, Nat.le_refl _, by show ((synP p f).xs f).length ≤ _; rw [a1]; have := h.n; omega, by show (synP p f).done ≤ _; have := h.d; omega, h.sh, h.hc, h.ho, a2.trans h.cap⟩, rfl, v.g, ?_, fun _ => ?_, ?_, b3⟩
      · show _ ≤ (synP p f).s f
        rw [List.take_length, hs, h.x]; exact Int.le_refl _
      · show L.size = ((synP p f).xs f).length
        rw [a1]; exact v.sz
      · show (synP p f).s f = ((synP p f).xs f).length
        rw [hs, a1]
      · show (synE p f == 40) = false
        rw [b1]; rfl
theorem gone_calls {p : PD} {L : LV} (h : Gone p L) (rs : List (List UInt8)) (cp : List UInt8) : appendR p L rs = (40, p, L) ∧ syncR p L = (40, p, L) ∧ commitR p L rs = (40, p, L) ∧ compactR p L cp = (40, p, L) := by
  have e : ∀ r, powR p L r = (40, p, L) := fun r => by unfold powR; rw [h.dn]; rfl
  refine ⟨e _, e _, ?_, e _⟩
  unfold commitR
  rw [show appendR p L rs = (40, p, L) from e _, if_neg (show ¬ (40 : Int) = 0 by decide)]
end Go.Proofs.YtkdebebpnkjmdaaDoor
namespace Go.Proofs.YtkdebebpnkjmdaaDoor

theorem Cr.compact {k : Nat} {p : PD} {L : LV} {f : Nat} {gen : Int} {cp : List UInt8} {gs : List (List (List UInt8))} {u : Nat} (h : Cr k p f gen cp gs u none) (v : Lv p L f gen) (hk : k ≤ 100) {cp' : List UInt8} (hr : cp'.length ≤ 300) :
    ((compactR p L cp').1 = 0 ∧ Cr (k + 1) (compactR p L cp').2.1 (1 - f) (gen + 1) cp' [] 0 none ∧ Lv (compactR p L cp').2.1 (compactR p L cp').2.2 (1 - f) (gen + 1)) ∨
    ((compactR p L cp').1 = 40 ∧ Cr (k + 1) (compactR p L cp').2.1 f gen cp gs u (some cp') ∧ Gone (compactR p L cp').2.1 (compactR p L cp').2.2) := by
  have hf := h.f2
  have hn := h.n
  have hu := h.used
  have hcap := h.cap
  have hb := (headB_bd (gen + 1) cp').2
  have hd0 := h.d
  have e0 : emptyR p L (1 - f) = (0, p, L) := by unfold emptyR; rw [h.xo]; rfl
  obtain ⟨a1, a2, a3, a4⟩ := app_gen v.pd (f := 1 - f) (by omega) (headB (gen + 1) cp') (by rw [hu]; omega)
  have aok := app_ok h.ok ((1 - f : Nat) : Int) (headB (gen + 1) cp')
  have ad := (app_done p ((1 - f : Nat) : Int) (headB (gen + 1) cp')).2
  have hx1 : (appP p (1 - f : Nat) (headB (gen + 1) cp')).xs (1 - f) = headB (gen + 1) cp' := by
    rw [a1, upd_same, h.xo]; rfl
  have hx0 : (appP p (1 - f : Nat) (headB (gen + 1) cp')).xs f = p.xs f := by rw [a1, upd_other _ _ (by omega)]
  have hx2 : (appP p (1 - f : Nat) (headB (gen + 1) cp')).xs 2 = [] := by rw [a1, upd_other _ _ (by omega)]; exact h.x2
  have hx3 : (appP p (1 - f : Nat) (headB (gen + 1) cp')).xs 3 = [] := by rw [a1, upd_other _ _ (by omega)]; exact h.x3
  -- the segment with the head that is to follow it, at a disk like this one
  have mid : ∀ q : PD, q.Ok → q.xs = (appP p (1 - f : Nat) (headB (gen + 1) cp')).xs → q.s f = p.s f → q.cap = p.cap → q.done ≤ p.done + 4 → Cr (k + 1) q f gen cp gs u (some cp') := fun q b1 b2 b3 b4 b5 =>
    ⟨b1, hf, by rw [b2, hx0]; exact h.x, by rw [b2]; exact hx1, by rw [b2]; exact hx2, by rw [b2]; exact hx3, h.g1, by have := h.g2; omega, by rw [b3]; exact h.hs, h.hu, by rw [b2, hx0]; omega, by omega, h.sh, h.hc, fun c e => by injection e with e; rw [← e]; exact hr, b4.trans hcap⟩
  have LF : L.f < 2 := by rw [v.lf]; exact hf
  have LG0 : 0 ≤ L.gen := by rw [v.g]; have := h.g1; omega
  have LG1 : L.gen ≤ 1000 := by rw [v.g]; have := h.g2; omega
  have LS' : L.size ≤ 1000000 := by rw [v.sz]; omega
  unfold compactR
  rw [powR_up v.dn]
  unfold compR rewR
  rw [v.lf, v.g, e0, if_pos rfl]
  unfold rewA
  dsimp only
  rcases a4 with ⟨b1, b2⟩ | ⟨b1, b2⟩
  · have b1' : ¬ appE p ((1 - f : Nat) : Int) (headB (gen + 1) cp').length = 0 := by rw [b1]; decide
    rw [if_neg b1']
    dsimp only
    rw [if_neg b1']
    right
    have hm := mid _ aok rfl (by rw [a2]) a3 (by omega)
    refine ⟨b1, hm, ?_, b2, LF, LG0, LG1, LS'⟩
    show (appE p (1 - f : Nat) (headB (gen + 1) cp').length == 40) = true
    rw [b1]; rfl
  · rw [if_pos b1]
    unfold rewS
    obtain ⟨c1, c2, c3⟩ := syn_gen b2 (f := 1 - f) (by omega)
    have sok := syn_okG aok ((1 - f : Nat) : Int)
    have sd := (syn_done (appP p (1 - f : Nat) (headB (gen + 1) cp')) ((1 - f : Nat) : Int)).2
    rcases c3 with ⟨d1, d2, d3⟩ | ⟨d1, d2, d3⟩
    · have d1' : ¬ synE (appP p ((1 - f : Nat) : Int) (headB (gen + 1) cp')) ((1 - f : Nat) : Int) = 0 := by rw [d1]; decide
      rw [if_neg d1']
      dsimp only
      rw [if_neg d1']
      right
      have hm := mid _ sok c1 (by rw [d2, a2]) (c2.trans a3) (by omega)
      refine ⟨d1, hm, ?_, d3, LF, LG0, LG1, LS'⟩
      show (synE _ (1 - f : Nat) == 40) = true
      rw [d1]; rfl
    · rw [if_pos d1, if_pos (show (0 : Int) = 0 from rfl)]
      dsimp only
      have hs1 : (synP (appP p (1 - f : Nat) (headB (gen + 1) cp')) (1 - f : Nat)).s f = p.s f := by rw [d2, upd_other _ _ (by omega), a2]
      have hs2 : (synP (appP p (1 - f : Nat) (headB (gen + 1) cp')) (1 - f : Nat)).s (1 - f) = (headB (gen + 1) cp').length := by rw [d2, upd_same, hx1]
      obtain ⟨m1, m2⟩ := ct_gen2 d3 (i := f) (n := 0) (by omega) (Nat.zero_le _)
      have cok := ct_ok sok (f : Int) 0
      have cd := (ct_done (synP (appP p (1 - f : Nat) (headB (gen + 1) cp')) (1 - f : Nat)) (f : Int) 0).2
      rcases m2 with ⟨q1, q2, q3, q4⟩ | ⟨q1, q2, q3, q4⟩
      · right
        have q1' : ctE (synP (appP p (1 - f : Nat) (headB (gen + 1) cp')) (1 - f : Nat)) f 0 = 40 := q1
        have hm := mid _ cok (q2.trans c1) (by have e : (ctP (synP (appP p (1 - f : Nat) (headB (gen + 1) cp')) (1 - f : Nat)) f 0).s = _ := q3; rw [e]; exact hs1) (m1.trans (c2.trans a3)) (by omega)
        refine ⟨q1', hm, ?_, q4, (by show 1 - f < 2; omega), (by show 0 ≤ gen + 1; have := h.g1; omega), (by show gen + 1 ≤ 1000; have := h.g2; omega), (by show (headB (gen + 1) cp').length ≤ 1000000; omega)⟩
        show (ctE _ (f : Int) 0 == 40) = true
        rw [q1']; rfl
      · left
        have q1' : ctE (synP (appP p (1 - f : Nat) (headB (gen + 1) cp')) (1 - f : Nat)) f 0 = 0 := q1
        have q2' : (ctP (synP (appP p (1 - f : Nat) (headB (gen + 1) cp')) (1 - f : Nat)) f 0).xs = upd (appP p (1 - f : Nat) (headB (gen + 1) cp')).xs f [] := by
          have e : (ctP (synP (appP p (1 - f : Nat) (headB (gen + 1) cp')) (1 - f : Nat)) f 0).xs = _ := q2
          rw [e, c1]; rfl
        have q3' : (ctP (synP (appP p (1 - f : Nat) (headB (gen + 1) cp')) (1 - f : Nat)) f 0).s (1 - f) = (headB (gen + 1) cp').length := by
          have e : (ctP (synP (appP p (1 - f : Nat) (headB (gen + 1) cp')) (1 - f : Nat)) f 0).s = _ := q3
          rw [e, upd_other _ _ (by omega)]; exact hs2
        have hy : (ctP (synP (appP p (1 - f : Nat) (headB (gen + 1) cp')) (1 - f : Nat)) f 0).xs (1 - f) = headB (gen + 1) cp' := by rw [q2', upd_other _ _ (by omega)]; exact hx1
        refine ⟨q1', ⟨cok, by omega, ?_, ?_, ?_, ?_, by have := h.g1; omega, by have := h.g2; omega, ?_, Nat.le_refl _, ?_, by show (ctP (synP (appP p ((1 - f : Nat) : Int) (headB (gen + 1) cp')) ((1 - f : Nat) : Int)) (f : Int) 0).done ≤ _; omega, (fun x hx => by simp at hx), hr, (fun c e => by cases e), m1.trans (c2.trans (a3.trans hcap))⟩, rfl, rfl, ?_, fun _ => ?_, ?_, q4⟩
        · show (ctP _ _ _).xs (1 - f) = _
          rw [hy]; simp [catG]
        · show (ctP _ _ _).xs (1 - (1 - f)) = _
          rw [show 1 - (1 - f) = f by omega, q2', upd_same]; rfl
        · show (ctP _ _ _).xs 2 = _
          rw [q2', upd_other _ _ (by omega)]; exact hx2
        · show (ctP _ _ _).xs 3 = _
          rw [q2', upd_other _ _ (by omega)]; exact hx3
        · show _ ≤ (ctP _ _ _).s (1 - f)
          rw [q3']; simp [catG]
        · show ((ctP _ _ _).xs (1 - f)).length ≤ _
          rw [hy]; omega
        · show (headB (gen + 1) cp').length = ((ctP _ _ _).xs (1 - f)).length
          rw [hy]
        · show (ctP _ _ _).s (1 - f) = ((ctP _ _ _).xs (1 - f)).length
          rw [q3', hy]
        · show (ctE _ (f : Int) 0 == 40) = false
          rw [q1']; rfl
/-- Behind a crash: the segment with a beginning of its groups, or the new head alone. -/
theorem Cr.crash {k : Nat} {p : PD} {f : Nat} {gen : Int} {cp : List UInt8} {gs : List (List (List UInt8))} {u : Nat} {ot : Option (List UInt8)} (h : Cr k p f gen cp gs u ot) (hk : k ≤ 100) (ks : List Int) :
    (∃ n, n ≤ gs.length ∧ u ≤ n ∧ One (crashP p ks) f gen cp (gs.take n)) ∨ ∃ cp', ot = some cp' ∧ One (crashP p ks) (1 - f) (gen + 1) cp' [] := by
  have hf := h.f2
  have g1 := h.g1
  have g2 := h.g2
  obtain ⟨hxf, hsf⟩ := crash_at (p := p) ks (i := f) (by omega)
  obtain ⟨hxo, hso⟩ := crash_at (p := p) ks (i := 1 - f) (by omega)
  have hge := crN_ge h.ok ks (i := f) (by omega)
  have hle := (crI_ok h.ok ks (i := f) (by omega)).2
  have hleo := (crI_ok h.ok ks (i := 1 - f) (by omega)).2
  have hhs := h.hs
  have hxl := h.x
  have hn := h.n
  rw [hxl] at hn
  have h2 := (crash_at (p := p) ks (i := 2) (by omega)).1
  have h3 := (crash_at (p := p) ks (i := 3) (by omega)).1
  rw [h.x2, List.take_nil] at h2
  rw [h.x3, List.take_nil] at h3
  have hsafe : ∀ i, i < 4 → (crashP p ks).s i = ((crashP p ks).xs i).length := fun i hi => by
    obtain ⟨q1, q2⟩ := crash_at (p := p) ks hi
    rw [q1, q2, List.length_take, Nat.min_eq_left (crI_ok h.ok ks hi).2]
  have hg : Int64 gen := ⟨by omega, by omega⟩
  obtain ⟨n, n1, n2, n3, n4, n5⟩ := seg_cut hg g1 (by have := h.hc; omega : cp.length ≤ 2000) h.sh (crN p ks f) (by
    have h1 : (headB gen cp).length ≤ (headB gen cp ++ catG (gs.take u)).length := by rw [List.length_append]; omega
    omega) (by omega)
  have hsh : ShortG (gs.take n) := fun rs hr => h.sh rs (List.mem_of_mem_take hr)
  have hpre : (headB gen cp ++ catG gs).take (headB gen cp ++ catG (gs.take n)).length = headB gen cp ++ catG (gs.take n) := by
    have e : headB gen cp ++ catG gs = (headB gen cp ++ catG (gs.take n)) ++ catG (gs.drop n) := by
      have e0 : catG gs = catG (gs.take n) ++ catG (gs.drop n) := by unfold catG; rw [← List.flatMap_append, List.take_append_drop]
      rw [List.append_assoc, ← e0]
    rw [e, List.take_left]
  have hln : (headB gen cp ++ catG (gs.take n)).length ≤ 1073741824 := by
    have := congrArg List.length hpre
    rw [List.length_take] at this; omega
  have old : (segM ((crashP p ks).xs (1 - f))).gen < gen ∨ ((segM ((crashP p ks).xs (1 - f))).gen = gen ∧ f = 0) → ∃ n, n ≤ gs.length ∧ u ≤ n ∧ One (crashP p ks) f gen cp (gs.take n) := fun hlow =>
    ⟨n, n1, n5 u h.hu (by omega), hf, g1, hg, by have := h.hc; omega, hsh, hln, by rw [hxf, hxl]; exact n3, hlow, by rw [hxf, hxl, List.take_take, Nat.min_eq_left n4]; exact hpre, h2, h3, hsafe⟩
  cases ot with
  | none =>
    left
    refine old (.inl ?_)
    rw [hxo, h.xo]
    show (segM (([] : List UInt8).take _)).gen < gen
    rw [List.take_nil, seg_nil.2]
    show (0 : Int) < gen
    omega
  | some cp' =>
    have hxo' : p.xs (1 - f) = headB (gen + 1) cp' := h.xo
    have hc' := h.ho cp' rfl
    rw [hxo'] at hleo
    rcases Nat.lt_or_ge (crN p ks (1 - f)) (headB (gen + 1) cp').length with ht | ht
    · left
      refine old (.inl ?_)
      rw [hxo, hxo', (seg_torn (by omega) _ ht).2]
      show (0 : Int) < gen
      omega
    · right
      have hb := (headB_bd (gen + 1) cp').2
      have hwhole : (crashP p ks).xs (1 - f) = headB (gen + 1) cp' ++ catG [] := by
        rw [hxo, hxo', List.take_of_length_le ht]; simp [catG]
      have hfull := seg_full (gen := gen + 1) (cp := cp') (gs := []) ⟨by omega, by omega⟩ (by omega) (by omega) (fun x hx => by simp at hx) (by simp [catG]; omega)
      refine ⟨cp', rfl, by omega, by omega, ⟨by omega, by omega⟩, by omega, (fun x hx => by simp at hx), by simp [catG]; omega, by rw [hwhole]; exact hfull, ?_, by rw [hwhole, List.take_length], h2, h3, hsafe⟩
      left
      rw [show 1 - (1 - f) = f by omega, hxf, hxl, n3]
      show gen < gen + 1
      omega
/-- What Open leaves, if the power stays. -/
theorem One.opens_full {p : PD} {f : Nat} {gen : Int} {cp : List UInt8} {gs : List (List (List UInt8))} (h : One p f gen cp gs) (hc : Cm p) :
    (openR p).1 = 0 ∧ (openR p).2.1.xs f = headB gen cp ++ catG gs ∧ (openR p).2.1.xs (1 - f) = [] ∧ (openR p).2.1.s f = (headB gen cp ++ catG gs).length ∧ (openR p).2.1.xs 2 = [] ∧ (openR p).2.1.xs 3 = [] ∧ (openR p).2.1.cap = p.cap ∧ (openR p).2.2 = ⟨f, gen, (headB gen cp ++ catG gs).length, false, false⟩ := by
  have hgen : ¬ gen = 0 := by have := h.g1; omega
  obtain ⟨e1, e2⟩ := h.open
  have eL : openL p = ⟨f, gen, (headB gen cp ++ catG gs).length, false, false⟩ := by unfold openL; rw [e1, e2]
  have hle : (headB gen cp ++ catG gs).length ≤ (p.xs f).length := by
    have := congrArg List.length h.x
    rw [List.length_take] at this; omega
  have hf := h.hf
  have ht : (trimR p (openL p)).1 = 0 ∧ Cm (trimR p (openL p)).2.1 ∧ (trimR p (openL p)).2.1.xs = upd p.xs f (headB gen cp ++ catG gs) ∧ (trimR p (openL p)).2.1.s f = (headB gen cp ++ catG gs).length ∧ (trimR p (openL p)).2.1.cap = p.cap := by
    rw [eL]
    unfold trimR
    by_cases hz : (headB gen cp ++ catG gs).length < (p.xs f).length
    · rw [if_pos hz]
      obtain ⟨a1, a2, a3⟩ := hc.ct (f := f) (n := (headB gen cp ++ catG gs).length) (by omega) hle
      refine ⟨a1, a3, ?_, ?_, ?_⟩
      · show (ctP p f _).xs = _
        rw [a2]
        show upd p.xs f ((p.xs f).take _) = _
        rw [h.x]
      · show (ctP p f _).s f = _
        rw [a2]; exact upd_same _ _ _
      · show (ctP p f _).cap = _
        rw [a2]
    · rw [if_neg hz, if_neg (by show ¬ p.s f < ((p.xs f).length : Int); rw [h.safe f (by omega)]; omega)]
      have hxe : p.xs f = headB gen cp ++ catG gs := by
        have := h.x
        rw [List.take_of_length_le (by omega)] at this
        exact this
      exact ⟨rfl, hc, by show p.xs = _; rw [← hxe, upd_self], by show p.s f = _; rw [h.safe f (by omega), hxe], rfl⟩
  obtain ⟨t1, t2, t3, t4, t5⟩ := ht
  have eR : openR p = emptyR (trimR p (openL p)).2.1 (openL p) (1 - f) := by
    unfold openR prepR
    rw [if_neg (by rw [eL]; exact hgen), if_pos t1]
    rw [show (openL p).f = f by rw [eL]]
  obtain ⟨m1, m2, m3, m4, m5, m6⟩ := t2.empty (openL p) (f := 1 - f) (by omega)
  rw [eR]
  refine ⟨m1, ?_, ?_, ?_, ?_, ?_, m5.trans t5, by rw [m6, eL]⟩
  · rw [m3, upd_other _ _ (by omega), t3, upd_same]
  · rw [m3, upd_same]
  · rw [m4, upd_other _ _ (by omega)]; exact t4
  · rw [m3, upd_other _ _ (by omega), t3, upd_other _ _ (by omega)]; exact h.x2
  · rw [m3, upd_other _ _ (by omega), t3, upd_other _ _ (by omega)]; exact h.x3
/-- So the log lives again. -/
theorem One.lives {k : Nat} {p : PD} {f : Nat} {gen : Int} {cp : List UInt8} {gs : List (List (List UInt8))} (h : One p f gen cp gs) (hc : Cm p) (hk : gen ≤ k + 1) (hn : (headB gen cp ++ catG gs).length ≤ 400 + 1800 * k) (hd : p.done ≤ 3 + 10 * k) (hcp : cp.length ≤ 300) (hcap : p.cap = 1048576) :
    (openR p).1 = 0 ∧ Cr k (openR p).2.1 f gen cp gs gs.length none ∧ Lv (openR p).2.1 (openR p).2.2 f gen := by
  obtain ⟨m1, m2, m3, m4, m5, m6, m7, m8⟩ := h.opens_full hc
  have hok := openR_ok hc.ok
  refine ⟨m1, ⟨hok.1, h.hf, m2, m3, m5, m6, h.g1, hk, by rw [m4, List.take_length]; exact Int.le_refl _, Nat.le_refl _, by rw [m2]; exact hn, by have := hok.2; omega, h.hs, hcp, (fun c e => by cases e), m7.trans hcap⟩, by rw [m8], by rw [m8], by rw [m8, m2], fun _ => by rw [m4, m2], by rw [m8], (h.opens_calm hc).down⟩
end Go.Proofs.YtkdebebpnkjmdaaDoor
namespace Go.Proofs.YtkdebebpnkjmdaaDoor
open Go.RowKit

def fitsB (cp : List UInt8) (gs : List (List (List UInt8))) (u : Int) (cp' : List UInt8) (fs : List (List (List UInt8))) : Bool :=
  decide (cp' = cp) && (decide (u ≤ fs.length) && (decide (fs.length ≤ gs.length) && decide (fs = gs.take fs.length)))
theorem gsOf_take (gs : List GH) (n : Nat) : gsOf (gs.take n) = (gsOf gs).take n := by simp [gsOf, List.map_take]
theorem GrpsIn.take {P : Nat → Prop} {w : World} {A : Option Addr} {gs : List GH} (h : GrpsIn P w A gs) (n : Nat) : GrpsIn P w A (gs.take n) := fun j hj => by
  rw [List.length_take] at hj
  obtain ⟨b, off, e, h1, h2, h3, h4, h5⟩ := h j (by omega)
  have e2 : (gs.take n).getD j dG = gs.getD j dG := by
    rw [List.getD_eq_getElem?_getD, List.getD_eq_getElem?_getD, List.getElem?_take_of_lt (by omega)]
  rw [e2]
  exact ⟨b, off, e, h1, h2, h3, h4, h5⟩
set_option maxHeartbeats 12800000 in
set_option maxRecDepth 100000 in
theorem fits_any {P Q : Nat → Prop} (A A2 B B2 : Option Addr) (c c2 d d2 : Nat) (cp cp' : List UInt8) (gs fs : List GH) (u : Int) (w : World) (hb : BytesIn P w A cp) (hg : GrpsIn P w A2 gs) (hb' : BytesIn Q w B cp') (hg' : GrpsIn Q w B2 fs) (hc2 : gs.length ≤ c2 ∧ c2 ≤ maxLen) (hd2 : fs.length ≤ maxLen) :
    Calls Tryd.prog 31 #[.agg #[.slice A cp.length c, .slice A2 gs.length c2, .int .i64 u], .agg #[.slice B cp'.length d, .slice B2 fs.length d2]] w fun e w' => e = .returned (.bool (fitsB cp (gsOf gs) u cp' (gsOf fs))) ∧ Below w.heap.size w w' := by
  obtain ⟨W, hW⟩ : ∃ W, W = (w.alloc (.cells #[.slice A cp.length c, .slice A2 gs.length c2, .int .i64 u] 58)).alloc (.cells #[.slice B cp'.length d, .slice B2 fs.length d2] 34) := ⟨_, rfl⟩
  have hw : Below w.heap.size w W := by rw [hW]; exact Joins.below_alloc2 w _ _
  have h1 : W.heap[w.heap.size]? = some (.cells #[.slice A cp.length c, .slice A2 gs.length c2, .int .i64 u] 58 (0, 0)) := by rw [hW, Below.heap_alloc _ _ _ (by simp)]; exact heap_alloc_new w _
  have h2 : W.heap[w.heap.size + 1]? = some (.cells #[.slice B cp'.length d, .slice B2 fs.length d2] 34 (0, 0)) := by
    rw [hW]
    have h := heap_alloc_new (w.alloc (.cells #[.slice A cp.length c, .slice A2 gs.length c2, .int .i64 u] 58)) (.cells #[.slice B cp'.length d, .slice B2 fs.length d2] 34)
    simpa using h
  have hl1 := block_lt h1
  have hl2 := block_lt h2
  have HCl := hide (fun w' (hb : Below W.heap.size W w') => (⟨(hb.cell (p := ⟨w.heap.size, 0, none⟩) hl1).trans (Lib.cell_of_heap h1 0), (hb.cell (p := ⟨w.heap.size, 1, none⟩) hl1).trans (Lib.cell_of_heap h1 1), (hb.cell (p := ⟨w.heap.size, 2, none⟩) hl1).trans (Lib.cell_of_heap h1 2), (hb.cell (p := ⟨w.heap.size + 1, 0, none⟩) hl2).trans (Lib.cell_of_heap h2 0), (hb.cell (p := ⟨w.heap.size + 1, 1, none⟩) hl2).trans (Lib.cell_of_heap h2 1)⟩ :
    w'.cell? ⟨w.heap.size, 0, none⟩ = some (.slice A cp.length c) ∧ w'.cell? ⟨w.heap.size, 1, none⟩ = some (.slice A2 gs.length c2) ∧ w'.cell? ⟨w.heap.size, 2, none⟩ = some (.int .i64 u) ∧ w'.cell? ⟨w.heap.size + 1, 0, none⟩ = some (.slice B cp'.length d) ∧ w'.cell? ⟨w.heap.size + 1, 1, none⟩ = some (.slice B2 fs.length d2)))
  have HCv := hide (fun w' (hbw : Below W.heap.size W w') => And.intro (conv_bytes A c cp w' ((hb.below hw).below hbw).bytes) (conv_bytes B d cp' w' ((hb'.below hw).below hbw).bytes))
  have HG := hide (fun w' (hbw : Below W.heap.size W w') => groups_any B2 A2 d2 c2 fs (gs.take fs.length) w' ((hg'.below hw).below hbw) (((hg.take fs.length).below hw).below hbw) hd2)
  rw [gsOf_take] at HG
  have HW := hide hw
  have HWE := hide (show W = (w.alloc (.cells #[.slice A cp.length c, .slice A2 gs.length c2, .int .i64 u] 58)).alloc (.cells #[.slice B cp'.length d, .slice B2 fs.length d2] 34) from hW)
  have hfl := gsOf_len fs
  have hgl := gsOf_len gs
  have HB := hide (show fitsB cp (gsOf gs) u cp' (gsOf fs) = (decide (cp' = cp) && (decide (u ≤ fs.length) && (decide (fs.length ≤ gs.length) && decide (gsOf fs = (gsOf gs).take fs.length)))) by unfold fitsB; rw [hfl, hgl])
  obtain ⟨hca, hcb⟩ := hc2
  unfold maxLen at hcb hd2
  generalize fitsB cp (gsOf gs) u cp' (gsOf fs) = q at *
  generalize decide (gsOf fs = (gsOf gs).take fs.length) = qg at *
  clear hW hw h1 h2 hl1 hl2 hb hg hb' hg' hfl hgl
  by_cases e1 : cp' = cp
  · have hbe : (cp' == cp) = true := by rw [e1]; simp
    by_cases e2 : u ≤ (fs.length : Int)
    · by_cases e3 : fs.length ≤ gs.length
      · have e3i : (fs.length : Int) ≤ (gs.length : Int) := by omega
        have HQ := hide (show q = qg by rw [HB.out, decide_eq_true e1, decide_eq_true e2, decide_eq_true e3]; simp)
        have hlen : (gs.take fs.length).length = fs.length := by rw [List.length_take]; omega
        rw [hlen] at HG
        have hcap : fs.length ≤ c2 := by omega
        clear HB e1 hlen
        go_enter Tryd.func31, Tryd.ntmps31
        go_upto_region 1 with fail
        rw [<- HWE.out]
        refine wp_region_held_drew (S := fun w' => Below W.heap.size W w') (by kernel_rfl) ((Below.refl _ _).drew) (fun hS => ?_)
        refine wpAnyH_take (i := 0) (oi := ⟨some 5, _, _, _, _, _⟩) (v := ?_) rfl (by kernel_rfl) (by kernel_rfl) (by kernel_rfl) (fun _ _ _ h => h) (Or.inl ⟨by rfl, ?_⟩) hS ?_
        rotate_left 1
        · intro w' hw'
          obtain ⟨x0, x1, x2, y0, y1⟩ := HCl.out w' hw'; obtain ⟨hcv1, hcv2⟩ := HCv.out w' hw'
          go_simp
          all_goals with_reducible rfl
        try simp only [Act.put, List.setIfInBounds_toArray, List.set_cons_zero, List.set_cons_succ]
        refine wpAnyH_take (i := 1) (oi := ⟨some 6, _, _, _, _, _⟩) (v := ?_) rfl (by kernel_rfl) (by kernel_rfl) (by kernel_rfl) (fun _ _ _ h => h) (Or.inl ⟨by rfl, ?_⟩) hS ?_
        rotate_left 1
        · intro w' hw'
          obtain ⟨x0, x1, x2, y0, y1⟩ := HCl.out w' hw'; obtain ⟨hcv1, hcv2⟩ := HCv.out w' hw'
          go_simp
          all_goals with_reducible rfl
        try simp only [Act.put, List.setIfInBounds_toArray, List.set_cons_zero, List.set_cons_succ]
        refine wpAnyH_take (i := 2) (oi := ⟨some 7, _, _, _, _, _⟩) (v := ?_) rfl (by kernel_rfl) (by kernel_rfl) (by kernel_rfl) (fun _ _ _ h => h) (Or.inl ⟨by rfl, ?_⟩) hS ?_
        rotate_left 1
        · intro w' hw'
          obtain ⟨x0, x1, x2, y0, y1⟩ := HCl.out w' hw'; obtain ⟨hcv1, hcv2⟩ := HCv.out w' hw'
          go_simp
          all_goals with_reducible rfl
        try simp only [Act.put, List.setIfInBounds_toArray, List.set_cons_zero, List.set_cons_succ]
        refine wpAnyH_take (i := 3) (oi := ⟨some 8, _, _, _, _, _⟩) (v := ?_) rfl (by kernel_rfl) (by kernel_rfl) (by kernel_rfl) (fun _ _ _ h => h) (Or.inl ⟨by rfl, ?_⟩) hS ?_
        rotate_left 1
        · intro w' hw'
          obtain ⟨x0, x1, x2, y0, y1⟩ := HCl.out w' hw'; obtain ⟨hcv1, hcv2⟩ := HCv.out w' hw'
          go_simp
          all_goals with_reducible rfl
        try simp only [Act.put, List.setIfInBounds_toArray, List.set_cons_zero, List.set_cons_succ]
        refine wpAnyH_take (i := 4) (oi := ⟨some 9, _, _, _, _, _⟩) (v := ?_) rfl (by kernel_rfl) (by kernel_rfl) (by kernel_rfl) (fun _ _ _ h => h) (Or.inl ⟨by rfl, ?_⟩) hS ?_
        rotate_left 1
        · intro w' hw'
          obtain ⟨x0, x1, x2, y0, y1⟩ := HCl.out w' hw'; obtain ⟨hcv1, hcv2⟩ := HCv.out w' hw'
          go_simp
          all_goals with_reducible rfl
        try simp only [Act.put, List.setIfInBounds_toArray, List.set_cons_zero, List.set_cons_succ]
        refine wpAnyH_take (i := 5) (oi := ⟨some 10, _, _, _, _, _⟩) (v := ?_) rfl (by kernel_rfl) (by kernel_rfl) (by kernel_rfl) (fun _ _ _ h => h) (Or.inl ⟨by rfl, ?_⟩) hS ?_
        rotate_left 1
        · intro w' hw'
          obtain ⟨x0, x1, x2, y0, y1⟩ := HCl.out w' hw'; obtain ⟨hcv1, hcv2⟩ := HCv.out w' hw'
          go_simp
          all_goals with_reducible rfl
        try simp only [Act.put, List.setIfInBounds_toArray, List.set_cons_zero, List.set_cons_succ]
        refine wpAnyH_take (i := 6) (oi := ⟨some 11, _, _, _, _, _⟩) (v := ?_) rfl (by kernel_rfl) (by kernel_rfl) (by kernel_rfl) (fun _ _ _ h => h) (Or.inl ⟨by rfl, ?_⟩) hS ?_
        rotate_left 1
        · intro w' hw'
          obtain ⟨x0, x1, x2, y0, y1⟩ := HCl.out w' hw'; obtain ⟨hcv1, hcv2⟩ := HCv.out w' hw'
          go_simp
          all_goals with_reducible rfl
        try simp only [Act.put, List.setIfInBounds_toArray, List.set_cons_zero, List.set_cons_succ]
        refine wpAnyH_take (i := 7) (oi := ⟨some 12, _, _, _, _, _⟩) (v := ?_) rfl (by kernel_rfl) (by kernel_rfl) (by kernel_rfl) (fun _ _ _ h => h) (Or.inl ⟨by rfl, ?_⟩) hS ?_
        rotate_left 1
        · intro w' hw'
          obtain ⟨x0, x1, x2, y0, y1⟩ := HCl.out w' hw'; obtain ⟨hcv1, hcv2⟩ := HCv.out w' hw'
          go_simp
          all_goals with_reducible rfl
        try simp only [Act.put, List.setIfInBounds_toArray, List.set_cons_zero, List.set_cons_succ]
        refine wpAnyH_take (i := 8) (oi := ⟨some 13, _, _, _, _, _⟩) (v := ?_) rfl (by kernel_rfl) (by kernel_rfl) (by kernel_rfl) (fun _ _ _ h => h) (Or.inl ⟨by rfl, ?_⟩) hS ?_
        rotate_left 1
        · intro w' hw'
          obtain ⟨x0, x1, x2, y0, y1⟩ := HCl.out w' hw'; obtain ⟨hcv1, hcv2⟩ := HCv.out w' hw'
          go_simp
          all_goals with_reducible rfl
        try simp only [Act.put, List.setIfInBounds_toArray, List.set_cons_zero, List.set_cons_succ]
        refine wpAnyH_take (i := 9) (oi := ⟨some 14, _, _, _, _, _⟩) (v := ?_) rfl (by kernel_rfl) (by kernel_rfl) (by kernel_rfl) (fun _ _ _ h => h) (Or.inl ⟨by rfl, ?_⟩) hS ?_
        rotate_left 1
        · intro w' hw'
          obtain ⟨x0, x1, x2, y0, y1⟩ := HCl.out w' hw'; obtain ⟨hcv1, hcv2⟩ := HCv.out w' hw'
          go_simp
          all_goals with_reducible rfl
        try simp only [Act.put, List.setIfInBounds_toArray, List.set_cons_zero, List.set_cons_succ]
        refine wpAnyH_take (i := 10) (oi := ⟨some 15, _, _, _, _, _⟩) (v := ?_) rfl (by kernel_rfl) (by kernel_rfl) (by kernel_rfl) (fun _ _ _ h => h) (Or.inl ⟨by rfl, ?_⟩) hS ?_
        rotate_left 1
        · intro w' hw'
          obtain ⟨x0, x1, x2, y0, y1⟩ := HCl.out w' hw'; obtain ⟨hcv1, hcv2⟩ := HCv.out w' hw'
          go_simp
          all_goals with_reducible rfl
        try simp only [Act.put, List.setIfInBounds_toArray, List.set_cons_zero, List.set_cons_succ]
        refine wpAnyH_take (i := 11) (oi := ⟨some 16, _, _, _, _, _⟩) (v := ?_) rfl (by kernel_rfl) (by kernel_rfl) (by kernel_rfl) (fun _ _ _ h => h) (Or.inl ⟨by rfl, ?_⟩) hS ?_
        rotate_left 1
        · intro w' hw'
          obtain ⟨x0, x1, x2, y0, y1⟩ := HCl.out w' hw'; obtain ⟨hcv1, hcv2⟩ := HCv.out w' hw'
          go_simp
          all_goals with_reducible rfl
        try simp only [Act.put, List.setIfInBounds_toArray, List.set_cons_zero, List.set_cons_succ]
        refine wpAnyH_take (i := 12) (oi := ⟨some 17, _, _, _, _, _⟩) (v := ?_) rfl (by kernel_rfl) (by kernel_rfl) (by kernel_rfl) (fun _ _ _ h => h) (Or.inl ⟨by rfl, ?_⟩) hS ?_
        rotate_left 1
        · intro w' hw'
          obtain ⟨x0, x1, x2, y0, y1⟩ := HCl.out w' hw'; obtain ⟨hcv1, hcv2⟩ := HCv.out w' hw'
          go_simp
          all_goals with_reducible rfl
        try simp only [Act.put, List.setIfInBounds_toArray, List.set_cons_zero, List.set_cons_succ]
        refine wpAnyH_take (i := 13) (oi := ⟨some 18, _, _, _, _, _⟩) (v := ?_) rfl (by kernel_rfl) (by kernel_rfl) (by kernel_rfl) (fun _ _ _ h => h) (Or.inl ⟨by rfl, ?_⟩) hS ?_
        rotate_left 1
        · intro w' hw'
          obtain ⟨x0, x1, x2, y0, y1⟩ := HCl.out w' hw'; obtain ⟨hcv1, hcv2⟩ := HCv.out w' hw'
          go_simp
          all_goals with_reducible rfl
        try simp only [Act.put, List.setIfInBounds_toArray, List.set_cons_zero, List.set_cons_succ]
        refine wpAnyH_take (i := 14) (oi := ⟨some 19, _, _, _, _, _⟩) (v := ?_) rfl (by kernel_rfl) (by kernel_rfl) (by kernel_rfl) (fun _ _ _ h => h) (Or.inl ⟨by rfl, ?_⟩) hS ?_
        rotate_left 1
        · intro w' hw'
          obtain ⟨x0, x1, x2, y0, y1⟩ := HCl.out w' hw'; obtain ⟨hcv1, hcv2⟩ := HCv.out w' hw'
          go_simp
          all_goals with_reducible rfl
        try simp only [Act.put, List.setIfInBounds_toArray, List.set_cons_zero, List.set_cons_succ]
        refine wpAnyH_take (i := 15) (oi := ⟨some 20, _, _, _, _, _⟩) (v := ?_) rfl (by kernel_rfl) (by kernel_rfl) (by kernel_rfl) (fun _ _ _ h => h) (Or.inl ⟨by rfl, ?_⟩) hS ?_
        rotate_left 1
        · intro w' hw'
          obtain ⟨x0, x1, x2, y0, y1⟩ := HCl.out w' hw'; obtain ⟨hcv1, hcv2⟩ := HCv.out w' hw'
          go_simp
          all_goals with_reducible rfl
        try simp only [Act.put, List.setIfInBounds_toArray, List.set_cons_zero, List.set_cons_succ]
        refine wpAnyH_take (i := 16) (oi := ⟨some 21, _, _, _, _, _⟩) (v := ?_) rfl (by kernel_rfl) (by kernel_rfl) (by kernel_rfl) (fun _ _ _ h => h) (Or.inl ⟨by rfl, ?_⟩) hS ?_
        rotate_left 1
        · intro w' hw'
          obtain ⟨x0, x1, x2, y0, y1⟩ := HCl.out w' hw'; obtain ⟨hcv1, hcv2⟩ := HCv.out w' hw'
          go_simp
          all_goals with_reducible rfl
        try simp only [Act.put, List.setIfInBounds_toArray, List.set_cons_zero, List.set_cons_succ]
        refine wpAnyH_take (i := 17) (oi := ⟨some 22, _, _, _, _, _⟩) (v := ?_) rfl (by kernel_rfl) (by kernel_rfl) (by kernel_rfl) (fun _ _ _ h => h) (Or.inl ⟨by rfl, ?_⟩) hS ?_
        rotate_left 1
        · intro w' hw'
          obtain ⟨x0, x1, x2, y0, y1⟩ := HCl.out w' hw'; obtain ⟨hcv1, hcv2⟩ := HCv.out w' hw'
          go_simp
          all_goals with_reducible rfl
        try simp only [Act.put, List.setIfInBounds_toArray, List.set_cons_zero, List.set_cons_succ]
        refine wpAnyH_take (i := 18) (oi := ⟨some 23, _, _, _, _, _⟩) (v := ?_) rfl (by kernel_rfl) (by kernel_rfl) (by kernel_rfl) (fun _ _ _ h => h) (Or.inl ⟨by rfl, ?_⟩) hS ?_
        rotate_left 1
        · intro w' hw'
          obtain ⟨x0, x1, x2, y0, y1⟩ := HCl.out w' hw'; obtain ⟨hcv1, hcv2⟩ := HCv.out w' hw'
          go_simp
          all_goals with_reducible rfl
        try simp only [Act.put, List.setIfInBounds_toArray, List.set_cons_zero, List.set_cons_succ]
        refine wpAnyH_take (i := 19) (oi := ⟨some 24, _, _, _, _, _⟩) (v := ?_) rfl (by kernel_rfl) (by kernel_rfl) (by kernel_rfl) (fun _ _ _ h => h) (Or.inl ⟨by rfl, ?_⟩) hS ?_
        rotate_left 1
        · intro w' hw'
          obtain ⟨x0, x1, x2, y0, y1⟩ := HCl.out w' hw'; obtain ⟨hcv1, hcv2⟩ := HCv.out w' hw'
          go_simp
          all_goals with_reducible rfl
        try simp only [Act.put, List.setIfInBounds_toArray, List.set_cons_zero, List.set_cons_succ]
        refine wpAnyH_take (i := 20) (oi := ⟨some 25, _, _, _, _, _⟩) (v := ?_) rfl (by kernel_rfl) (by kernel_rfl) (by kernel_rfl) (fun _ _ _ h => h) (Or.inl ⟨by rfl, ?_⟩) hS ?_
        rotate_left 1
        · intro w' hw'
          obtain ⟨x0, x1, x2, y0, y1⟩ := HCl.out w' hw'; obtain ⟨hcv1, hcv2⟩ := HCv.out w' hw'
          go_simp
          all_goals with_reducible rfl
        try simp only [Act.put, List.setIfInBounds_toArray, List.set_cons_zero, List.set_cons_succ]
        refine wpAnyH_take (i := 21) (oi := ⟨some 26, _, _, _, _, _⟩) (v := ?_) rfl (by kernel_rfl) (by kernel_rfl) (by kernel_rfl) (fun _ _ _ h => h) (Or.inl ⟨by rfl, ?_⟩) hS ?_
        rotate_left 1
        · intro w' hw'
          obtain ⟨x0, x1, x2, y0, y1⟩ := HCl.out w' hw'; obtain ⟨hcv1, hcv2⟩ := HCv.out w' hw'
          go_simp
          all_goals with_reducible rfl
        try simp only [Act.put, List.setIfInBounds_toArray, List.set_cons_zero, List.set_cons_succ]
        refine wpAnyH_take (i := 22) (oi := ⟨some 27, _, _, _, _, _⟩) (v := ?_) rfl (by kernel_rfl) (by kernel_rfl) (by kernel_rfl) (fun _ _ _ h => h) (Or.inl ⟨by rfl, ?_⟩) hS ?_
        rotate_left 1
        · intro w' hw'
          obtain ⟨x0, x1, x2, y0, y1⟩ := HCl.out w' hw'; obtain ⟨hcv1, hcv2⟩ := HCv.out w' hw'
          go_simp
          all_goals with_reducible rfl
        try simp only [Act.put, List.setIfInBounds_toArray, List.set_cons_zero, List.set_cons_succ]
        refine wpAnyH_take (i := 23) (oi := ⟨some 28, _, _, _, _, _⟩) (v := ?_) rfl (by kernel_rfl) (by kernel_rfl) (by kernel_rfl) (fun _ _ _ h => h) (Or.inl ⟨by rfl, ?_⟩) hS ?_
        rotate_left 1
        · intro w' hw'
          obtain ⟨x0, x1, x2, y0, y1⟩ := HCl.out w' hw'; obtain ⟨hcv1, hcv2⟩ := HCv.out w' hw'
          go_simp
          all_goals with_reducible rfl
        try simp only [Act.put, List.setIfInBounds_toArray, List.set_cons_zero, List.set_cons_succ]
        refine wpAnyH_take (i := 24) (oi := ⟨some 29, _, _, _, _, _⟩) (v := ?_) rfl (by kernel_rfl) (by kernel_rfl) (by kernel_rfl) (fun _ _ _ h => h) (Or.inl ⟨by rfl, ?_⟩) hS ?_
        rotate_left 1
        · intro w' hw'
          obtain ⟨x0, x1, x2, y0, y1⟩ := HCl.out w' hw'; obtain ⟨hcv1, hcv2⟩ := HCv.out w' hw'
          go_simp
          all_goals with_reducible rfl
        try simp only [Act.put, List.setIfInBounds_toArray, List.set_cons_zero, List.set_cons_succ]
        refine wpAnyH_take (i := 25) (oi := ⟨some 30, _, _, _, _, _⟩) (v := ?_) rfl (by kernel_rfl) (by kernel_rfl) (by kernel_rfl) (fun _ _ _ h => h) (Or.inl ⟨by rfl, ?_⟩) hS ?_
        rotate_left 1
        · intro w' hw'
          obtain ⟨x0, x1, x2, y0, y1⟩ := HCl.out w' hw'; obtain ⟨hcv1, hcv2⟩ := HCv.out w' hw'
          go_simp
          all_goals with_reducible rfl
        try simp only [Act.put, List.setIfInBounds_toArray, List.set_cons_zero, List.set_cons_succ]
        refine wpAnyH_take (i := 26) (oi := ⟨some 31, _, _, _, _, _⟩) (v := ?_) rfl (by kernel_rfl) (by kernel_rfl) (by kernel_rfl) (fun _ _ _ h => h) (Or.inl ⟨by rfl, ?_⟩) hS ?_
        rotate_left 1
        · intro w' hw'
          obtain ⟨x0, x1, x2, y0, y1⟩ := HCl.out w' hw'; obtain ⟨hcv1, hcv2⟩ := HCv.out w' hw'
          go_simp
          all_goals with_reducible rfl
        try simp only [Act.put, List.setIfInBounds_toArray, List.set_cons_zero, List.set_cons_succ]
        refine wpAnyH_take (i := 27) (oi := ⟨some 32, _, _, _, _, _⟩) (v := ?_) rfl (by kernel_rfl) (by kernel_rfl) (by kernel_rfl) (fun _ _ _ h => h) (Or.inl ⟨by rfl, ?_⟩) hS ?_
        rotate_left 1
        · intro w' hw'
          obtain ⟨x0, x1, x2, y0, y1⟩ := HCl.out w' hw'; obtain ⟨hcv1, hcv2⟩ := HCv.out w' hw'
          go_simp
          all_goals with_reducible rfl
        try simp only [Act.put, List.setIfInBounds_toArray, List.set_cons_zero, List.set_cons_succ]
        refine wpAnyH_take (i := 28) (oi := ⟨some 33, _, _, _, _, _⟩) (v := ?_) rfl (by kernel_rfl) (by kernel_rfl) (by kernel_rfl) (fun _ _ _ h => h) (Or.inl ⟨by rfl, ?_⟩) hS ?_
        rotate_left 1
        · intro w' hw'
          obtain ⟨x0, x1, x2, y0, y1⟩ := HCl.out w' hw'; obtain ⟨hcv1, hcv2⟩ := HCv.out w' hw'
          go_simp
          all_goals with_reducible rfl
        try simp only [Act.put, List.setIfInBounds_toArray, List.set_cons_zero, List.set_cons_succ]
        refine wpAnyH_take (i := 29) (oi := ⟨some 34, _, _, _, _, _⟩) (v := ?_) rfl (by kernel_rfl) (by kernel_rfl) (by kernel_rfl) (fun _ _ _ h => h) (Or.inl ⟨by rfl, ?_⟩) hS ?_
        rotate_left 1
        · intro w' hw'
          obtain ⟨x0, x1, x2, y0, y1⟩ := HCl.out w' hw'; obtain ⟨hcv1, hcv2⟩ := HCv.out w' hw'
          go_simp
          all_goals with_reducible rfl
        try simp only [Act.put, List.setIfInBounds_toArray, List.set_cons_zero, List.set_cons_succ]
        refine wpAnyH_take (i := 30) (oi := ⟨some 35, _, _, _, _, _⟩) (v := ?_) rfl (by kernel_rfl) (by kernel_rfl) (by kernel_rfl) (fun _ _ _ h => h) (Or.inl ⟨by rfl, ?_⟩) hS ?_
        rotate_left 1
        · intro w' hw'
          obtain ⟨x0, x1, x2, y0, y1⟩ := HCl.out w' hw'; obtain ⟨hcv1, hcv2⟩ := HCv.out w' hw'
          go_simp
          all_goals with_reducible rfl
        try simp only [Act.put, List.setIfInBounds_toArray, List.set_cons_zero, List.set_cons_succ]
        refine wpAnyH_take (i := 31) (oi := ⟨some 36, _, _, _, _, _⟩) (v := ?_) rfl (by kernel_rfl) (by kernel_rfl) (by kernel_rfl) (fun _ _ _ h => h) (Or.inl ⟨by rfl, ?_⟩) hS ?_
        rotate_left 1
        · intro w' hw'
          obtain ⟨x0, x1, x2, y0, y1⟩ := HCl.out w' hw'; obtain ⟨hcv1, hcv2⟩ := HCv.out w' hw'
          go_simp
          all_goals with_reducible rfl
        try simp only [Act.put, List.setIfInBounds_toArray, List.set_cons_zero, List.set_cons_succ]
        refine wpAnyH_take (i := 32) (oi := ⟨some 37, _, _, _, _, _⟩) (v := ?_) rfl (by kernel_rfl) (by kernel_rfl) (by kernel_rfl) (fun _ _ _ h => h) (Or.inl ⟨by rfl, ?_⟩) hS ?_
        rotate_left 1
        · intro w' hw'
          obtain ⟨x0, x1, x2, y0, y1⟩ := HCl.out w' hw'; obtain ⟨hcv1, hcv2⟩ := HCv.out w' hw'
          go_simp
          all_goals with_reducible rfl
        try simp only [Act.put, List.setIfInBounds_toArray, List.set_cons_zero, List.set_cons_succ]
        refine wpAnyH_ready (rs := [33]) (by kernel_rfl) (by simp) ?_
        refine AllReadyH.cons (o := ⟨some 38, _, _, _, _, _⟩) rfl (fun K hK => ?_) AllReadyH.nil
        go_simp
        go_at_call 18
        refine (HG.out _ hS).mono ?_
        rintro e w7 ⟨rfl, hb7⟩
        have HS7 := hide (hS.trans (hb7.mono hS.size))
        clear hb7
        refine hK.out _ _ (HS7.out) (fun hS => ?_)
        clear hK K
        try simp only [Act.put, List.setIfInBounds_toArray, List.set_cons_zero, List.set_cons_succ]
        refine wpAnyH_ready (rs := [34]) (by kernel_rfl) (by simp) ?_
        refine AllReadyH.cons (o := ⟨some 39, _, _, _, _, _⟩) rfl (fun K hK => ?_) AllReadyH.nil
        go_simp
        refine hK.out _ _ hS (fun hS => ?_)
        clear hK K
        try simp only [Act.put, List.setIfInBounds_toArray, List.set_cons_zero, List.set_cons_succ]
        refine wpAnyH_ready (rs := [35]) (by kernel_rfl) (by simp) ?_
        refine AllReadyH.cons (o := ⟨some 4, _, _, _, _, _⟩) rfl (fun K hK => ?_) AllReadyH.nil
        go_simp
        refine hK.out _ _ hS (fun hS => ?_)
        clear hK K
        try simp only [Act.put, List.setIfInBounds_toArray, List.set_cons_zero, List.set_cons_succ]
        refine wpAnyH_done (by kernel_rfl) ?_ _
        go_wp2_with fail
        go_ret
        exact ⟨ret_bool HQ.out.symm, HW.out.trans (hS.mono HW.out.size)⟩
      · have e3i : ¬ (fs.length : Int) ≤ (gs.length : Int) := by omega
        have HQ := hide (show q = false by rw [HB.out, decide_eq_false e3]; simp)
        clear HB e1 HG
        go_enter Tryd.func31, Tryd.ntmps31
        go_upto_region 1 with fail
        rw [<- HWE.out]
        refine wp_region_held_drew (S := fun w' => Below W.heap.size W w') (by kernel_rfl) ((Below.refl _ _).drew) (fun hS => ?_)
        refine wpAnyH_take (i := 0) (oi := ⟨some 5, _, _, _, _, _⟩) (v := ?_) rfl (by kernel_rfl) (by kernel_rfl) (by kernel_rfl) (fun _ _ _ h => h) (Or.inl ⟨by rfl, ?_⟩) hS ?_
        rotate_left 1
        · intro w' hw'
          obtain ⟨x0, x1, x2, y0, y1⟩ := HCl.out w' hw'; obtain ⟨hcv1, hcv2⟩ := HCv.out w' hw'
          go_simp
          all_goals with_reducible rfl
        try simp only [Act.put, List.setIfInBounds_toArray, List.set_cons_zero, List.set_cons_succ]
        refine wpAnyH_take (i := 1) (oi := ⟨some 6, _, _, _, _, _⟩) (v := ?_) rfl (by kernel_rfl) (by kernel_rfl) (by kernel_rfl) (fun _ _ _ h => h) (Or.inl ⟨by rfl, ?_⟩) hS ?_
        rotate_left 1
        · intro w' hw'
          obtain ⟨x0, x1, x2, y0, y1⟩ := HCl.out w' hw'; obtain ⟨hcv1, hcv2⟩ := HCv.out w' hw'
          go_simp
          all_goals with_reducible rfl
        try simp only [Act.put, List.setIfInBounds_toArray, List.set_cons_zero, List.set_cons_succ]
        refine wpAnyH_take (i := 2) (oi := ⟨some 7, _, _, _, _, _⟩) (v := ?_) rfl (by kernel_rfl) (by kernel_rfl) (by kernel_rfl) (fun _ _ _ h => h) (Or.inl ⟨by rfl, ?_⟩) hS ?_
        rotate_left 1
        · intro w' hw'
          obtain ⟨x0, x1, x2, y0, y1⟩ := HCl.out w' hw'; obtain ⟨hcv1, hcv2⟩ := HCv.out w' hw'
          go_simp
          all_goals with_reducible rfl
        try simp only [Act.put, List.setIfInBounds_toArray, List.set_cons_zero, List.set_cons_succ]
        refine wpAnyH_take (i := 3) (oi := ⟨some 8, _, _, _, _, _⟩) (v := ?_) rfl (by kernel_rfl) (by kernel_rfl) (by kernel_rfl) (fun _ _ _ h => h) (Or.inl ⟨by rfl, ?_⟩) hS ?_
        rotate_left 1
        · intro w' hw'
          obtain ⟨x0, x1, x2, y0, y1⟩ := HCl.out w' hw'; obtain ⟨hcv1, hcv2⟩ := HCv.out w' hw'
          go_simp
          all_goals with_reducible rfl
        try simp only [Act.put, List.setIfInBounds_toArray, List.set_cons_zero, List.set_cons_succ]
        refine wpAnyH_take (i := 4) (oi := ⟨some 9, _, _, _, _, _⟩) (v := ?_) rfl (by kernel_rfl) (by kernel_rfl) (by kernel_rfl) (fun _ _ _ h => h) (Or.inl ⟨by rfl, ?_⟩) hS ?_
        rotate_left 1
        · intro w' hw'
          obtain ⟨x0, x1, x2, y0, y1⟩ := HCl.out w' hw'; obtain ⟨hcv1, hcv2⟩ := HCv.out w' hw'
          go_simp
          all_goals with_reducible rfl
        try simp only [Act.put, List.setIfInBounds_toArray, List.set_cons_zero, List.set_cons_succ]
        refine wpAnyH_take (i := 5) (oi := ⟨some 10, _, _, _, _, _⟩) (v := ?_) rfl (by kernel_rfl) (by kernel_rfl) (by kernel_rfl) (fun _ _ _ h => h) (Or.inl ⟨by rfl, ?_⟩) hS ?_
        rotate_left 1
        · intro w' hw'
          obtain ⟨x0, x1, x2, y0, y1⟩ := HCl.out w' hw'; obtain ⟨hcv1, hcv2⟩ := HCv.out w' hw'
          go_simp
          all_goals with_reducible rfl
        try simp only [Act.put, List.setIfInBounds_toArray, List.set_cons_zero, List.set_cons_succ]
        refine wpAnyH_take (i := 6) (oi := ⟨some 11, _, _, _, _, _⟩) (v := ?_) rfl (by kernel_rfl) (by kernel_rfl) (by kernel_rfl) (fun _ _ _ h => h) (Or.inl ⟨by rfl, ?_⟩) hS ?_
        rotate_left 1
        · intro w' hw'
          obtain ⟨x0, x1, x2, y0, y1⟩ := HCl.out w' hw'; obtain ⟨hcv1, hcv2⟩ := HCv.out w' hw'
          go_simp
          all_goals with_reducible rfl
        try simp only [Act.put, List.setIfInBounds_toArray, List.set_cons_zero, List.set_cons_succ]
        refine wpAnyH_take (i := 7) (oi := ⟨some 12, _, _, _, _, _⟩) (v := ?_) rfl (by kernel_rfl) (by kernel_rfl) (by kernel_rfl) (fun _ _ _ h => h) (Or.inl ⟨by rfl, ?_⟩) hS ?_
        rotate_left 1
        · intro w' hw'
          obtain ⟨x0, x1, x2, y0, y1⟩ := HCl.out w' hw'; obtain ⟨hcv1, hcv2⟩ := HCv.out w' hw'
          go_simp
          all_goals with_reducible rfl
        try simp only [Act.put, List.setIfInBounds_toArray, List.set_cons_zero, List.set_cons_succ]
        refine wpAnyH_take (i := 8) (oi := ⟨some 13, _, _, _, _, _⟩) (v := ?_) rfl (by kernel_rfl) (by kernel_rfl) (by kernel_rfl) (fun _ _ _ h => h) (Or.inl ⟨by rfl, ?_⟩) hS ?_
        rotate_left 1
        · intro w' hw'
          obtain ⟨x0, x1, x2, y0, y1⟩ := HCl.out w' hw'; obtain ⟨hcv1, hcv2⟩ := HCv.out w' hw'
          go_simp
          all_goals with_reducible rfl
        try simp only [Act.put, List.setIfInBounds_toArray, List.set_cons_zero, List.set_cons_succ]
        refine wpAnyH_take (i := 9) (oi := ⟨some 14, _, _, _, _, _⟩) (v := ?_) rfl (by kernel_rfl) (by kernel_rfl) (by kernel_rfl) (fun _ _ _ h => h) (Or.inl ⟨by rfl, ?_⟩) hS ?_
        rotate_left 1
        · intro w' hw'
          obtain ⟨x0, x1, x2, y0, y1⟩ := HCl.out w' hw'; obtain ⟨hcv1, hcv2⟩ := HCv.out w' hw'
          go_simp
          all_goals with_reducible rfl
        try simp only [Act.put, List.setIfInBounds_toArray, List.set_cons_zero, List.set_cons_succ]
        refine wpAnyH_take (i := 10) (oi := ⟨some 15, _, _, _, _, _⟩) (v := ?_) rfl (by kernel_rfl) (by kernel_rfl) (by kernel_rfl) (fun _ _ _ h => h) (Or.inl ⟨by rfl, ?_⟩) hS ?_
        rotate_left 1
        · intro w' hw'
          obtain ⟨x0, x1, x2, y0, y1⟩ := HCl.out w' hw'; obtain ⟨hcv1, hcv2⟩ := HCv.out w' hw'
          go_simp
          all_goals with_reducible rfl
        try simp only [Act.put, List.setIfInBounds_toArray, List.set_cons_zero, List.set_cons_succ]
        refine wpAnyH_take (i := 11) (oi := ⟨some 16, _, _, _, _, _⟩) (v := ?_) rfl (by kernel_rfl) (by kernel_rfl) (by kernel_rfl) (fun _ _ _ h => h) (Or.inl ⟨by rfl, ?_⟩) hS ?_
        rotate_left 1
        · intro w' hw'
          obtain ⟨x0, x1, x2, y0, y1⟩ := HCl.out w' hw'; obtain ⟨hcv1, hcv2⟩ := HCv.out w' hw'
          go_simp
          all_goals with_reducible rfl
        try simp only [Act.put, List.setIfInBounds_toArray, List.set_cons_zero, List.set_cons_succ]
        refine wpAnyH_take (i := 12) (oi := ⟨some 17, _, _, _, _, _⟩) (v := ?_) rfl (by kernel_rfl) (by kernel_rfl) (by kernel_rfl) (fun _ _ _ h => h) (Or.inl ⟨by rfl, ?_⟩) hS ?_
        rotate_left 1
        · intro w' hw'
          obtain ⟨x0, x1, x2, y0, y1⟩ := HCl.out w' hw'; obtain ⟨hcv1, hcv2⟩ := HCv.out w' hw'
          go_simp
          all_goals with_reducible rfl
        try simp only [Act.put, List.setIfInBounds_toArray, List.set_cons_zero, List.set_cons_succ]
        refine wpAnyH_take (i := 13) (oi := ⟨some 18, _, _, _, _, _⟩) (v := ?_) rfl (by kernel_rfl) (by kernel_rfl) (by kernel_rfl) (fun _ _ _ h => h) (Or.inl ⟨by rfl, ?_⟩) hS ?_
        rotate_left 1
        · intro w' hw'
          obtain ⟨x0, x1, x2, y0, y1⟩ := HCl.out w' hw'; obtain ⟨hcv1, hcv2⟩ := HCv.out w' hw'
          go_simp
          all_goals with_reducible rfl
        try simp only [Act.put, List.setIfInBounds_toArray, List.set_cons_zero, List.set_cons_succ]
        refine wpAnyH_take (i := 14) (oi := ⟨some 19, _, _, _, _, _⟩) (v := ?_) rfl (by kernel_rfl) (by kernel_rfl) (by kernel_rfl) (fun _ _ _ h => h) (Or.inl ⟨by rfl, ?_⟩) hS ?_
        rotate_left 1
        · intro w' hw'
          obtain ⟨x0, x1, x2, y0, y1⟩ := HCl.out w' hw'; obtain ⟨hcv1, hcv2⟩ := HCv.out w' hw'
          go_simp
          all_goals with_reducible rfl
        try simp only [Act.put, List.setIfInBounds_toArray, List.set_cons_zero, List.set_cons_succ]
        refine wpAnyH_take (i := 15) (oi := ⟨some 20, _, _, _, _, _⟩) (v := ?_) rfl (by kernel_rfl) (by kernel_rfl) (by kernel_rfl) (fun _ _ _ h => h) (Or.inl ⟨by rfl, ?_⟩) hS ?_
        rotate_left 1
        · intro w' hw'
          obtain ⟨x0, x1, x2, y0, y1⟩ := HCl.out w' hw'; obtain ⟨hcv1, hcv2⟩ := HCv.out w' hw'
          go_simp
          all_goals with_reducible rfl
        try simp only [Act.put, List.setIfInBounds_toArray, List.set_cons_zero, List.set_cons_succ]
        refine wpAnyH_take (i := 16) (oi := ⟨some 21, _, _, _, _, _⟩) (v := ?_) rfl (by kernel_rfl) (by kernel_rfl) (by kernel_rfl) (fun _ _ _ h => h) (Or.inl ⟨by rfl, ?_⟩) hS ?_
        rotate_left 1
        · intro w' hw'
          obtain ⟨x0, x1, x2, y0, y1⟩ := HCl.out w' hw'; obtain ⟨hcv1, hcv2⟩ := HCv.out w' hw'
          go_simp
          all_goals with_reducible rfl
        try simp only [Act.put, List.setIfInBounds_toArray, List.set_cons_zero, List.set_cons_succ]
        refine wpAnyH_take (i := 17) (oi := ⟨some 22, _, _, _, _, _⟩) (v := ?_) rfl (by kernel_rfl) (by kernel_rfl) (by kernel_rfl) (fun _ _ _ h => h) (Or.inl ⟨by rfl, ?_⟩) hS ?_
        rotate_left 1
        · intro w' hw'
          obtain ⟨x0, x1, x2, y0, y1⟩ := HCl.out w' hw'; obtain ⟨hcv1, hcv2⟩ := HCv.out w' hw'
          go_simp
          all_goals with_reducible rfl
        try simp only [Act.put, List.setIfInBounds_toArray, List.set_cons_zero, List.set_cons_succ]
        refine wpAnyH_take (i := 18) (oi := ⟨some 23, _, _, _, _, _⟩) (v := ?_) rfl (by kernel_rfl) (by kernel_rfl) (by kernel_rfl) (fun _ _ _ h => h) (Or.inl ⟨by rfl, ?_⟩) hS ?_
        rotate_left 1
        · intro w' hw'
          obtain ⟨x0, x1, x2, y0, y1⟩ := HCl.out w' hw'; obtain ⟨hcv1, hcv2⟩ := HCv.out w' hw'
          go_simp
          all_goals with_reducible rfl
        try simp only [Act.put, List.setIfInBounds_toArray, List.set_cons_zero, List.set_cons_succ]
        refine wpAnyH_take (i := 19) (oi := ⟨some 24, _, _, _, _, _⟩) (v := ?_) rfl (by kernel_rfl) (by kernel_rfl) (by kernel_rfl) (fun _ _ _ h => h) (Or.inl ⟨by rfl, ?_⟩) hS ?_
        rotate_left 1
        · intro w' hw'
          obtain ⟨x0, x1, x2, y0, y1⟩ := HCl.out w' hw'; obtain ⟨hcv1, hcv2⟩ := HCv.out w' hw'
          go_simp
          all_goals with_reducible rfl
        try simp only [Act.put, List.setIfInBounds_toArray, List.set_cons_zero, List.set_cons_succ]
        refine wpAnyH_take (i := 20) (oi := ⟨some 25, _, _, _, _, _⟩) (v := ?_) rfl (by kernel_rfl) (by kernel_rfl) (by kernel_rfl) (fun _ _ _ h => h) (Or.inl ⟨by rfl, ?_⟩) hS ?_
        rotate_left 1
        · intro w' hw'
          obtain ⟨x0, x1, x2, y0, y1⟩ := HCl.out w' hw'; obtain ⟨hcv1, hcv2⟩ := HCv.out w' hw'
          go_simp
          all_goals with_reducible rfl
        try simp only [Act.put, List.setIfInBounds_toArray, List.set_cons_zero, List.set_cons_succ]
        refine wpAnyH_take (i := 21) (oi := ⟨some 26, _, _, _, _, _⟩) (v := ?_) rfl (by kernel_rfl) (by kernel_rfl) (by kernel_rfl) (fun _ _ _ h => h) (Or.inl ⟨by rfl, ?_⟩) hS ?_
        rotate_left 1
        · intro w' hw'
          obtain ⟨x0, x1, x2, y0, y1⟩ := HCl.out w' hw'; obtain ⟨hcv1, hcv2⟩ := HCv.out w' hw'
          go_simp
          all_goals with_reducible rfl
        try simp only [Act.put, List.setIfInBounds_toArray, List.set_cons_zero, List.set_cons_succ]
        refine wpAnyH_take (i := 22) (oi := ⟨some 27, _, _, _, _, _⟩) (v := ?_) rfl (by kernel_rfl) (by kernel_rfl) (by kernel_rfl) (fun _ _ _ h => h) (Or.inl ⟨by rfl, ?_⟩) hS ?_
        rotate_left 1
        · intro w' hw'
          obtain ⟨x0, x1, x2, y0, y1⟩ := HCl.out w' hw'; obtain ⟨hcv1, hcv2⟩ := HCv.out w' hw'
          go_simp
          all_goals with_reducible rfl
        try simp only [Act.put, List.setIfInBounds_toArray, List.set_cons_zero, List.set_cons_succ]
        refine wpAnyH_take (i := 23) (oi := ⟨some 28, _, _, _, _, _⟩) (v := ?_) rfl (by kernel_rfl) (by kernel_rfl) (by kernel_rfl) (fun _ _ _ h => h) (Or.inl ⟨by rfl, ?_⟩) hS ?_
        rotate_left 1
        · intro w' hw'
          obtain ⟨x0, x1, x2, y0, y1⟩ := HCl.out w' hw'; obtain ⟨hcv1, hcv2⟩ := HCv.out w' hw'
          go_simp
          all_goals with_reducible rfl
        try simp only [Act.put, List.setIfInBounds_toArray, List.set_cons_zero, List.set_cons_succ]
        refine wpAnyH_take (i := 24) (oi := ⟨some 29, _, _, _, _, _⟩) (v := ?_) rfl (by kernel_rfl) (by kernel_rfl) (by kernel_rfl) (fun _ _ _ h => h) (Or.inl ⟨by rfl, ?_⟩) hS ?_
        rotate_left 1
        · intro w' hw'
          obtain ⟨x0, x1, x2, y0, y1⟩ := HCl.out w' hw'; obtain ⟨hcv1, hcv2⟩ := HCv.out w' hw'
          go_simp
          all_goals with_reducible rfl
        try simp only [Act.put, List.setIfInBounds_toArray, List.set_cons_zero, List.set_cons_succ]
        refine wpAnyH_take (i := 25) (oi := ⟨some 30, _, _, _, _, _⟩) (v := undef) rfl (by kernel_rfl) (by kernel_rfl) (by kernel_rfl) (fun _ _ _ h => h) (Or.inr ⟨by rfl, rfl⟩) hS ?_
        try simp only [Act.put, List.setIfInBounds_toArray, List.set_cons_zero, List.set_cons_succ]
        refine wpAnyH_take (i := 26) (oi := ⟨some 31, _, _, _, _, _⟩) (v := undef) rfl (by kernel_rfl) (by kernel_rfl) (by kernel_rfl) (fun _ _ _ h => h) (Or.inr ⟨by rfl, rfl⟩) hS ?_
        try simp only [Act.put, List.setIfInBounds_toArray, List.set_cons_zero, List.set_cons_succ]
        refine wpAnyH_take (i := 27) (oi := ⟨some 32, _, _, _, _, _⟩) (v := undef) rfl (by kernel_rfl) (by kernel_rfl) (by kernel_rfl) (fun _ _ _ h => h) (Or.inr ⟨by rfl, rfl⟩) hS ?_
        try simp only [Act.put, List.setIfInBounds_toArray, List.set_cons_zero, List.set_cons_succ]
        refine wpAnyH_take (i := 28) (oi := ⟨some 33, _, _, _, _, _⟩) (v := undef) rfl (by kernel_rfl) (by kernel_rfl) (by kernel_rfl) (fun _ _ _ h => h) (Or.inr ⟨by rfl, rfl⟩) hS ?_
        try simp only [Act.put, List.setIfInBounds_toArray, List.set_cons_zero, List.set_cons_succ]
        refine wpAnyH_take (i := 29) (oi := ⟨some 34, _, _, _, _, _⟩) (v := undef) rfl (by kernel_rfl) (by kernel_rfl) (by kernel_rfl) (fun _ _ _ h => h) (Or.inr ⟨by rfl, rfl⟩) hS ?_
        try simp only [Act.put, List.setIfInBounds_toArray, List.set_cons_zero, List.set_cons_succ]
        refine wpAnyH_take (i := 30) (oi := ⟨some 35, _, _, _, _, _⟩) (v := undef) rfl (by kernel_rfl) (by kernel_rfl) (by kernel_rfl) (fun _ _ _ h => h) (Or.inr ⟨by rfl, rfl⟩) hS ?_
        try simp only [Act.put, List.setIfInBounds_toArray, List.set_cons_zero, List.set_cons_succ]
        refine wpAnyH_take (i := 31) (oi := ⟨some 36, _, _, _, _, _⟩) (v := undef) rfl (by kernel_rfl) (by kernel_rfl) (by kernel_rfl) (fun _ _ _ h => h) (Or.inr ⟨by rfl, rfl⟩) hS ?_
        try simp only [Act.put, List.setIfInBounds_toArray, List.set_cons_zero, List.set_cons_succ]
        refine wpAnyH_take (i := 32) (oi := ⟨some 37, _, _, _, _, _⟩) (v := undef) rfl (by kernel_rfl) (by kernel_rfl) (by kernel_rfl) (fun _ _ _ h => h) (Or.inr ⟨by rfl, rfl⟩) hS ?_
        try simp only [Act.put, List.setIfInBounds_toArray, List.set_cons_zero, List.set_cons_succ]
        refine wpAnyH_take (i := 33) (oi := ⟨some 38, _, _, _, _, _⟩) (v := undef) rfl (by kernel_rfl) (by kernel_rfl) (by kernel_rfl) (fun _ _ _ h => h) (Or.inr ⟨by rfl, rfl⟩) hS ?_
        try simp only [Act.put, List.setIfInBounds_toArray, List.set_cons_zero, List.set_cons_succ]
        refine wpAnyH_take (i := 34) (oi := ⟨some 39, _, _, _, _, _⟩) (v := ?_) rfl (by kernel_rfl) (by kernel_rfl) (by kernel_rfl) (fun _ _ _ h => h) (Or.inl ⟨by rfl, ?_⟩) hS ?_
        rotate_left 1
        · intro w' hw'
          obtain ⟨x0, x1, x2, y0, y1⟩ := HCl.out w' hw'; obtain ⟨hcv1, hcv2⟩ := HCv.out w' hw'
          go_simp
          all_goals with_reducible rfl
        try simp only [Act.put, List.setIfInBounds_toArray, List.set_cons_zero, List.set_cons_succ]
        refine wpAnyH_take (i := 35) (oi := ⟨some 4, _, _, _, _, _⟩) (v := ?_) rfl (by kernel_rfl) (by kernel_rfl) (by kernel_rfl) (fun _ _ _ h => h) (Or.inl ⟨by rfl, ?_⟩) hS ?_
        rotate_left 1
        · intro w' hw'
          obtain ⟨x0, x1, x2, y0, y1⟩ := HCl.out w' hw'; obtain ⟨hcv1, hcv2⟩ := HCv.out w' hw'
          go_simp
          all_goals with_reducible rfl
        try simp only [Act.put, List.setIfInBounds_toArray, List.set_cons_zero, List.set_cons_succ]
        refine wpAnyH_done (by kernel_rfl) ?_ _
        go_wp2_with fail
        go_ret
        exact ⟨ret_bool HQ.out.symm, HW.out.trans (hS.mono HW.out.size)⟩
    · have HQ := hide (show q = false by rw [HB.out, decide_eq_false e2]; simp)
      clear HB e1 HG
      go_enter Tryd.func31, Tryd.ntmps31
      go_upto_region 1 with fail
      rw [<- HWE.out]
      refine wp_region_held_drew (S := fun w' => Below W.heap.size W w') (by kernel_rfl) ((Below.refl _ _).drew) (fun hS => ?_)
      refine wpAnyH_take (i := 0) (oi := ⟨some 5, _, _, _, _, _⟩) (v := ?_) rfl (by kernel_rfl) (by kernel_rfl) (by kernel_rfl) (fun _ _ _ h => h) (Or.inl ⟨by rfl, ?_⟩) hS ?_
      rotate_left 1
      · intro w' hw'
        obtain ⟨x0, x1, x2, y0, y1⟩ := HCl.out w' hw'; obtain ⟨hcv1, hcv2⟩ := HCv.out w' hw'
        go_simp
        all_goals with_reducible rfl
      try simp only [Act.put, List.setIfInBounds_toArray, List.set_cons_zero, List.set_cons_succ]
      refine wpAnyH_take (i := 1) (oi := ⟨some 6, _, _, _, _, _⟩) (v := ?_) rfl (by kernel_rfl) (by kernel_rfl) (by kernel_rfl) (fun _ _ _ h => h) (Or.inl ⟨by rfl, ?_⟩) hS ?_
      rotate_left 1
      · intro w' hw'
        obtain ⟨x0, x1, x2, y0, y1⟩ := HCl.out w' hw'; obtain ⟨hcv1, hcv2⟩ := HCv.out w' hw'
        go_simp
        all_goals with_reducible rfl
      try simp only [Act.put, List.setIfInBounds_toArray, List.set_cons_zero, List.set_cons_succ]
      refine wpAnyH_take (i := 2) (oi := ⟨some 7, _, _, _, _, _⟩) (v := ?_) rfl (by kernel_rfl) (by kernel_rfl) (by kernel_rfl) (fun _ _ _ h => h) (Or.inl ⟨by rfl, ?_⟩) hS ?_
      rotate_left 1
      · intro w' hw'
        obtain ⟨x0, x1, x2, y0, y1⟩ := HCl.out w' hw'; obtain ⟨hcv1, hcv2⟩ := HCv.out w' hw'
        go_simp
        all_goals with_reducible rfl
      try simp only [Act.put, List.setIfInBounds_toArray, List.set_cons_zero, List.set_cons_succ]
      refine wpAnyH_take (i := 3) (oi := ⟨some 8, _, _, _, _, _⟩) (v := ?_) rfl (by kernel_rfl) (by kernel_rfl) (by kernel_rfl) (fun _ _ _ h => h) (Or.inl ⟨by rfl, ?_⟩) hS ?_
      rotate_left 1
      · intro w' hw'
        obtain ⟨x0, x1, x2, y0, y1⟩ := HCl.out w' hw'; obtain ⟨hcv1, hcv2⟩ := HCv.out w' hw'
        go_simp
        all_goals with_reducible rfl
      try simp only [Act.put, List.setIfInBounds_toArray, List.set_cons_zero, List.set_cons_succ]
      refine wpAnyH_take (i := 4) (oi := ⟨some 9, _, _, _, _, _⟩) (v := ?_) rfl (by kernel_rfl) (by kernel_rfl) (by kernel_rfl) (fun _ _ _ h => h) (Or.inl ⟨by rfl, ?_⟩) hS ?_
      rotate_left 1
      · intro w' hw'
        obtain ⟨x0, x1, x2, y0, y1⟩ := HCl.out w' hw'; obtain ⟨hcv1, hcv2⟩ := HCv.out w' hw'
        go_simp
        all_goals with_reducible rfl
      try simp only [Act.put, List.setIfInBounds_toArray, List.set_cons_zero, List.set_cons_succ]
      refine wpAnyH_take (i := 5) (oi := ⟨some 10, _, _, _, _, _⟩) (v := ?_) rfl (by kernel_rfl) (by kernel_rfl) (by kernel_rfl) (fun _ _ _ h => h) (Or.inl ⟨by rfl, ?_⟩) hS ?_
      rotate_left 1
      · intro w' hw'
        obtain ⟨x0, x1, x2, y0, y1⟩ := HCl.out w' hw'; obtain ⟨hcv1, hcv2⟩ := HCv.out w' hw'
        go_simp
        all_goals with_reducible rfl
      try simp only [Act.put, List.setIfInBounds_toArray, List.set_cons_zero, List.set_cons_succ]
      refine wpAnyH_take (i := 6) (oi := ⟨some 11, _, _, _, _, _⟩) (v := ?_) rfl (by kernel_rfl) (by kernel_rfl) (by kernel_rfl) (fun _ _ _ h => h) (Or.inl ⟨by rfl, ?_⟩) hS ?_
      rotate_left 1
      · intro w' hw'
        obtain ⟨x0, x1, x2, y0, y1⟩ := HCl.out w' hw'; obtain ⟨hcv1, hcv2⟩ := HCv.out w' hw'
        go_simp
        all_goals with_reducible rfl
      try simp only [Act.put, List.setIfInBounds_toArray, List.set_cons_zero, List.set_cons_succ]
      refine wpAnyH_take (i := 7) (oi := ⟨some 12, _, _, _, _, _⟩) (v := ?_) rfl (by kernel_rfl) (by kernel_rfl) (by kernel_rfl) (fun _ _ _ h => h) (Or.inl ⟨by rfl, ?_⟩) hS ?_
      rotate_left 1
      · intro w' hw'
        obtain ⟨x0, x1, x2, y0, y1⟩ := HCl.out w' hw'; obtain ⟨hcv1, hcv2⟩ := HCv.out w' hw'
        go_simp
        all_goals with_reducible rfl
      try simp only [Act.put, List.setIfInBounds_toArray, List.set_cons_zero, List.set_cons_succ]
      refine wpAnyH_take (i := 8) (oi := ⟨some 13, _, _, _, _, _⟩) (v := ?_) rfl (by kernel_rfl) (by kernel_rfl) (by kernel_rfl) (fun _ _ _ h => h) (Or.inl ⟨by rfl, ?_⟩) hS ?_
      rotate_left 1
      · intro w' hw'
        obtain ⟨x0, x1, x2, y0, y1⟩ := HCl.out w' hw'; obtain ⟨hcv1, hcv2⟩ := HCv.out w' hw'
        go_simp
        all_goals with_reducible rfl
      try simp only [Act.put, List.setIfInBounds_toArray, List.set_cons_zero, List.set_cons_succ]
      refine wpAnyH_take (i := 9) (oi := ⟨some 14, _, _, _, _, _⟩) (v := ?_) rfl (by kernel_rfl) (by kernel_rfl) (by kernel_rfl) (fun _ _ _ h => h) (Or.inl ⟨by rfl, ?_⟩) hS ?_
      rotate_left 1
      · intro w' hw'
        obtain ⟨x0, x1, x2, y0, y1⟩ := HCl.out w' hw'; obtain ⟨hcv1, hcv2⟩ := HCv.out w' hw'
        go_simp
        all_goals with_reducible rfl
      try simp only [Act.put, List.setIfInBounds_toArray, List.set_cons_zero, List.set_cons_succ]
      refine wpAnyH_take (i := 10) (oi := ⟨some 15, _, _, _, _, _⟩) (v := ?_) rfl (by kernel_rfl) (by kernel_rfl) (by kernel_rfl) (fun _ _ _ h => h) (Or.inl ⟨by rfl, ?_⟩) hS ?_
      rotate_left 1
      · intro w' hw'
        obtain ⟨x0, x1, x2, y0, y1⟩ := HCl.out w' hw'; obtain ⟨hcv1, hcv2⟩ := HCv.out w' hw'
        go_simp
        all_goals with_reducible rfl
      try simp only [Act.put, List.setIfInBounds_toArray, List.set_cons_zero, List.set_cons_succ]
      refine wpAnyH_take (i := 11) (oi := ⟨some 16, _, _, _, _, _⟩) (v := ?_) rfl (by kernel_rfl) (by kernel_rfl) (by kernel_rfl) (fun _ _ _ h => h) (Or.inl ⟨by rfl, ?_⟩) hS ?_
      rotate_left 1
      · intro w' hw'
        obtain ⟨x0, x1, x2, y0, y1⟩ := HCl.out w' hw'; obtain ⟨hcv1, hcv2⟩ := HCv.out w' hw'
        go_simp
        all_goals with_reducible rfl
      try simp only [Act.put, List.setIfInBounds_toArray, List.set_cons_zero, List.set_cons_succ]
      refine wpAnyH_take (i := 12) (oi := ⟨some 17, _, _, _, _, _⟩) (v := ?_) rfl (by kernel_rfl) (by kernel_rfl) (by kernel_rfl) (fun _ _ _ h => h) (Or.inl ⟨by rfl, ?_⟩) hS ?_
      rotate_left 1
      · intro w' hw'
        obtain ⟨x0, x1, x2, y0, y1⟩ := HCl.out w' hw'; obtain ⟨hcv1, hcv2⟩ := HCv.out w' hw'
        go_simp
        all_goals with_reducible rfl
      try simp only [Act.put, List.setIfInBounds_toArray, List.set_cons_zero, List.set_cons_succ]
      refine wpAnyH_take (i := 13) (oi := ⟨some 18, _, _, _, _, _⟩) (v := ?_) rfl (by kernel_rfl) (by kernel_rfl) (by kernel_rfl) (fun _ _ _ h => h) (Or.inl ⟨by rfl, ?_⟩) hS ?_
      rotate_left 1
      · intro w' hw'
        obtain ⟨x0, x1, x2, y0, y1⟩ := HCl.out w' hw'; obtain ⟨hcv1, hcv2⟩ := HCv.out w' hw'
        go_simp
        all_goals with_reducible rfl
      try simp only [Act.put, List.setIfInBounds_toArray, List.set_cons_zero, List.set_cons_succ]
      refine wpAnyH_take (i := 14) (oi := ⟨some 19, _, _, _, _, _⟩) (v := ?_) rfl (by kernel_rfl) (by kernel_rfl) (by kernel_rfl) (fun _ _ _ h => h) (Or.inl ⟨by rfl, ?_⟩) hS ?_
      rotate_left 1
      · intro w' hw'
        obtain ⟨x0, x1, x2, y0, y1⟩ := HCl.out w' hw'; obtain ⟨hcv1, hcv2⟩ := HCv.out w' hw'
        go_simp
        all_goals with_reducible rfl
      try simp only [Act.put, List.setIfInBounds_toArray, List.set_cons_zero, List.set_cons_succ]
      refine wpAnyH_take (i := 15) (oi := ⟨some 20, _, _, _, _, _⟩) (v := ?_) rfl (by kernel_rfl) (by kernel_rfl) (by kernel_rfl) (fun _ _ _ h => h) (Or.inl ⟨by rfl, ?_⟩) hS ?_
      rotate_left 1
      · intro w' hw'
        obtain ⟨x0, x1, x2, y0, y1⟩ := HCl.out w' hw'; obtain ⟨hcv1, hcv2⟩ := HCv.out w' hw'
        go_simp
        all_goals with_reducible rfl
      try simp only [Act.put, List.setIfInBounds_toArray, List.set_cons_zero, List.set_cons_succ]
      refine wpAnyH_take (i := 16) (oi := ⟨some 21, _, _, _, _, _⟩) (v := undef) rfl (by kernel_rfl) (by kernel_rfl) (by kernel_rfl) (fun _ _ _ h => h) (Or.inr ⟨by rfl, rfl⟩) hS ?_
      try simp only [Act.put, List.setIfInBounds_toArray, List.set_cons_zero, List.set_cons_succ]
      refine wpAnyH_take (i := 17) (oi := ⟨some 22, _, _, _, _, _⟩) (v := undef) rfl (by kernel_rfl) (by kernel_rfl) (by kernel_rfl) (fun _ _ _ h => h) (Or.inr ⟨by rfl, rfl⟩) hS ?_
      try simp only [Act.put, List.setIfInBounds_toArray, List.set_cons_zero, List.set_cons_succ]
      refine wpAnyH_take (i := 18) (oi := ⟨some 23, _, _, _, _, _⟩) (v := undef) rfl (by kernel_rfl) (by kernel_rfl) (by kernel_rfl) (fun _ _ _ h => h) (Or.inr ⟨by rfl, rfl⟩) hS ?_
      try simp only [Act.put, List.setIfInBounds_toArray, List.set_cons_zero, List.set_cons_succ]
      refine wpAnyH_take (i := 19) (oi := ⟨some 24, _, _, _, _, _⟩) (v := undef) rfl (by kernel_rfl) (by kernel_rfl) (by kernel_rfl) (fun _ _ _ h => h) (Or.inr ⟨by rfl, rfl⟩) hS ?_
      try simp only [Act.put, List.setIfInBounds_toArray, List.set_cons_zero, List.set_cons_succ]
      refine wpAnyH_take (i := 20) (oi := ⟨some 25, _, _, _, _, _⟩) (v := undef) rfl (by kernel_rfl) (by kernel_rfl) (by kernel_rfl) (fun _ _ _ h => h) (Or.inr ⟨by rfl, rfl⟩) hS ?_
      try simp only [Act.put, List.setIfInBounds_toArray, List.set_cons_zero, List.set_cons_succ]
      refine wpAnyH_take (i := 21) (oi := ⟨some 26, _, _, _, _, _⟩) (v := undef) rfl (by kernel_rfl) (by kernel_rfl) (by kernel_rfl) (fun _ _ _ h => h) (Or.inr ⟨by rfl, rfl⟩) hS ?_
      try simp only [Act.put, List.setIfInBounds_toArray, List.set_cons_zero, List.set_cons_succ]
      refine wpAnyH_take (i := 22) (oi := ⟨some 27, _, _, _, _, _⟩) (v := undef) rfl (by kernel_rfl) (by kernel_rfl) (by kernel_rfl) (fun _ _ _ h => h) (Or.inr ⟨by rfl, rfl⟩) hS ?_
      try simp only [Act.put, List.setIfInBounds_toArray, List.set_cons_zero, List.set_cons_succ]
      refine wpAnyH_take (i := 23) (oi := ⟨some 28, _, _, _, _, _⟩) (v := ?_) rfl (by kernel_rfl) (by kernel_rfl) (by kernel_rfl) (fun _ _ _ h => h) (Or.inl ⟨by rfl, ?_⟩) hS ?_
      rotate_left 1
      · intro w' hw'
        obtain ⟨x0, x1, x2, y0, y1⟩ := HCl.out w' hw'; obtain ⟨hcv1, hcv2⟩ := HCv.out w' hw'
        go_simp
        all_goals with_reducible rfl
      try simp only [Act.put, List.setIfInBounds_toArray, List.set_cons_zero, List.set_cons_succ]
      refine wpAnyH_take (i := 24) (oi := ⟨some 29, _, _, _, _, _⟩) (v := ?_) rfl (by kernel_rfl) (by kernel_rfl) (by kernel_rfl) (fun _ _ _ h => h) (Or.inl ⟨by rfl, ?_⟩) hS ?_
      rotate_left 1
      · intro w' hw'
        obtain ⟨x0, x1, x2, y0, y1⟩ := HCl.out w' hw'; obtain ⟨hcv1, hcv2⟩ := HCv.out w' hw'
        go_simp
        all_goals with_reducible rfl
      try simp only [Act.put, List.setIfInBounds_toArray, List.set_cons_zero, List.set_cons_succ]
      refine wpAnyH_take (i := 25) (oi := ⟨some 30, _, _, _, _, _⟩) (v := undef) rfl (by kernel_rfl) (by kernel_rfl) (by kernel_rfl) (fun _ _ _ h => h) (Or.inr ⟨by rfl, rfl⟩) hS ?_
      try simp only [Act.put, List.setIfInBounds_toArray, List.set_cons_zero, List.set_cons_succ]
      refine wpAnyH_take (i := 26) (oi := ⟨some 31, _, _, _, _, _⟩) (v := undef) rfl (by kernel_rfl) (by kernel_rfl) (by kernel_rfl) (fun _ _ _ h => h) (Or.inr ⟨by rfl, rfl⟩) hS ?_
      try simp only [Act.put, List.setIfInBounds_toArray, List.set_cons_zero, List.set_cons_succ]
      refine wpAnyH_take (i := 27) (oi := ⟨some 32, _, _, _, _, _⟩) (v := undef) rfl (by kernel_rfl) (by kernel_rfl) (by kernel_rfl) (fun _ _ _ h => h) (Or.inr ⟨by rfl, rfl⟩) hS ?_
      try simp only [Act.put, List.setIfInBounds_toArray, List.set_cons_zero, List.set_cons_succ]
      refine wpAnyH_take (i := 28) (oi := ⟨some 33, _, _, _, _, _⟩) (v := undef) rfl (by kernel_rfl) (by kernel_rfl) (by kernel_rfl) (fun _ _ _ h => h) (Or.inr ⟨by rfl, rfl⟩) hS ?_
      try simp only [Act.put, List.setIfInBounds_toArray, List.set_cons_zero, List.set_cons_succ]
      refine wpAnyH_take (i := 29) (oi := ⟨some 34, _, _, _, _, _⟩) (v := undef) rfl (by kernel_rfl) (by kernel_rfl) (by kernel_rfl) (fun _ _ _ h => h) (Or.inr ⟨by rfl, rfl⟩) hS ?_
      try simp only [Act.put, List.setIfInBounds_toArray, List.set_cons_zero, List.set_cons_succ]
      refine wpAnyH_take (i := 30) (oi := ⟨some 35, _, _, _, _, _⟩) (v := undef) rfl (by kernel_rfl) (by kernel_rfl) (by kernel_rfl) (fun _ _ _ h => h) (Or.inr ⟨by rfl, rfl⟩) hS ?_
      try simp only [Act.put, List.setIfInBounds_toArray, List.set_cons_zero, List.set_cons_succ]
      refine wpAnyH_take (i := 31) (oi := ⟨some 36, _, _, _, _, _⟩) (v := undef) rfl (by kernel_rfl) (by kernel_rfl) (by kernel_rfl) (fun _ _ _ h => h) (Or.inr ⟨by rfl, rfl⟩) hS ?_
      try simp only [Act.put, List.setIfInBounds_toArray, List.set_cons_zero, List.set_cons_succ]
      refine wpAnyH_take (i := 32) (oi := ⟨some 37, _, _, _, _, _⟩) (v := undef) rfl (by kernel_rfl) (by kernel_rfl) (by kernel_rfl) (fun _ _ _ h => h) (Or.inr ⟨by rfl, rfl⟩) hS ?_
      try simp only [Act.put, List.setIfInBounds_toArray, List.set_cons_zero, List.set_cons_succ]
      refine wpAnyH_take (i := 33) (oi := ⟨some 38, _, _, _, _, _⟩) (v := undef) rfl (by kernel_rfl) (by kernel_rfl) (by kernel_rfl) (fun _ _ _ h => h) (Or.inr ⟨by rfl, rfl⟩) hS ?_
      try simp only [Act.put, List.setIfInBounds_toArray, List.set_cons_zero, List.set_cons_succ]
      refine wpAnyH_take (i := 34) (oi := ⟨some 39, _, _, _, _, _⟩) (v := ?_) rfl (by kernel_rfl) (by kernel_rfl) (by kernel_rfl) (fun _ _ _ h => h) (Or.inl ⟨by rfl, ?_⟩) hS ?_
      rotate_left 1
      · intro w' hw'
        obtain ⟨x0, x1, x2, y0, y1⟩ := HCl.out w' hw'; obtain ⟨hcv1, hcv2⟩ := HCv.out w' hw'
        go_simp
        all_goals with_reducible rfl
      try simp only [Act.put, List.setIfInBounds_toArray, List.set_cons_zero, List.set_cons_succ]
      refine wpAnyH_take (i := 35) (oi := ⟨some 4, _, _, _, _, _⟩) (v := ?_) rfl (by kernel_rfl) (by kernel_rfl) (by kernel_rfl) (fun _ _ _ h => h) (Or.inl ⟨by rfl, ?_⟩) hS ?_
      rotate_left 1
      · intro w' hw'
        obtain ⟨x0, x1, x2, y0, y1⟩ := HCl.out w' hw'; obtain ⟨hcv1, hcv2⟩ := HCv.out w' hw'
        go_simp
        all_goals with_reducible rfl
      try simp only [Act.put, List.setIfInBounds_toArray, List.set_cons_zero, List.set_cons_succ]
      refine wpAnyH_done (by kernel_rfl) ?_ _
      go_wp2_with fail
      go_ret
      exact ⟨ret_bool HQ.out.symm, HW.out.trans (hS.mono HW.out.size)⟩
  · have hbe : (cp' == cp) = false := by simpa using e1
    have HQ := hide (show q = false by rw [HB.out, decide_eq_false e1]; simp)
    clear HB e1 HG
    go_enter Tryd.func31, Tryd.ntmps31
    go_upto_region 1 with fail
    rw [<- HWE.out]
    refine wp_region_held_drew (S := fun w' => Below W.heap.size W w') (by kernel_rfl) ((Below.refl _ _).drew) (fun hS => ?_)
    refine wpAnyH_take (i := 0) (oi := ⟨some 5, _, _, _, _, _⟩) (v := ?_) rfl (by kernel_rfl) (by kernel_rfl) (by kernel_rfl) (fun _ _ _ h => h) (Or.inl ⟨by rfl, ?_⟩) hS ?_
    rotate_left 1
    · intro w' hw'
      obtain ⟨x0, x1, x2, y0, y1⟩ := HCl.out w' hw'; obtain ⟨hcv1, hcv2⟩ := HCv.out w' hw'
      go_simp
      all_goals with_reducible rfl
    try simp only [Act.put, List.setIfInBounds_toArray, List.set_cons_zero, List.set_cons_succ]
    refine wpAnyH_take (i := 1) (oi := ⟨some 6, _, _, _, _, _⟩) (v := ?_) rfl (by kernel_rfl) (by kernel_rfl) (by kernel_rfl) (fun _ _ _ h => h) (Or.inl ⟨by rfl, ?_⟩) hS ?_
    rotate_left 1
    · intro w' hw'
      obtain ⟨x0, x1, x2, y0, y1⟩ := HCl.out w' hw'; obtain ⟨hcv1, hcv2⟩ := HCv.out w' hw'
      go_simp
      all_goals with_reducible rfl
    try simp only [Act.put, List.setIfInBounds_toArray, List.set_cons_zero, List.set_cons_succ]
    refine wpAnyH_take (i := 2) (oi := ⟨some 7, _, _, _, _, _⟩) (v := ?_) rfl (by kernel_rfl) (by kernel_rfl) (by kernel_rfl) (fun _ _ _ h => h) (Or.inl ⟨by rfl, ?_⟩) hS ?_
    rotate_left 1
    · intro w' hw'
      obtain ⟨x0, x1, x2, y0, y1⟩ := HCl.out w' hw'; obtain ⟨hcv1, hcv2⟩ := HCv.out w' hw'
      go_simp
      all_goals with_reducible rfl
    try simp only [Act.put, List.setIfInBounds_toArray, List.set_cons_zero, List.set_cons_succ]
    refine wpAnyH_take (i := 3) (oi := ⟨some 8, _, _, _, _, _⟩) (v := ?_) rfl (by kernel_rfl) (by kernel_rfl) (by kernel_rfl) (fun _ _ _ h => h) (Or.inl ⟨by rfl, ?_⟩) hS ?_
    rotate_left 1
    · intro w' hw'
      obtain ⟨x0, x1, x2, y0, y1⟩ := HCl.out w' hw'; obtain ⟨hcv1, hcv2⟩ := HCv.out w' hw'
      go_simp
      all_goals with_reducible rfl
    try simp only [Act.put, List.setIfInBounds_toArray, List.set_cons_zero, List.set_cons_succ]
    refine wpAnyH_take (i := 4) (oi := ⟨some 9, _, _, _, _, _⟩) (v := ?_) rfl (by kernel_rfl) (by kernel_rfl) (by kernel_rfl) (fun _ _ _ h => h) (Or.inl ⟨by rfl, ?_⟩) hS ?_
    rotate_left 1
    · intro w' hw'
      obtain ⟨x0, x1, x2, y0, y1⟩ := HCl.out w' hw'; obtain ⟨hcv1, hcv2⟩ := HCv.out w' hw'
      go_simp
      all_goals with_reducible rfl
    try simp only [Act.put, List.setIfInBounds_toArray, List.set_cons_zero, List.set_cons_succ]
    refine wpAnyH_take (i := 5) (oi := ⟨some 10, _, _, _, _, _⟩) (v := ?_) rfl (by kernel_rfl) (by kernel_rfl) (by kernel_rfl) (fun _ _ _ h => h) (Or.inl ⟨by rfl, ?_⟩) hS ?_
    rotate_left 1
    · intro w' hw'
      obtain ⟨x0, x1, x2, y0, y1⟩ := HCl.out w' hw'; obtain ⟨hcv1, hcv2⟩ := HCv.out w' hw'
      go_simp
      all_goals with_reducible rfl
    try simp only [Act.put, List.setIfInBounds_toArray, List.set_cons_zero, List.set_cons_succ]
    refine wpAnyH_take (i := 6) (oi := ⟨some 11, _, _, _, _, _⟩) (v := ?_) rfl (by kernel_rfl) (by kernel_rfl) (by kernel_rfl) (fun _ _ _ h => h) (Or.inl ⟨by rfl, ?_⟩) hS ?_
    rotate_left 1
    · intro w' hw'
      obtain ⟨x0, x1, x2, y0, y1⟩ := HCl.out w' hw'; obtain ⟨hcv1, hcv2⟩ := HCv.out w' hw'
      go_simp
      all_goals with_reducible rfl
    try simp only [Act.put, List.setIfInBounds_toArray, List.set_cons_zero, List.set_cons_succ]
    refine wpAnyH_take (i := 7) (oi := ⟨some 12, _, _, _, _, _⟩) (v := ?_) rfl (by kernel_rfl) (by kernel_rfl) (by kernel_rfl) (fun _ _ _ h => h) (Or.inl ⟨by rfl, ?_⟩) hS ?_
    rotate_left 1
    · intro w' hw'
      obtain ⟨x0, x1, x2, y0, y1⟩ := HCl.out w' hw'; obtain ⟨hcv1, hcv2⟩ := HCv.out w' hw'
      go_simp
      all_goals with_reducible rfl
    try simp only [Act.put, List.setIfInBounds_toArray, List.set_cons_zero, List.set_cons_succ]
    refine wpAnyH_take (i := 8) (oi := ⟨some 13, _, _, _, _, _⟩) (v := undef) rfl (by kernel_rfl) (by kernel_rfl) (by kernel_rfl) (fun _ _ _ h => h) (Or.inr ⟨by rfl, rfl⟩) hS ?_
    try simp only [Act.put, List.setIfInBounds_toArray, List.set_cons_zero, List.set_cons_succ]
    refine wpAnyH_take (i := 9) (oi := ⟨some 14, _, _, _, _, _⟩) (v := undef) rfl (by kernel_rfl) (by kernel_rfl) (by kernel_rfl) (fun _ _ _ h => h) (Or.inr ⟨by rfl, rfl⟩) hS ?_
    try simp only [Act.put, List.setIfInBounds_toArray, List.set_cons_zero, List.set_cons_succ]
    refine wpAnyH_take (i := 10) (oi := ⟨some 15, _, _, _, _, _⟩) (v := undef) rfl (by kernel_rfl) (by kernel_rfl) (by kernel_rfl) (fun _ _ _ h => h) (Or.inr ⟨by rfl, rfl⟩) hS ?_
    try simp only [Act.put, List.setIfInBounds_toArray, List.set_cons_zero, List.set_cons_succ]
    refine wpAnyH_take (i := 11) (oi := ⟨some 16, _, _, _, _, _⟩) (v := undef) rfl (by kernel_rfl) (by kernel_rfl) (by kernel_rfl) (fun _ _ _ h => h) (Or.inr ⟨by rfl, rfl⟩) hS ?_
    try simp only [Act.put, List.setIfInBounds_toArray, List.set_cons_zero, List.set_cons_succ]
    refine wpAnyH_take (i := 12) (oi := ⟨some 17, _, _, _, _, _⟩) (v := undef) rfl (by kernel_rfl) (by kernel_rfl) (by kernel_rfl) (fun _ _ _ h => h) (Or.inr ⟨by rfl, rfl⟩) hS ?_
    try simp only [Act.put, List.setIfInBounds_toArray, List.set_cons_zero, List.set_cons_succ]
    refine wpAnyH_take (i := 13) (oi := ⟨some 18, _, _, _, _, _⟩) (v := undef) rfl (by kernel_rfl) (by kernel_rfl) (by kernel_rfl) (fun _ _ _ h => h) (Or.inr ⟨by rfl, rfl⟩) hS ?_
    try simp only [Act.put, List.setIfInBounds_toArray, List.set_cons_zero, List.set_cons_succ]
    refine wpAnyH_take (i := 14) (oi := ⟨some 19, _, _, _, _, _⟩) (v := ?_) rfl (by kernel_rfl) (by kernel_rfl) (by kernel_rfl) (fun _ _ _ h => h) (Or.inl ⟨by rfl, ?_⟩) hS ?_
    rotate_left 1
    · intro w' hw'
      obtain ⟨x0, x1, x2, y0, y1⟩ := HCl.out w' hw'; obtain ⟨hcv1, hcv2⟩ := HCv.out w' hw'
      go_simp
      all_goals with_reducible rfl
    try simp only [Act.put, List.setIfInBounds_toArray, List.set_cons_zero, List.set_cons_succ]
    refine wpAnyH_take (i := 15) (oi := ⟨some 20, _, _, _, _, _⟩) (v := ?_) rfl (by kernel_rfl) (by kernel_rfl) (by kernel_rfl) (fun _ _ _ h => h) (Or.inl ⟨by rfl, ?_⟩) hS ?_
    rotate_left 1
    · intro w' hw'
      obtain ⟨x0, x1, x2, y0, y1⟩ := HCl.out w' hw'; obtain ⟨hcv1, hcv2⟩ := HCv.out w' hw'
      go_simp
      all_goals with_reducible rfl
    try simp only [Act.put, List.setIfInBounds_toArray, List.set_cons_zero, List.set_cons_succ]
    refine wpAnyH_take (i := 16) (oi := ⟨some 21, _, _, _, _, _⟩) (v := undef) rfl (by kernel_rfl) (by kernel_rfl) (by kernel_rfl) (fun _ _ _ h => h) (Or.inr ⟨by rfl, rfl⟩) hS ?_
    try simp only [Act.put, List.setIfInBounds_toArray, List.set_cons_zero, List.set_cons_succ]
    refine wpAnyH_take (i := 17) (oi := ⟨some 22, _, _, _, _, _⟩) (v := undef) rfl (by kernel_rfl) (by kernel_rfl) (by kernel_rfl) (fun _ _ _ h => h) (Or.inr ⟨by rfl, rfl⟩) hS ?_
    try simp only [Act.put, List.setIfInBounds_toArray, List.set_cons_zero, List.set_cons_succ]
    refine wpAnyH_take (i := 18) (oi := ⟨some 23, _, _, _, _, _⟩) (v := undef) rfl (by kernel_rfl) (by kernel_rfl) (by kernel_rfl) (fun _ _ _ h => h) (Or.inr ⟨by rfl, rfl⟩) hS ?_
    try simp only [Act.put, List.setIfInBounds_toArray, List.set_cons_zero, List.set_cons_succ]
    refine wpAnyH_take (i := 19) (oi := ⟨some 24, _, _, _, _, _⟩) (v := undef) rfl (by kernel_rfl) (by kernel_rfl) (by kernel_rfl) (fun _ _ _ h => h) (Or.inr ⟨by rfl, rfl⟩) hS ?_
    try simp only [Act.put, List.setIfInBounds_toArray, List.set_cons_zero, List.set_cons_succ]
    refine wpAnyH_take (i := 20) (oi := ⟨some 25, _, _, _, _, _⟩) (v := undef) rfl (by kernel_rfl) (by kernel_rfl) (by kernel_rfl) (fun _ _ _ h => h) (Or.inr ⟨by rfl, rfl⟩) hS ?_
    try simp only [Act.put, List.setIfInBounds_toArray, List.set_cons_zero, List.set_cons_succ]
    refine wpAnyH_take (i := 21) (oi := ⟨some 26, _, _, _, _, _⟩) (v := undef) rfl (by kernel_rfl) (by kernel_rfl) (by kernel_rfl) (fun _ _ _ h => h) (Or.inr ⟨by rfl, rfl⟩) hS ?_
    try simp only [Act.put, List.setIfInBounds_toArray, List.set_cons_zero, List.set_cons_succ]
    refine wpAnyH_take (i := 22) (oi := ⟨some 27, _, _, _, _, _⟩) (v := undef) rfl (by kernel_rfl) (by kernel_rfl) (by kernel_rfl) (fun _ _ _ h => h) (Or.inr ⟨by rfl, rfl⟩) hS ?_
    try simp only [Act.put, List.setIfInBounds_toArray, List.set_cons_zero, List.set_cons_succ]
    refine wpAnyH_take (i := 23) (oi := ⟨some 28, _, _, _, _, _⟩) (v := ?_) rfl (by kernel_rfl) (by kernel_rfl) (by kernel_rfl) (fun _ _ _ h => h) (Or.inl ⟨by rfl, ?_⟩) hS ?_
    rotate_left 1
    · intro w' hw'
      obtain ⟨x0, x1, x2, y0, y1⟩ := HCl.out w' hw'; obtain ⟨hcv1, hcv2⟩ := HCv.out w' hw'
      go_simp
      all_goals with_reducible rfl
    try simp only [Act.put, List.setIfInBounds_toArray, List.set_cons_zero, List.set_cons_succ]
    refine wpAnyH_take (i := 24) (oi := ⟨some 29, _, _, _, _, _⟩) (v := ?_) rfl (by kernel_rfl) (by kernel_rfl) (by kernel_rfl) (fun _ _ _ h => h) (Or.inl ⟨by rfl, ?_⟩) hS ?_
    rotate_left 1
    · intro w' hw'
      obtain ⟨x0, x1, x2, y0, y1⟩ := HCl.out w' hw'; obtain ⟨hcv1, hcv2⟩ := HCv.out w' hw'
      go_simp
      all_goals with_reducible rfl
    try simp only [Act.put, List.setIfInBounds_toArray, List.set_cons_zero, List.set_cons_succ]
    refine wpAnyH_take (i := 25) (oi := ⟨some 30, _, _, _, _, _⟩) (v := undef) rfl (by kernel_rfl) (by kernel_rfl) (by kernel_rfl) (fun _ _ _ h => h) (Or.inr ⟨by rfl, rfl⟩) hS ?_
    try simp only [Act.put, List.setIfInBounds_toArray, List.set_cons_zero, List.set_cons_succ]
    refine wpAnyH_take (i := 26) (oi := ⟨some 31, _, _, _, _, _⟩) (v := undef) rfl (by kernel_rfl) (by kernel_rfl) (by kernel_rfl) (fun _ _ _ h => h) (Or.inr ⟨by rfl, rfl⟩) hS ?_
    try simp only [Act.put, List.setIfInBounds_toArray, List.set_cons_zero, List.set_cons_succ]
    refine wpAnyH_take (i := 27) (oi := ⟨some 32, _, _, _, _, _⟩) (v := undef) rfl (by kernel_rfl) (by kernel_rfl) (by kernel_rfl) (fun _ _ _ h => h) (Or.inr ⟨by rfl, rfl⟩) hS ?_
    try simp only [Act.put, List.setIfInBounds_toArray, List.set_cons_zero, List.set_cons_succ]
    refine wpAnyH_take (i := 28) (oi := ⟨some 33, _, _, _, _, _⟩) (v := undef) rfl (by kernel_rfl) (by kernel_rfl) (by kernel_rfl) (fun _ _ _ h => h) (Or.inr ⟨by rfl, rfl⟩) hS ?_
    try simp only [Act.put, List.setIfInBounds_toArray, List.set_cons_zero, List.set_cons_succ]
    refine wpAnyH_take (i := 29) (oi := ⟨some 34, _, _, _, _, _⟩) (v := undef) rfl (by kernel_rfl) (by kernel_rfl) (by kernel_rfl) (fun _ _ _ h => h) (Or.inr ⟨by rfl, rfl⟩) hS ?_
    try simp only [Act.put, List.setIfInBounds_toArray, List.set_cons_zero, List.set_cons_succ]
    refine wpAnyH_take (i := 30) (oi := ⟨some 35, _, _, _, _, _⟩) (v := undef) rfl (by kernel_rfl) (by kernel_rfl) (by kernel_rfl) (fun _ _ _ h => h) (Or.inr ⟨by rfl, rfl⟩) hS ?_
    try simp only [Act.put, List.setIfInBounds_toArray, List.set_cons_zero, List.set_cons_succ]
    refine wpAnyH_take (i := 31) (oi := ⟨some 36, _, _, _, _, _⟩) (v := undef) rfl (by kernel_rfl) (by kernel_rfl) (by kernel_rfl) (fun _ _ _ h => h) (Or.inr ⟨by rfl, rfl⟩) hS ?_
    try simp only [Act.put, List.setIfInBounds_toArray, List.set_cons_zero, List.set_cons_succ]
    refine wpAnyH_take (i := 32) (oi := ⟨some 37, _, _, _, _, _⟩) (v := undef) rfl (by kernel_rfl) (by kernel_rfl) (by kernel_rfl) (fun _ _ _ h => h) (Or.inr ⟨by rfl, rfl⟩) hS ?_
    try simp only [Act.put, List.setIfInBounds_toArray, List.set_cons_zero, List.set_cons_succ]
    refine wpAnyH_take (i := 33) (oi := ⟨some 38, _, _, _, _, _⟩) (v := undef) rfl (by kernel_rfl) (by kernel_rfl) (by kernel_rfl) (fun _ _ _ h => h) (Or.inr ⟨by rfl, rfl⟩) hS ?_
    try simp only [Act.put, List.setIfInBounds_toArray, List.set_cons_zero, List.set_cons_succ]
    refine wpAnyH_take (i := 34) (oi := ⟨some 39, _, _, _, _, _⟩) (v := ?_) rfl (by kernel_rfl) (by kernel_rfl) (by kernel_rfl) (fun _ _ _ h => h) (Or.inl ⟨by rfl, ?_⟩) hS ?_
    rotate_left 1
    · intro w' hw'
      obtain ⟨x0, x1, x2, y0, y1⟩ := HCl.out w' hw'; obtain ⟨hcv1, hcv2⟩ := HCv.out w' hw'
      go_simp
      all_goals with_reducible rfl
    try simp only [Act.put, List.setIfInBounds_toArray, List.set_cons_zero, List.set_cons_succ]
    refine wpAnyH_take (i := 35) (oi := ⟨some 4, _, _, _, _, _⟩) (v := ?_) rfl (by kernel_rfl) (by kernel_rfl) (by kernel_rfl) (fun _ _ _ h => h) (Or.inl ⟨by rfl, ?_⟩) hS ?_
    rotate_left 1
    · intro w' hw'
      obtain ⟨x0, x1, x2, y0, y1⟩ := HCl.out w' hw'; obtain ⟨hcv1, hcv2⟩ := HCv.out w' hw'
      go_simp
      all_goals with_reducible rfl
    try simp only [Act.put, List.setIfInBounds_toArray, List.set_cons_zero, List.set_cons_succ]
    refine wpAnyH_done (by kernel_rfl) ?_ _
    go_wp2_with fail
    go_ret
    exact ⟨ret_bool HQ.out.symm, HW.out.trans (hS.mono HW.out.size)⟩
end Go.Proofs.YtkdebebpnkjmdaaDoor
namespace Go.Proofs.YtkdebebpnkjmdaaDoor
open Go.RowKit

theorem GrpsIn.some_of {P : Nat → Prop} {w : World} {A : Option Addr} {gs : List GH} (h : GrpsIn P w A gs) : A = none → gs.length = 0 := fun e => by
  rcases Nat.eq_zero_or_pos gs.length with h0 | h0
  · exact h0
  · obtain ⟨b, off, e2, _⟩ := h 0 h0
    rw [e] at e2; cases e2
set_option maxRecDepth 100000 in
/-- append of one group to a slice that is full: new memory. -/
theorem append_full {P : Nat → Prop} {w : World} {ops : Array Oper} {rest : List Oper} {o : Oper} {a : Act} {Q : Exit → Act → World → Prop} (hgd : o.guard = none) (s x : Operand)
    (ho : o.op = .call { callee := .builtin .append, args := #[s, x], argTypes := #[28, 28] })
    (A : Option Addr) (gs : List GH) (n : Nat) (hn : n = gs.length) (he : a.eval s = .slice A n n) (hg : GrpsIn P w A gs) (h : GH) (bl : Nat) (hx : a.eval x = .slice (some ⟨bl, 0, none⟩) 1 1) (hc : w.cell? ⟨bl, 0, none⟩ = some (ghd h))
    (hh : RecsIn P w h.A h.rs) (hw : WfG h) (hlen : n ≤ 1073741824)
    (hk : ∀ A' c' w', GrpsIn (fun b => P b ∨ w.heap.size ≤ b) w' A' (gs ++ [h]) → (gs ++ [h]).length ≤ c' ∧ c' ≤ maxLen → Below w.heap.size w w' → wpList Tryd.prog ops Q rest (a.put o.dst (.slice A' (n + 1) c')) w') : wpList Tryd.prog ops Q (o :: rest) a w := by
  subst hn
  obtain ⟨i0, hi, hz0, hz1, hz2⟩ := info_parts grp_info
  have hcat : (gs ++ [h]).map ghd = gs.map ghd ++ [ghd h] := by simp
  refine wpList_append_grows w hgd s x _ ho 46 i0 (.slice none 0 0) 1 24 Tryd.underlying28 hi hz0 hz1 hz2 rfl (by decide) A gs.length gs.length (gs.map ghd) he (fun e => ⟨hg.some_of e, hg.some_of e⟩) (by rw [List.length_map]; omega) ?_ ⟨bl, 0, none⟩ 1 1 [ghd h] hx rfl ?_ ?_ (by omega) (by unfold maxLen; omega) (by omega) ?_
  · intro b hb j u hu
    have hj : j < gs.length := by
      have := (List.getElem?_eq_some_iff.1 hu).1
      rwa [List.length_map] at this
    obtain ⟨b', off, e2, _, _, h3, _⟩ := hg j hj
    rw [hb] at e2
    injection e2 with e2
    subst e2
    rw [List.getElem?_map, List.getElem?_eq_getElem hj] at hu
    injection hu with hu
    rw [List.getD_eq_getElem?_getD, List.getElem?_eq_getElem hj] at h3
    rw [← hu]
    have ea : (Addr.add ⟨b', off, none⟩ j) = ⟨b', off + j, none⟩ := by
      unfold Addr.add
      split
      · next h0 => rw [h0]; rfl
      · rfl
    rw [ea]
    exact (show w.cell? ⟨b', off + j, none⟩ = some (ghd gs[j]) from h3)
  · intro j u hu
    match j, hu with
    | 0, hu =>
      simp at hu
      subst hu
      exact hc
  · intro u hu
    simp at hu
    subst hu
    rfl
  · intro v' w' h1 h2
    rw [← hcat] at h1
    have hkeep : ∀ b, P b → b < w.heap.size → (P b ∨ w.heap.size ≤ b) ∧ w'.heap[b]? = w.heap[b]? := fun b hb hlt => ⟨.inl hb, h2.block b hlt (fun q => by cases q)⟩
    obtain ⟨A', c', rfl, hnc, hcm⟩ := row_slice h1
    refine hk A' c' w' (fun j hj => ?_) ⟨by rw [List.length_append]; exact hnc, hcm⟩ ⟨h2.os, h2.tape, h2.output, h2.size, fun b hb => (hkeep b · hb |>.2) |> fun _ => h2.block b hb (fun q => by cases q)⟩
    have hj' : j < gs.length + 1 := by rw [List.length_append] at hj; exact hj
    rcases h1.2 with ⟨_, h0⟩ | ⟨g, cap, cur, e, hb, hg', hn', _, hsz, htk⟩
    · omega
    · injection e with e1 e2 e3
      subst e1
      have hm : (gs ++ [h]).getD j dG ∈ gs ++ [h] := by
        rw [List.getD_eq_getElem?_getD, List.getElem?_eq_getElem hj]; exact List.getElem_mem hj
      have hlies : RecsIn (fun b => P b ∨ w.heap.size ≤ b) w' ((gs ++ [h]).getD j dG).A ((gs ++ [h]).getD j dG).rs ∧ WfG ((gs ++ [h]).getD j dG) := by
        rcases Nat.lt_or_ge j gs.length with hj2 | hj2
        · obtain ⟨_, _, _, _, _, _, h5, h6⟩ := hg j hj2
          rw [show (gs ++ [h]).getD j dG = gs.getD j dG by rw [List.getD_eq_getElem?_getD, List.getD_eq_getElem?_getD, List.getElem?_append_left hj2]]
          exact ⟨h5.keep h2.size hkeep, h6⟩
        · have : (gs ++ [h]).getD j dG = h := by
            rw [List.getD_eq_getElem?_getD, List.getElem?_append_right hj2, show j - gs.length = 0 by omega]; rfl
          rw [this]
          exact ⟨hh.keep h2.size hkeep, hw⟩
      refine ⟨g, 0, rfl, .inr hb, (Array.getElem?_eq_some_iff.1 hg').1, ?_, hlies.1, hlies.2⟩
      rw [Nat.zero_add, Lib.cell_of_heap hg']
      have hc : ((gs ++ [h]).map ghd)[j]? = some (ghd ((gs ++ [h]).getD j dG)) := by
        rw [List.getElem?_map, List.getElem?_eq_getElem hj, List.getD_eq_getElem?_getD, List.getElem?_eq_getElem hj]
        rfl
      rw [← htk, List.getElem?_take_of_lt (by rw [List.length_append] at hj; simp at hj; omega)] at hc
      simpa using hc
/-- The law's state lies in block R. -/
structure NowAt (P : Nat → Prop) (w : World) (R : Nat) (A : Option Addr) (c : Nat) (A2 : Option Addr) (c2 : Nat) (cp : List UInt8) (gs : List GH) (u : Nat) : Prop where
  box : w.heap[R]? = some (.cells #[.slice A cp.length c, .slice A2 gs.length c2, .int .i64 u] 58 (0, 0))
  off : P R
  b : BytesIn (fun b => P b ∧ b ≠ R) w A cp
  g : GrpsIn (fun b => P b ∧ b ≠ R) w A2 gs
  l : gs.length ≤ c2 ∧ c2 ≤ maxLen
theorem NowAt.keep {P Q : Nat → Prop} {w w' : World} {R : Nat} {A : Option Addr} {c : Nat} {A2 : Option Addr} {c2 : Nat} {cp : List UInt8} {gs : List GH} {u : Nat} (h : NowAt P w R A c A2 c2 cp gs u) (hs : w.heap.size ≤ w'.heap.size) (hb : ∀ b, P b → b < w.heap.size → Q b ∧ w'.heap[b]? = w.heap[b]?) : NowAt Q w' R A c A2 c2 cp gs u :=
  ⟨(hb R h.off (block_lt h.box)).2.trans h.box, (hb R h.off (block_lt h.box)).1, h.b.keep hs fun b p l => ⟨⟨(hb b p.1 l).1, p.2⟩, (hb b p.1 l).2⟩, h.g.keep hs fun b p l => ⟨⟨(hb b p.1 l).1, p.2⟩, (hb b p.1 l).2⟩, h.l⟩
/-- The state that a Compact was to make, if the power went in it. -/
def NextAt (P : Nat → Prop) (w : World) (v : Value) (ot : Option (List UInt8)) : Prop :=
  match ot with
  | none => v = .pointer none
  | some cp => ∃ N A c, v = .pointer (some ⟨N, 0, none⟩) ∧ NowAt P w N A c none 0 cp [] 0
theorem NextAt.keep {P Q : Nat → Prop} {w w' : World} {v : Value} {ot : Option (List UInt8)} (h : NextAt P w v ot) (hs : w.heap.size ≤ w'.heap.size) (hb : ∀ b, P b → b < w.heap.size → Q b ∧ w'.heap[b]? = w.heap[b]?) : NextAt Q w' v ot := by
  cases ot with
  | none => exact h
  | some cp =>
    obtain ⟨N, A, c, e, k⟩ := h
    exact ⟨N, A, c, e, k.keep hs hb⟩
/-- The log, the law's state and the next one, all in memory. -/
structure Rest (base h g R : Nat) (w : World) (v8 : Value) (L : LV) (D : DS) (A : Option Addr) (c : Nat) (A2 : Option Addr) (c2 : Nat) (cp : List UInt8) (gs : List GH) (u : Nat) (ot : Option (List UInt8)) : Prop where
  log : LogAt base h g w L D
  now : NowAt (Off h g D) w R A c A2 c2 cp gs u
  nxt : NextAt (fun b => Off h g D b ∧ b ≠ R) w v8 ot
theorem Rest.turn {base h g R : Nat} {w w' : World} {v8 : Value} {L L' : LV} {D D' : DS} {A : Option Addr} {c : Nat} {A2 : Option Addr} {c2 : Nat} {cp : List UInt8} {gs : List GH} {u : Nat} {ot : Option (List UInt8)}
    (H : Rest base h g R w v8 L D A c A2 c2 cp gs u ot) (hL : LogAt base h g w' L' D') (t : LTurn h g D D' w w') : Rest base h g R w' v8 L' D' A c A2 c2 cp gs u ot :=
  ⟨hL, H.now.keep t.size fun b p l => t.off b p l, H.nxt.keep t.size fun b p l => ⟨⟨(t.off b p.1 l).1, p.2⟩, (t.off b p.1 l).2⟩⟩
theorem Rest.below {base h g R : Nat} {w w' : World} {v8 : Value} {L : LV} {D : DS} {A : Option Addr} {c : Nat} {A2 : Option Addr} {c2 : Nat} {cp : List UInt8} {gs : List GH} {u : Nat} {ot : Option (List UInt8)}
    (H : Rest base h g R w v8 L D A c A2 c2 cp gs u ot) (hb : Below w.heap.size w w') : Rest base h g R w' v8 L D A c A2 c2 cp gs u ot := H.turn (H.log.below hb) (LTurn.of_below hb)
theorem Rest.put {base h g R : Nat} {w w' : World} {v8 : Value} {L : LV} {D : DS} {A A' : Option Addr} {c c' : Nat} {A2 A2' : Option Addr} {c2 c2' : Nat} {cp cp' : List UInt8} {gs gs' : List GH} {u u' : Nat} {ot : Option (List UInt8)}
    (H : Rest base h g R w v8 L D A c A2 c2 cp gs u ot) (hs : ∀ b, b ≠ R → w'.heap[b]? = w.heap[b]?) (hz : w.heap.size ≤ w'.heap.size)
    (hx : w'.heap[R]? = some (.cells #[.slice A' cp'.length c', .slice A2' gs'.length c2', .int .i64 u'] 58 (0, 0)))
    (hb : BytesIn (fun b => Off h g D b ∧ b ≠ R) w A' cp') (hg : GrpsIn (fun b => Off h g D b ∧ b ≠ R) w A2' gs') (hl : gs'.length ≤ c2' ∧ c2' ≤ maxLen) : Rest base h g R w' v8 L D A' c' A2' c2' cp' gs' u' ot :=
  ⟨H.log.keepR hs H.now.off, ⟨hx, H.now.off, hb.keep hz fun b p _ => ⟨p, hs b p.2⟩, hg.keep hz fun b p _ => ⟨p, hs b p.2⟩, hl⟩, H.nxt.keep hz fun b p _ => ⟨p, hs b p.2⟩⟩
theorem below_set {base R : Nat} (w : World) (hR : base ≤ R) (i : Nat) (u : Value) : Below base w (w.setCell ⟨R, i, none⟩ u) :=
  ⟨rfl, rfl, rfl, by simp [World.setCell], fun b hb => Below.heap_setCell _ _ _ _ (by show b ≠ R; omega)⟩
/-- What is sure is written down. -/
theorem Rest.sure {base h g R : Nat} {w : World} {v8 : Value} {L : LV} {D : DS} {A : Option Addr} {c : Nat} {A2 : Option Addr} {c2 : Nat} {cp : List UInt8} {gs : List GH} {u : Nat} {ot : Option (List UInt8)}
    (H : Rest base h g R w v8 L D A c A2 c2 cp gs u ot) (u' : Nat) : Rest base h g R (w.setCell ⟨R, 2, none⟩ (.int .i64 u')) v8 L D A c A2 c2 cp gs u' ot :=
  H.put (fun b hb => Below.heap_setCell _ _ _ _ hb) (by simp [World.setCell]) (by rw [Joins.block_setCell (i := 2) H.now.box]; rfl) H.now.b H.now.g H.now.l
/-- One more group, in new memory. -/
theorem Rest.grp {base h g R : Nat} {w w' : World} {v8 : Value} {L : LV} {D : DS} {A : Option Addr} {c : Nat} {A2 : Option Addr} {c2 : Nat} {cp : List UInt8} {gs : List GH} {u : Nat} {ot : Option (List UInt8)}
    (H : Rest base h g R w v8 L D A c A2 c2 cp gs u ot) (hb : Below w.heap.size w w') {A' : Option Addr} {c' : Nat} {gs' : List GH} (hg : GrpsIn (fun b => (Off h g D b ∧ b ≠ R) ∨ w.heap.size ≤ b) w' A' gs') (hl : gs'.length ≤ c' ∧ c' ≤ maxLen) :
    Rest base h g R (w'.setCell ⟨R, 1, none⟩ (.slice A' gs'.length c')) v8 L D A c A' c' cp gs' u ot := by
  have H' := H.below hb
  have hR := block_lt H.now.box
  refine H'.put (fun b hb => Below.heap_setCell _ _ _ _ hb) (by simp [World.setCell]) (by rw [Joins.block_setCell (i := 1) H'.now.box]; rfl) H'.now.b (hg.mono fun b p _ => ?_) hl
  rcases p with p | p
  · exact p
  · exact ⟨H.log.off_new p, by omega⟩
/-- The whole state is written anew. -/
theorem Rest.whole {base h g R : Nat} {w : World} {v8 : Value} {L : LV} {D : DS} {A A' : Option Addr} {c c' : Nat} {A2 A2' : Option Addr} {c2 c2' : Nat} {cp cp' : List UInt8} {gs gs' : List GH} {u : Nat} {ot : Option (List UInt8)}
    (H : Rest base h g R w v8 L D A c A2 c2 cp gs u ot) (u' : Nat) (hb : BytesIn (fun b => Off h g D b ∧ b ≠ R) w A' cp') (hg : GrpsIn (fun b => Off h g D b ∧ b ≠ R) w A2' gs') (hl : gs'.length ≤ c2' ∧ c2' ≤ maxLen) :
    Rest base h g R (((w.setCell ⟨R, 0, none⟩ (.slice A' cp'.length c')).setCell ⟨R, 1, none⟩ (.slice A2' gs'.length c2')).setCell ⟨R, 2, none⟩ (.int .i64 u')) v8 L D A' c' A2' c2' cp' gs' u' ot :=
  H.put (fun b hb => by rw [Below.heap_setCell _ _ _ _ hb, Below.heap_setCell _ _ _ _ hb, Below.heap_setCell _ _ _ _ hb]) (by simp [World.setCell])
    (by rw [Joins.block_setCell (i := 2) (Joins.block_setCell (i := 1) (Joins.block_setCell (i := 0) H.now.box _) _) _]; rfl) hb hg hl
theorem below_set3 {base R : Nat} (w : World) (hR : base ≤ R) (a b c : Value) : Below base w (((w.setCell ⟨R, 0, none⟩ a).setCell ⟨R, 1, none⟩ b).setCell ⟨R, 2, none⟩ c) := (((Below.refl base w).setCell (p := ⟨R, 0, none⟩) hR a).setCell (p := ⟨R, 1, none⟩) hR b).setCell (p := ⟨R, 2, none⟩) hR c
/-- A copy of bytes in an empty slice of one's own. -/
theorem own_empty {w w7 : World} (h : w7 = w.alloc (.cells #[] 5)) : Below w.heap.size w w7 ∧ w7.ownsRow w.heap.size 5 1 (.slice (some ⟨w.heap.size, 0, none⟩) 0 0) 0 (byC []) := by
  subst h
  exact ⟨(Below.refl _ _).alloc (Nat.le_refl _) _, rfl, .inr ⟨w.heap.size, 0, #[], rfl, Nat.le_refl _, heap_alloc_new w _, Nat.le_refl _, by unfold maxLen; omega, rfl, rfl⟩⟩
/-- One call's way out: all well, or the power has gone. -/
def Aft (k : Nat) (r : Int × PD × LV) (f : Nat) (gen : Int) (cp : List UInt8) (gs gs' : List (List (List UInt8))) (u u' : Nat) : Prop :=
  (r.1 = 0 ∧ Cr k r.2.1 f gen cp gs u none ∧ Lv r.2.1 r.2.2 f gen) ∨ (r.1 = 40 ∧ Cr k r.2.1 f gen cp gs' u' none ∧ Gone r.2.1 r.2.2)
theorem Cr.append_aft {k : Nat} {p : PD} {L : LV} {f : Nat} {gen : Int} {cp : List UInt8} {gs : List (List (List UInt8))} {u : Nat} (h : Cr k p f gen cp gs u none) (v : Lv p L f gen) (hk : k ≤ 100) {rs : List (List UInt8)} (hr : RecOk rs) (h0 : rs.length ≠ 0) :
    Aft (k + 1) (appendR p L rs) f gen cp (gs ++ [rs]) (gs ++ [rs]) u u := by
  obtain ⟨h1, h2⟩ := h.append v hk hr h0
  rcases h2 with ⟨h2, h3⟩ | ⟨h2, h3⟩
  · exact .inl ⟨h2, h1, h3⟩
  · exact .inr ⟨h2, h1, h3⟩
theorem append_none {p : PD} {L : LV} (h : L.down = false) : appendR p L [] = (0, p, L) := by
  unfold appendR
  rw [powR_up h]
  show (0, p, (⟨L.f, L.gen, L.size, L.loose, false⟩ : LV)) = _
  cases L
  simp_all
theorem Cr.commit_aft {k : Nat} {p : PD} {L : LV} {f : Nat} {gen : Int} {cp : List UInt8} {gs : List (List (List UInt8))} {u : Nat} (h : Cr k p f gen cp gs u none) (v : Lv p L f gen) (hk : k ≤ 99) {rs : List (List UInt8)} (hr : RecOk rs) (gs' : List (List (List UInt8))) (hg : gs' = if rs.length = 0 then gs else gs ++ [rs]) :
    Aft (k + 2) (commitR p L rs) f gen cp gs' gs' gs'.length u := by
  unfold commitR
  by_cases h0 : rs.length = 0
  · rw [if_pos h0] at hg
    obtain rfl := List.length_eq_zero_iff.1 h0
    rw [append_none v.dn, if_pos rfl, hg]
    rcases h.more.sync v (by omega) with ⟨a, b, c⟩ | ⟨a, b, c⟩
    · exact .inl ⟨a, b, c⟩
    · exact .inr ⟨a, b, c⟩
  · rw [if_neg h0] at hg
    obtain ⟨h1, h2⟩ := h.append v (by omega) hr h0
    rcases h2 with ⟨h2, h3⟩ | ⟨h2, h3⟩
    · rw [if_pos h2, hg]
      rcases h1.sync h3 (by omega) with ⟨a, b, c⟩ | ⟨a, b, c⟩
      · exact .inl ⟨a, b, c⟩
      · exact .inr ⟨a, b, c⟩
    · rw [if_neg (by rw [h2]; decide), hg]
      exact .inr ⟨h2, h1.more, h3⟩
theorem Cr.arm {k : Nat} {p : PD} {f : Nat} {gen : Int} {cp : List UInt8} {gs : List (List (List UInt8))} {u : Nat} {ot : Option (List UInt8)} (h : Cr k p f gen cp gs u ot) {n : Int} (h0 : -9223372036854775808 ≤ n) (h1 : n ≤ 9223372036854775807) : Cr (k + 1) { p with left := n } f gen cp gs u ot := by
  obtain ⟨a1, a2, a3, a4, a5, a6, a7, a8, a9, b1, b2, b3, b4, b5, b6, b7⟩ := h.more
  exact ⟨arm_ok a1 h0 h1, a2, a3, a4, a5, a6, a7, a8, a9, b1, b2, b3, b4, b5, b6, b7⟩
theorem crash_start : (openR (newP 1048576)).1 = 0 ∧ Cr 0 (openR (newP 1048576)).2.1 (openR (newP 1048576)).2.2.f 1 [] [] 0 none ∧ Lv (openR (newP 1048576)).2.1 (openR (newP 1048576)).2.2 (openR (newP 1048576)).2.2.f 1 := by
  obtain ⟨h1, h2⟩ := calmly_new
  have hh := (headB_bd 1 []).2
  simp at hh
  obtain ⟨a1, a2, a3, a4, a5, a6, a7, a8⟩ := open_new (cap := 1048576) rfl (by omega)
  refine ⟨h1, ⟨h2.ok, h2.ls.f, by rw [h2.ls.x, a4], h2.ls.xo, h2.ls.x2, h2.ls.x3, by decide, by decide, ?_, Nat.le_refl _, h2.n, h2.d, h2.sh, h2.hc, (fun c e => by cases e), h2.cap⟩, ⟨rfl, a4, h2.ls.sz, h2.ls.lo, h2.ls.dn, h2.ls.cm.down⟩⟩
  have := h2.ls.s0
  rw [a4] at this
  simpa [catG] using this
end Go.Proofs.YtkdebebpnkjmdaaDoor
namespace Go.Proofs.YtkdebebpnkjmdaaDoor
open Go.RowKit
section
variable {P : Program} {ops : Array Oper} {Q : Exit → Act → World → Prop} {md : Region.Mode} {S : World → Prop} {L : Nat}

/-- Whatever order is picked, and S holds behind each operation but number L. -/
def heldBut (P : Program) (md : Region.Mode) (ops : Array Oper) (Q : Exit → Act → World → Prop) (S : World → Prop) (L : Nat) : Nat → Array Bool → Act → World → Prop
  | 0, listed, a, w => Region.ready md ops listed = [] ∧ Q .normal a w
  | n + 1, listed, a, w => (Region.ready md ops listed = [] → Q .normal a w) ∧
      ∀ i ∈ Region.ready md ops listed, wpOp P ops Q i (fun a' w' => (i = L ∨ S w') ∧ heldBut P md ops Q S L n (listed.setIfInBounds i true) a' w') a w
theorem any_of_heldBut : ∀ (n : Nat) (listed : Array Bool) (a : Act) (w : World), heldBut P md ops Q S L n listed a w → wpAny P md ops Q n listed a w
  | 0, _, _, _, h => h
  | n + 1, _, _, _, h => ⟨h.1, fun i hi => wpOp_mono (fun a' w' h' => any_of_heldBut n _ a' w' h'.2) (h.2 i hi)⟩
theorem not_last {i : Nat} {listed : Array Bool} (hw : Region.waitsFor md ops L i = true) (hr : i ∈ Region.ready md ops listed) : ∀ j ∈ Region.ready md ops listed, j ≠ L := by
  intro j hj e
  subst e
  obtain ⟨oj, hoj, e, he, hb, hon⟩ := Region.waitsFor_spec hw
  obtain ⟨_, ok, hok, hall⟩ := mem_ready.1 hj
  have : oj = ok := Option.some.inj (hoj.symm.trans hok)
  subst this
  have h1 := hall e he hb
  have h0 := (mem_ready.1 hr).1
  rw [hon] at h1
  rcases Nat.lt_or_ge i listed.size with h' | h'
  · simp [h'] at h0 h1; rw [h0] at h1; cases h1
  · simp [Array.getElem?_eq_none h'] at h1
theorem heldBut_first {i : Nat} {oi : Oper} {v : Value} (hi : ops[i]? = some oi) (hsel : ∀ (j : Nat) (o : Oper) cs b, ops[j]? = some o → o.op ≠ .select cs b)
    (hQ : ∀ c a w, Q (.panic c) (a.put oi.dst v) w → Q (.panic c) a w) (hw : Region.waitsFor md ops L i = true) :
    ∀ (n : Nat) (listed : Array Bool) (a : Act) (w : World),
      (∀ j oj, ops[j]? = some oj → j ≠ i → listed.getD j true = false → (∀ e ∈ oj.after, Region.binds md e = true → e.on ≠ i) → oi.apart ops oj = true) →
      i ∈ Region.ready md ops listed → YieldsIf P ops S oi v a → S w →
      heldBut P md ops Q S L n (listed.setIfInBounds i true) (a.put oi.dst v) w → heldBut P md ops Q S L (n + 1) listed a w := by
  intro n
  induction n with
  | zero =>
    intro listed a w _ hr hy hS H
    refine ⟨fun h => (by rw [h] at hr; cases hr), fun j hj => ?_⟩
    by_cases hji : j = i
    · subst hji; exact hy.wpOp hi hS ⟨.inr hS, H⟩
    · have := ready_mono hj hji
      rw [H.1] at this
      cases this
  | succ n ih =>
    intro listed a w hfree hr hy hS H
    refine ⟨fun h => (by rw [h] at hr; cases hr), fun j hj => ?_⟩
    by_cases hji : j = i
    · subst hji; exact hy.wpOp hi hS ⟨.inr hS, H⟩
    · have hjL := not_last hw hr j hj
      have h1 := H.2 j (ready_mono hj hji)
      obtain ⟨hjun, oj, hoj, hall⟩ := mem_ready.1 hj
      have hnot : ∀ e ∈ oj.after, Region.binds md e = true → e.on ≠ i := fun e he hb heq => by
        have h1 := hall e he hb
        have h0 := (mem_ready.1 hr).1
        rw [heq] at h1
        rcases Nat.lt_or_ge i listed.size with h' | h'
        · simp [h'] at h0 h1; rw [h0] at h1; cases h1
        · simp [Array.getElem?_eq_none h'] at h1
      have h2 := wpOp_putIf hoj (hfree j oj hoj hji hjun hnot) (fun cs b => hsel i oi cs b hi) (fun cs b => hsel j oj cs b hoj) hQ hy h1
      have hfree' : ∀ k ok, ops[k]? = some ok → k ≠ i → (listed.setIfInBounds j true).getD k true = false →
          (∀ e ∈ ok.after, Region.binds md e = true → e.on ≠ i) → oi.apart ops ok = true := fun k ok hk hki hun hno => by
        refine hfree k ok hk hki ?_ hno
        by_cases hjk : j = k
        · subst hjk; exact hjun
        · rw [getD_set_ne true hjk] at hun; exact hun
      refine wpOp_mono (fun a' w' h3 => ⟨h3.2.1, ih (listed.setIfInBounds j true) a' w' hfree' (ready_mono hr (Ne.symm hji)) h3.1 (h3.2.1.resolve_left hjL) ?_⟩) h2
      rw [Array.setIfInBounds_comm _ _ hji]
      exact h3.2.2
theorem heldBut_take {i : Nat} {oi : Oper} {v : Value} {n : Nat} {listed : Array Bool} {a : Act} {w : World} (hi : ops[i]? = some oi)
    (hs : Region.noSelect ops = true) (hf : Region.free md ops listed i = true) (hr : (Region.ready md ops listed).contains i = true) (hw : Region.waitsFor md ops L i = true)
    (hQ : ∀ c a w, Q (.panic c) (a.put oi.dst v) w → Q (.panic c) a w) (hy : YieldsIf P ops S oi v a) (hS : S w)
    (h : heldBut P md ops Q S L n (listed.setIfInBounds i true) (a.put oi.dst v) w) : heldBut P md ops Q S L (n + 1) listed a w :=
  heldBut_first hi (Region.noSelect_spec hs) hQ hw n listed a w (Region.free_spec hi hf) (by simpa using hr) hy hS h
theorem heldBut_one {i : Nat} {o : Oper} {n : Nat} {listed : Array Bool} {a : Act} {w : World} (hr : Region.ready md ops listed = [i]) (ho : ops[i]? = some o)
    (h : ∀ K' : Act → World → Prop, Shut (∀ a w, (i = L ∨ S w) → (i = L ∨ S w → heldBut P md ops Q S L n (listed.setIfInBounds i true) a w) → K' a w) → if Region.wanted o (yielded ops a.tmps) = true then Oper.wp P o a w K' Q else K' (a.put o.dst undef) w) :
    heldBut P md ops Q S L (n + 1) listed a w :=
  ⟨fun h0 => (by rw [hr] at h0; cases h0), fun j hj => by
    rw [hr] at hj
    obtain rfl : j = i := by simpa using hj
    exact wpOp_step ho (fun K' hK => h K' (fun a w hS hW => hK a w ⟨hS, hW hS⟩))⟩
theorem heldBut_done {listed : Array Bool} {a : Act} {w : World} (hr : Region.ready md ops listed = []) (h : Q .normal a w) : ∀ n, heldBut P md ops Q S L n listed a w
  | 0 => ⟨hr, h⟩
  | _ + 1 => ⟨fun _ => h, by rw [hr]; simp⟩
theorem wp_region_heldBut {id : Nat} {a : Act} {w : World} (hm : P.follows .mixedOrders = true) (hS : S w.drew)
    (h : S w.drew → heldBut P .any ops Q S L ops.size (Array.replicate ops.size false) a w.drew) : (Code.region id ops true).wp P Q a w :=
  wp_region_any hm (any_of_heldBut _ _ _ _ (h hS))
end
set_option maxRecDepth 100000 in
/-- append of one group to a slice that is full, as a step of a drawn region. -/
theorem step_full {P : Nat → Prop} {w : World} {ops : Array Oper} {o : Oper} {a : Act} {K : Act → World → Prop} {Q : Exit → Act → World → Prop} {E : Prop} (hgd : o.guard = none) (s x : Operand)
    (ho : o.op = .call { callee := .builtin .append, args := #[s, x], argTypes := #[28, 28] })
    (A : Option Addr) (gs : List GH) (n : Nat) (hn : n = gs.length) (he : a.eval s = .slice A n n) (hg : GrpsIn P w A gs) (h : GH) (bl : Nat) (hx : a.eval x = .slice (some ⟨bl, 0, none⟩) 1 1) (hc : w.cell? ⟨bl, 0, none⟩ = some (ghd h))
    (hh : RecsIn P w h.A h.rs) (hw : WfG h) (hlen : n ≤ 1073741824)
    (hk : ∀ A' c' w', GrpsIn (fun b => P b ∨ w.heap.size ≤ b) w' A' (gs ++ [h]) → (gs ++ [h]).length ≤ c' ∧ c' ≤ maxLen → Below w.heap.size w w' → K (a.put o.dst (.slice A' (n + 1) c')) w') : if Region.wanted o (yielded ops a.tmps) = true then Oper.wp Tryd.prog o a w K Q else E := by
  subst hn
  obtain ⟨i0, hi, hz0, hz1, hz2⟩ := info_parts grp_info
  have hcat : (gs ++ [h]).map ghd = gs.map ghd ++ [ghd h] := by simp
  refine step_append_grows hgd s x _ ho 46 i0 (.slice none 0 0) 1 24 Tryd.underlying28 hi hz0 hz1 hz2 rfl (by decide) A gs.length gs.length (gs.map ghd) he (fun e => ⟨hg.some_of e, hg.some_of e⟩) (by rw [List.length_map]; omega) ?_ ⟨bl, 0, none⟩ 1 1 [ghd h] hx rfl ?_ ?_ (by omega) (by unfold maxLen; omega) (by omega) ?_
  · intro b hb j u hu
    have hj : j < gs.length := by
      have := (List.getElem?_eq_some_iff.1 hu).1
      rwa [List.length_map] at this
    obtain ⟨b', off, e2, _, _, h3, _⟩ := hg j hj
    rw [hb] at e2
    injection e2 with e2
    subst e2
    rw [List.getElem?_map, List.getElem?_eq_getElem hj] at hu
    injection hu with hu
    rw [List.getD_eq_getElem?_getD, List.getElem?_eq_getElem hj] at h3
    rw [← hu]
    have ea : (Addr.add ⟨b', off, none⟩ j) = ⟨b', off + j, none⟩ := by
      unfold Addr.add
      split
      · next h0 => rw [h0]; rfl
      · rfl
    rw [ea]
    exact (show w.cell? ⟨b', off + j, none⟩ = some (ghd gs[j]) from h3)
  · intro j u hu
    match j, hu with
    | 0, hu =>
      simp at hu
      subst hu
      exact hc
  · intro u hu
    simp at hu
    subst hu
    rfl
  · intro v' w' h1 h2
    rw [← hcat] at h1
    have hkeep : ∀ b, P b → b < w.heap.size → (P b ∨ w.heap.size ≤ b) ∧ w'.heap[b]? = w.heap[b]? := fun b hb hlt => ⟨.inl hb, h2.block b hlt (fun q => by cases q)⟩
    obtain ⟨A', c', rfl, hnc, hcm⟩ := row_slice h1
    refine hk A' c' w' (fun j hj => ?_) ⟨by rw [List.length_append]; exact hnc, hcm⟩ ⟨h2.os, h2.tape, h2.output, h2.size, fun b hb => (hkeep b · hb |>.2) |> fun _ => h2.block b hb (fun q => by cases q)⟩
    have hj' : j < gs.length + 1 := by rw [List.length_append] at hj; exact hj
    rcases h1.2 with ⟨_, h0⟩ | ⟨g, cap, cur, e, hb, hg', hn', _, hsz, htk⟩
    · omega
    · injection e with e1 e2 e3
      subst e1
      have hm : (gs ++ [h]).getD j dG ∈ gs ++ [h] := by
        rw [List.getD_eq_getElem?_getD, List.getElem?_eq_getElem hj]; exact List.getElem_mem hj
      have hlies : RecsIn (fun b => P b ∨ w.heap.size ≤ b) w' ((gs ++ [h]).getD j dG).A ((gs ++ [h]).getD j dG).rs ∧ WfG ((gs ++ [h]).getD j dG) := by
        rcases Nat.lt_or_ge j gs.length with hj2 | hj2
        · obtain ⟨_, _, _, _, _, _, h5, h6⟩ := hg j hj2
          rw [show (gs ++ [h]).getD j dG = gs.getD j dG by rw [List.getD_eq_getElem?_getD, List.getD_eq_getElem?_getD, List.getElem?_append_left hj2]]
          exact ⟨h5.keep h2.size hkeep, h6⟩
        · have : (gs ++ [h]).getD j dG = h := by
            rw [List.getD_eq_getElem?_getD, List.getElem?_append_right hj2, show j - gs.length = 0 by omega]; rfl
          rw [this]
          exact ⟨hh.keep h2.size hkeep, hw⟩
      refine ⟨g, 0, rfl, .inr hb, (Array.getElem?_eq_some_iff.1 hg').1, ?_, hlies.1, hlies.2⟩
      rw [Nat.zero_add, Lib.cell_of_heap hg']
      have hc : ((gs ++ [h]).map ghd)[j]? = some (ghd ((gs ++ [h]).getD j dG)) := by
        rw [List.getElem?_map, List.getElem?_eq_getElem hj, List.getD_eq_getElem?_getD, List.getElem?_eq_getElem hj]
        rfl
      rw [← htk, List.getElem?_take_of_lt (by rw [List.length_append] at hj; simp at hj; omega)] at hc
      simpa using hc
end Go.Proofs.YtkdebebpnkjmdaaDoor
