/-
  A log without crashes (no program).
  What is found in a file that was cut off (no program).
  A new disk is opened (no program).
-/
import Derived.Test.YtkdihekhdnnheaaDoorMG5
import Derived.Test.YtkdihekhdnnheaaDoorKAwake
namespace Go.Proofs.YtkdihekhdnnheaaDoor

/-- The disk's power stays. -/
structure Cm (p : PD) : Prop where
  ok : p.Ok
  down : p.down = false
  left : p.left < 0
theorem Cm.cmd {p : PD} (h : Cm p) : cmdE p = 0 ∧ cmdP p = { p with done := p.done + 1 } := by
  have h1 : ¬ p.left = 0 := by have := h.left; omega
  have h2 : ¬ 0 < p.left := by have := h.left; omega
  unfold cmdE cmdP
  rw [if_neg h1, if_neg h1, if_neg h2]
  exact ⟨rfl, rfl⟩
theorem Cm.check {p : PD} (h : Cm p) {f : Nat} (hf : f < 4) : checkE p f = 0 := by unfold checkE; rw [h.down, file_lt hf]; rfl
theorem Cm.app {p : PD} (h : Cm p) {f : Nat} (hf : f < 4) (ys : List UInt8) (hr : p.used + ys.length ≤ p.cap) :
    appE p f ys.length = 0 ∧ appP p f ys = { addP p f ys with done := p.done + 1 } ∧ Cm (appP p f ys) := by
  have hc := h.check hf
  have hn : ¬ p.cap < ((p.used + ys.length : Nat) : Int) := by omega
  have ha : Cm (addP p f ys) := ⟨add_ok h.ok hf (by have := h.ok.cap1; omega), h.down, h.left⟩
  have e : appP p f ys = { addP p f ys with done := p.done + 1 } := by
    unfold appP
    rw [if_pos hc, if_neg hn, Int.toNat_natCast, ha.cmd.2]; rfl
  refine ⟨?_, e, app_ok h.ok _ _, by rw [e]; exact h.down, by rw [e]; exact h.left⟩
  unfold appE
  rw [if_pos hc, if_neg hn, h.cmd.1]
theorem Cm.full {p : PD} (h : Cm p) {f : Nat} (hf : f < 4) (ys : List UInt8) (hr : ¬ (p.used + ys.length : Nat) ≤ p.cap) : appE p f ys.length = 41 ∧ appP p f ys = p := by
  have hc := h.check hf
  have hn : p.cap < ((p.used + ys.length : Nat) : Int) := by omega
  unfold appE appP
  rw [if_pos hc, if_pos hn, if_pos hc, if_pos hn]
  exact ⟨rfl, rfl⟩
theorem Cm.syn {p : PD} (h : Cm p) {f : Nat} (hf : f < 4) : synE p f = 0 ∧ synP p f = { p with s := upd p.s f (p.xs f).length, done := p.done + 1 } ∧ Cm (synP p f) := by
  have hc := h.check hf
  have e : synP p f = { p with s := upd p.s f (p.xs f).length, done := p.done + 1 } := by
    unfold synP secP cutP
    rw [if_pos hc, if_pos h.cmd.1, Int.toNat_natCast, h.cmd.2]
    show PD.mk (upd p.xs f ((p.xs f).take (p.xs f).length)) _ _ _ _ _ = _
    rw [List.take_length, upd_self]
  refine ⟨?_, e, syn_okG h.ok _, by rw [e]; exact h.down, by rw [e]; exact h.left⟩
  unfold synE
  rw [if_pos hc, h.cmd.1]
theorem Cm.ct {p : PD} (h : Cm p) {f n : Nat} (hf : f < 4) (hn : n ≤ (p.xs f).length) : ctE p f n = 0 ∧ ctP p f n = { p with xs := upd p.xs f ((p.xs f).take n), s := upd p.s f n, done := p.done + 1 } ∧ Cm (ctP p f n) := by
  have hc := h.check hf
  have hr : 0 ≤ (n : Int) ∧ (n : Int) ≤ (p.xs (f : Int).toNat).length := by rw [Int.toNat_natCast]; omega
  have e : ctP p f n = { p with xs := upd p.xs f ((p.xs f).take n), s := upd p.s f n, done := p.done + 1 } := by
    unfold ctP secP cutP
    rw [if_pos hc, if_pos hr, if_pos h.cmd.1, Int.toNat_natCast, Int.toNat_natCast, h.cmd.2]
  refine ⟨?_, e, ct_ok h.ok _ _, by rw [e]; exact h.down, by rw [e]; exact h.left⟩
  unfold ctE
  rw [if_pos hc, if_pos hr, h.cmd.1]
theorem Cm.empty {p : PD} (h : Cm p) (L : LV) {f : Nat} (hf : f < 4) : (emptyR p L f).1 = 0 ∧ Cm (emptyR p L f).2.1 ∧ (emptyR p L f).2.1.xs = upd p.xs f [] ∧ (emptyR p L f).2.1.s = upd p.s f 0 ∧ (emptyR p L f).2.1.cap = p.cap ∧ (emptyR p L f).2.2 = L := by
  unfold emptyR
  by_cases h0 : (p.xs f).length = 0
  · rw [if_pos h0]
    have e0 : p.xs f = [] := List.length_eq_zero_iff.1 h0
    have e1 : p.s f = 0 := by have h1 := h.ok.s0 f hf; have h2 := h.ok.s1 f hf; rw [h0] at h2; omega
    exact ⟨rfl, h, by show p.xs = _; rw [← e0, upd_self], by show p.s = _; rw [← e1, upd_self], rfl, rfl⟩
  · rw [if_neg h0]
    obtain ⟨a, b, c⟩ := h.ct (n := 0) hf (Nat.zero_le _)
    have b' : ctP p f 0 = { p with xs := upd p.xs f ((p.xs f).take 0), s := upd p.s f ((0 : Nat) : Int), done := p.done + 1 } := b
    exact ⟨a, c, by show (ctP p f 0).xs = _; rw [b']; rfl, by show (ctP p f 0).s = _; rw [b']; rfl, by show (ctP p f 0).cap = _; rw [b'], rfl⟩
def catG (gs : List (List (List UInt8))) : List UInt8 := gs.flatMap groupB
theorem catG_snoc (gs : List (List (List UInt8))) (rs : List (List UInt8)) : catG (gs ++ [rs]) = catG gs ++ groupB rs := by unfold catG; rw [List.flatMap_append]; simp
/-- A log that lives on a disk. -/
structure LS (p : PD) (L : LV) (cp : List UInt8) (gs : List (List (List UInt8))) : Prop where
  cm : Cm p
  dn : L.down = false
  f : L.f < 2
  x : p.xs L.f = headB L.gen cp ++ catG gs
  xo : p.xs (1 - L.f) = []
  x2 : p.xs 2 = []
  x3 : p.xs 3 = []
  g1 : 1 ≤ L.gen
  sz : L.size = (p.xs L.f).length
  s0 : ((headB L.gen cp).length : Int) ≤ p.s L.f
  lo : L.loose = false → p.s L.f = (p.xs L.f).length
theorem LS.used {p : PD} {L : LV} {cp : List UInt8} {gs : List (List (List UInt8))} (h : LS p L cp gs) : p.used = (p.xs L.f).length := by
  unfold PD.used
  have hf := h.f
  have h2 := h.x2
  have h3 := h.x3
  have ho := h.xo
  rcases (by omega : L.f = 0 ∨ L.f = 1) with e | e
  · rw [e] at ho ⊢
    rw [show p.xs 1 = [] from ho, h2, h3]; simp
  · rw [e] at ho ⊢
    rw [show p.xs 0 = [] from ho, h2, h3]; simp
theorem powR_up {p : PD} {L : LV} {r : Int × PD × LV} (h : L.down = false) : powR p L r = (r.1, r.2.1, ⟨r.2.2.f, r.2.2.gen, r.2.2.size, r.2.2.loose, r.1 == 40⟩) := by
  unfold powR; rw [h]; rfl
theorem LS.append {p : PD} {L : LV} {cp : List UInt8} {gs : List (List (List UInt8))} (h : LS p L cp gs) (rs : List (List UInt8)) (hrs : rs.length ≠ 0) (hr : ((p.xs L.f).length : Int) + (groupB rs).length ≤ p.cap) :
    (appendR p L rs).1 = 0 ∧ LS (appendR p L rs).2.1 (appendR p L rs).2.2 cp (gs ++ [rs]) ∧ (appendR p L rs).2.1.cap = p.cap ∧ (appendR p L rs).2.2.gen = L.gen ∧ (appendR p L rs).2.2.f = L.f ∧ (appendR p L rs).2.2.loose = true ∧ (appendR p L rs).2.1.s = p.s := by
  have hu := h.used
  obtain ⟨a1, a2, a3⟩ := h.cm.app (f := L.f) (by have := h.f; omega) (groupB rs) (by rw [hu]; omega)
  have hf := h.f
  have e : appendR p L rs = (0, { addP p L.f (groupB rs) with done := p.done + 1 }, ⟨L.f, L.gen, L.size + (groupB rs).length, true, false⟩) := by
    unfold appendR
    rw [powR_up h.dn]
    unfold appR
    rw [if_neg hrs, if_pos a1, a2]
    rfl
  rw [a2] at a3
  rw [e]
  have hx : (addP p L.f (groupB rs)).xs L.f = p.xs L.f ++ groupB rs := upd_same _ _ _
  have hso : (addP p L.f (groupB rs)).s = p.s := upd_self _ _
  refine ⟨rfl, ⟨a3, rfl, hf, ?_, ?_, ?_, ?_, h.g1, ?_, ?_, fun e => by cases e⟩, rfl, rfl, rfl, rfl, hso⟩
  · show (addP p L.f (groupB rs)).xs L.f = _
    rw [hx, h.x, catG_snoc, List.append_assoc]
  · show (addP p L.f (groupB rs)).xs (1 - L.f) = _
    exact (upd_other _ _ (by omega)).trans h.xo
  · exact (upd_other _ _ (by omega)).trans h.x2
  · exact (upd_other _ _ (by omega)).trans h.x3
  · show L.size + _ = ((addP p L.f (groupB rs)).xs L.f).length
    rw [hx, h.sz, List.length_append]
  · show _ ≤ (addP p L.f (groupB rs)).s L.f
    rw [hso]; exact h.s0
theorem LS.append0 {p : PD} {L : LV} {cp : List UInt8} {gs : List (List (List UInt8))} (h : LS p L cp gs) : (appendR p L []).1 = 0 ∧ (appendR p L []).2.1 = p ∧ (appendR p L []).2.2 = L := by
  unfold appendR
  rw [powR_up h.dn]
  refine ⟨rfl, rfl, ?_⟩
  show (⟨L.f, L.gen, L.size, L.loose, false⟩ : LV) = L
  have := h.dn
  cases L
  simp_all
theorem LS.sync {p : PD} {L : LV} {cp : List UInt8} {gs : List (List (List UInt8))} (h : LS p L cp gs) :
    (syncR p L).1 = 0 ∧ LS (syncR p L).2.1 (syncR p L).2.2 cp gs ∧ (syncR p L).2.1.cap = p.cap ∧ (syncR p L).2.2.gen = L.gen ∧ (syncR p L).2.2.f = L.f ∧ (syncR p L).2.2.loose = false ∧ (syncR p L).2.1.xs = p.xs := by
  unfold syncR
  rw [powR_up h.dn]
  unfold synR
  cases hlo : L.loose with
  | false =>
    rw [if_neg (by decide)]
    have hd := h.dn
    refine ⟨rfl, ?_, rfl, rfl, rfl, by show L.loose = false; exact hlo, rfl⟩
    have e : (⟨L.f, L.gen, L.size, L.loose, (0 : Int) == 40⟩ : LV) = L := by cases L; simp_all
    show LS p ⟨L.f, L.gen, L.size, L.loose, (0 : Int) == 40⟩ cp gs
    rw [e]; exact h
  | true =>
    rw [if_pos rfl]
    have hf := h.f
    obtain ⟨a1, a2, a3⟩ := h.cm.syn (f := L.f) (by omega)
    show (synE p L.f) = 0 ∧ LS (synP p L.f) ⟨L.f, L.gen, L.size, synE p L.f != 0, synE p L.f == 40⟩ cp gs ∧ (synP p L.f).cap = p.cap ∧ L.gen = L.gen ∧ L.f = L.f ∧ (synE p L.f != 0) = false ∧ (synP p L.f).xs = p.xs
    rw [a1]
    rw [a2] at a3 ⊢
    have hs : upd p.s L.f ((p.xs L.f).length : Int) L.f = (p.xs L.f).length := upd_same _ _ _
    refine ⟨rfl, ⟨a3, rfl, hf, h.x, h.xo, h.x2, h.x3, h.g1, h.sz, ?_, fun _ => hs⟩, rfl, rfl, rfl, rfl, rfl⟩
    show ((headB L.gen cp).length : Int) ≤ upd p.s L.f ((p.xs L.f).length : Int) L.f
    rw [hs, h.x, List.length_append]; omega
theorem LS.commit {p : PD} {L : LV} {cp : List UInt8} {gs : List (List (List UInt8))} (h : LS p L cp gs) (rs : List (List UInt8)) (hrs : rs.length ≠ 0) (hr : ((p.xs L.f).length : Int) + (groupB rs).length ≤ p.cap) :
    (commitR p L rs).1 = 0 ∧ LS (commitR p L rs).2.1 (commitR p L rs).2.2 cp (gs ++ [rs]) ∧ (commitR p L rs).2.1.cap = p.cap ∧ (commitR p L rs).2.2.gen = L.gen ∧ (commitR p L rs).2.2.f = L.f ∧ (commitR p L rs).2.2.loose = false := by
  obtain ⟨a1, a2, a3, a4, a5, -, -⟩ := h.append rs hrs hr
  obtain ⟨b1, b2, b3, b4, b5, b6, -⟩ := a2.sync
  unfold commitR
  rw [if_pos a1]
  exact ⟨b1, b2, b3.trans a3, b4.trans a4, b5.trans a5, b6⟩
theorem LS.commit0 {p : PD} {L : LV} {cp : List UInt8} {gs : List (List (List UInt8))} (h : LS p L cp gs) :
    (commitR p L []).1 = 0 ∧ LS (commitR p L []).2.1 (commitR p L []).2.2 cp gs ∧ (commitR p L []).2.1.cap = p.cap ∧ (commitR p L []).2.2.gen = L.gen ∧ (commitR p L []).2.2.f = L.f ∧ (commitR p L []).2.2.loose = false ∧ (commitR p L []).2.1.xs = p.xs := by
  obtain ⟨a1, a2, a3⟩ := h.append0
  unfold commitR
  rw [if_pos a1, a2, a3]
  exact h.sync
/-- A head is written into an empty file. -/
theorem rew_calm {p : PD} (h : Cm p) (L : LV) {f : Nat} (hf : f < 4) (gen : Int) (cp : List UInt8) (hx : p.xs f = []) (hr : (p.used : Int) + (headB gen cp).length ≤ p.cap) :
    (rewR p L f gen cp).1 = 0 ∧ Cm (rewR p L f gen cp).2.1 ∧ (rewR p L f gen cp).2.1.xs = upd p.xs f (headB gen cp) ∧ (rewR p L f gen cp).2.1.s = upd p.s f ((headB gen cp).length : Nat) ∧ (rewR p L f gen cp).2.1.cap = p.cap ∧ (rewR p L f gen cp).2.2 = ⟨f, gen, (headB gen cp).length, false, L.down⟩ := by
  have e0 : emptyR p L f = (0, p, L) := by unfold emptyR; rw [hx]; rfl
  obtain ⟨a1, a2, a3⟩ := h.app hf (headB gen cp) (by omega)
  obtain ⟨b1, b2, b3⟩ := a3.syn (f := f) hf
  have e : rewR p L f gen cp = (0, synP (appP p f (headB gen cp)) f, ⟨f, gen, (headB gen cp).length, false, L.down⟩) := by
    unfold rewR
    rw [e0, if_pos rfl]
    unfold rewA
    rw [if_pos a1]
    unfold rewS
    rw [if_pos b1]
  rw [e]
  have hx2 : (appP p f (headB gen cp)).xs = upd p.xs f (headB gen cp) := by rw [a2]; show upd p.xs f (p.xs f ++ _) = _; rw [hx, List.nil_append]
  have hs2 : (appP p f (headB gen cp)).s = p.s := by rw [a2]; exact upd_self _ _
  refine ⟨rfl, b3, ?_, ?_, ?_, rfl⟩
  · show (synP (appP p f (headB gen cp)) f).xs = _
    rw [b2]; exact hx2
  · show (synP (appP p f (headB gen cp)) f).s = _
    rw [b2]
    show upd (appP p f (headB gen cp)).s f _ = _
    rw [hs2, hx2, upd_same]
  · show (synP (appP p f (headB gen cp)) f).cap = _
    rw [b2]
    show (appP p f (headB gen cp)).cap = _
    rw [a2]; rfl
theorem LS.compact {p : PD} {L : LV} {cp : List UInt8} {gs : List (List (List UInt8))} (h : LS p L cp gs) (cp' : List UInt8) (hr : ((p.xs L.f).length : Int) + (headB (L.gen + 1) cp').length ≤ p.cap) :
    (compactR p L cp').1 = 0 ∧ LS (compactR p L cp').2.1 (compactR p L cp').2.2 cp' [] ∧ (compactR p L cp').2.1.cap = p.cap ∧ (compactR p L cp').2.2.gen = L.gen + 1 ∧ (compactR p L cp').2.2.f = 1 - L.f ∧ (compactR p L cp').2.2.loose = false := by
  have hf := h.f
  obtain ⟨a1, a2, a3, a4, a5, a6⟩ := rew_calm h.cm L (f := 1 - L.f) (by omega) (L.gen + 1) cp' h.xo (by rw [h.used]; omega)
  unfold compactR
  rw [powR_up h.dn]
  unfold compR
  rw [if_pos a1]
  obtain ⟨b1, b2, b3⟩ := a2.ct (f := L.f) (n := 0) (by omega) (Nat.zero_le _)
  have b1' : ctE (rewR p L (1 - L.f) (L.gen + 1) cp').2.1 L.f 0 = 0 := b1
  have b2' : ctP (rewR p L (1 - L.f) (L.gen + 1) cp').2.1 L.f 0 = _ := b2
  rw [a6]
  simp only
  rw [b1']
  have b3' : Cm (ctP (rewR p L (1 - L.f) (L.gen + 1) cp').2.1 L.f 0) := b3
  have hx : (ctP (rewR p L (1 - L.f) (L.gen + 1) cp').2.1 L.f 0).xs = upd (upd p.xs (1 - L.f) (headB (L.gen + 1) cp')) L.f [] := by rw [b2', a3]; rfl
  have hs : (ctP (rewR p L (1 - L.f) (L.gen + 1) cp').2.1 L.f 0).s = upd (upd p.s (1 - L.f) ((headB (L.gen + 1) cp').length : Nat)) L.f 0 := by rw [b2', a4]; rfl
  have hc : (ctP (rewR p L (1 - L.f) (L.gen + 1) cp').2.1 L.f 0).cap = p.cap := by rw [b2']; exact a5
  have hx1 : (ctP (rewR p L (1 - L.f) (L.gen + 1) cp').2.1 L.f 0).xs (1 - L.f) = headB (L.gen + 1) cp' := by rw [hx, upd_other _ _ (by omega), upd_same]
  have hs1 : (ctP (rewR p L (1 - L.f) (L.gen + 1) cp').2.1 L.f 0).s (1 - L.f) = ((headB (L.gen + 1) cp').length : Nat) := by rw [hs, upd_other _ _ (by omega), upd_same]
  refine ⟨rfl, ⟨b3', rfl, by show 1 - L.f < 2; omega, ?_, ?_, ?_, ?_, ?_, ?_, ?_, fun _ => ?_⟩, hc, by first | trivial | exact ⟨rfl, rfl, rfl⟩⟩
  · show (ctP _ _ _).xs (1 - L.f) = _
    rw [hx1]; simp [catG]
  · show (ctP _ _ _).xs (1 - (1 - L.f)) = _
    rw [show 1 - (1 - L.f) = L.f by omega, hx, upd_same]
  · show (ctP _ _ _).xs 2 = _
    rw [hx, upd_other _ _ (by omega), upd_other _ _ (by omega)]; exact h.x2
  · show (ctP _ _ _).xs 3 = _
    rw [hx, upd_other _ _ (by omega), upd_other _ _ (by omega)]; exact h.x3
  · have := h.g1; show 1 ≤ L.gen + 1; omega
  · show (headB (L.gen + 1) cp').length = ((ctP _ _ _).xs (1 - L.f)).length
    rw [hx1]
  · show _ ≤ (ctP _ _ _).s (1 - L.f)
    rw [hs1]; exact Int.le_refl _
  · show (ctP _ _ _).s (1 - L.f) = ((ctP _ _ _).xs (1 - L.f)).length
    rw [hs1, hx1]
end Go.Proofs.YtkdihekhdnnheaaDoor
namespace Go.Proofs.YtkdihekhdnnheaaDoor

/-- Records and checkpoints are short. -/
def ShortG (gs : List (List (List UInt8))) : Prop := ∀ rs ∈ gs, rs.length ≤ 2000 ∧ ∀ r ∈ rs, r.length ≤ 2000
theorem fileB_all (gen : Int) (cp : List UInt8) (gs : List (List (List UInt8))) : headB gen cp ++ catG gs = allB (headC gen cp :: gs.map groupC) := by
  rw [allB_cons]
  unfold catG allB
  rw [List.flatMap_map]
  rfl
theorem grps_enc {gs : List (List (List UInt8))} (h : ShortG gs) : grpsM (gs.map groupC) = gs := by
  induction gs with
  | nil => rfl
  | cons rs t ih =>
    have h1 := h rs (by simp)
    rw [List.map_cons, grpsM, groupM_enc rs (by omega) fun r hr => by have := h1.2 r hr; omega]
    simp only
    rw [ih fun x hx => h x (by simp [hx])]
theorem segF_enc {gen : Int} {cp : List UInt8} {gs : List (List (List UInt8))} (hg : Int64 gen) (h1 : 1 ≤ gen) (hc : cp.length ≤ 2000) (h : ShortG gs) : segF (headC gen cp :: gs.map groupC) = ⟨gen, (headB gen cp ++ catG gs).length, cp, gs⟩ := by
  rw [segF_cons (headM_enc hg h1 cp (by omega)), grps_enc h, fileB_all]
  congr 1
  unfold endsL
  rw [List.take_of_length_le (by simp; omega)]
theorem cut_at (ls : List (List UInt8)) (m : Nat) : ∀ d n, n + d = ls.length → endsL ls n ≤ m → ∃ k, n ≤ k ∧ k ≤ ls.length ∧ endsL ls k ≤ m ∧ (k < ls.length → m < endsL ls (k + 1))
  | 0, n, hd, hn => ⟨n, Nat.le_refl _, by omega, hn, fun h => by omega⟩
  | d + 1, n, hd, hn => by
    by_cases h : m < endsL ls (n + 1)
    · exact ⟨n, Nat.le_refl _, by omega, hn, fun _ => h⟩
    · obtain ⟨k, h1, h2, h3, h4⟩ := cut_at ls m d (n + 1) (by omega) (by omega)
      exact ⟨k, by omega, h2, h3, h4⟩
theorem headC_len (gen : Int) (cp : List UInt8) : (headC gen cp).length ≤ 30 + cp.length := by
  have e : (headC gen cp).length = (intB 1).length + (intB gen).length + (textB cp).length := by simp [headC]; omega
  have := intB_len 1
  have := intB_len gen
  have := textB_bd cp
  omega
theorem groupC_len {rs : List (List UInt8)} (h : rs.length ≤ 2000 ∧ ∀ r ∈ rs, r.length ≤ 2000) : (groupC rs).length ≤ 5000000 := by
  have e : (groupC rs).length = (intB 2).length + (intB rs.length).length + (encR rs).length := by simp [groupC]; omega
  have := intB_len 2
  have := intB_len rs.length
  have h3 := (encR_bd rs 2000 h.2).2
  have h4 : (9 + 2000) * rs.length ≤ 2009 * 2000 := Nat.mul_le_mul (by omega) h.1
  omega
theorem frames_short {gen : Int} {cp : List UInt8} {gs : List (List (List UInt8))} (hc : cp.length ≤ 2000) (h : ShortG gs) : ∀ x ∈ headC gen cp :: gs.map groupC, x.length ≤ 1073741824 := fun x hx => by
  rcases List.mem_cons.1 hx with e | e
  · rw [e]; have := headC_len gen cp; omega
  · obtain ⟨rs, hr, e⟩ := List.mem_map.1 e
    rw [← e]; have := groupC_len (h rs hr); omega
/-- A file cut off behind its head has the first of its groups. -/
theorem seg_cut {gen : Int} {cp : List UInt8} {gs : List (List (List UInt8))} (hg : Int64 gen) (h1 : 1 ≤ gen) (hc : cp.length ≤ 2000) (h : ShortG gs) (m : Nat) (hm : (headB gen cp).length ≤ m) (hl : (headB gen cp ++ catG gs).length ≤ 4294960000) :
    ∃ n, n ≤ gs.length ∧ Scanned ((headB gen cp ++ catG gs).take m) (headC gen cp :: (gs.take n).map groupC) ∧ segM ((headB gen cp ++ catG gs).take m) = ⟨gen, (headB gen cp ++ catG (gs.take n)).length, cp, gs.take n⟩ ∧ (headB gen cp ++ catG (gs.take n)).length ≤ m ∧ (∀ u, u ≤ gs.length → (headB gen cp ++ catG (gs.take u)).length ≤ m → u ≤ n) := by
  have hls := frames_short (gen := gen) hc h
  have hlen : (headC gen cp :: gs.map groupC).length = gs.length + 1 := by simp
  have hends : ∀ k, k ≤ gs.length → endsL (headC gen cp :: gs.map groupC) (k + 1) = (headB gen cp ++ catG (gs.take k)).length := fun k hk => by
    unfold endsL
    rw [fileB_all, List.take_succ_cons, List.map_take]
  obtain ⟨k, k1, k2, k3, k4⟩ := cut_at (headC gen cp :: gs.map groupC) m gs.length 1 (by rw [hlen]; omega) (by rw [endsL_cons]; exact hm)
  obtain ⟨n, rfl⟩ : ∃ n, k = n + 1 := ⟨k - 1, by omega⟩
  have hn : n ≤ gs.length := by omega
  have hsc := scanned_cut (ls := headC gen cp :: gs.map groupC) (n := n + 1) (cut := m) k2 k3 k4 (fun j hj => by
    rw [List.getD_eq_getElem?_getD, List.getElem?_eq_getElem hj]
    exact hls _ (List.getElem_mem hj))
  rw [List.take_succ_cons, ← List.map_take, ← fileB_all] at hsc
  have hsh : ShortG (gs.take n) := fun rs hr => h rs (List.mem_of_mem_take hr)
  refine ⟨n, hn, hsc, ?_, ?_, fun u hu hum => ?_⟩
  · rw [segM_of hsc (by rw [List.length_take]; omega), segF_enc hg h1 hc hsh]
  · rw [← hends n hn]; exact k3
  · rcases Nat.lt_or_ge n u with hlt | hge
    · exfalso
      have h5 := k4 (by rw [hlen]; omega)
      have h6 : endsL (headC gen cp :: gs.map groupC) (n + 1 + 1) ≤ endsL (headC gen cp :: gs.map groupC) (u + 1) := by
        unfold endsL
        have e : (headC gen cp :: gs.map groupC).take (n + 1 + 1) = ((headC gen cp :: gs.map groupC).take (u + 1)).take (n + 1 + 1) := by rw [List.take_take]; congr 1; omega
        rw [e, allB_split ((headC gen cp :: gs.map groupC).take (u + 1)) (n + 1 + 1), List.length_append]
        omega
      rw [hends u hu] at h6
      omega
    · exact hge
/-- A torn head is none; nothing is none. -/
theorem seg_torn {gen : Int} {cp : List UInt8} (hc : cp.length ≤ 2000) (m : Nat) (hm : m < (headB gen cp).length) : Scanned ((headB gen cp).take m) [] ∧ segM ((headB gen cp).take m) = seg0 := by
  have hs : Scanned ((headB gen cp).take m) [] := by
    refine ⟨(headB gen cp).take m, by simp [allB], ?_⟩
    have h := frm_cut (headC gen cp) [] m (by have := headC_len gen cp; omega) hm
    rw [List.append_nil] at h
    exact h
  have hb := (headB_bd gen cp).2
  exact ⟨hs, by rw [segM_of hs (by rw [List.length_take]; omega)]; rfl⟩
theorem seg_nil : Scanned [] [] ∧ segM [] = seg0 := by
  have hs : Scanned [] [] := ⟨[], rfl, frm_nil⟩
  exact ⟨hs, by rw [segM_of hs (by simp)]; rfl⟩
theorem seg_full {gen : Int} {cp : List UInt8} {gs : List (List (List UInt8))} (hg : Int64 gen) (h1 : 1 ≤ gen) (hc : cp.length ≤ 2000) (h : ShortG gs) (hl : (headB gen cp ++ catG gs).length ≤ 4294960000) : segM (headB gen cp ++ catG gs) = ⟨gen, (headB gen cp ++ catG gs).length, cp, gs⟩ := by
  obtain ⟨n, h2, h3, h4, h5, h6⟩ := seg_cut hg h1 hc h (headB gen cp ++ catG gs).length (by rw [List.length_append]; omega) hl
  have e : n = gs.length := by have := h6 gs.length (Nat.le_refl _) (by rw [List.take_length]; exact Nat.le_refl _); omega
  rw [List.take_length] at h4
  rw [h4, e, List.take_length]
/-- One segment; the other file has none. -/
structure One (p : PD) (f : Nat) (gen : Int) (cp : List UInt8) (gs : List (List (List UInt8))) : Prop where
  hf : f < 2
  g1 : 1 ≤ gen
  g2 : Int64 gen
  hc : cp.length ≤ 2000
  hs : ShortG gs
  hl : (headB gen cp ++ catG gs).length ≤ 1073741824
  seg : segM (p.xs f) = ⟨gen, (headB gen cp ++ catG gs).length, cp, gs⟩
  low : (segM (p.xs (1 - f))).gen < gen ∨ ((segM (p.xs (1 - f))).gen = gen ∧ f = 0)
  x : (p.xs f).take (headB gen cp ++ catG gs).length = headB gen cp ++ catG gs
  x2 : p.xs 2 = []
  x3 : p.xs 3 = []
  safe : ∀ i, i < 4 → p.s i = (p.xs i).length
theorem One.open {p : PD} {f : Nat} {gen : Int} {cp : List UInt8} {gs : List (List (List UInt8))} (h : One p f gen cp gs) : openF p = f ∧ openS p = ⟨gen, (headB gen cp ++ catG gs).length, cp, gs⟩ := by
  have e : openF p = f := by
    have h1 := h.seg
    have h2 := h.low
    have h3 := h.hf
    unfold openF
    rcases (by omega : f = 0 ∨ f = 1) with rfl | rfl
    · rw [h1]
      rw [if_neg]
      intro hlt
      have hlt' : gen < (segM (p.xs (1 - 0))).gen := hlt
      omega
    · rw [h1]
      rw [if_pos]
      have h2' : (segM (p.xs 0)).gen < gen := by
        rcases h2 with h2 | h2
        · exact h2
        · omega
      exact h2'
  refine ⟨e, ?_⟩
  unfold openS
  rw [e, h.seg]
/-- A command that cuts: done, or the power has gone. -/
theorem ct_gen {p : PD} (hd : p.down = false) {i n : Nat} (hi : i < 4) (hn : n ≤ (p.xs i).length) :
    (ctE p i n = 40 ∧ (ctP p i n).xs = p.xs ∧ (ctP p i n).s = p.s) ∨ (ctE p i n = 0 ∧ (ctP p i n).xs = upd p.xs i ((p.xs i).take n) ∧ (ctP p i n).s = upd p.s i n ∧ (ctP p i n).down = false) := by
  have hc : checkE p i = 0 := by unfold checkE; rw [hd, file_lt hi]; rfl
  have hr : 0 ≤ (n : Int) ∧ (n : Int) ≤ (p.xs (i : Int).toNat).length := by rw [Int.toNat_natCast]; omega
  obtain ⟨h1, h2, -⟩ := cmd_xs p
  by_cases h0 : p.left = 0
  · left
    have e : cmdE p = 40 := if_pos h0
    unfold ctE ctP secP
    rw [if_pos hc, if_pos hc, if_pos hr, if_pos hr, e, if_neg (by decide)]
    exact ⟨rfl, h1, h2⟩
  · right
    have e : cmdE p = 0 := if_neg h0
    have hdn : (cmdP p).down = false := by unfold cmdP; rw [if_neg h0]; exact hd
    unfold ctE ctP secP
    rw [if_pos hc, if_pos hc, if_pos hr, if_pos hr, e, if_pos rfl, Int.toNat_natCast, Int.toNat_natCast]
    refine ⟨rfl, ?_, ?_, hdn⟩
    · show upd (cmdP p).xs i (((cmdP p).xs i).take n) = _
      rw [h1]
    · show upd (cmdP p).s i n = _
      rw [h2]
theorem One.same {p q : PD} {f : Nat} {gen : Int} {cp : List UInt8} {gs : List (List (List UInt8))} (h : One p f gen cp gs) (hx : q.xs = p.xs) (hs : q.s = p.s) : One q f gen cp gs := by
  obtain ⟨a1, a2, a3, a4, a5, a6, a7, a8, a9, b1, b2, b3⟩ := h
  exact ⟨a1, a2, a3, a4, a5, a6, by rw [hx]; exact a7, by rw [hx]; exact a8, by rw [hx]; exact a9, by rw [hx]; exact b1, by rw [hx]; exact b2, fun i hi => by rw [hx, hs]; exact b3 i hi⟩
theorem One.cut {p q : PD} {f : Nat} {gen : Int} {cp : List UInt8} {gs : List (List (List UInt8))} (h : One p f gen cp gs) (hx : q.xs = upd p.xs f ((p.xs f).take (headB gen cp ++ catG gs).length)) (hs : q.s = upd p.s f ((headB gen cp ++ catG gs).length : Nat)) : One q f gen cp gs := by
  obtain ⟨a1, a2, a3, a4, a5, a6, a7, a8, a9, b1, b2, b3⟩ := h
  have hxf : q.xs f = headB gen cp ++ catG gs := by rw [hx, upd_same, a9]
  refine ⟨a1, a2, a3, a4, a5, a6, ?_, ?_, ?_, ?_, ?_, fun i hi => ?_⟩
  · rw [hxf]; exact seg_full a3 a2 a4 a5 (by omega)
  · rw [hx, upd_other _ _ (by omega)]; exact a8
  · rw [hxf, List.take_length]
  · rw [hx, upd_other _ _ (by omega)]; exact b1
  · rw [hx, upd_other _ _ (by omega)]; exact b2
  · by_cases e : i = f
    · rw [e, hxf, hs, upd_same]
    · rw [hx, hs, upd_other _ _ e, upd_other _ _ e]; exact b3 i hi
theorem One.empty {p q : PD} {f : Nat} {gen : Int} {cp : List UInt8} {gs : List (List (List UInt8))} (h : One p f gen cp gs) (hx : q.xs = upd p.xs (1 - f) []) (hs : q.s = upd p.s (1 - f) 0) : One q f gen cp gs := by
  obtain ⟨a1, a2, a3, a4, a5, a6, a7, a8, a9, b1, b2, b3⟩ := h
  refine ⟨a1, a2, a3, a4, a5, a6, ?_, ?_, ?_, ?_, ?_, fun i hi => ?_⟩
  · rw [hx, upd_other _ _ (by omega)]; exact a7
  · left
    rw [hx, upd_same, seg_nil.2]
    show (0 : Int) < gen
    omega
  · rw [hx, upd_other _ _ (by omega)]; exact a9
  · rw [hx, upd_other _ _ (by omega)]; exact b1
  · rw [hx, upd_other _ _ (by omega)]; exact b2
  · by_cases e : i = 1 - f
    · rw [e, hx, hs, upd_same, upd_same]; rfl
    · rw [hx, hs, upd_other _ _ e, upd_other _ _ e]; exact b3 i hi
/-- Open, whenever the power goes. -/
theorem One.opens {p : PD} {f : Nat} {gen : Int} {cp : List UInt8} {gs : List (List (List UInt8))} (h : One p f gen cp gs) (hd : p.down = false) : ((openR p).1 = 0 ∨ (openR p).1 = 40) ∧ One (openR p).2.1 f gen cp gs ∧ (p.left < 0 → (openR p).1 = 0) := by
  have hgen : ¬ gen = 0 := by have := h.g1; omega
  obtain ⟨e1, e2⟩ := h.open
  have eL : openL p = ⟨f, gen, (headB gen cp ++ catG gs).length, false, false⟩ := by unfold openL; rw [e1, e2]
  have hle : (headB gen cp ++ catG gs).length ≤ (p.xs f).length := by
    have := congrArg List.length h.x
    rw [List.length_take] at this; omega
  have hf := h.hf
  -- trim
  have ht : ((trimR p (openL p)).1 = 0 ∧ One (trimR p (openL p)).2.1 f gen cp gs ∧ (trimR p (openL p)).2.1.down = false ∧ (p.left < 0 → (trimR p (openL p)).2.1.left < 0)) ∨ ((trimR p (openL p)).1 = 40 ∧ One (trimR p (openL p)).2.1 f gen cp gs ∧ ¬ p.left < 0) := by
    rw [eL]
    unfold trimR
    by_cases hz : (headB gen cp ++ catG gs).length < (p.xs f).length
    · rw [if_pos hz]
      have hl : ¬ p.left = 0 → (p.left < 0 → (ctP p f ((headB gen cp ++ catG gs).length : Nat)).left < 0) := fun h0 h1 => by
        have hc : checkE p f = 0 := by unfold checkE; rw [hd, file_lt (by omega : f < 4)]; rfl
        have hr : 0 ≤ (((headB gen cp ++ catG gs).length : Nat) : Int) ∧ (((headB gen cp ++ catG gs).length : Nat) : Int) ≤ (p.xs (f : Int).toNat).length := by rw [Int.toNat_natCast]; omega
        have e : cmdE p = 0 := if_neg h0
        unfold ctP secP
        rw [if_pos hc, if_pos hr, if_pos e]
        show (cmdP p).left < 0
        unfold cmdP
        rw [if_neg h0, if_neg (by omega)]
        exact h1
      rcases ct_gen (i := f) (n := (headB gen cp ++ catG gs).length) hd (by omega) hle with ⟨a1, a2, a3⟩ | ⟨a1, a2, a3, a4⟩
      · right
        refine ⟨a1, h.same a2 a3, fun hlt => ?_⟩
        have hc : checkE p f = 0 := by unfold checkE; rw [hd, file_lt (by omega : f < 4)]; rfl
        have hr : 0 ≤ (((headB gen cp ++ catG gs).length : Nat) : Int) ∧ (((headB gen cp ++ catG gs).length : Nat) : Int) ≤ (p.xs (f : Int).toNat).length := by rw [Int.toNat_natCast]; omega
        unfold ctE at a1
        rw [if_pos hc, if_pos hr] at a1
        unfold cmdE at a1
        rw [if_neg (by omega)] at a1
        exact absurd a1 (by decide)
      · left
        exact ⟨a1, h.cut a2 a3, a4, fun h1 => hl (by omega) h1⟩
    · rw [if_neg hz, if_neg (by show ¬ p.s f < ((p.xs f).length : Int); rw [h.safe f (by omega)]; omega)]
      exact .inl ⟨rfl, h, hd, fun h1 => h1⟩
  have eR : openR p = if (trimR p (openL p)).1 = 0 then emptyR (trimR p (openL p)).2.1 (openL p) (1 - f) else trimR p (openL p) := by
    unfold openR prepR
    rw [if_neg (by rw [eL]; exact hgen)]
    rw [show (openL p).f = f by rw [eL]]
  rcases ht with ⟨t1, t2, t3, t4⟩ | ⟨t1, t2, t3⟩
  · rw [eR, if_pos t1]
    generalize (trimR p (openL p)).2.1 = q at *
    unfold emptyR
    by_cases h0 : (q.xs (1 - f)).length = 0
    · rw [if_pos h0]; exact ⟨.inl rfl, t2, fun _ => rfl⟩
    · rw [if_neg h0]
      rcases ct_gen (p := q) (i := 1 - f) (n := 0) t3 (by omega) (Nat.zero_le _) with ⟨a1, a2, a3⟩ | ⟨a1, a2, a3, a4⟩
      · have a1' : ctE q (1 - f : Nat) 0 = 40 := a1
        refine ⟨.inr a1', t2.same a2 a3, fun hlt => ?_⟩
        have hc : checkE q (1 - f : Nat) = 0 := by unfold checkE; rw [t3, file_lt (by omega : 1 - f < 4)]; rfl
        have hr : 0 ≤ (0 : Int) ∧ (0 : Int) ≤ (q.xs ((1 - f : Nat) : Int).toNat).length := by omega
        have h9 := t4 hlt
        unfold ctE at a1'
        rw [if_pos hc, if_pos hr] at a1'
        unfold cmdE at a1'
        rw [if_neg (by omega)] at a1'
        exact absurd a1' (by decide)
      · have a2' : (ctP q (1 - f : Nat) 0).xs = upd q.xs (1 - f) [] := a2
        have a3' : (ctP q (1 - f : Nat) 0).s = upd q.s (1 - f) 0 := a3
        exact ⟨.inl a1, t2.empty a2' a3', fun _ => a1⟩
  · rw [eR, if_neg (by rw [t1]; decide)]
    exact ⟨.inr t1, t2, fun hlt => absurd hlt t3⟩
theorem crK_at {p : PD} (ks : List Int) : ∀ k, k ≤ 4 → (∀ i, i < k → (crK p ks k).xs i = (p.xs i).take (crN p ks i) ∧ (crK p ks k).s i = (crN p ks i : Nat)) ∧ ∀ i, k ≤ i → (crK p ks k).xs i = p.xs i ∧ (crK p ks k).s i = p.s i
  | 0, _ => ⟨fun i hi => by omega, fun i _ => ⟨rfl, rfl⟩⟩
  | k + 1, hk => by
    obtain ⟨h1, h2⟩ := crK_at (p := p) ks k (by omega)
    have e : crN (crK p ks k) ks k = crN p ks k := by unfold crN crI; rw [(h2 k (Nat.le_refl _)).1, (h2 k (Nat.le_refl _)).2]
    have e1 : crK p ks (k + 1) = cutP (crK p ks k) k (crN p ks k) := by rw [crK, e]
    refine ⟨fun i hi => ?_, fun i hi => ?_⟩
    · by_cases ei : i = k
      · subst ei
        rw [e1]
        exact ⟨(upd_same _ _ _).trans (by rw [(h2 i (Nat.le_refl _)).1]), upd_same _ _ _⟩
      · rw [e1]
        exact ⟨(upd_other _ _ ei).trans (h1 i (by omega)).1, (upd_other _ _ ei).trans (h1 i (by omega)).2⟩
    · rw [e1]
      exact ⟨(upd_other _ _ (by omega)).trans (h2 i (by omega)).1, (upd_other _ _ (by omega)).trans (h2 i (by omega)).2⟩
theorem crash_at {p : PD} (ks : List Int) {i : Nat} (hi : i < 4) : (crashP p ks).xs i = (p.xs i).take (crN p ks i) ∧ (crashP p ks).s i = (crN p ks i : Nat) := (crK_at (p := p) ks 4 (Nat.le_refl _)).1 i hi
theorem crash_done (p : PD) (ks : List Int) : (crashP p ks).done = p.done ∧ (crashP p ks).cap = p.cap ∧ (crashP p ks).down = false ∧ (crashP p ks).left = -1 := ⟨rfl, rfl, rfl, rfl⟩
theorem crN_ge {p : PD} (h : p.Ok) (ks : List Int) {i : Nat} (hi : i < 4) : p.s i ≤ (crN p ks i : Nat) := by
  have h0 := h.s0 i hi
  have h1 := h.s1 i hi
  rw [(crI_ok h ks hi).1]
  unfold crI
  split <;> omega
/-- A crash of one segment that is safe changes nothing. -/
theorem One.crash {p : PD} {f : Nat} {gen : Int} {cp : List UInt8} {gs : List (List (List UInt8))} (h : One p f gen cp gs) (ho : p.Ok) (ks : List Int) : One (crashP p ks) f gen cp gs := by
  have hk : ∀ i, i < 4 → (crashP p ks).xs i = p.xs i ∧ (crashP p ks).s i = p.s i := fun i hi => by
    obtain ⟨h1, h2⟩ := crash_at (p := p) ks hi
    have h3 := crN_ge ho ks hi
    have h4 := (crI_ok ho ks hi).2
    have h5 := h.safe i hi
    have e : crN p ks i = (p.xs i).length := by omega
    rw [h1, h2, e, List.take_length, h5]
    exact ⟨rfl, rfl⟩
  obtain ⟨a1, a2, a3, a4, a5, a6, a7, a8, a9, b1, b2, b3⟩ := h
  exact ⟨a1, a2, a3, a4, a5, a6, by rw [(hk f (by omega)).1]; exact a7, by rw [(hk (1 - f) (by omega)).1]; exact a8, by rw [(hk f (by omega)).1]; exact a9, by rw [(hk 2 (by omega)).1]; exact b1, by rw [(hk 3 (by omega)).1]; exact b2, fun i hi => by rw [(hk i hi).1, (hk i hi).2]; exact b3 i hi⟩
/-- A crash of a log that lives: a beginning of its groups, with all that were safe. -/
theorem LS.crash {p : PD} {L : LV} {cp : List UInt8} {gs : List (List (List UInt8))} (h : LS p L cp gs) (ks : List Int) (hg : Int64 L.gen) (hc : cp.length ≤ 2000) (hs : ShortG gs) (hl : (p.xs L.f).length ≤ 1073741824) :
    ∃ n, n ≤ gs.length ∧ One (crashP p ks) L.f L.gen cp (gs.take n) ∧ ∀ u, u ≤ gs.length → ((headB L.gen cp ++ catG (gs.take u)).length : Int) ≤ p.s L.f → u ≤ n := by
  have hf := h.f
  obtain ⟨hxf, hsf⟩ := crash_at (p := p) ks (i := L.f) (by omega)
  obtain ⟨hxo, hso⟩ := crash_at (p := p) ks (i := 1 - L.f) (by omega)
  have hge := crN_ge h.cm.ok ks (i := L.f) (by omega)
  have hle := (crI_ok h.cm.ok ks (i := L.f) (by omega)).2
  have hs0 := h.s0
  have hxl := h.x
  rw [hxl] at hl
  obtain ⟨n, n1, n2, n3, n4, n5⟩ := seg_cut hg h.g1 hc hs (crN p ks L.f) (by omega) (by omega)
  have hsh : ShortG (gs.take n) := fun rs hr => hs rs (List.mem_of_mem_take hr)
  have hpre : (headB L.gen cp ++ catG gs).take (headB L.gen cp ++ catG (gs.take n)).length = headB L.gen cp ++ catG (gs.take n) := by
    have e : headB L.gen cp ++ catG gs = (headB L.gen cp ++ catG (gs.take n)) ++ catG (gs.drop n) := by
      have e0 : catG gs = catG (gs.take n) ++ catG (gs.drop n) := by unfold catG; rw [← List.flatMap_append, List.take_append_drop]
      rw [List.append_assoc, ← e0]
    rw [e, List.take_left]
  have hln : (headB L.gen cp ++ catG (gs.take n)).length ≤ 1073741824 := by
    have := congrArg List.length hpre
    rw [List.length_take] at this; omega
  refine ⟨n, n1, ⟨hf, h.g1, hg, hc, hsh, hln, ?_, ?_, ?_, ?_, ?_, fun i hi => ?_⟩, fun u hu hum => n5 u hu (by omega)⟩
  · rw [hxf, hxl]; exact n3
  · left
    rw [hxo, h.xo, List.take_nil, seg_nil.2]
    have := h.g1
    show (0 : Int) < L.gen
    omega
  · rw [hxf, hxl, List.take_take, Nat.min_eq_left n4]; exact hpre
  · rw [(crash_at (p := p) ks (i := 2) (by omega)).1, h.x2, List.take_nil]
  · rw [(crash_at (p := p) ks (i := 3) (by omega)).1, h.x3, List.take_nil]
  · obtain ⟨q1, q2⟩ := crash_at (p := p) ks hi
    rw [q1, q2, List.length_take, Nat.min_eq_left (crI_ok h.cm.ok ks hi).2]
end Go.Proofs.YtkdihekhdnnheaaDoor
namespace Go.Proofs.YtkdihekhdnnheaaDoor

theorem newP_cm {cap : Int} (h : capBK cap = true) : Cm (newP cap) := ⟨new_ok h, rfl, by show (-1 : Int) < 0; decide⟩
theorem open_new {cap : Int} (h : capBK cap = true) (hc : ((headB 1 []).length : Int) ≤ cap) : (openR (newP cap)).1 = 0 ∧ LS (openR (newP cap)).2.1 (openR (newP cap)).2.2 [] [] ∧ (openR (newP cap)).2.1.cap = cap ∧ (openR (newP cap)).2.2.gen = 1 ∧ (openR (newP cap)).2.2.f = 0 ∧ (openR (newP cap)).2.2.loose = false ∧ openS (newP cap) = seg0 ∧ (openR (newP cap)).2.1.xs 0 = headB 1 [] := by
  have e0 : segM ((newP cap).xs 0) = seg0 := seg_nil.2
  have e1 : segM ((newP cap).xs 1) = seg0 := seg_nil.2
  have eF : openF (newP cap) = 0 := by unfold openF; rw [e0, e1]; rfl
  have eS : openS (newP cap) = seg0 := by unfold openS; rw [eF]; exact e0
  have eL : openL (newP cap) = ⟨0, 0, 0, false, false⟩ := by unfold openL; rw [eF, eS]; rfl
  have eE : emptyR (newP cap) ⟨0, 0, 0, false, false⟩ 1 = (0, newP cap, ⟨0, 0, 0, false, false⟩) := rfl
  have eR : openR (newP cap) = rewR (newP cap) ⟨0, 0, 0, false, false⟩ 0 1 [] := by
    unfold openR
    rw [eL]
    unfold prepR
    rw [if_pos rfl]
    unfold beginR
    rw [eE, if_pos rfl]
  have hu : (newP cap).used = 0 := rfl
  obtain ⟨a1, a2, a3, a4, a5, a6⟩ := rew_calm (newP_cm h) ⟨0, 0, 0, false, false⟩ (f := 0) (by omega) 1 [] rfl (by rw [hu]; show (0 : Int) + _ ≤ cap; omega)
  rw [eR]
  have hx0 : (rewR (newP cap) ⟨0, 0, 0, false, false⟩ 0 1 []).2.1.xs 0 = headB 1 [] := by rw [a3, upd_same]
  have hs0 : (rewR (newP cap) ⟨0, 0, 0, false, false⟩ 0 1 []).2.1.s 0 = ((headB 1 []).length : Nat) := by rw [a4, upd_same]
  refine ⟨a1, ?_, a5, by rw [a6], by rw [a6], by rw [a6], eS, hx0⟩
  rw [a6]
  refine ⟨a2, rfl, by show 0 < 2; omega, ?_, ?_, ?_, ?_, by show (1 : Int) ≤ 1; omega, ?_, ?_, fun _ => ?_⟩
  · show (rewR (newP cap) ⟨0, 0, 0, false, false⟩ 0 1 []).2.1.xs 0 = _
    rw [hx0]; simp [catG]
  · show (rewR (newP cap) ⟨0, 0, 0, false, false⟩ 0 1 []).2.1.xs 1 = _
    rw [a3, upd_other _ _ (by omega)]; rfl
  · rw [a3, upd_other _ _ (by omega)]; rfl
  · rw [a3, upd_other _ _ (by omega)]; rfl
  · show (headB 1 []).length = ((rewR (newP cap) ⟨0, 0, 0, false, false⟩ 0 1 []).2.1.xs 0).length
    rw [hx0]
  · show _ ≤ (rewR (newP cap) ⟨0, 0, 0, false, false⟩ 0 1 []).2.1.s 0
    rw [hs0]; exact Int.le_refl _
  · show (rewR (newP cap) ⟨0, 0, 0, false, false⟩ 0 1 []).2.1.s 0 = ((rewR (newP cap) ⟨0, 0, 0, false, false⟩ 0 1 []).2.1.xs 0).length
    rw [hs0, hx0]
theorem trimR_ok2 {p : PD} (h : p.Ok) (L : LV) : (trimR p L).2.1.Ok ∧ (trimR p L).2.1.done ≤ p.done + 1 := by have := trimR_ok h L; exact ⟨this.1, this.2.2⟩
theorem prepR_ok {p : PD} (h : p.Ok) (L : LV) : (prepR p L).2.1.Ok ∧ (prepR p L).2.1.done ≤ p.done + 5 := by
  unfold prepR
  split
  · unfold beginR
    have h1 := emptyR_ok h L 1
    split
    · have h2 := rewR_ok h1.1 L 0 1 []
      exact ⟨h2.1, by omega⟩
    · exact ⟨h1.1, by omega⟩
  · have h1 := trimR_ok2 h L
    split
    · have h2 := emptyR_ok h1.1 L (1 - L.f)
      exact ⟨h2.1, by omega⟩
    · exact ⟨h1.1, by omega⟩
theorem openR_ok {p : PD} (h : p.Ok) : (openR p).2.1.Ok ∧ (openR p).2.1.done ≤ p.done + 5 := prepR_ok h _
/-- The laws' fixed example. -/
noncomputable def ex0 : PD := newP 1000
noncomputable def ex1 : Int × PD × LV := openR ex0
noncomputable def ex2 : Int × PD × LV := commitR ex1.2.1 ex1.2.2 [[120], [121]]
noncomputable def ex3 : Int × PD × LV := appendR ex2.2.1 ex2.2.2 [[122]]
noncomputable def ex4 : PD := crashP ex3.2.1 []
theorem ex_all : ex1.1 = 0 ∧ ex2.1 = 0 ∧ ex3.1 = 0 ∧ openS ex0 = seg0 ∧ (openR ex4).1 = 0 ∧ (openS ex4).gs = [[[120], [121]]] ∧ ex1.2.1.Ok ∧ ex2.2.1.Ok ∧ ex3.2.1.Ok ∧ ex4.Ok ∧ ex1.2.2.size ≤ 1000 ∧ ex2.2.2.size ≤ 1000 ∧ ex1.2.1.done ≤ 100 ∧ ex2.2.1.done ≤ 100 ∧ ex3.2.1.done ≤ 100 ∧ ex4.done ≤ 100 := by
  have hc : capBK 1000 = true := rfl
  have hh := (headB_bd 1 []).2
  simp at hh
  obtain ⟨a1, a2, a3, a4, a5, a6, a7, a8⟩ := open_new (cap := 1000) hc (by omega)
  have g1 := (groupB_bd [[120], [121]] 1 (by simp)).2
  have g2 := (groupB_bd [[122]] 1 (by simp)).2
  simp at g1 g2
  have hx1 : (ex1.2.1.xs ex1.2.2.f).length = (headB 1 []).length := by
    show ((openR (newP 1000)).2.1.xs (openR (newP 1000)).2.2.f).length = _
    rw [a5, a8]
  have b0 : LS ex1.2.1 ex1.2.2 [] [] := a2
  have c0 : ex1.2.1.cap = 1000 := a3
  obtain ⟨b1, b2, b3, b4, b5, b6⟩ := b0.commit [[120], [121]] (by simp) (by rw [hx1, c0]; omega)
  have c2 : LS ex2.2.1 ex2.2.2 [] [[[120], [121]]] := b2
  have hx2 : (ex2.2.1.xs ex2.2.2.f).length = (headB 1 []).length + (groupB [[120], [121]]).length := by
    rw [c2.x, List.length_append]
    have e : ex2.2.2.gen = 1 := b4.trans a4
    rw [e]; simp [catG]
  have c3 : ex2.2.1.cap = 1000 := b3.trans c0
  obtain ⟨d1, d2, d3, d4, d5, d6, d7⟩ := c2.append [[122]] (by simp) (by rw [hx2, c3]; omega)
  have e3 : LS ex3.2.1 ex3.2.2 [] ([[[120], [121]]] ++ [[[122]]]) := d2
  have g3 : ex3.2.2.gen = 1 := d4.trans (b4.trans a4)
  have f3 : ex3.2.2.f = ex2.2.2.f := d5
  have hxl : (ex3.2.1.xs ex3.2.2.f).length ≤ 1073741824 := by
    have h1 := e3.cm.ok.len (i := ex3.2.2.f) (by have := e3.f; omega)
    exact h1
  obtain ⟨n, n1, n2, n3⟩ := e3.crash [] (by rw [g3]; constructor <;> decide) (by simp) (by intro rs hr; simp at hr; rcases hr with rfl | rfl <;> simp) hxl
  have hs : ex3.2.1.s ex3.2.2.f = ((headB ex3.2.2.gen [] ++ catG [[[120], [121]]]).length : Nat) := by
    have h1 : ex3.2.1.s = ex2.2.1.s := d7
    rw [h1, f3, c2.lo b6, c2.x, g3, show ex2.2.2.gen = 1 from b4.trans a4]
  have hn : 1 ≤ n := n3 1 (by simp) (by rw [hs]; simp)
  have hsure : n = 1 := by
    have hub : crN ex3.2.1 [] ex3.2.2.f = (headB ex3.2.2.gen [] ++ catG [[[120], [121]]]).length := by
      unfold crN crI
      simp [hs]
      omega
    have hz := n2.x
    have hxc := (crash_at (p := ex3.2.1) [] (i := ex3.2.2.f) (by have := e3.f; omega)).1
    rw [hxc, hub] at hz
    have hzl := congrArg List.length hz
    rw [List.length_take, List.length_take] at hzl
    rcases Nat.lt_or_ge 1 n with h1 | h1
    · exfalso
      have e2 : n = 2 := by simp at n1; omega
      subst e2
      have hg2 := (groupB_bd [[122]] 1 (by simp)).1
      simp [catG] at hzl
      omega
    · omega
  subst hsure
  obtain ⟨o1, o2, o3⟩ := n2.opens (show (crashP ex3.2.1 []).down = false from rfl)
  have k1 : ex1.2.1.Ok := (openR_ok (new_ok hc)).1
  have k2 : ex2.2.1.Ok := (commitR_ok k1 ex1.2.2 [[120], [121]]).1
  have k3 : ex3.2.1.Ok := (appendR_ok k2 ex2.2.2 [[122]]).1
  have q1 : ex1.2.1.done ≤ 5 := by have := (openR_ok (new_ok hc)).2; exact this
  have q2 := (commitR_ok k1 ex1.2.2 [[120], [121]]).2.2
  have q3 := (appendR_ok k2 ex2.2.2 [[122]]).2.2
  have q2' : ex2.2.1.done ≤ ex1.2.1.done + 2 := q2
  have q3' : ex3.2.1.done ≤ ex2.2.1.done + 1 := q3
  refine ⟨a1, b1, d1, a7, o3 (by show (-1 : Int) < 0; decide), ?_, k1, k2, k3, crash_ok k3 _, ?_, ?_, by omega, by omega, by omega, ?_⟩
  · show (openS (crashP ex3.2.1 [])).gs = _
    rw [n2.open.2]; rfl
  · rw [b0.sz, hx1]; omega
  · rw [c2.sz, hx2]; omega
  · show (crashP ex3.2.1 []).done ≤ 100
    rw [(crash_done ex3.2.1 []).1]; omega
end Go.Proofs.YtkdihekhdnnheaaDoor
