/-
  A drawn region by an invariant over what has come up: each operation is run once.
  What has come up of ExprMakes' first region: each operation's value, its tree and the blocks that it has made.
  ExprMakes' first drawn region: its act, and what each operation does.
-/
import Derived.Orders
import Derived.RegionTactic
import Derived.Test.YtpohofcfmllghaaDoorEBuildW
import Derived.Test.YtpohofcfmllghaaDoorMPlain
import Derived.Test.YtpohofcfmllghaaDoorMCons
import Derived.Test.YtpohofcfmllghaaDoorECount
import Derived.Test.YtpohofcfmllghaaDoorEAwake
namespace Go.Proofs.YtpohofcfmllghaaDoor

section
variable {P : Program} {ops : Array Oper} {Q : Exit → Act → World → Prop} {md : Region.Mode}
/-- What may come up has not come up, and what it waits for has. -/
theorem ready_bits {listed : Array Bool} {i : Nat} (hi : i ∈ Region.ready md ops listed) : i < ops.size ∧ listed.getD i true = false ∧ ∀ o, ops[i]? = some o → ∀ e ∈ o.after, Region.binds md e = true → listed.getD e.on false = true := by
  unfold Region.ready at hi
  rw [List.mem_filter, List.mem_range, Bool.and_eq_true] at hi
  obtain ⟨h1, h2, h3⟩ := hi
  refine ⟨h1, by simpa using h2, fun o ho e he hb => ?_⟩
  rw [ho] at h3
  have h4 := (Array.all_eq_true_iff_forall_mem.1 (show o.after.all (fun e => !Region.binds md e || listed.getD e.on false) = true from h3)) e he
  simpa [hb] using h4
theorem false_at {listed : Array Bool} {i : Nat} (h : listed.getD i true = false) : ∃ hi : i < listed.toList.length, listed.toList[i] = false := by
  by_cases hi : i < listed.size
  · refine ⟨by simpa using hi, ?_⟩
    rw [Array.getD_eq_getD_getElem?, Array.getElem?_eq_getElem hi] at h
    simpa using h
  · rw [Array.getD_eq_getD_getElem?, Array.getElem?_eq_none (by omega)] at h
    cases h
theorem wpAny_inv {I : Array Bool → Act → World → Prop}
    (hend : ∀ listed a w, I listed a w → Region.ready md ops listed = [] → Q .normal a w)
    (hstep : ∀ listed a w i, I listed a w → i ∈ Region.ready md ops listed → wpOp P ops Q i (I (listed.setIfInBounds i true)) a w) :
    ∀ (fuel : Nat) (listed : Array Bool) (a : Act) (w : World), I listed a w → listed.toList.count false ≤ fuel → wpAny P md ops Q fuel listed a w
  | 0, listed, a, w, h, hf => by
    have h0 : Region.ready md ops listed = [] := by
      rcases hr : Region.ready md ops listed with _ | ⟨i, r⟩
      · rfl
      · exfalso
        have hi : i ∈ Region.ready md ops listed := by rw [hr]; exact List.mem_cons_self
        obtain ⟨hl, hv⟩ := false_at (ready_bits hi).2.1
        have : 0 < listed.toList.count false := List.count_pos_iff.2 (hv ▸ List.getElem_mem hl)
        omega
    exact ⟨h0, hend _ _ _ h h0⟩
  | fuel + 1, listed, a, w, h, hf => ⟨hend _ _ _ h, fun i hi => wpOp_mono (fun a' w' h' => wpAny_inv hend hstep fuel _ a' w' h' (by
      obtain ⟨hl, hv⟩ := false_at (ready_bits hi).2.1
      rw [Array.toList_setIfInBounds, List.count_set hl, hv]
      have : 0 < listed.toList.count false := List.count_pos_iff.2 (hv ▸ List.getElem_mem hl)
      rw [if_pos (by rfl), if_neg (by decide)]
      omega)) (hstep listed a w i h hi)⟩
/-- The beginning: the invariant holds while nothing has come up. -/
theorem wp_region_inv {I : Array Bool → Act → World → Prop} {id : Nat} {a : Act} {w : World} (hm : P.follows .mixedOrders = true)
    (h0 : I (Array.replicate ops.size false) a { w with drawn := w.drawn + 1 })
    (hend : ∀ listed a w, I listed a w → Region.ready .any ops listed = [] → Q .normal a w)
    (hstep : ∀ listed a w i, I listed a w → i ∈ Region.ready .any ops listed → wpOp P ops Q i (I (listed.setIfInBounds i true)) a w) : (Code.region id ops true).wp P Q a w :=
  wp_region_any hm (wpAny_inv hend hstep _ _ _ _ h0 (by simp))
end
/-- A bit behind one operation more. -/
theorem bit_set {listed : Array Bool} {i j : Nat} (h : (listed.setIfInBounds i true).getD j false = true) : j = i ∨ listed.getD j false = true := by
  by_cases e : j = i
  · exact .inl e
  · refine .inr ?_
    rw [Array.getD_eq_getD_getElem?, Array.getElem?_setIfInBounds_ne (fun x => e x.symm), ← Array.getD_eq_getD_getElem?] at h
    exact h
end Go.Proofs.YtpohofcfmllghaaDoor
namespace Go.Proofs.YtpohofcfmllghaaDoor
open Go.RowKit

def upd {α : Type} (v : Nat → α) (i : Nat) (u : α) : Nat → α := fun j => if j = i then u else v j
theorem upd_same {α : Type} (v : Nat → α) (i : Nat) (u : α) : upd v i u i = u := if_pos rfl
theorem upd_other {α : Type} (v : Nat → α) {i j : Nat} (u : α) (h : j ≠ i) : upd v i u j = v j := if_neg h
abbrev constT (n : Int) : XT := .mk 2 ⟨#[]⟩ (1, n, ⟨#[]⟩) ⟨#[]⟩ none 0 []
abbrev colT (s : ByteArray) : XT := .mk 1 s (0, 0, ⟨#[]⟩) ⟨#[]⟩ none 0 []
abbrev unT (s : ByteArray) (x : XT) : XT := .mk 3 ⟨#[]⟩ (0, 0, ⟨#[]⟩) s none 0 [x]
abbrev binT (s : ByteArray) (x : XT) (n : Int) : XT := .mk 4 ⟨#[]⟩ (0, 0, ⟨#[]⟩) s none 0 [x, constT n]
abbrev callT (s : ByteArray) (x : XT) : XT := .mk 5 s (0, 0, ⟨#[]⟩) ⟨#[]⟩ none 0 [x, colT s]
/-- A tree of one's own, between two blocks. -/
def TreeF (y : XT) (v : Value) (t : XT) (lo hi : Nat) (w : World) : Prop := v = vX t ∧ stripX t = stripX y ∧ LiesX hi w t ∧ newX lo t
def RowF (x : XT) (s : ByteArray) (v : Value) (lo hi : Nat) (w : World) : Prop := v = .slice (some ⟨lo, 0, none⟩) 2 2 ∧ lo < hi ∧ At7 w lo 0 x ∧ At7 w lo 7 (colT s)
def BoxF (v : Value) (lo hi : Nat) (w : World) : Prop := v = .pointer (some ⟨lo, 0, none⟩) ∧ lo < hi ∧ OwnB w lo 7
/-- What operation j has told. -/
def F (x : XT) (s : ByteArray) (n : Int) (j : Nat) (v : Value) (t : XT) (lo hi : Nat) (w : World) : Prop :=
  if j = 0 ∨ j = 3 ∨ j = 9 ∨ j = 11 then v = .string s
  else if j = 1 ∨ j = 4 ∨ j = 10 then v = vX x
  else if j = 2 then TreeF (unT s x) v t lo hi w
  else if j = 5 then v = .int .i64 n
  else if j = 6 then v = vVal 1 n ⟨#[]⟩
  else if j = 7 then v = vX (constT n)
  else if j = 8 then TreeF (binT s x n) v t lo hi w
  else if j = 12 then v = vX (colT s)
  else if j = 13 then RowF x s v lo hi w
  else if j = 14 then TreeF (callT s x) v t lo hi w
  else BoxF v lo hi w
theorem TreeF.local {y : XT} {v : Value} {t : XT} {lo hi : Nat} {w w' : World} (h : TreeF y v t lo hi w) (he : ∀ b, lo ≤ b → b < hi → w'.heap[b]? = w.heap[b]?) : TreeF y v t lo hi w' :=
  ⟨h.1, h.2.1, h.2.2.1.off h.2.2.2 he, h.2.2.2⟩
theorem RowF.local {x : XT} {s : ByteArray} {v : Value} {lo hi : Nat} {w w' : World} (h : RowF x s v lo hi w) (he : ∀ b, lo ≤ b → b < hi → w'.heap[b]? = w.heap[b]?) : RowF x s v lo hi w' :=
  ⟨h.1, h.2.1, h.2.2.1.same (he _ (Nat.le_refl _) h.2.1), h.2.2.2.same (he _ (Nat.le_refl _) h.2.1)⟩
theorem BoxF.local {v : Value} {lo hi : Nat} {w w' : World} (h : BoxF v lo hi w) (he : ∀ b, lo ≤ b → b < hi → w'.heap[b]? = w.heap[b]?) : BoxF v lo hi w' :=
  ⟨h.1, h.2.1, h.2.2.kept (he _ (Nat.le_refl _) h.2.1)⟩
theorem F_local {x : XT} {s : ByteArray} {n : Int} {j : Nat} {v : Value} {t : XT} {lo hi : Nat} {w w' : World} (h : F x s n j v t lo hi w) (he : ∀ b, lo ≤ b → b < hi → w'.heap[b]? = w.heap[b]?) : F x s n j v t lo hi w' := by
  unfold F at h ⊢
  by_cases c0 : j = 0 ∨ j = 3 ∨ j = 9 ∨ j = 11
  · rw [if_pos c0] at h ⊢
    exact h
  rw [if_neg c0] at h ⊢
  by_cases c1 : j = 1 ∨ j = 4 ∨ j = 10
  · rw [if_pos c1] at h ⊢
    exact h
  rw [if_neg c1] at h ⊢
  by_cases c2 : j = 2
  · rw [if_pos c2] at h ⊢
    exact h.local he
  rw [if_neg c2] at h ⊢
  by_cases c3 : j = 5
  · rw [if_pos c3] at h ⊢
    exact h
  rw [if_neg c3] at h ⊢
  by_cases c4 : j = 6
  · rw [if_pos c4] at h ⊢
    exact h
  rw [if_neg c4] at h ⊢
  by_cases c5 : j = 7
  · rw [if_pos c5] at h ⊢
    exact h
  rw [if_neg c5] at h ⊢
  by_cases c6 : j = 8
  · rw [if_pos c6] at h ⊢
    exact h.local he
  rw [if_neg c6] at h ⊢
  by_cases c7 : j = 12
  · rw [if_pos c7] at h ⊢
    exact h
  rw [if_neg c7] at h ⊢
  by_cases c8 : j = 13
  · rw [if_pos c8] at h ⊢
    exact h.local he
  rw [if_neg c8] at h ⊢
  by_cases c9 : j = 14
  · rw [if_pos c9] at h ⊢
    exact h.local he
  rw [if_neg c9] at h ⊢
  exact h.local he
def tr (q : Nat) : Nat := if q = 0 then 2 else if q = 1 then 8 else 14
structure J (W : World) (x : XT) (s : ByteArray) (n : Int) (listed : Array Bool) (w : World) (v : Nat → Value) (T : Nat → XT) (lo hi : Nat → Nat) : Prop where
  size : listed.size = 21
  bel : Below W.heap.size W w
  fact : ∀ j, j < 18 → listed.getD j false = true → F x s n j (v j) (T j) (lo j) (hi j) w ∧ W.heap.size ≤ lo j ∧ lo j ≤ hi j ∧ hi j ≤ w.heap.size
  apart : ∀ j k, j < 18 → k < 18 → j ≠ k → listed.getD j false = true → listed.getD k false = true → hi j ≤ lo k ∨ hi k ≤ lo j
  st : ∀ q, q < 3 → listed.getD (18 + q) false = true → listed.getD (15 + q) false = true ∧ listed.getD (tr q) false = true ∧ At7 w (lo (15 + q)) 0 (T (tr q))
theorem tr_lt {q : Nat} (_ : q < 3) : tr q < 18 ∧ tr q < 15 := by
  unfold tr
  repeat' split
  all_goals omega
theorem F_box {x : XT} {s : ByteArray} {n : Int} {q : Nat} (hq : q < 3) {v : Value} {t : XT} {lo hi : Nat} {w : World} (h : F x s n (15 + q) v t lo hi w) : BoxF v lo hi w := by
  unfold F at h
  rw [if_neg (by omega), if_neg (by omega), if_neg (by omega), if_neg (by omega), if_neg (by omega), if_neg (by omega), if_neg (by omega), if_neg (by omega), if_neg (by omega), if_neg (by omega)] at h
  exact h
theorem getD_ne {listed : Array Bool} {i j : Nat} (h : listed.getD i true = false) (hj : listed.getD j false = true) : j ≠ i := by
  rintro rfl
  rcases Nat.lt_or_ge j listed.size with h' | h'
  · simp [h'] at h hj; rw [h] at hj; cases hj
  · simp [Array.getElem?_eq_none h'] at hj
theorem J.step {W : World} {x : XT} {s : ByteArray} {n : Int} {listed : Array Bool} {w w' : World} {v : Nat → Value} {T : Nat → XT} {lo hi : Nat → Nat} (h : J W x s n listed w v T lo hi) {i : Nat} (hi18 : i < 18) (hni : listed.getD i true = false)
    (hb : Below w.heap.size w w') (u : Value) (t : XT) (hF : F x s n i u t w.heap.size w'.heap.size w') : J W x s n (listed.setIfInBounds i true) w' (upd v i u) (upd T i t) (upd lo i w.heap.size) (upd hi i w'.heap.size) where
  size := by rw [Array.size_setIfInBounds]; exact h.size
  bel := h.bel.trans (hb.mono h.bel.size)
  fact := fun j hj hl => by
    rcases bit_set hl with rfl | hl
    · rw [upd_same, upd_same, upd_same, upd_same]
      exact ⟨hF, h.bel.size, hb.size, Nat.le_refl _⟩
    · have hne := getD_ne hni hl
      rw [upd_other _ _ hne, upd_other _ _ hne, upd_other _ _ hne, upd_other _ _ hne]
      obtain ⟨f1, f2, f3, f4⟩ := h.fact j hj hl
      exact ⟨F_local f1 (fun b _ hb2 => hb.block b (by omega)), f2, f3, Nat.le_trans f4 hb.size⟩
  apart := fun j k hj hk hjk hlj hlk => by
    rcases bit_set hlj with rfl | hlj'
    · rcases bit_set hlk with e | hlk'
      · exact absurd e.symm hjk
      · rw [upd_same, upd_same, upd_other _ _ (Ne.symm hjk), upd_other _ _ (Ne.symm hjk)]
        exact .inr (h.fact k hk hlk').2.2.2
    · have hne := getD_ne hni hlj'
      rw [upd_other _ _ hne, upd_other _ _ hne]
      rcases bit_set hlk with rfl | hlk'
      · rw [upd_same, upd_same]
        exact .inl (h.fact j hj hlj').2.2.2
      · have hne2 := getD_ne hni hlk'
        rw [upd_other _ _ hne2, upd_other _ _ hne2]
        exact h.apart j k hj hk hjk hlj' hlk'
  st := fun q hq hl => by
    rcases bit_set hl with e | hl
    · omega
    · obtain ⟨s1, s2, s3⟩ := h.st q hq hl
      have n1 := getD_ne hni s1
      have n2 := getD_ne hni s2
      rw [upd_other _ _ n1, upd_other _ _ n2]
      have hx := (h.fact (15 + q) (by omega) s1)
      have hlt := (F_box hq hx.1).2.1
      refine ⟨?_, ?_, s3.same (hb.block _ (by omega))⟩
      · rw [Array.getD_eq_getD_getElem?, Array.getElem?_setIfInBounds_ne (fun e => n1 e.symm), ← Array.getD_eq_getD_getElem?]; exact s1
      · rw [Array.getD_eq_getD_getElem?, Array.getElem?_setIfInBounds_ne (fun e => n2 e.symm), ← Array.getD_eq_getD_getElem?]; exact s2
theorem J.store {W : World} {x : XT} {s : ByteArray} {n : Int} {listed : Array Bool} {w : World} {v : Nat → Value} {T : Nat → XT} {lo hi : Nat → Nat} (h : J W x s n listed w v T lo hi) {q : Nat} (hq : q < 3) (hni : listed.getD (18 + q) true = false)
    (hb : listed.getD (15 + q) false = true) (ht : listed.getD (tr q) false = true) : J W x s n (listed.setIfInBounds (18 + q) true) (set7 w (lo (15 + q)) 0 (T (tr q))) v T lo hi := by
  have hx := h.fact (15 + q) (by omega) hb
  obtain ⟨b1, b2, b3⟩ := F_box hq hx.1
  have keep : ∀ i, i ≠ 18 + q → listed.getD i false = true → (listed.setIfInBounds (18 + q) true).getD i false = true := fun i hi hl => by
    rw [Array.getD_eq_getD_getElem?, Array.getElem?_setIfInBounds_ne (fun e => hi e.symm), ← Array.getD_eq_getD_getElem?]; exact hl
  refine ⟨by rw [Array.size_setIfInBounds]; exact h.size, set7_below 0 (T (tr q)) h.bel hx.2.1, fun j hj hl => ?_, fun j k hj hk hjk hlj hlk => ?_, fun q' hq' hl => ?_⟩
  · have hl := (bit_set hl).resolve_left (by omega)
    obtain ⟨f1, f2, f3, f4⟩ := h.fact j hj hl
    refine ⟨?_, f2, f3, by rw [set7_size]; exact f4⟩
    by_cases e : j = 15 + q
    · subst e
      have hB : BoxF (v (15 + q)) (lo (15 + q)) (hi (15 + q)) (set7 w (lo (15 + q)) 0 (T (tr q))) := ⟨b1, b2, set7_own _ _ b3⟩
      unfold F
      rw [if_neg (by omega), if_neg (by omega), if_neg (by omega), if_neg (by omega), if_neg (by omega), if_neg (by omega), if_neg (by omega), if_neg (by omega), if_neg (by omega), if_neg (by omega)]
      exact hB
    · have ha := h.apart j (15 + q) hj (by omega) e hl hb
      exact F_local f1 (fun b h1 h2 => set7_heap _ _ _ (by omega))
  · exact h.apart j k hj hk hjk ((bit_set hlj).resolve_left (by omega)) ((bit_set hlk).resolve_left (by omega))
  · have htl := tr_lt hq'
    by_cases e : q' = q
    · subst e
      exact ⟨keep _ (by omega) hb, keep _ (by omega) ht, At7.set (T (tr q')) b3 (by omega)⟩
    · obtain ⟨s1, s2, s3⟩ := h.st q' hq' ((bit_set hl).resolve_left (by omega))
      have ha := h.apart (15 + q') (15 + q) (by omega) (by omega) (by omega) s1 hb
      have hl2 := (F_box hq' (h.fact (15 + q') (by omega) s1).1).2.1
      exact ⟨keep _ (by omega) s1, keep _ (by omega) s2, s3.same (set7_heap _ _ _ (by omega))⟩
/-- Where nothing more may come up, all has come up. -/
theorem all_bits {md : Region.Mode} {ops : Array Oper} {listed : Array Bool} (hd : ∀ i o, ops[i]? = some o → ∀ e ∈ o.after, Region.binds md e = true → e.on < i) (hs : listed.size = ops.size) (hr : Region.ready md ops listed = []) :
    ∀ i, i < ops.size → listed.getD i false = true := by
  intro i
  induction i using Nat.strongRecOn with
  | ind i ih =>
    intro hi
    cases hb : listed.getD i false
    · exfalso
      have hm : i ∈ Region.ready md ops listed := by
        unfold Region.ready
        rw [List.mem_filter, List.mem_range, Bool.and_eq_true]
        refine ⟨hi, ?_, ?_⟩
        · have h1 : i < listed.size := by omega
          simp [h1] at hb ⊢
          exact hb
        · rw [Array.getElem?_eq_getElem hi]
          show ops[i].after.all (fun e => !Region.binds md e || listed.getD e.on false) = true
          rw [Array.all_eq_true_iff_forall_mem]
          intro e he
          cases hbd : Region.binds md e
          · rfl
          · have := hd i ops[i] (Array.getElem?_eq_getElem hi) e he hbd
            simpa using ih e.on this (by omega)
      rw [hr] at hm
      cases hm
    · rfl
/-- An order in which everything waits for what stands ahead alone. -/
def depB (md : Region.Mode) (ops : Array Oper) : Bool := (List.range ops.size).all fun i => match ops[i]? with | some o => o.after.all fun e => !Region.binds md e || decide (e.on < i) | none => true
theorem dep_of {md : Region.Mode} {ops : Array Oper} (h : depB md ops = true) : ∀ i o, ops[i]? = some o → ∀ e ∈ o.after, Region.binds md e = true → e.on < i := by
  intro i o ho e he hb
  have hi : i < ops.size := by
    rcases Nat.lt_or_ge i ops.size with h' | h'
    · exact h'
    · rw [Array.getElem?_eq_none h'] at ho; cases ho
  have h1 := List.all_eq_true.1 h i (List.mem_range.2 hi)
  simp only [ho] at h1
  have h2 := Array.all_eq_true_iff_forall_mem.1 h1 e he
  simpa [hb] using h2
theorem tree_sz3 {l : List PL} {x : XT} (h : stripX x = (nodeP 60 l).1) (h0 : 0 < l.length) (h1 : l.length ≤ 300) : szX x ≤ 300 := by
  have hne : l ≠ [] := by intro e; rw [e] at h0; simp at h0
  have h2 := nodeP_sz 60 l hne
  have h3 := (nodeP_bound 60 l hne).2
  have h4 := szX_strip x
  rw [h, h2] at h4
  omega
/-- What the region has made: three boxes, from block L on, and their trees. -/
structure Mk (L : Nat) (w : World) (x : XT) (s : ByteArray) (n : Int) (P9 P10 P11 : Nat) (tu tb tc : XT) : Prop where
  p9 : L ≤ P9 ∧ P9 < w.heap.size
  p10 : L ≤ P10 ∧ P10 < w.heap.size
  p11 : L ≤ P11 ∧ P11 < w.heap.size
  a9 : At7 w P9 0 tu
  a10 : At7 w P10 0 tb
  a11 : At7 w P11 0 tc
  su : stripX tu = stripX (unT s x)
  sb : stripX tb = stripX (binT s x n)
  sc : stripX tc = stripX (callT s x)
  lu : LiesX w.heap.size w tu
  lb : LiesX w.heap.size w tb
  lc : LiesX w.heap.size w tc
  nu : newX L tu
  nb : newX L tb
  nc : newX L tc
theorem Mk.keep {L : Nat} {w w' : World} {x : XT} {s : ByteArray} {n : Int} {P9 P10 P11 : Nat} {tu tb tc : XT} (h : Mk L w x s n P9 P10 P11 tu tb tc) (he : ∀ b, L ≤ b → b < w.heap.size → w'.heap[b]? = w.heap[b]?) (hs : w.heap.size ≤ w'.heap.size) : Mk L w' x s n P9 P10 P11 tu tb tc :=
  ⟨⟨h.p9.1, Nat.lt_of_lt_of_le h.p9.2 hs⟩, ⟨h.p10.1, Nat.lt_of_lt_of_le h.p10.2 hs⟩, ⟨h.p11.1, Nat.lt_of_lt_of_le h.p11.2 hs⟩, h.a9.same (he _ h.p9.1 h.p9.2), h.a10.same (he _ h.p10.1 h.p10.2), h.a11.same (he _ h.p11.1 h.p11.2), h.su, h.sb, h.sc,
    (h.lu.off h.nu he).mono hs, (h.lb.off h.nb he).mono hs, (h.lc.off h.nc he).mono hs, h.nu, h.nb, h.nc⟩
theorem Mk.on {L : Nat} {w w' : World} {x : XT} {s : ByteArray} {n : Int} {P9 P10 P11 : Nat} {tu tb tc : XT} (h : Mk L w x s n P9 P10 P11 tu tb tc) (hb : Below w.heap.size w w') : Mk L w' x s n P9 P10 P11 tu tb tc :=
  h.keep (fun b _ hlt => hb.block b hlt) hb.size
theorem J.made {W : World} {x : XT} {s : ByteArray} {n : Int} {listed : Array Bool} {w : World} {v : Nat → Value} {T : Nat → XT} {lo hi : Nat → Nat} (h : J W x s n listed w v T lo hi) (hall : ∀ i, i < 21 → listed.getD i false = true) :
    v 15 = .pointer (some ⟨lo 15, 0, none⟩) ∧ v 16 = .pointer (some ⟨lo 16, 0, none⟩) ∧ v 17 = .pointer (some ⟨lo 17, 0, none⟩) ∧ Mk W.heap.size w x s n (lo 15) (lo 16) (lo 17) (T 2) (T 8) (T 14) := by
  obtain ⟨b9, d9, -⟩ : BoxF (v 15) (lo 15) (hi 15) w := (h.fact 15 (by omega) (hall 15 (by decide))).1
  obtain ⟨b10, d10, -⟩ : BoxF (v 16) (lo 16) (hi 16) w := (h.fact 16 (by omega) (hall 16 (by decide))).1
  obtain ⟨b11, d11, -⟩ : BoxF (v 17) (lo 17) (hi 17) w := (h.fact 17 (by omega) (hall 17 (by decide))).1
  obtain ⟨-, s2, l2, n2⟩ : TreeF (unT s x) (v 2) (T 2) (lo 2) (hi 2) w := (h.fact 2 (by omega) (hall 2 (by decide))).1
  obtain ⟨-, s8, l8, n8⟩ : TreeF (binT s x n) (v 8) (T 8) (lo 8) (hi 8) w := (h.fact 8 (by omega) (hall 8 (by decide))).1
  obtain ⟨-, s14, l14, n14⟩ : TreeF (callT s x) (v 14) (T 14) (lo 14) (hi 14) w := (h.fact 14 (by omega) (hall 14 (by decide))).1
  have q15 := (h.fact 15 (by omega) (hall 15 (by decide))).2
  have q16 := (h.fact 16 (by omega) (hall 16 (by decide))).2
  have q17 := (h.fact 17 (by omega) (hall 17 (by decide))).2
  have q2 := (h.fact 2 (by omega) (hall 2 (by decide))).2
  have q8 := (h.fact 8 (by omega) (hall 8 (by decide))).2
  have q14 := (h.fact 14 (by omega) (hall 14 (by decide))).2
  exact ⟨b9, b10, b11, ⟨by omega, by omega, by omega, (h.st 0 (by omega) (hall 18 (by decide))).2.2, (h.st 1 (by omega) (hall 19 (by decide))).2.2, (h.st 2 (by omega) (hall 20 (by decide))).2.2, s2, s8, s14,
    l2.mono q2.2.2, l8.mono q8.2.2, l14.mono q14.2.2, n2.mono q2.1, n8.mono q8.1, n14.mono q14.1⟩⟩
theorem UnfX.on {w w' : World} {x : XT} (h : UnfX w x) (hb : Below w.heap.size w w') : UnfX w' x := fun a ha => by
  obtain ⟨e, cur, hc, hn⟩ := h a ha
  exact ⟨e, cur, (hb.block _ (Array.getElem?_eq_some_iff.1 hc).1).trans hc, hn⟩
/-- While e's arguments are spoilt: all but their row is as it was. -/
structure Sp (L : Nat) (x : XT) (w5 wr : World) : Prop where
  os : Below L w5 wr
  same : ∀ b, (∀ a, x.adr = some a → b ≠ a.block) → wr.heap[b]? = w5.heap[b]?
  size : wr.heap.size = w5.heap.size
  unf : UnfX wr x
theorem Sp.set {L : Nat} {x : XT} {w5 wr : World} (h : Sp L x w5 wr) {g i : Nat} (hg : x.adr = some ⟨g, 0, none⟩) (hL : L ≤ g) (v : Value) : Sp L x w5 (wr.setCell ⟨g, i, none⟩ v) where
  os := h.os.setCell hL _
  same := fun b hb => by
    rw [Below.heap_setCell _ _ _ _ (by exact fun e => hb _ hg (show b = g from e))]
    exact h.same b hb
  size := by simpa using h.size
  unf := fun a ha => by
    obtain ⟨e, cur, hc, hn⟩ := h.unf a ha
    rw [hg] at ha
    injection ha with ha
    subst ha
    exact ⟨rfl, _, Joins.block_setCell (i := i) hc v, by simpa using hn⟩
theorem newX_adr {lo : Nat} {x : XT} {a : Addr} (h : newX lo x) (ha : x.adr = some a) : lo ≤ a.block := by
  cases x
  exact h.1 a ha
theorem cell_same {w w' : World} {b : Nat} (he : w'.heap[b]? = w.heap[b]?) (i : Nat) : w'.cell? ⟨b, i, none⟩ = w.cell? ⟨b, i, none⟩ := by
  unfold World.cell?
  simp only [he]
/-- A row of one's own of one expression, of two. -/
theorem row_one (w : World) (y : XT) (h : LiesX w.heap.size w y) (k : Int) (n : ByteArray) (v : Int × Int × ByteArray) (o : ByteArray) :
    LiesX (w.alloc (.cells (eCells y.kind y.name y.val y.op y.adr y.args.length y.cap) 29)).heap.size (w.alloc (.cells (eCells y.kind y.name y.val y.op y.adr y.args.length y.cap) 29)) (.mk k n v o (some ⟨w.heap.size, 0, none⟩) 1 [y]) := by
  have hn := heap_alloc_new w (.cells (eCells y.kind y.name y.val y.op y.adr y.args.length y.cap) 29)
  have hb := Joins.below_alloc1 w (.cells (eCells y.kind y.name y.val y.op y.adr y.args.length y.cap) 29)
  refine .mk (fun e => by cases e) (fun j hj => ?_) (fun z hz => ?_)
  · obtain rfl : j = 0 := by simp at hj; omega
    exact ⟨w.heap.size, 0, rfl, by simp, ⟨Lib.cell_of_heap hn 0, Lib.cell_of_heap hn 1, Lib.cell_of_heap hn 2, Lib.cell_of_heap hn 3, Lib.cell_of_heap hn 4, Lib.cell_of_heap hn 5, Lib.cell_of_heap hn 6⟩⟩
  · obtain rfl : z = y := by simpa using hz
    exact h.on hb
theorem row_two (w : World) (y z : XT) (h : LiesX w.heap.size w y) (h2 : LiesX w.heap.size w z) (k : Int) (n : ByteArray) (v : Int × Int × ByteArray) (o : ByteArray) :
    LiesX (w.alloc (.cells #[.int .i64 y.kind, .string y.name, .int .i64 y.val.1, .int .i64 y.val.2.1, .string y.val.2.2, .string y.op, .slice y.adr y.args.length y.cap, .int .i64 z.kind, .string z.name, .int .i64 z.val.1, .int .i64 z.val.2.1, .string z.val.2.2, .string z.op, .slice z.adr z.args.length z.cap] 29)).heap.size
      (w.alloc (.cells #[.int .i64 y.kind, .string y.name, .int .i64 y.val.1, .int .i64 y.val.2.1, .string y.val.2.2, .string y.op, .slice y.adr y.args.length y.cap, .int .i64 z.kind, .string z.name, .int .i64 z.val.1, .int .i64 z.val.2.1, .string z.val.2.2, .string z.op, .slice z.adr z.args.length z.cap] 29)) (.mk k n v o (some ⟨w.heap.size, 0, none⟩) 2 [y, z]) := by
  have hn := heap_alloc_new w (.cells #[.int .i64 y.kind, .string y.name, .int .i64 y.val.1, .int .i64 y.val.2.1, .string y.val.2.2, .string y.op, .slice y.adr y.args.length y.cap, .int .i64 z.kind, .string z.name, .int .i64 z.val.1, .int .i64 z.val.2.1, .string z.val.2.2, .string z.op, .slice z.adr z.args.length z.cap] 29)
  have hb := Joins.below_alloc1 w (.cells #[.int .i64 y.kind, .string y.name, .int .i64 y.val.1, .int .i64 y.val.2.1, .string y.val.2.2, .string y.op, .slice y.adr y.args.length y.cap, .int .i64 z.kind, .string z.name, .int .i64 z.val.1, .int .i64 z.val.2.1, .string z.val.2.2, .string z.op, .slice z.adr z.args.length z.cap] 29)
  refine .mk (fun e => by cases e) (fun j hj => ?_) (fun u hu => ?_)
  · have hj2 : j < 2 := hj
    rcases (by omega : j = 0 ∨ j = 1) with rfl | rfl
    · exact ⟨w.heap.size, 0, rfl, by simp, ⟨Lib.cell_of_heap hn 0, Lib.cell_of_heap hn 1, Lib.cell_of_heap hn 2, Lib.cell_of_heap hn 3, Lib.cell_of_heap hn 4, Lib.cell_of_heap hn 5, Lib.cell_of_heap hn 6⟩⟩
    · exact ⟨w.heap.size, 0, rfl, by simp, ⟨Lib.cell_of_heap hn 7, Lib.cell_of_heap hn 8, Lib.cell_of_heap hn 9, Lib.cell_of_heap hn 10, Lib.cell_of_heap hn 11, Lib.cell_of_heap hn 12, Lib.cell_of_heap hn 13⟩⟩
  · simp only [List.mem_cons, List.not_mem_nil, or_false] at hu
    rcases hu with rfl | rfl
    · exact h.on hb
    · exact h2.on hb
theorem wrap_in {n : Int} (h0 : -9223372036854775808 ≤ n) (h1 : n ≤ 9223372036854775807) : IntKind.i64.wrap n = n := by
  unfold IntKind.wrap
  simp [IntKind.signed, IntKind.bits]
  omega
theorem wpOp_go {P : Program} {ops : Array Oper} {Q : Exit → Act → World → Prop} {i : Nat} {K : Act → World → Prop} {a : Act} {w : World} {o : Oper} (ho : ops[i]? = some o) (hg : o.guard = none) (h : o.wp P a w K Q) : wpOp P ops Q i K a w := by
  unfold wpOp
  simp only [ho]
  have : Region.wanted o (yielded ops a.tmps) = true := by unfold Region.wanted; rw [hg]
  rw [if_pos this]
  exact .inl h
end Go.Proofs.YtpohofcfmllghaaDoor
namespace Go.Proofs.YtpohofcfmllghaaDoor
open Go.RowKit

/-- The act at the region, by the values that have come up. -/
def actM (b off c : Nat) (l : List PL) (s : ByteArray) (n : Int) (x : XT) (B : Nat) (v : Nat → Value) : Act := { tmps := #[Value.slice (some ⟨b, off, none⟩) l.length c, Value.string s, Value.int IntKind.i64 n, undef,
          undef, undef, Value.bool false, Value.pointer (some ⟨B, 0, none⟩),
          Value.int IntKind.i64 ((nodeP 60 l).2 : Int), v 15, v 16, v 17, undef, undef, undef, undef,
          Value.slice (some ⟨b, off, none⟩) l.length c, Value.bool true, Value.bool false, Value.bool false,
          Value.slice (some ⟨b, off, none⟩) l.length c, Value.int IntKind.i64 (l.length : Int),
          Value.bool (decide ((60 : Int) < (l.length : Int))), Value.bool (decide ((60 : Int) < (l.length : Int))),
          Value.bool (decide ((60 : Int) < (l.length : Int))), Value.string s, Value.int IntKind.i64 (s.size : Int),
          Value.bool (decide ((50 : Int) < (s.size : Int))), Value.bool (decide ((60 : Int) < (l.length : Int)) || decide ((50 : Int) < (s.size : Int))), undef,
          Value.tuple #[Value.agg (eCells x.kind x.name x.val x.op x.adr x.args.length x.cap), Value.int IntKind.i64 ((nodeP 60 l).2 : Int)],
          Value.slice (some ⟨b, off, none⟩) l.length c,
          Value.tuple #[Value.agg (eCells x.kind x.name x.val x.op x.adr x.args.length x.cap), Value.int IntKind.i64 ((nodeP 60 l).2 : Int)],
          Value.agg (eCells x.kind x.name x.val x.op x.adr x.args.length x.cap),
          Value.int IntKind.i64 ((nodeP 60 l).2 : Int), v 0, v 1, v 2, v 3, v 4, v 5, v 6, v 7, v 8, v 9, v 10, v 11, v 12, v 13, v 14, undef, undef, undef, undef, undef, undef, undef, undef, undef, undef, undef, undef, undef, undef, undef, undef, undef, undef, undef, undef, undef, undef, undef, undef, undef, undef, undef, undef, undef, undef, undef, undef, undef, undef, undef, undef, undef, undef, undef, undef, undef, undef, undef, undef, undef, undef, undef, undef, undef, undef, undef, undef, undef, undef, undef, undef], defers := [] }
/-- What holds while the region goes on. -/
def IM (W : World) (b off c : Nat) (l : List PL) (s : ByteArray) (n : Int) (x : XT) (B : Nat) (listed : Array Bool) (a : Act) (w : World) : Prop := ∃ (v : Nat → Value) (T : Nat → XT) (lo hi : Nat → Nat), a = actM b off c l s n x B v ∧ J W x s n listed w v T lo hi
theorem J.init (W : World) (x : XT) (s : ByteArray) (n : Int) : J W x s n (Array.replicate 21 false) W (fun _ => undef) (fun _ => dX) (fun _ => 0) (fun _ => 0) := by
  have h : ∀ j, (Array.replicate 21 false).getD j false = true → False := fun j hj => by
    rw [Array.getD_eq_getD_getElem?, Array.getElem?_replicate] at hj
    split at hj <;> simp at hj
  exact ⟨by simp, Below.refl _ _, fun j _ hl => (h j hl).elim, fun j _ _ _ _ hl _ => (h j hl).elim, fun q _ hl => (h _ hl).elim⟩

end Go.Proofs.YtpohofcfmllghaaDoor
