/-
  Lex: all tokens of a text.
-/
import Derived.Test.YteaaloejjafhlaaDoorLTokR
namespace Go.Proofs.YteaaloejjafhlaaDoor
open Go.RowKit Go.Sort LM

/-- The slice at A reads as these tokens, and lies below block B. -/
def ToksAt (B : Nat) (w : World) (A : Option Addr) (L : List Tk) : Prop :=
  ∀ j, ∀ h : j < L.length, ∃ b off, A = some ⟨b, off, none⟩ ∧ b < B ∧ w.cell? ⟨b, off + j * 4, none⟩ = some (.int .i64 L[j].k) ∧ w.cell? ⟨b, off + j * 4 + 1, none⟩ = some (txt L[j].t) ∧ w.cell? ⟨b, off + j * 4 + 2, none⟩ = some (.int .i64 L[j].n) ∧ w.cell? ⟨b, off + j * 4 + 3, none⟩ = some (.int .i64 (L[j].at' : Nat))
theorem ToksAt.below {B : Nat} {w w' : World} {A : Option Addr} {L : List Tk} (h : ToksAt B w A L) (hb : Below B w w') : ToksAt B w' A L := fun j hj => by
  obtain ⟨b, off, e, hlt, h0, h1, h2, h3⟩ := h j hj
  exact ⟨b, off, e, hlt, (hb.cell (p := ⟨b, off + j * 4, none⟩) hlt).trans h0, (hb.cell (p := ⟨b, off + j * 4 + 1, none⟩) hlt).trans h1, (hb.cell (p := ⟨b, off + j * 4 + 2, none⟩) hlt).trans h2, (hb.cell (p := ⟨b, off + j * 4 + 3, none⟩) hlt).trans h3⟩
theorem ToksAt.mono {B B' : Nat} {w : World} {A : Option Addr} {L : List Tk} (h : ToksAt B w A L) (hB : B ≤ B') : ToksAt B' w A L := fun j hj => by
  obtain ⟨b, off, e, hlt, r⟩ := h j hj
  exact ⟨b, off, e, Nat.lt_of_lt_of_le hlt hB, r⟩
theorem ToksAt.on {w w' : World} {A : Option Addr} {L : List Tk} (h : ToksAt w.heap.size w A L) (hb : Below w.heap.size w w') : ToksAt w'.heap.size w' A L := (h.below hb).mono hb.size
theorem ToksAt.nil (B : Nat) (w : World) (A : Option Addr) : ToksAt B w A [] := fun j h => by simp at h
/-- The cells of tokens in a row. -/
def tokCells (L : List Tk) : List Value := L.flatMap fun x => [.int .i64 x.k, txt x.t, .int .i64 x.n, .int .i64 (x.at' : Nat)]
theorem tokCells_snoc (L : List Tk) (x : Tk) : tokCells (L ++ [x]) = tokCells L ++ [.int .i64 x.k, txt x.t, .int .i64 x.n, .int .i64 (x.at' : Nat)] := by simp [tokCells]
theorem tokCells_at : ∀ (L : List Tk) (j : Nat) (h : j < L.length), (tokCells L)[j * 4]? = some (.int .i64 L[j].k) ∧ (tokCells L)[j * 4 + 1]? = some (txt L[j].t) ∧ (tokCells L)[j * 4 + 2]? = some (.int .i64 L[j].n) ∧ (tokCells L)[j * 4 + 3]? = some (.int .i64 (L[j].at' : Nat))
  | [], j, h => by simp at h
  | x :: r, 0, _ => by simp [tokCells]
  | x :: r, j + 1, h => by
    have := tokCells_at r j (by simpa using h)
    have e : tokCells (x :: r) = .int .i64 x.k :: txt x.t :: .int .i64 x.n :: .int .i64 (x.at' : Nat) :: tokCells r := by simp [tokCells]
    rw [e, show (j + 1) * 4 = j * 4 + 1 + 1 + 1 + 1 by omega]
    simpa using this
theorem tok_info : (Tryd.prog.info? 33).map (fun i => (i.zero, i.size, i.bytes)) = some (some (.agg #[.int .i64 0, .string ⟨#[]⟩, .int .i64 0, .int .i64 0]), 4, 40) := by kernel_rfl
theorem toks_of_row {w : World} {base : Nat} {e : TypeId} {v : Value} {L : List Tk} (h : w.ownsRow base e 4 v L.length (tokCells L)) :
    ∃ A cap, v = .slice A L.length cap ∧ ToksAt w.heap.size w A L := by
  rcases h.2 with ⟨rfl, h0⟩ | ⟨g, cap, cur, rfl, _, hg, hn, _, hsz, htk⟩
  · rw [h0]; exact ⟨none, 0, rfl, fun j hj => by omega⟩
  · refine ⟨some ⟨g, 0, none⟩, cap, rfl, fun j hj => ⟨g, 0, rfl, ?_, ?_⟩⟩
    · rcases Nat.lt_or_ge g w.heap.size with h' | h'
      · exact h'
      · simp [Array.getElem?_eq_none h'] at hg
    · have hc := tokCells_at L j hj
      rw [← htk] at hc
      have hk : ∀ i u, i < L.length * 4 → (cur.toList.take (L.length * 4))[i]? = some u → w.cell? ⟨g, i, none⟩ = some u := fun i u hi hu => by
        rw [List.getElem?_take_of_lt hi] at hu
        rw [Lib.cell_of_heap hg]; simpa using hu
      rw [Nat.zero_add]
      exact ⟨hk _ _ (by omega) hc.1, hk _ _ (by omega) hc.2.1, hk _ _ (by omega) hc.2.2.1, hk _ _ (by omega) hc.2.2.2⟩
theorem tok_new (w : World) (t : TypeId) (x y z u : Value) (H : Nat) (hH : w.heap.size = H) : ∀ j v, ([x, y, z, u] : List Value)[j]? = some v → (w.alloc (.cells #[x, y, z, u] t)).cell? ((⟨H, 0, none⟩ : Addr).add j) = some v := fun j v hj => by
  subst hH
  match j, hj with
  | 0, hj => simp at hj; subst hj; simp [Addr.add]
  | 1, hj => simp at hj; subst hj; simp [Addr.add]
  | 2, hj => simp at hj; subst hj; simp [Addr.add]
  | 3, hj => simp at hj; subst hj; simp [Addr.add]
theorem tok_one (k n a : Int) (t : ByteArray) : ∀ u ∈ ([.int .i64 k, .string t, .int .i64 n, .int .i64 a] : List Value), u.oneCell' = true := fun u hu => by
  simp at hu; rcases hu with rfl | rfl | rfl | rfl <;> rfl

theorem only_of_below {a w : World} (h : Below a.heap.size a w) (row : Option Nat) : a.grownBy w row := ⟨h.os, h.tape, h.output, h.size, fun i hi _ => h.block i hi⟩
theorem lexF_form : ∀ (f : Nat) (l : List UInt8) (a : Nat), (lexF f l a).2.2 = 0 ∨ (lexF f l a).1 = []
  | 0, l, a => Or.inl rfl
  | f + 1, l, a => by
    unfold lexF
    by_cases h : l = []
    · rw [if_pos h]; exact Or.inl rfl
    rw [if_neg h]
    cases tokL l with
    | no e => exact Or.inr rfl
    | ok k t n m =>
      simp only
      unfold joinT
      split
      · exact Or.inl rfl
      · exact Or.inr rfl
theorem lexF_end (f : Nat) (a : Nat) : lexF f [] a = ([], a, 0) := by cases f <;> simp [lexF]
theorem lexF_no {f : Nat} {l : List UInt8} {a : Nat} {z : Int} (hl : l ≠ []) (h : tokL l = .no z) : lexF (f + 1) l a = ([], a, z) := by
  rw [lexF, if_neg hl, h]
theorem lexF_ok {f : Nat} {l : List UInt8} {a : Nat} {k n : Int} {t : List UInt8} {m : Nat} (hl : l ≠ []) (h : tokL l = .ok k t n m) :
    lexF (f + 1) l a = joinT [⟨k, t, n, a⟩] (lexF f ((l.drop m).drop (gap (l.drop m))) (a + m + gap (l.drop m))) := by
  rw [lexF, if_neg hl, h]
theorem tokNo_ne {l : List UInt8} {z : Int} (h : tokL l = .no z) : z = 50 ∨ z = 10 := by
  cases l with
  | nil => injection h with h; exact Or.inl h.symm
  | cons c r =>
    unfold tokL at h
    simp only at h
    split at h
    · unfold wordR at h
      split at h
      · injection h with h; exact Or.inl h.symm
      · cases h
    · split at h
      · unfold numR at h
        split at h
        · injection h with h; exact Or.inl h.symm
        · split at h
          · cases h
          · injection h with h; exact Or.inr h.symm
      · split at h
        · unfold litR at h
          split at h
          · cases h
          · injection h with h; exact Or.inl h.symm
        · unfold sgnR at h
          split at h
          · cases h
          · injection h with h; exact Or.inl h.symm
/-- What Lex tells: a slice of these tokens in memory that reads so, the place, the error. -/
def LexOut (x : Res) (w : World) (e : Ending) (w' : World) : Prop :=
  (∃ A cap, e = .returned (.tuple #[.slice A x.1.length cap, .int .i64 (x.2.1 : Nat), .int .i64 x.2.2]) ∧ ToksAt w'.heap.size w' A x.1) ∧ Below w.heap.size w w'
/-- Between two tokens. -/
def Mid (s : ByteArray) (X : Res) (L : List Tk) (p : Nat) : Prop := ∃ f, s.size - p < f ∧ X = joinT L (lexF f (rest s p) p)
theorem rest_rest (s : ByteArray) (p m : Nat) : (rest s p).drop m = rest s (p + m) := by unfold rest; rw [List.drop_drop]
theorem mid_end {s : ByteArray} {X : Res} {L : List Tk} {p : Nat} (h : Mid s X L p) (hp : s.size ≤ p) : X = (L, p, 0) := by
  obtain ⟨f, -, rfl⟩ := h
  rw [rest_end hp, lexF_end, joinT_ok rfl]; simp
theorem rest_ne {s : ByteArray} {p : Nat} (hp : p < s.size) : rest s p ≠ [] := by rw [rest_at hp]; simp
theorem mid_no {s : ByteArray} {X : Res} {L : List Tk} {p : Nat} {z : Int} (h : Mid s X L p) (hp : p < s.size) (ht : tokL (rest s p) = .no z) : X = ([], p, z) := by
  obtain ⟨f, hf, rfl⟩ := h
  obtain ⟨f, rfl⟩ : ∃ g, f = g + 1 := ⟨f - 1, by omega⟩
  rw [lexF_no (rest_ne hp) ht, joinT_no (by rcases tokNo_ne ht with rfl | rfl <;> (intro h; cases h))]
theorem mid_ok {s : ByteArray} {X : Res} {L : List Tk} {p : Nat} {k n : Int} {t : List UInt8} {m : Nat} (h : Mid s X L p) (hp : p < s.size) (ht : tokL (rest s p) = .ok k t n m) :
    Mid s X (L ++ [⟨k, t, n, p⟩]) (p + m + gap (rest s (p + m))) := by
  obtain ⟨f, hf, rfl⟩ := h
  obtain ⟨f, rfl⟩ : ∃ g, f = g + 1 := ⟨f - 1, by omega⟩
  have hm := (tok_some ht).1
  refine ⟨f, by omega, ?_⟩
  rw [lexF_ok (rest_ne hp) ht, joinT_join, rest_rest, rest_rest]
set_option maxHeartbeats 8000000 in
set_option maxRecDepth 100000 in
theorem lex_any (s : ByteArray) (w : World) (hL : Lw w) (hs : s.size ≤ 140737488355328) :
    Calls Tryd.prog 9 #[.string s] w (LexOut (lexA s.data.toList) w) := by
  obtain ⟨i0, hi, hz0, hz1, hz2⟩ := info_parts tok_info
  have hlen : s.data.toList.length = s.size := Array.length_toList
  have HLw := hide hL
  clear hL
  by_cases hbig : 16384 < s.size
  · have HA : Hid (lexA s.data.toList = ([], 0, 31)) := hide (by unfold lexA; rw [hlen, if_pos hbig])
    rw [HA.out]
    clear HA hlen
    go_enter Tryd.func9, Tryd.ntmps9
    go_wp2_with fail
    go_ret3
    exact ⟨⟨none, 0, rfl, ToksAt.nil _ _ _⟩, Below.refl _ _⟩
  have HM0 : Hid (Mid s (lexA s.data.toList) [] (0 + gap (rest s 0))) := hide (by
    refine ⟨s.size + 1, by omega, ?_⟩
    unfold lexA
    rw [hlen, if_neg hbig, Nat.zero_add, joinT_nil _ (lexF_form _ _ _)]
    rfl)
  have hg0 := preS_le skF false (rest s 0)
  rw [rest_len] at hg0
  have hp0 : 0 + gap (rest s 0) ≤ s.size := by
    show 0 + preS skF false (rest s 0) ≤ s.size
    omega
  have HSk := hide (fun p w1 (hp : p ≤ s.size) => skip_any s p w1 hs hp)
  have HS0 := hide (skip_any s 0 w hs (Nat.zero_le _))
  have HRd := hide (fun p w1 (hL : Lw w1) (hp : p < s.size) => read_any s p w1 hL hs hp)
  generalize lexA s.data.toList = X at *
  have HB0 := hide (Below.refl w.heap.size w)
  generalize 0 + gap (rest s 0) = p0 at *
  clear hlen hg0
  go_enter Tryd.func9, Tryd.ntmps9
  go_wp2_with fail
  refine HS0.out.mono ?_
  rintro e w1 ⟨rfl, hb⟩
  have HB1 := hide (HB0.out.trans hb)
  clear hb HS0
  go_wp2_with fail
  go_loopw [2, 3] (fun v p wr => ∃ (L : List Tk) (q : Nat), p = .int .i64 q ∧ q ≤ s.size ∧ L.length ≤ q ∧ Hid (Mid s X L q) ∧ wr.ownsRow w.heap.size 33 4 v L.length (tokCells L) ∧ Hid (Below w.heap.size w wr)) (fun _ p _ => s.size - (intOf p).toNat)
  case atStart => exact ⟨[], p0, rfl, hp0, Nat.zero_le _, HM0, World.ownsRow_nil _ _ _ _, HB1⟩
  case round =>
    obtain ⟨L, q, rfl, hq, hL, HM, hrow, HB⟩ := hrel
    clear HM0 HB1 hp0
    by_cases hlt : q < s.size
    · have HR := hide (HRd.out q wr (HLw.out.on HB.out) hlt)
      cases ht : tokL (rest s q) with
      | no z =>
        have HX := hide (mid_no HM.out hlt ht)
        rw [ht] at HR
        have hz : (z != 0) = true := by rcases tokNo_ne ht with rfl | rfl <;> rfl
        clear HM HRd HSk ht hL hrow
        go_wp2_with fail
        refine HR.out.mono ?_
        rintro e w2 ⟨rfl, hb⟩
        have HB2 := hide (HB.out.trans (hb.mono HB.out.size))
        clear hb HR
        unfold outA
        go_wp2_with fail
        go_ret3
        rw [HX.out]
        exact ⟨⟨none, 0, rfl, ToksAt.nil _ _ _⟩, by have := HB2.out; have := HB2.out.size; go_grown⟩
      | ok k t n m =>
        have HX := hide (mid_ok HM.out hlt ht)
        rw [ht] at HR
        have hm := (tok_some ht).2.1
        have hm0 := (tok_some ht).1
        rw [rest_len] at hm
        have HS2 := hide (fun w1 => HSk.out (q + m) w1 (by omega))
        have hgp := preS_le skF false (rest s (q + m))
        rw [rest_len] at hgp
        have hgp' : gap (rest s (q + m)) ≤ s.size - (q + m) := hgp
        clear hgp
        generalize gap (rest s (q + m)) = g at *
        have HTC := hide (tokCells_snoc L ⟨k, t, n, q⟩)
        clear HM HRd HSk ht
        have hsz := HB.out.size
        go_wp2_with fail
        refine HR.out.mono ?_
        rintro e w2 ⟨rfl, hb⟩
        have HB2 := hide (HB.out.trans (hb.mono HB.out.size))
        have r1 := hrow.kept (only_of_below hb none) (by cases hv : u2.ownBlock <;> simp)
        have hs2 := hb.size
        clear hb HR HB
        unfold outA
        go_wp2_with (at_builtin; go_must (refine wpList_append_own_at _ rfl _ _ 23 rfl w.heap.size 33 i0 (.agg #[.int .i64 0, .string ⟨#[]⟩, .int .i64 0, .int .i64 0]) 4 40 Tryd.underlying23 hi hz0 hz1 hz2 rfl (by decide) _ _ _ rfl ((r1.alloc _).alloc _) ⟨w2.heap.size + 1, 0, none⟩ 1 1 [.int .i64 k, txt t, .int .i64 n, .int .i64 (q : Nat)] rfl rfl (tok_new _ _ _ _ _ _ _ (by simp)) (tok_one _ _ _ _) (by unfold maxLen; omega) (by omega) (by simp; omega) ?_))
        intro v1 w3 hown3 hgrow3 _ hat3
        have hs3 := hgrow3.size
        simp at hs3
        have HB3 := hide (((HB2.out.alloc (by omega) _).alloc (by simp; omega) _).grown hgrow3 (by simp; omega) (fun j hj => (r1.lt j hj).1))
        have HO3 := hide hown3
        clear hgrow3 hat3 hown3 HB2 r1 hrow
        go_wp2_with fail
        refine (HS2.out _).mono ?_
        rintro e w4 ⟨rfl, hb⟩
        have r4 := HO3.out.kept (only_of_below hb none) (by cases hv : v1.ownBlock <;> simp)
        have HB4 := hide (HB3.out.trans (hb.mono HB3.out.size))
        have HR4 := hide r4
        clear hb r4 HS2 HO3 HB3
        go_wp2_with fail
        go_roundw
        case rel =>
          refine ⟨L ++ [⟨k, t, n, q⟩], q + m + g, by go_num, by omega, by simp; omega, HX, ?_, HB4⟩
          rw [HTC.out, List.length_append]
          exact HR4.out
        case measure => simp [intOf]; omega
    · have HX := hide (mid_end HM.out (by omega))
      clear HM HRd HSk
      obtain ⟨A, c, rfl, hA⟩ := toks_of_row hrow
      have HA := hide hA
      clear hrow hA
      go_wp2_with fail
      go_ret3
      rw [HX.out]
      exact ⟨⟨A, c, rfl, HA.out⟩, HB.out⟩
end Go.Proofs.YteaaloejjafhlaaDoor
