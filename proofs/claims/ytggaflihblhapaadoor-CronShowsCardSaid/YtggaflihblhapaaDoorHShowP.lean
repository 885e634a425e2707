/-
  The program's text of a field: showRun, showField.
-/
import Derived.Test.YtggaflihblhapaaDoorHShowC
import Derived.Test.YtggaflihblhapaaDoorHCheck
import Derived.Test.YtggaflihblhapaaDoorHItoa
import Derived.Test.YtggaflihblhapaaDoorCText
import Derived.Lib.QuietBelow
import Derived.Lib.ItoaMem
import Derived.Lib.Join
import Derived.OwnWalk
namespace Go.Proofs.YtggaflihblhapaaDoor
open Go.RowKit Go.Sort CM HM

theorem itoa_dig {n : Nat} (h : n < 100) : Lib.itoa (n : Int) = digL n := by
  rw [Lib.itoa_nonneg]
  unfold digL
  by_cases h1 : n < 10
  · rw [if_pos h1, dec_small h1]
  · rw [if_neg h1, dec_big h1, dec_small (by omega)]; rfl
theorem digL_len (n : Nat) : (digL n).length ≤ 2 := by unfold digL; split <;> simp
theorem runT_len (r : Nat × Nat) : (runT r).length ≤ 5 := by
  have h1 := digL_len r.1
  have h2 := digL_len r.2
  unfold runT
  split
  · simp; omega
  · omega
theorem itoa_two_dig (n : Nat) (w : World) (h : n < 100) (ht : Tab w) : Calls Tryd.prog 48 #[.int .i64 n] w fun e w' => e = .returned (txt (digL n)) ∧ Below w.heap.size w w' := by
  have := itoa_any n w (by omega) (by omega) ht
  rw [itoa_dig h] at this
  exact this
set_option maxHeartbeats 1000000 in
theorem showRun_any (p q : Nat) (w : World) (hpq : p ≤ q) (hq : q < 100) (ht : Tab w) : Calls Tryd.prog 52 #[.int .i64 p, .int .i64 q] w fun e w' => e = .returned (txt (runT (p, q))) ∧ Below w.heap.size w w' := by
  by_cases h : p = q
  · subst h
    have HI := hide (itoa_two_dig p w hq ht)
    have HR : Hid (runT (p, p) = digL p) := hide (by unfold runT; rw [if_neg (by simp)])
    clear ht
    go_enter Tryd.func52, Tryd.ntmps52
    go_wp2_with fail
    refine HI.out.mono ?_
    rintro e w1 ⟨rfl, hb⟩
    have HB := hide hb
    clear hb
    go_wp2_with fail
    go_ret
    exact ⟨by rw [HR.out]; rfl, HB.out⟩
  · have HP := hide (fun w ht => itoa_two_dig p w (by omega) ht)
    have HQ := hide (fun w ht => itoa_two_dig q w hq ht)
    have HT0 := hide ht
    have HE : Hid ((⟨(digL p).toArray⟩ : ByteArray) ++ ⟨#[45]⟩ ++ ⟨(digL q).toArray⟩ = ⟨(runT (p, q)).toArray⟩) := hide (by
      unfold runT
      rw [if_pos (by show p < q; omega)]
      apply ByteArray.ext; simp [ByteArray.data_append])
    have l1 := digL_len p
    have l2 := digL_len q
    have hne : ((p : Int) == (q : Int)) = false := by simp; omega
    have q1 : ¬ 9223372036854775807 < (digL p).length + 1 := by omega
    have q2 : ¬ 9223372036854775807 < (digL p).length + 1 + (digL q).length := by omega
    clear ht h hpq hq l1 l2
    generalize digL p = x at *
    generalize digL q = y at *
    go_enter Tryd.func52, Tryd.ntmps52
    go_wp2_with fail
    refine (HP.out _ HT0.out).mono ?_
    rintro e w1 ⟨rfl, hb⟩
    have HB1 := hide hb
    have HT1 := hide (HT0.out.on hb)
    clear hb
    go_wp2_with fail
    refine (HQ.out _ HT1.out).mono ?_
    rintro e w2 ⟨rfl, hb⟩
    have HB2 := hide (HB1.out.trans (hb.mono HB1.out.size))
    clear hb
    go_wp2_with fail
    go_ret
    exact ⟨ret_str HE.out, HB2.out⟩
theorem runsL_nil (h : Nat → Bool) : ∀ (k n : Nat), (∀ m, n ≤ m → h m = false) → runsL h k n = []
  | 0, _, _ => rfl
  | k + 1, n, hh => by
    unfold runsL
    rw [hh n (Nat.le_refl _), if_neg (by simp)]
    exact runsL_nil h k (n + 1) (fun m hm => hh m (by omega))
theorem runsL_len (h : Nat → Bool) : ∀ (k n : Nat), (runsL h k n).length ≤ k
  | 0, _ => by simp [runsL]
  | k + 1, n => by
    unfold runsL
    split
    · have := runsL_len h k (runE h 64 n + 1)
      simp; omega
    · have := runsL_len h k (n + 1)
      omega
theorem joinL_join (c : UInt8) : ∀ l : List (List UInt8), Lib.join l [c] = joinL c l
  | [] => rfl
  | [p] => Lib.join_one p [c]
  | p :: q :: r => by
    have ih := joinL_join c (q :: r)
    rw [Lib.join_cons] at ih ⊢
    show _ = p ++ c :: joinL c (q :: r)
    rw [← ih]
    simp [Lib.joinTail]
theorem joinL_len (c : UInt8) (n : Nat) : ∀ l : List (List UInt8), (∀ p ∈ l, p.length ≤ n) → (joinL c l).length ≤ l.length * (n + 1)
  | [], _ => by simp [joinL]
  | [p], h => by have := h p List.mem_cons_self; show p.length ≤ _; simp; omega
  | p :: q :: r, h => by
    have h1 := h p List.mem_cons_self
    have ih := joinL_len c n (q :: r) (fun x hx => h x (List.mem_cons_of_mem _ hx))
    show (p ++ c :: joinL c (q :: r)).length ≤ _
    rw [List.length_append, List.length_cons, show (p :: q :: r).length = (q :: r).length + 1 from rfl, Nat.add_mul]
    omega
theorem own_on {w w' : World} {base size n : Nat} {e : TypeId} {v : Value} {xs : List Value} (h : w.ownsRow base e size v n xs) (hb : Below w.heap.size w w') : w'.ownsRow base e size v n xs := by
  obtain ⟨h1, h2⟩ := h
  refine ⟨h1, ?_⟩
  rcases h2 with h2 | ⟨g, cap, cur, hv, hge, hg, r⟩
  · exact .inl h2
  · refine .inr ⟨g, cap, cur, hv, hge, (hb.block g ?_).trans hg, r⟩
    rcases Nat.lt_or_ge g w.heap.size with h' | h'
    · exact h'
    · rw [Array.getElem?_eq_none h'] at hg; cases hg
/-- Texts as cells. -/
def strV (l : List (List UInt8)) : List Value := l.map txt
theorem str_info' : (Tryd.prog.info? 9).map (fun i => (i.zero, i.size, i.bytes)) = some (some (.string ⟨#[]⟩), 1, 16) := by kernel_rfl
theorem info_parts' {p : Option TypeInfo} {z : Value} {s b : Nat} (h : p.map (fun i => (i.zero, i.size, i.bytes)) = some (some z, s, b)) : ∃ i, p = some i ∧ i.zero = some z ∧ i.size = s ∧ i.bytes = b := by
  cases p with
  | none => cases h
  | some i =>
    simp only [Option.map_some, Option.some.injEq, Prod.mk.injEq] at h
    exact ⟨i, rfl, h.1, h.2.1, h.2.2⟩
theorem str_new' (w : World) (t : TypeId) (v : Value) (H : Nat) (hH : w.heap.size = H) : ∀ j u, ([v] : List Value)[j]? = some u → (w.alloc (.cells #[v] t)).cell? ((⟨H, 0, none⟩ : Addr).add j) = some u := fun j u hj => by
  subst hH
  match j, hj with
  | 0, hj => simp at hj; subst hj; simp [Addr.add]
theorem str_oneH (l : List UInt8) : ∀ u ∈ ([txt l] : List Value), u.oneCell' = true := fun u hu => by
  simp at hu; subst hu; rfl
/-- The texts of an own row that is not empty. -/
theorem strs_of_row {w : World} {base : Nat} {v : Value} {l : List (List UInt8)} (h : w.ownsRow base 9 1 v l.length (strV l)) (hl : 0 < l.length) :
    ∃ b cap, v = .slice (some ⟨b, 0, none⟩) l.length cap ∧ b < w.heap.size ∧ l.length ≤ cap ∧ ∀ j x, l[j]? = some x → w.cell? ⟨b, 0 + j, none⟩ = some (txt x) := by
  obtain ⟨_, h⟩ := h
  rcases h with ⟨_, h⟩ | ⟨g, cap, cur, rfl, hge, hg, hcap, hmax, hcs, hz⟩
  · rw [h] at hl; cases hl
  · refine ⟨g, cap, rfl, ?_, hcap, fun j x hj => ?_⟩
    · rcases Nat.lt_or_ge g w.heap.size with h' | h'
      · exact h'
      · rw [Array.getElem?_eq_none h'] at hg; cases hg
    · rw [Nat.zero_add]
      have hjl : j < l.length := (List.getElem?_eq_some_iff.1 hj).1
      have h5 : (strV l)[j]? = some (txt x) := by unfold strV; rw [List.getElem?_map, hj]; rfl
      rw [← hz, List.getElem?_take, if_pos (by omega), Array.getElem?_toList] at h5
      exact (Lib.cell_of_heap hg j).trans h5
theorem join_any (b cap : Nat) (R : List (List UInt8)) (c : UInt8) (w : World) (hcells : ∀ j x, R[j]? = some x → w.cell? ⟨b, 0 + j, none⟩ = some (txt x)) (hb : b < w.heap.size) (hcap : R.length ≤ cap) (hR : R.length ≤ 64) (hl : ∀ p ∈ R, p.length ≤ 400) :
    Calls Tryd.prog 32 #[.slice (some ⟨b, 0, none⟩) R.length cap, .string ⟨#[c]⟩] w fun e w' => e = .returned (txt (joinL c R)) ∧ Below w.heap.size w w' := by
  have hm : ((R.map fun l => (⟨l.toArray⟩ : ByteArray)).map (·.data.toList)) = R := by
    rw [List.map_map]
    conv => rhs; rw [← List.map_id R]
    exact List.map_congr_left fun x _ => rfl
  have hj : Lib.join ((R.map fun l => (⟨l.toArray⟩ : ByteArray)).map (·.data.toList)) (⟨#[c]⟩ : ByteArray).data.toList = joinL c R := by
    rw [hm]; exact joinL_join c R
  have hlen := joinL_len c 400 R hl
  have h := Tryd.strings_Join b 0 cap (R.map fun l => (⟨l.toArray⟩ : ByteArray)) ⟨#[c]⟩ w (fun j x hx => by
    rw [List.getElem?_map] at hx
    cases hq : R[j]? with
    | none => rw [hq] at hx; cases hx
    | some y =>
      rw [hq] at hx
      simp only [Option.map_some, Option.some.injEq] at hx
      subst hx
      exact hcells j y hq) hb (by rw [List.length_map]; omega) (by rw [List.length_map]; exact hcap) (by rw [hj]; have : R.length * (400 + 1) ≤ 64 * (400 + 1) := Nat.mul_le_mul_right _ hR; omega)
  rw [hj, List.length_map] at h
  exact h
/-- The cells of a spec in its box, by number. -/
def InBox (w : World) (b : Nat) (c : Sp) : Prop := ∀ f, f < 5 → w.cell? ⟨b, f, none⟩ = some (.int .u64 (c.S f : Nat)) ∧ w.cell? ⟨b, 5 + f, none⟩ = some (.bool (c.A f))
theorem InBox.box (w : World) (c : Sp) : InBox (boxC w c) w.heap.size c := fun f hf => by
  obtain rfl | rfl | rfl | rfl | rfl : f = 0 ∨ f = 1 ∨ f = 2 ∨ f = 3 ∨ f = 4 := by omega
  all_goals exact ⟨by simp, by simp⟩
theorem InBox.below {w w' : World} {b B : Nat} {c : Sp} (h : InBox w b c) (hb : Below B w w') (hB : b < B) : InBox w' b c := fun f hf =>
  ⟨(hb.cell (p := ⟨b, f, none⟩) hB).trans (h f hf).1, (hb.cell (p := ⟨b, 5 + f, none⟩) hB).trans (h f hf).2⟩
theorem showF_any (s : Nat) : showF s true = [42] := by unfold showF; rw [if_pos rfl]
theorem showF_runs (s : Nat) : showF s false = joinL 44 ((runsL s.testBit 64 0).map runT) := by unfold showF; rw [if_neg (by simp)]
/-- What showField tells. -/
def FldOut (c : Sp) (f : Nat) (w : World) (e : Ending) (w' : World) : Prop := e = .returned (txt (showF (c.S f) (c.A f))) ∧ Below w.heap.size w w'
theorem field_star (c : Sp) (f : Nat) (w : World) (hf : f < 5) (ha : c.A f = true) : Calls Tryd.prog 31 #[vC c, .int .i64 (f : Nat)] w (FldOut c f w) := by
  have HB0 : Hid (Below w.heap.size w (boxC w c)) := hide ((Below.refl _ _).alloc (Nat.le_refl _) _)
  have c1 := ((InBox.box w c) f hf).2
  rw [ha] at c1
  have HR : Hid (showF (c.S f) (c.A f) = [42]) := hide (by rw [ha, showF_any])
  clear ha
  go_enter Tryd.func31, Tryd.ntmps31
  go_wp2_with fail
  go_ret
  exact ⟨by rw [HR.out]; rfl, HB0.out⟩

set_option maxHeartbeats 4000000 in
set_option maxRecDepth 100000 in
theorem field_runs (c : Sp) (f : Nat) (w : World) (hc : c.wf) (hv : validB c = true) (hf : f < 5) (ha : c.A f = false) (hB : Bnd w) (ht : Tab w) : Calls Tryd.prog 31 #[vC c, .int .i64 (f : Nat)] w (FldOut c f w) := by
  obtain ⟨W, hW⟩ : ∃ W, W = (w.alloc (.cells #[.int .u64 (c.S 0 : Nat), .int .u64 (c.S 1 : Nat), .int .u64 (c.S 2 : Nat), .int .u64 (c.S 3 : Nat), .int .u64 (c.S 4 : Nat), .bool (c.A 0), .bool (c.A 1), .bool (c.A 2), .bool (c.A 3), .bool (c.A 4)] 26)) := ⟨_, rfl⟩
  have hB0 : Below w.heap.size w W := by rw [hW]; exact (Below.refl _ _).alloc (Nat.le_refl _) _
  have HB0 := hide hB0
  have HBW : Hid (∀ w', Below W.heap.size W w' → Below w.heap.size w w') := hide fun w' h => hB0.trans (h.mono hB0.size)
  have HBnd : Hid (∀ w', Below W.heap.size W w' → Bnd w') := hide fun w' h => hB.on (HBW.out w' h)
  have HTab : Hid (∀ w', Below W.heap.size W w' → Tab w') := hide fun w' h => ht.on (HBW.out w' h)
  have hbox := (InBox.box w c) f hf
  rw [ha] at hbox
  obtain ⟨c0, c1⟩ := hbox
  have hbnd := (hB.on (show Below w.heap.size w (boxC w c) from (Below.refl _ _).alloc (Nat.le_refl _) _)).1 f hf
  have hS := hc f hf
  obtain ⟨v1, v2, v3⟩ := valid_bits hv hf
  have hlh := lohi f
  have HHi : Hid (∀ w', Below W.heap.size W w' → w'.cell? ⟨2, f, none⟩ = some (.int .i64 (hiN f : Nat))) := hide fun w' h => (HBnd.out w' h).2 f hf
  have HH : Hid (∀ (x : Int) (n : Nat) (w : World), x = n → n ≤ 63 → Calls Tryd.prog 51 #[.int .u64 (c.S f : Nat), .int .i64 x] w fun e w' => e = .returned (.bool ((c.S f).testBit n)) ∧ w = w') := hide fun x n w hx h => by
    subst hx
    have := has_any (c.S f) n w hS (by omega) (by omega)
    rw [Int.toNat_natCast] at this
    exact this
  have hh : ∀ m, 64 ≤ m → (c.S f).testBit m = false := fun m hm => bit_hi hS hm
  have HE : Hid (∀ k n, 64 ≤ n + k → (c.S f).testBit n = true → n ≤ runE (c.S f).testBit 64 n ∧ runE (c.S f).testBit 64 n < 64 ∧ (∀ m, n ≤ m → m ≤ runE (c.S f).testBit 64 n → (c.S f).testBit m = true) ∧ (c.S f).testBit (runE (c.S f).testBit 64 n + 1) = false) := hide fun k n _ h => runE_spec _ hh 64 n (by omega) h
  have HV : Hid (∀ m, (c.S f).testBit m = true → loN f ≤ m ∧ m ≤ hiN f) := hide fun m hm => by have := v2 m hm; omega
  have HNil : Hid (∀ k n, hiN f < n → runsL (c.S f).testBit k n = []) := hide fun k n hn => runsL_nil _ k n (fun m hm => by
    cases hq : (c.S f).testBit m
    · rfl
    · have := HV.out m hq; omega)
  have HLen := hide (runsL_len (c.S f).testBit 64 0)
  have HNe : Hid (runsL (c.S f).testBit 64 0 ≠ []) := hide (by
    obtain ⟨_, r2⟩ := runsL_spec (c.S f).testBit hh 64 0 (by omega)
    intro e
    apply v1
    refine none_zero hS (fun m hm => ?_)
    cases hq : (c.S f).testBit m
    · rfl
    · obtain ⟨r, hr, _⟩ := (r2 m).2 ⟨by omega, hq⟩
      rw [e] at hr; cases hr)
  have HStart : Hid (runsL (c.S f).testBit (64 - loN f) (loN f) = runsL (c.S f).testBit 64 0) := hide (by
    have h1 : loN f ≤ 1 := by unfold loN; split <;> omega
    rcases Nat.eq_zero_or_pos (loN f) with h0 | h0
    · rw [h0]
    · have h2 : loN f = 1 := by omega
      have h3 : (c.S f).testBit 0 = false := by
        cases hq : (c.S f).testBit 0
        · rfl
        · have := (HV.out 0 hq).1; omega
      rw [h2, show runsL (c.S f).testBit 64 0 = runsL (c.S f).testBit 63 1 by
        conv => lhs; unfold runsL
        rw [h3, if_neg (by simp)]])
  have HR : Hid (showF (c.S f) (c.A f) = joinL 44 ((runsL (c.S f).testBit 64 0).map runT)) := hide (by rw [ha, showF_runs])
  obtain ⟨i1, hi', hy0, hy1, hy2⟩ := info_parts' str_info'
  obtain ⟨l1, l2, l3⟩ := hlh
  have hlo1 : loN f ≤ 60 := by omega
  clear hB ht hc hv ha hS v1 v2 v3 hh hB0
  have HG := hide (show FldOut c f w = fun e w' => e = Ending.returned (txt (showF (c.S f) (c.A f))) ∧ Below w.heap.size w w' from rfl)
  unfold FldOut
  rw [HR.out]
  clear HG HR
  generalize hs : c.S f = s at *
  generalize hlo : loN f = lo at *
  generalize hhi : hiN f = hi at *
  clear hs hlo hhi
  go_enter Tryd.func31, Tryd.ntmps31
  go_wp2_with fail
  rw [← hW]
  clear hW c0 c1 hbnd
  go_loopw [6, 7] (fun v u wr => ∃ (k n : Nat) (done : List (Nat × Nat)), n ≤ 64 ∧ 64 ≤ n + k ∧ Hid (done ++ runsL s.testBit k n = runsL s.testBit 64 0) ∧ u = .int .i64 n ∧ wr.ownsRow W.heap.size 9 1 v done.length (strV (done.map runT)) ∧ Below W.heap.size W wr) (fun _ u _ => 65 - (intOf u).toNat)
  case atStart => exact ⟨64 - lo, lo, [], by omega, by omega, hide (by rw [List.nil_append]; exact HStart.out), rfl, ⟨rfl, .inl ⟨rfl, rfl⟩⟩, Below.refl _ _⟩
  case round =>
    obtain ⟨k, n, done, hn, hk, HD, rfl, hrow, hb⟩ := hrel
    have HB := hide hb
    have HRow := hide hrow
    have hcell := HHi.out wr hb
    clear hrow hb
    by_cases hle : n ≤ hi
    · obtain ⟨k', rfl⟩ : ∃ k', k = k' + 1 := ⟨k - 1, by omega⟩
      cases hbit : s.testBit n
      · have HC := hide (HH.out n n wr rfl (by omega))
        rw [hbit] at HC
        have HD2 : Hid (done ++ runsL s.testBit k' (n + 1) = runsL s.testBit 64 0) := hide (by
          have := HD.out
          rw [show runsL s.testBit (k' + 1) n = runsL s.testBit k' (n + 1) by
            conv => lhs; unfold runsL
            rw [hbit, if_neg (by simp)]] at this
          exact this)
        clear hbit
        go_wp2_with (go_at_call 51; refine HC.out.mono ?_; rintro e w' ⟨rfl, rfl⟩)
        go_roundw
        case rel => exact ⟨k', n + 1, done, by omega, by omega, HD2, by go_num, HRow.out, HB.out⟩
        case measure => simp [intOf]; omega
      · have HC := hide (HH.out n n wr rfl (by omega))
        rw [hbit] at HC
        obtain ⟨e1, e2, e3, e4⟩ := HE.out (k' + 1) n hk hbit
        have HD2 : Hid ((done ++ [(n, runE s.testBit 64 n)]) ++ runsL s.testBit k' (runE s.testBit 64 n + 1) = runsL s.testBit 64 0) := hide (by
          have := HD.out
          rw [show runsL s.testBit (k' + 1) n = (n, runE s.testBit 64 n) :: runsL s.testBit k' (runE s.testBit 64 n + 1) by
            conv => lhs; unfold runsL
            rw [hbit, if_pos rfl]] at this
          rw [List.append_assoc]; exact this)
        have HE3 := hide e3
        have HE4 := hide e4
        have he59 : runE s.testBit 64 n ≤ hi := (HV.out _ (e3 _ e1 (Nat.le_refl _))).2
        generalize runE s.testBit 64 n = E at *
        clear hbit e3 e4
        have HSR := hide (showRun_any n E wr e1 (by omega) (HTab.out wr HB.out))
        go_wp2_with (go_at_call 51; refine HC.out.mono ?_; rintro e w' ⟨rfl, rfl⟩)
        clear hcell
        go_loop [7] (fun u => ∃ m : Nat, n ≤ m ∧ m ≤ E ∧ u = .int .i64 m) (fun u => 64 - (intOf u).toNat)
        case atStart => exact ⟨n, Nat.le_refl _, e1, rfl⟩
        case round =>
          obtain ⟨m, hm1, hm2, rfl⟩ := hrel
          have HCm := hide (fun w => HH.out ((m : Int) + 1) (m + 1) w (by omega) (by omega))
          by_cases hmE : m < E
          · rw [HE3.out (m + 1) (by omega) (by omega)] at HCm
            go_wp2_with (go_at_call 51; refine (HCm.out _).mono ?_; rintro e w' ⟨rfl, rfl⟩)
            go_round
            case rel => exact ⟨m + 1, by omega, by omega, by go_num⟩
            case measure => simp [intOf]; omega
          · obtain rfl : m = E := by omega
            rw [HE4.out] at HCm
            go_wp2_with (go_at_call 51; refine (HCm.out _).mono ?_; rintro e w' ⟨rfl, rfl⟩)
            refine HSR.out.mono ?_
            rintro e w1 ⟨rfl, hb1⟩
            have hrow := own_on HRow.out hb1
            have HB1 := hide (HB.out.trans (hb1.mono HB.out.size))
            have hsz := HB1.out.size
            have hdl : done.length ≤ 64 := by
              have h1 := HLen.out
              rw [← HD2.out] at h1
              simp at h1
              omega
            clear hb1
            go_wp2_with (at_builtin; go_must (refine wpList_append_own _ rfl _ _ 62 rfl W.heap.size 9 i1 (.string ⟨#[]⟩) 1 16 Tryd.underlying62 hi' hy0 hy1 hy2 rfl (by decide) _ _ _ rfl (hrow.alloc _) ⟨w1.heap.size, 0, none⟩ 1 1 [txt (runT (n, m))] rfl rfl (str_new' _ _ _ _ rfl) (str_oneH _) (by unfold maxLen; omega) (by omega) (by simp; omega) ?_))
            intro v' w2 hown' hgrow _
            have HO2 := hide hown'
            have hs1 : W.heap.size ≤ w1.heap.size := hsz
            have HB2 : Hid (Below W.heap.size W w2) := hide ((HB1.out.alloc hsz _).grown hgrow (by simp; omega) (fun j hj => (hrow.lt j hj).1))
            clear hown' hgrow hrow
            go_wp2_with fail
            go_roundw
            case rel => exact ⟨k', m + 1, done ++ [(n, m)], by omega, by omega, HD2, by go_num, by
              have := HO2.out
              unfold strV at this ⊢
              rw [List.length_append, List.map_append, List.map_append]
              exact this, HB2.out⟩
            case measure => simp [intOf]; omega
    · have hD := HD.out
      rw [HNil.out k n (by omega), List.append_nil] at hD
      have hrow : wr.ownsRow W.heap.size 9 1 u6 ((runsL s.testBit 64 0).map runT).length (strV ((runsL s.testBit 64 0).map runT)) := by
        have := HRow.out
        rw [hD] at this
        rw [List.length_map]; exact this
      have hl5 : ∀ p ∈ (runsL s.testBit 64 0).map runT, p.length ≤ 400 := fun p hp => by
        obtain ⟨r, _, rfl⟩ := List.mem_map.1 hp
        have := runT_len r; omega
      have hR64 : ((runsL s.testBit 64 0).map runT).length ≤ 64 := by rw [List.length_map]; exact HLen.out
      have hRne : 0 < ((runsL s.testBit 64 0).map runT).length := by rw [List.length_map]; exact List.length_pos_iff.2 HNe.out
      clear hD HD HNil HE HStart HLen HNe
      generalize hRR : (runsL s.testBit 64 0).map runT = R at *
      have HRR := hide hRR
      clear hRR
      obtain ⟨b, cap, rfl, hbl, hcap, hcells⟩ := strs_of_row hrow hRne
      have HJ := hide (join_any b cap R 44 wr hcells hbl hcap hR64 hl5)
      clear hcells hl5 hrow HRow
      go_wp2_with fail
      refine HJ.out.mono ?_
      rintro e w1 ⟨rfl, hb1⟩
      have HB1 := hide (HB.out.trans (hb1.mono HB.out.size))
      clear hb1
      go_wp2_with fail
      go_ret
      exact ⟨by rw [HRR.out]; rfl, HBW.out _ HB1.out⟩
theorem field_any (c : Sp) (f : Nat) (w : World) (hc : c.wf) (hv : validB c = true) (hf : f < 5) (hB : Bnd w) (ht : Tab w) : Calls Tryd.prog 31 #[vC c, .int .i64 (f : Nat)] w (FldOut c f w) := by
  cases ha : c.A f
  · exact field_runs c f w hc hv hf ha hB ht
  · exact field_star c f w hf ha
end Go.Proofs.YtggaflihblhapaaDoor
