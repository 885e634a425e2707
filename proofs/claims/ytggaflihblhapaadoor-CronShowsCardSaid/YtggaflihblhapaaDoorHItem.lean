/-
  Cut at one byte; ranges; items.
-/
import Derived.Test.YtggaflihblhapaaDoorHNum
import Derived.Test.YtggaflihblhapaaDoorHPie
import Derived.Deep.RegionHeld
import Derived.Deep.RegionHeld3
namespace Go.Proofs.YtggaflihblhapaaDoor
open Go.RowKit HM

/-- A text cut at the first byte of a kind. -/
def cutA (c : UInt8) (l : List UInt8) : List UInt8 := if 0 ≤ Lib.indexByte l c then l.take (Lib.indexByte l c).toNat else l
def cutZ (c : UInt8) (l : List UInt8) : List UInt8 := if 0 ≤ Lib.indexByte l c then l.drop ((Lib.indexByte l c).toNat + 1) else []
def cutB (c : UInt8) (l : List UInt8) : Bool := decide (0 ≤ Lib.indexByte l c)
def CutOut (c : UInt8) (s : ByteArray) (w : World) (e : Ending) (w' : World) : Prop := (∃ t u : ByteArray, e = .returned (.tuple #[.string t, .string u, .bool (cutB c s.data.toList)]) ∧ t.data.toList = cutA c s.data.toList ∧ u.data.toList = cutZ c s.data.toList) ∧ Below w.heap.size w w'
set_option maxHeartbeats 1000000 in
theorem slCut_any (c : UInt8) (s : ByteArray) (w : World) (hs : s.size ≤ 1000000) : Calls Tryd.prog 93 #[.string s, .string ⟨#[c]⟩] w (CutOut c s w) := by
  have HX := hide (fun w => (Tryd.stringslite_Index_one s c w).mono fun _ _ h => (⟨h.1, h.2.symm⟩ : _ ∧ _))
  rcases index_range c s.data.toList with hx | ⟨hx0, hx1⟩
  · have HE : Hid (cutB c s.data.toList = false ∧ s.data.toList = cutA c s.data.toList ∧ (⟨#[]⟩ : ByteArray).data.toList = cutZ c s.data.toList) := hide (by
      unfold cutB cutA cutZ
      rw [hx]
      exact ⟨rfl, rfl, rfl⟩)
    rw [hx] at HX
    clear hx
    go_enter Tryd.func93, Tryd.ntmps93
    go_wp2_with fail
    refine (HX.out _).mono ?_
    rintro e w' ⟨rfl, rfl⟩
    go_wp2_with fail
    go_ret3
    exact ⟨⟨s, ⟨#[]⟩, by rw [HE.out.1]; rfl, HE.out.2.1, HE.out.2.2⟩, Below.refl _ _⟩
  · obtain ⟨k, hk⟩ := Int.eq_ofNat_of_zero_le hx0
    have hks : k < s.size := by simp at hx1; omega
    have HE : Hid (cutB c s.data.toList = true ∧ (s.extract 0 k).data.toList = cutA c s.data.toList ∧ (s.extract (k + 1) s.size).data.toList = cutZ c s.data.toList) := hide (by
      unfold cutB cutA cutZ
      rw [hk]
      refine ⟨by simp, by simp, by simp [List.take_of_length_le]⟩)
    rw [hk] at HX
    have hkb : (k : Int) ≤ 1000000 := by omega
    have e1 : IntKind.i64.wrap ((k : Int) + 1) = (k : Int) + 1 := IntWalk.i64_in _ (by omega)
    have e2 : (0 : Int) ≤ (k : Int) + 1 := by omega
    have e3 : ((k : Int) + 1).toNat = k + 1 := by omega
    have e4 : (k : Int) + 1 ≤ s.size := by omega
    have e5 : (k : Int) ≤ s.size := by omega
    clear hx0 hx1 hk
    go_enter Tryd.func93, Tryd.ntmps93
    go_wp2_with fail
    refine (HX.out _).mono ?_
    rintro e w' ⟨rfl, rfl⟩
    go_wp2_with fail
    go_quiet (fail)
    go_wp2_with fail
    go_ret3
    exact ⟨⟨_, _, by rw [HE.out.1]; rfl, HE.out.2.1, HE.out.2.2⟩, Joins.below_draws _ _ _⟩
theorem cut_any (c : UInt8) (s : ByteArray) (w : World) (hs : s.size ≤ 1000000) : Calls Tryd.prog 74 #[.string s, .string ⟨#[c]⟩] w (CutOut c s w) := by
  have H := hide (fun w => slCut_any c s w hs)
  go_enter Tryd.func74, Tryd.ntmps74
  go_wp2_with fail
  refine (H.out _).mono ?_
  rintro e w1 ⟨⟨t, u, rfl, ht, hu⟩, hb⟩
  have HT := hide ht
  have HU := hide hu
  have HB := hide hb
  clear ht hu hb
  go_wp2_with fail
  go_ret3
  exact ⟨⟨t, u, rfl, HT.out, HU.out⟩, HB.out⟩
theorem cut_len (c : UInt8) (l : List UInt8) : (cutA c l).length ≤ l.length ∧ (cutZ c l).length ≤ l.length := by
  unfold cutA cutZ
  constructor
  · split
    · rw [List.length_take]; omega
    · omega
  · split
    · rw [List.length_drop]; omega
    · simp
theorem size_of {t s : ByteArray} {l : List UInt8} (h : t.data.toList = l) (hl : l.length ≤ s.data.toList.length) (hs : s.size ≤ 1000000) : t.size ≤ 1000000 := by
  have h1 : t.data.toList.length = t.size := by simp
  have h2 : s.data.toList.length = s.size := by simp
  rw [h] at h1
  omega
set_option maxHeartbeats 2000000 in
theorem pr_any (s : ByteArray) (w : World) (hs : s.size ≤ 1000000) : Calls Tryd.prog 90 #[.string s] w fun e w' => e = .returned (.tuple #[.int .i64 (numV (cutA 45 s.data.toList) : Nat), .int .i64 (numV (cutZ 45 s.data.toList) : Nat), .bool (numB (cutA 45 s.data.toList) && numB (cutZ 45 s.data.toList))]) ∧ Below w.heap.size w w' := by
  have hC := cut_any 45 s w hs
  unfold CutOut at hC
  have HC := hide hC
  have H1 : Hid (∀ (t : ByteArray) w, t.data.toList = cutA 45 s.data.toList → Calls Tryd.prog 89 #[.string t] w fun e w' => e = .returned (.tuple #[.int .i64 (numV (cutA 45 s.data.toList) : Nat), .bool (numB (cutA 45 s.data.toList))]) ∧ Below w.heap.size w w') := hide (fun t w ht => by
    have := pn_any t w (size_of ht (cut_len 45 s.data.toList).1 hs)
    rw [ht] at this
    exact this)
  have H2 : Hid (∀ (t : ByteArray) w, t.data.toList = cutZ 45 s.data.toList → Calls Tryd.prog 89 #[.string t] w fun e w' => e = .returned (.tuple #[.int .i64 (numV (cutZ 45 s.data.toList) : Nat), .bool (numB (cutZ 45 s.data.toList))]) ∧ Below w.heap.size w w') := hide (fun t w ht => by
    have := pn_any t w (size_of ht (cut_len 45 s.data.toList).2 hs)
    rw [ht] at this
    exact this)
  clear hs hC
  generalize cutA 45 s.data.toList = a at *
  generalize cutZ 45 s.data.toList = z at *
  generalize numV a = na at *
  generalize numV z = nz at *
  generalize numB a = ba at *
  generalize numB z = bz at *
  cases ba
  all_goals
    cases bz
    all_goals
      go_enter Tryd.func90, Tryd.ntmps90
      go_wp2_with fail
      refine HC.out.mono ?_
      rintro e w1 ⟨⟨t, u, rfl, ht, hu⟩, hb⟩
      have HB1 := hide hb
      have H1' := hide (fun w => H1.out t w ht)
      have H2' := hide (fun w => H2.out u w hu)
      clear ht hu hb
      go_wp2_with fail
      refine (H1'.out _).mono ?_
      rintro e w2 ⟨rfl, hb2⟩
      have HB2 := hide (HB1.out.trans (hb2.mono HB1.out.size))
      clear hb2
      go_wp2_with fail
      refine (H2'.out _).mono ?_
      rintro e w3 ⟨rfl, hb3⟩
      have HB3 := hide (HB2.out.trans (hb3.mono HB2.out.size))
      clear hb3
      go_wp2_with fail
      go_ret3
      exact ⟨rfl, HB3.out⟩
/-- What parseItem tells: the first and the last number, the step, and whether it is an item. -/
def itm (f : Nat) (l : List UInt8) : Nat × Nat × Nat × Bool :=
  if numB l = true then (numV l, numV l, 1, true)
  else if cutB 47 l = false then (numV (cutA 45 (cutA 47 l)), numV (cutZ 45 (cutA 47 l)), 1, numB (cutA 45 (cutA 47 l)) && numB (cutZ 45 (cutA 47 l)))
  else if cutA 47 l = [42] then (loN f, hiN f, numV (cutZ 47 l), numB (cutZ 47 l))
  else (numV (cutA 45 (cutA 47 l)), numV (cutZ 45 (cutA 47 l)), numV (cutZ 47 l), (numB (cutA 45 (cutA 47 l)) && numB (cutZ 45 (cutA 47 l))) && numB (cutZ 47 l))
abbrev vI (a b s : Nat) : Value := .agg #[.int .i64 (a : Nat), .int .i64 (b : Nat), .int .i64 (s : Nat)]
/-- The box of a result, behind a call. -/
theorem box3 (w : World) : ∀ w1, Below (w.alloc (.cells #[.int .i64 0, .int .i64 0, .int .i64 0] 99)).heap.size (w.alloc (.cells #[.int .i64 0, .int .i64 0, .int .i64 0] 99)) w1 →
    w1.cell? ⟨w.heap.size, 0, none⟩ = some (.int .i64 0) ∧ w1.cell? ⟨w.heap.size, 1, none⟩ = some (.int .i64 0) ∧ w1.cell? ⟨w.heap.size, 2, none⟩ = some (.int .i64 0) ∧ w.heap.size < w1.heap.size := fun w1 hb => by
  refine ⟨?_, ?_, ?_, by have := hb.size; simp at this; omega⟩
  all_goals
    rw [hb.cell (p := ⟨w.heap.size, _, none⟩) (by simp)]
    simp
set_option maxHeartbeats 4000000 in
theorem pi_any (f : Nat) (s : ByteArray) (w : World) (hf : f < 5) (hs : s.size ≤ 1000000) (hB : Bnd w) : Calls Tryd.prog 66 #[.int .i64 (f : Nat), .string s] w fun e w' => e = .returned (.tuple #[vI (itm f s.data.toList).1 (itm f s.data.toList).2.1 (itm f s.data.toList).2.2.1, .bool (itm f s.data.toList).2.2.2]) ∧ Below w.heap.size w w' := by
  have HE : Hid (itm f s.data.toList = if numB s.data.toList = true then (numV s.data.toList, numV s.data.toList, 1, true)
    else if cutB 47 s.data.toList = false then (numV (cutA 45 (cutA 47 s.data.toList)), numV (cutZ 45 (cutA 47 s.data.toList)), 1, numB (cutA 45 (cutA 47 s.data.toList)) && numB (cutZ 45 (cutA 47 s.data.toList)))
    else if cutA 47 s.data.toList = [42] then (loN f, hiN f, numV (cutZ 47 s.data.toList), numB (cutZ 47 s.data.toList))
    else (numV (cutA 45 (cutA 47 s.data.toList)), numV (cutZ 45 (cutA 47 s.data.toList)), numV (cutZ 47 s.data.toList), (numB (cutA 45 (cutA 47 s.data.toList)) && numB (cutZ 45 (cutA 47 s.data.toList))) && numB (cutZ 47 s.data.toList))) := hide rfl
  generalize itm f s.data.toList = r at *
  obtain ⟨ra, rb, rs, ro⟩ := r
  have HN := hide (fun w => pn_any s w hs)
  have HC := hide (fun w => cut_any 47 s w hs)
  have HPu : Hid (∀ (t : ByteArray) w, t.data.toList = cutZ 47 s.data.toList → Calls Tryd.prog 89 #[.string t] w fun e w' => e = .returned (.tuple #[.int .i64 (numV (cutZ 47 s.data.toList) : Nat), .bool (numB (cutZ 47 s.data.toList))]) ∧ Below w.heap.size w w') := hide (fun t w ht => by
    have := pn_any t w (size_of ht (cut_len 47 s.data.toList).2 hs)
    rw [ht] at this
    exact this)
  have HRt : Hid (∀ (t : ByteArray) w, t.data.toList = cutA 47 s.data.toList → Calls Tryd.prog 90 #[.string t] w fun e w' => e = .returned (.tuple #[.int .i64 (numV (cutA 45 (cutA 47 s.data.toList)) : Nat), .int .i64 (numV (cutZ 45 (cutA 47 s.data.toList)) : Nat), .bool (numB (cutA 45 (cutA 47 s.data.toList)) && numB (cutZ 45 (cutA 47 s.data.toList)))]) ∧ Below w.heap.size w w') := hide (fun t w ht => by
    have := pr_any t w (size_of ht (cut_len 47 s.data.toList).1 hs)
    rw [ht] at this
    exact this)
  have HBd := hide hB
  have HW : Hid (∀ o, Below w.heap.size w (w.alloc o)) := hide (fun o => (Below.refl _ _).alloc (Nat.le_refl _) _)
  clear hB hs
  cases hn : numB s.data.toList
  · rw [hn] at HN HE
    rw [if_neg (by simp)] at HE
    have hK := hide (box3 w)
    have hC := HC.out
    unfold CutOut at hC
    have HC2 := hide hC
    clear hC HC hn
    cases hcb : cutB 47 s.data.toList
    · rw [hcb] at HE HC2
      rw [if_pos rfl] at HE
      obtain ⟨rfl, rfl, rfl, rfl⟩ : ra = numV (cutA 45 (cutA 47 s.data.toList)) ∧ rb = numV (cutZ 45 (cutA 47 s.data.toList)) ∧ rs = 1 ∧ ro = (numB (cutA 45 (cutA 47 s.data.toList)) && numB (cutZ 45 (cutA 47 s.data.toList))) := by simpa using HE.out
      clear HE hcb HPu HBd
      generalize cutA 47 s.data.toList = ca at *
      generalize numV (cutA 45 ca) = na at *
      generalize numV (cutZ 45 ca) = nz at *
      generalize (numB (cutA 45 ca) && numB (cutZ 45 ca)) = bb at *
      go_enter Tryd.func66, Tryd.ntmps66
      go_wp2_with fail
      refine (HN.out _).mono ?_
      rintro e w1 ⟨rfl, hb1⟩
      have HB1 := hide hb1
      clear hb1
      go_wp2_with fail
      refine (HC2.out _).mono ?_
      rintro e w2 ⟨⟨t, u, rfl, ht, hu⟩, hb2⟩
      have HB2 := hide (HB1.out.trans (hb2.mono HB1.out.size))
      have HRt' := hide (fun w => HRt.out t w ht)
      clear hb2 ht hu HRt
      go_wp2_with fail
      refine (HRt'.out _).mono ?_
      rintro e w3 ⟨rfl, hb3⟩
      have HB3 := hide (HB2.out.trans (hb3.mono HB2.out.size))
      obtain ⟨e0, e1, e2, zz⟩ := hK.out w3 HB3.out
      have HB4 := hide ((HW.out _).trans (Below.mono HB3.out (HW.out _).size))
      have ff := fun o => HB3.out.frozen (p := ⟨w.heap.size, o, none⟩) (by simp)
      clear hb3
      go_wp2_with fail
      refine bodyPost_ret (v := .tuple #[vI (na) (nz) (1), .bool (bb)]) (by simp [results, Tryd.results66, go_sem, e0, e1, e2]) rfl ⟨rfl, (((HB4.out.setCell (Nat.le_refl _) _).setCell (Nat.le_refl _) _).setCell (Nat.le_refl _) _)⟩
    · rw [hcb] at HE HC2
      rw [if_neg (by simp)] at HE
      by_cases hst : cutA 47 s.data.toList = [42]
      · rw [if_pos hst] at HE
        obtain ⟨rfl, rfl, rfl, rfl⟩ : ra = loN f ∧ rb = hiN f ∧ rs = numV (cutZ 47 s.data.toList) ∧ ro = numB (cutZ 47 s.data.toList) := by simpa using HE.out
        clear HE hcb HRt
        have HST := hide hst
        clear hst
        generalize cutA 47 s.data.toList = ca at *
        generalize numV (cutZ 47 s.data.toList) = nn at *
        generalize numB (cutZ 47 s.data.toList) = bb at *
        go_enter Tryd.func66, Tryd.ntmps66
        go_wp2_with fail
        refine (HN.out _).mono ?_
        rintro e w1 ⟨rfl, hb1⟩
        have HB1 := hide hb1
        clear hb1
        go_wp2_with fail
        refine (HC2.out _).mono ?_
        rintro e w2 ⟨⟨t, u, rfl, ht, hu⟩, hb2⟩
        have HB2 := hide (HB1.out.trans (hb2.mono HB1.out.size))
        have HPu' := hide (fun w => HPu.out u w hu)
        have hts : (t.toList == [42]) = true := by rw [Lib.toList_data, ht, HST.out]; rfl
        clear hb2 ht hu HPu
        go_wp2_with fail
        refine (HPu'.out _).mono ?_
        rintro e w3 ⟨rfl, hb3⟩
        have HB3 := hide (HB2.out.trans (hb3.mono HB2.out.size))
        obtain ⟨e0, e1, e2, zz⟩ := hK.out w3 HB3.out
        have HB4 := hide ((HW.out _).trans (Below.mono HB3.out (HW.out _).size))
        have ff := fun o => HB3.out.frozen (p := ⟨w.heap.size, o, none⟩) (by simp)
        clear hb3
        go_wp2_with fail
        refine wp_region_held_drew (S := fun w' => Below w.heap.size w w') (by kernel_rfl) (HB4.out.drew) (fun hS => ?_)
        refine wpAnyH_take (i := 0) (oi := ⟨some 53, _, _, _, _, _⟩) (v := ?_) rfl (by kernel_rfl) (by kernel_rfl) (by kernel_rfl) (fun _ _ _ h => h) (Or.inl ⟨by rfl, ?_⟩) hS ?_
        rotate_left 1
        · intro w' hw'
          have hfi : (f : Int) < 5 := by omega
          have g1 := (HBd.out.on hw').1 f hf
          have g2 := (HBd.out.on hw').2 f hf
          go_simp
          all_goals with_reducible rfl
        try simp only [Act.put, List.setIfInBounds_toArray, List.set_cons_zero, List.set_cons_succ]
        refine wpAnyH_take (i := 1) (oi := ⟨some 54, _, _, _, _, _⟩) (v := ?_) rfl (by kernel_rfl) (by kernel_rfl) (by kernel_rfl) (fun _ _ _ h => h) (Or.inl ⟨by rfl, ?_⟩) hS ?_
        rotate_left 1
        · intro w' hw'
          have hfi : (f : Int) < 5 := by omega
          have g1 := (HBd.out.on hw').1 f hf
          have g2 := (HBd.out.on hw').2 f hf
          go_simp
          all_goals with_reducible rfl
        try simp only [Act.put, List.setIfInBounds_toArray, List.set_cons_zero, List.set_cons_succ]
        refine wpAnyH_take (i := 2) (oi := ⟨some 55, _, _, _, _, _⟩) (v := ?_) rfl (by kernel_rfl) (by kernel_rfl) (by kernel_rfl) (fun _ _ _ h => h) (Or.inl ⟨by rfl, ?_⟩) hS ?_
        rotate_left 1
        · intro w' hw'
          have hfi : (f : Int) < 5 := by omega
          have g1 := (HBd.out.on hw').1 f hf
          have g2 := (HBd.out.on hw').2 f hf
          go_simp
          all_goals with_reducible rfl
        try simp only [Act.put, List.setIfInBounds_toArray, List.set_cons_zero, List.set_cons_succ]
        refine wpAnyH_take (i := 3) (oi := ⟨some 56, _, _, _, _, _⟩) (v := ?_) rfl (by kernel_rfl) (by kernel_rfl) (by kernel_rfl) (fun _ _ _ h => h) (Or.inl ⟨by rfl, ?_⟩) hS ?_
        rotate_left 1
        · intro w' hw'
          have hfi : (f : Int) < 5 := by omega
          have g1 := (HBd.out.on hw').1 f hf
          have g2 := (HBd.out.on hw').2 f hf
          go_simp
          all_goals with_reducible rfl
        try simp only [Act.put, List.setIfInBounds_toArray, List.set_cons_zero, List.set_cons_succ]
        refine wpAnyH_take (i := 4) (oi := ⟨some 57, _, _, _, _, _⟩) (v := ?_) rfl (by kernel_rfl) (by kernel_rfl) (by kernel_rfl) (fun _ _ _ h => h) (Or.inl ⟨by rfl, ?_⟩) hS ?_
        rotate_left 1
        · intro w' hw'
          have hfi : (f : Int) < 5 := by omega
          have g1 := (HBd.out.on hw').1 f hf
          have g2 := (HBd.out.on hw').2 f hf
          go_simp
          all_goals with_reducible rfl
        try simp only [Act.put, List.setIfInBounds_toArray, List.set_cons_zero, List.set_cons_succ]
        refine wpAnyH_take (i := 5) (oi := ⟨some 58, _, _, _, _, _⟩) (v := ?_) rfl (by kernel_rfl) (by kernel_rfl) (by kernel_rfl) (fun _ _ _ h => h) (Or.inl ⟨by rfl, ?_⟩) hS ?_
        rotate_left 1
        · intro w' hw'
          have hfi : (f : Int) < 5 := by omega
          have g1 := (HBd.out.on hw').1 f hf
          have g2 := (HBd.out.on hw').2 f hf
          go_simp
          all_goals with_reducible rfl
        try simp only [Act.put, List.setIfInBounds_toArray, List.set_cons_zero, List.set_cons_succ]
        refine wpAnyH_take (i := 6) (oi := ⟨some 59, _, _, _, _, _⟩) (v := ?_) rfl (by kernel_rfl) (by kernel_rfl) (by kernel_rfl) (fun _ _ _ h => h) (Or.inl ⟨by rfl, ?_⟩) hS ?_
        rotate_left 1
        · intro w' hw'
          have hfi : (f : Int) < 5 := by omega
          have g1 := (HBd.out.on hw').1 f hf
          have g2 := (HBd.out.on hw').2 f hf
          go_simp
          all_goals with_reducible rfl
        try simp only [Act.put, List.setIfInBounds_toArray, List.set_cons_zero, List.set_cons_succ]
        refine wpAnyH_take (i := 7) (oi := ⟨some 60, _, _, _, _, _⟩) (v := ?_) rfl (by kernel_rfl) (by kernel_rfl) (by kernel_rfl) (fun _ _ _ h => h) (Or.inl ⟨by rfl, ?_⟩) hS ?_
        rotate_left 1
        · intro w' hw'
          have hfi : (f : Int) < 5 := by omega
          have g1 := (HBd.out.on hw').1 f hf
          have g2 := (HBd.out.on hw').2 f hf
          go_simp
          all_goals with_reducible rfl
        try simp only [Act.put, List.setIfInBounds_toArray, List.set_cons_zero, List.set_cons_succ]
        refine wpAnyH_take (i := 8) (oi := ⟨some 61, _, _, _, _, _⟩) (v := ?_) rfl (by kernel_rfl) (by kernel_rfl) (by kernel_rfl) (fun _ _ _ h => h) (Or.inl ⟨by rfl, ?_⟩) hS ?_
        rotate_left 1
        · intro w' hw'
          have hfi : (f : Int) < 5 := by omega
          have g1 := (HBd.out.on hw').1 f hf
          have g2 := (HBd.out.on hw').2 f hf
          go_simp
          all_goals with_reducible rfl
        try simp only [Act.put, List.setIfInBounds_toArray, List.set_cons_zero, List.set_cons_succ]
        refine wpAnyH_ready (rs := [9]) (by kernel_rfl) (by simp) ?_
        refine AllReadyH.cons (o := ⟨none, _, _, _, _, _⟩) rfl (fun K hK => ?_) AllReadyH.nil
        go_simp
        skip
        refine hK.out _ _ (((hS.setCell (Nat.le_refl _) _).setCell (Nat.le_refl _) _).setCell (Nat.le_refl _) _) (fun hS => ?_)
        clear hK K
        try simp only [Act.put, List.setIfInBounds_toArray, List.set_cons_zero, List.set_cons_succ]
        refine wpAnyH_take (i := 10) (oi := ⟨some 5, _, _, _, _, _⟩) (v := ?_) rfl (by kernel_rfl) (by kernel_rfl) (by kernel_rfl) (fun _ _ _ h => h) (Or.inl ⟨by rfl, ?_⟩) hS ?_
        rotate_left 1
        · intro w' hw'
          have hfi : (f : Int) < 5 := by omega
          have g1 := (HBd.out.on hw').1 f hf
          have g2 := (HBd.out.on hw').2 f hf
          go_simp
          all_goals with_reducible rfl
        try simp only [Act.put, List.setIfInBounds_toArray, List.set_cons_zero, List.set_cons_succ]
        refine wpAnyH_done (by kernel_rfl) ?_ _
        go_wp2_with fail
        refine bodyPost_ret (v := .tuple #[vI (loN f) (hiN f) (nn), .bool bb]) (by simp [results, Tryd.results66, go_sem, e0, e1, e2]) rfl ⟨rfl, hS⟩
      · rw [if_neg hst] at HE
        obtain ⟨rfl, rfl, rfl, rfl⟩ : ra = numV (cutA 45 (cutA 47 s.data.toList)) ∧ rb = numV (cutZ 45 (cutA 47 s.data.toList)) ∧ rs = numV (cutZ 47 s.data.toList) ∧ ro = ((numB (cutA 45 (cutA 47 s.data.toList)) && numB (cutZ 45 (cutA 47 s.data.toList))) && numB (cutZ 47 s.data.toList)) := by simpa using HE.out
        clear HE hcb HBd
        have HST := hide hst
        clear hst
        generalize cutA 47 s.data.toList = ca at *
        generalize numV (cutA 45 ca) = na at *
        generalize numV (cutZ 45 ca) = nz at *
        generalize (numB (cutA 45 ca) && numB (cutZ 45 ca)) = bd at *
        generalize numV (cutZ 47 s.data.toList) = nn at *
        generalize numB (cutZ 47 s.data.toList) = bb at *
        go_enter Tryd.func66, Tryd.ntmps66
        go_wp2_with fail
        refine (HN.out _).mono ?_
        rintro e w1 ⟨rfl, hb1⟩
        have HB1 := hide hb1
        clear hb1
        go_wp2_with fail
        refine (HC2.out _).mono ?_
        rintro e w2 ⟨⟨t, u, rfl, ht, hu⟩, hb2⟩
        have HB2 := hide (HB1.out.trans (hb2.mono HB1.out.size))
        have HRt' := hide (fun w => HRt.out t w ht)
        have HPu' := hide (fun w => HPu.out u w hu)
        have hts : (t.toList == [42]) = false := by rw [Lib.toList_data, ht]; simp; exact HST.out
        clear hb2 ht hu HPu HRt
        cases bd
        all_goals
          go_wp2_with fail
          refine (HPu'.out _).mono ?_
          rintro e w3 ⟨rfl, hb3⟩
          have HB3 := hide (HB2.out.trans (hb3.mono HB2.out.size))
          clear hb3
          go_wp2_with fail
          refine (HRt'.out _).mono ?_
          rintro e w4 ⟨rfl, hb4⟩
          have HB5 := hide (HB3.out.trans (hb4.mono HB3.out.size))
          obtain ⟨e0, e1, e2, zz⟩ := hK.out w4 HB5.out
          have HB4 := hide ((HW.out _).trans (Below.mono HB5.out (HW.out _).size))
          have ff := fun o => HB5.out.frozen (p := ⟨w.heap.size, o, none⟩) (by simp)
          clear hb4
          go_wp2_with fail
        · refine bodyPost_ret (v := .tuple #[vI (na) (nz) (nn), .bool (false && bb)]) (by simp [results, Tryd.results66, go_sem, e0, e1, e2]) rfl ⟨by simp, (((HB4.out.setCell (Nat.le_refl _) _).setCell (Nat.le_refl _) _).setCell (Nat.le_refl _) _)⟩
        · refine bodyPost_ret (v := .tuple #[vI (na) (nz) (nn), .bool (true && bb)]) (by simp [results, Tryd.results66, go_sem, e0, e1, e2]) rfl ⟨by simp, (((HB4.out.setCell (Nat.le_refl _) _).setCell (Nat.le_refl _) _).setCell (Nat.le_refl _) _)⟩
  · rw [hn] at HN HE
    rw [if_pos rfl] at HE
    obtain ⟨rfl, rfl, rfl, rfl⟩ : ra = numV s.data.toList ∧ rb = numV s.data.toList ∧ rs = 1 ∧ ro = true := by simpa using HE.out
    clear HC HPu HRt HE hn
    have hK := hide (box3 w)
    go_enter Tryd.func66, Tryd.ntmps66
    go_wp2_with fail
    refine (HN.out _).mono ?_
    rintro e w1 ⟨rfl, hb1⟩
    have HB1 := hide ((HW.out _).trans (Below.mono hb1 (HW.out _).size))
    obtain ⟨e0, e1, e2, zz⟩ := hK.out w1 hb1
    have ff := fun o => hb1.frozen (p := ⟨w.heap.size, o, none⟩) (by simp)
    clear hb1
    go_wp2_with fail
    refine bodyPost_ret (v := .tuple #[vI (numV s.data.toList) (numV s.data.toList) (1), .bool (true)]) (by simp [results, Tryd.results66, go_sem, e0, e1, e2]) rfl ⟨rfl, (((HB1.out.setCell (Nat.le_refl _) _).setCell (Nat.le_refl _) _).setCell (Nat.le_refl _) _)⟩
end Go.Proofs.YtggaflihblhapaaDoor
