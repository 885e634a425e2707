/-
  The law's one: a text is read as one definition, and without its last byte as none.
  Whether a text is a valid name: the program's way and the document's.
  The law's word, words and join.
-/
import Derived.Test.YtljoajjlkjjgeaaGreatDoorMEq2
import Derived.OrdersHeld
import Derived.Deep.RegionHeld3
import Derived.Test.YtljoajjlkjjgeaaGreatDoorME1
namespace Go.Proofs.YtljoajjlkjjgeaaGreatDoor
open Go.RowKit Go.Sort LM Go

section
variable {o : Oper} {a : Act} {w : World}
theorem run_loadAt_op (t : TypeId) (x : Operand) (ho : o.op = .load t x) (b off n : Nat) (vs : List Value) (hB : Big t n) (hn : vs.length = n) (hx : a.eval x = .pointer (some ⟨b, off, none⟩)) (hp : ∀ i, i < n → w.cell? ⟨b, off + i, none⟩ = some (vs.getD i v0)) : (execOp a.eval o).run Tryz.prog w = .ok (.value (.agg vs.toArray)) w := by
  unfold execOp
  simp only [ho, hx, Instr.loadAt, Instr.sureAddr, Sem.run_bind, Sem.run_pure, Result.andThen_ok, run_loadBigAt hB hn hp]
end
/-- What a text must be read as. -/
structure ReadsAs (F : Nat) (s : ByteArray) (d : List Df) : Prop where
  lex : (lexA s.data.toList).2 = (s.size, 0)
  ok : (endS (parR F (lexA s.data.toList)).2).b = none
  is : (parR F (lexA s.data.toList)).1 = d
structure EndsShort (F : Nat) (s : ByteArray) : Prop where
  lex : (lexA s.data.toList).2 = (s.size, 0)
  bad : (endS (parR F (lexA s.data.toList)).2).b = some (51, 0)
theorem parse_reads {F : Nat} (hF : F ≤ 19000) (h16 : 16384 ≤ F) (s : ByteArray) (w : World) (hL : Lw w) (hs : s.size ≤ 140737488355328) {d : List Df} (h : ReadsAs F s d) :
    Calls Tryz.prog 24 #[.string s] w (fun e w1 => Below w.heap.size w w1 ∧ ∃ v, e = .returned (.tuple #[v, .int .i64 (s.size : Nat), .int .i64 0]) ∧ Rep (New w.heap.size) w1 (.row 25 (d.map Df.enc)) v) := by
  refine (parseP_any hF h16 s w hL hs).mono ?_
  obtain ⟨h1, h2, h3⟩ := h
  rintro e w1 ⟨hb, ⟨k, -⟩ | ⟨k, -, v, rfl, hv⟩ | ⟨k, c, m, k2, -⟩⟩
  · rw [h1] at k; exact absurd rfl k
  · rw [h1, h3] at *
    exact ⟨hb, v, rfl, hv⟩
  · rw [h2] at k2; cases k2
theorem parse_short {F : Nat} (hF : F ≤ 19000) (h16 : 16384 ≤ F) (s : ByteArray) (w : World) (hL : Lw w) (hs : s.size ≤ 140737488355328) (h : EndsShort F s) :
    Calls Tryz.prog 24 #[.string s] w (fun e w1 => Below w.heap.size w w1 ∧ e = .returned (.tuple #[.slice none 0 0, .int .i64 (s.size : Nat), .int .i64 51])) := by
  refine (parseP_any hF h16 s w hL hs).mono ?_
  obtain ⟨h1, h2⟩ := h
  rintro e w1 ⟨hb, ⟨k, -⟩ | ⟨k, k2, -⟩ | ⟨k, c, m, k2, rfl⟩⟩
  · rw [h1] at k; exact absurd rfl k
  · rw [h2] at k2; cases k2
  · rw [h2] at k2
    injection k2 with k2
    injection k2 with e1 e2
    subst e1 e2
    refine ⟨hb, ?_⟩
    rw [h1]
    rfl
set_option maxHeartbeats 8000000 in
set_option maxRecDepth 100000 in
theorem one_any {F n : Nat} {P : Nat → Prop} (hF : F ≤ 19000) (h16 : 16384 ≤ F) (s s' : ByteArray) (d : Df) (wv : List Value) (w : World) (hL : Lw w) (hs : s.size ≤ 1000000) (hs1 : 1 ≤ s.size) (he : s' = s.extract 0 (s.size - 1))
    (hw : RepC P w d.enc wv) (ok : DfOk n d) (h1 : ReadsAs F s [d]) (h2 : EndsShort F s') :
    Calls Tryz.prog 13 #[.string s, .agg wv.toArray] w fun e w' => e = .returned (.bool true) ∧ Below w.heap.size w w' := by
  have hwl : wv.length = 25 := hw.1.trans (def_len d)
  have hsz' : s'.size = s.size - 1 := by rw [he]; simp
  obtain ⟨W0, e0⟩ : ∃ W0, W0 = w.alloc (.cells wv.toArray 43) := ⟨_, rfl⟩
  have hb0 : Below w.heap.size w W0 := by rw [e0]; exact Joins.below_alloc1 w _
  have hX0 : HoldB w.heap.size 43 wv W0 := by rw [e0]; exact heap_alloc_new _ _
  have hz0 : w.heap.size < W0.heap.size := by rw [e0]; simp
  have HP1 := hide (parse_reads hF h16 s W0 (hL.on hb0) (by omega) h1)
  have HP2 := hide (fun w1 (hb : Below w.heap.size w w1) => parse_short hF h16 s' w1 (hL.on hb) (by omega) h2)
  have HW0 := hide e0
  have HWv := hide (fun w' (hb : Below w.heap.size w w') => hw.stay (Stay.below hb))
  have HEq := hide (fun P P' (vs vs' : List Value) (w : World) h h' => eqDef_same (n := n) (P := P) (P' := P') d vs vs' w ok h h')
  have HE := hide he
  have hdl := def_len d
  clear e0 hw ok h1 h2 hL he
  go_enter Tryz.func13, Tryz.ntmps13
  go_wp2_with (rw [← HW0.out])
  refine HP1.out.mono ?_
  rintro e w1 ⟨hb1, v, rfl, hv⟩
  obtain ⟨A, c, rfl, hel⟩ := hv.elems (fun e he => by rw [List.map_singleton, List.mem_singleton] at he; rw [he]; exact hdl)
  obtain ⟨b, off, ds, rfl, hbl, hdl2, hcc, hrd⟩ := hel w1 (Below.refl _ _) 0 (by simp)
  have HC := hide (fun w' (hb : Below w1.heap.size w1 w') => (fun i hi => (hb.cell (p := ⟨b, off + i, none⟩) hbl).trans (by simpa using hcc i hi) : ∀ i, i < 25 → w'.cell? ⟨b, off + i, none⟩ = some (ds.getD i v0)))
  have hb01 := hb0.trans (hb1.mono hb0.size)
  have hX1 : HoldB w.heap.size 43 wv w1 := (hb1.block _ hz0).trans hX0
  have HR := hide hrd
  have HB1 := hide hb01
  have hbq := hbl
  simp only [List.map_singleton, List.length_singleton]
  have HCall := hide (fun w' (hS : Below w1.heap.size w1 w') => HEq.out (New W0.heap.size) P ds wv w' (HR.out.stay (Stay.below hS)) (HWv.out w' (hb01.trans (hS.mono hb01.size))))
  clear hel hv hb1 hb0 hX0 hcc hrd hb01 HEq HWv HP1
  go_wp2_with fail
  refine wp_region_held_drew (S := fun w' => Below w1.heap.size w1 w' ∧ HoldB w.heap.size 43 wv w') (by kernel_rfl) ⟨(Below.refl _ _).drew, hX1⟩ (fun hS => ?_)
  refine wpAnyH_take (i := 0) (oi := ⟨some 14, _, _, _, _, _⟩) (v := ?_) rfl (by kernel_rfl) (by kernel_rfl) (by kernel_rfl) (fun _ _ _ h => h) (Or.inl ⟨by rfl, ?_⟩) hS ?_
  rotate_left 1
  · intro w' hw'
    go_simp
    all_goals with_reducible rfl
  try simp only [Act.put, List.setIfInBounds_toArray, List.set_cons_zero, List.set_cons_succ]
  refine wpAnyH_take (i := 1) (oi := ⟨some 15, _, _, _, _, _⟩) (v := ?_) rfl (by kernel_rfl) (by kernel_rfl) (by kernel_rfl) (fun _ _ _ h => h) (Or.inl ⟨by rfl, ?_⟩) hS ?_
  rotate_left 1
  · intro w' hw'
    go_simp
    all_goals with_reducible rfl
  try simp only [Act.put, List.setIfInBounds_toArray, List.set_cons_zero, List.set_cons_succ]
  refine wpAnyH_take (i := 2) (oi := ⟨some 16, _, _, _, _, _⟩) (v := ?_) rfl (by kernel_rfl) (by kernel_rfl) (by kernel_rfl) (fun _ _ _ h => h) (Or.inl ⟨by rfl, ?_⟩) hS ?_
  rotate_left 1
  · intro w' hw'
    go_simp
    all_goals with_reducible rfl
  try simp only [Act.put, List.setIfInBounds_toArray, List.set_cons_zero, List.set_cons_succ]
  refine wpAnyH_take (i := 3) (oi := ⟨some 17, _, _, _, _, _⟩) (v := ?_) rfl (by kernel_rfl) (by kernel_rfl) (by kernel_rfl) (fun _ _ _ h => h) (Or.inl ⟨by rfl, ?_⟩) hS ?_
  rotate_left 1
  · intro w' hw'
    go_simp
    all_goals with_reducible rfl
  try simp only [Act.put, List.setIfInBounds_toArray, List.set_cons_zero, List.set_cons_succ]
  refine wpAnyH_take (i := 4) (oi := ⟨some 18, _, _, _, _, _⟩) (v := ?_) rfl (by kernel_rfl) (by kernel_rfl) (by kernel_rfl) (fun _ _ _ h => h) (Or.inl ⟨by rfl, ?_⟩) hS ?_
  rotate_left 1
  · intro w' hw'
    go_simp
    all_goals with_reducible rfl
  try simp only [Act.put, List.setIfInBounds_toArray, List.set_cons_zero, List.set_cons_succ]
  refine wpAnyH_take (i := 5) (oi := ⟨some 19, _, _, _, _, _⟩) (v := ?_) rfl (by kernel_rfl) (by kernel_rfl) (by kernel_rfl) (fun _ _ _ h => h) (Or.inl ⟨by rfl, ?_⟩) hS ?_
  rotate_left 1
  · intro w' hw'
    go_simp
    all_goals with_reducible rfl
  try simp only [Act.put, List.setIfInBounds_toArray, List.set_cons_zero, List.set_cons_succ]
  refine wpAnyH_take (i := 6) (oi := ⟨some 20, _, _, _, _, _⟩) (v := ?_) rfl (by kernel_rfl) (by kernel_rfl) (by kernel_rfl) (fun _ _ _ h => h) (Or.inl ⟨by rfl, ?_⟩) hS ?_
  rotate_left 1
  · intro w' hw'
    go_simp
    all_goals with_reducible rfl
  try simp only [Act.put, List.setIfInBounds_toArray, List.set_cons_zero, List.set_cons_succ]
  refine wpAnyH_take (i := 7) (oi := ⟨some 21, _, _, _, _, _⟩) (v := ?_) rfl (by kernel_rfl) (by kernel_rfl) (by kernel_rfl) (fun _ _ _ h => h) (Or.inl ⟨by rfl, ?_⟩) hS ?_
  rotate_left 1
  · intro w' hw'
    go_simp
    all_goals with_reducible rfl
  try simp only [Act.put, List.setIfInBounds_toArray, List.set_cons_zero, List.set_cons_succ]
  refine wpAnyH_take (i := 8) (oi := ⟨some 22, _, _, _, _, _⟩) (v := ?_) rfl (by kernel_rfl) (by kernel_rfl) (by kernel_rfl) (fun _ _ _ h => h) (Or.inl ⟨by rfl, ?_⟩) hS ?_
  rotate_left 1
  · intro w' hw'
    go_simp
    all_goals with_reducible rfl
  try simp only [Act.put, List.setIfInBounds_toArray, List.set_cons_zero, List.set_cons_succ]
  refine wpAnyH_take (i := 9) (oi := ⟨some 23, _, _, _, _, _⟩) (v := ?_) rfl (by kernel_rfl) (by kernel_rfl) (by kernel_rfl) (fun _ _ _ h => h) (Or.inl ⟨by rfl, ?_⟩) hS ?_
  rotate_left 1
  · intro w' hw'
    go_simp
    all_goals with_reducible rfl
  try simp only [Act.put, List.setIfInBounds_toArray, List.set_cons_zero, List.set_cons_succ]
  refine wpAnyH_take (i := 10) (oi := ⟨some 24, _, _, _, _, _⟩) (v := ?_) rfl (by kernel_rfl) (by kernel_rfl) (by kernel_rfl) (fun _ _ _ h => h) (Or.inl ⟨by rfl, ?_⟩) hS ?_
  rotate_left 1
  · intro w' hw'
    go_simp
    all_goals with_reducible rfl
  try simp only [Act.put, List.setIfInBounds_toArray, List.set_cons_zero, List.set_cons_succ]
  refine wpAnyH_take (i := 11) (oi := ⟨some 25, _, _, _, _, _⟩) (v := ?_) rfl (by kernel_rfl) (by kernel_rfl) (by kernel_rfl) (fun _ _ _ h => h) (Or.inl ⟨by rfl, ?_⟩) hS ?_
  rotate_left 1
  · intro w' hw'
    go_simp
    all_goals with_reducible rfl
  try simp only [Act.put, List.setIfInBounds_toArray, List.set_cons_zero, List.set_cons_succ]
  refine wpAnyH_take (i := 12) (oi := ⟨some 26, _, _, _, _, _⟩) (v := ?_) rfl (by kernel_rfl) (by kernel_rfl) (by kernel_rfl) (fun _ _ _ h => h) (Or.inl ⟨by rfl, ?_⟩) hS ?_
  rotate_left 1
  · intro w' hw'
    go_simp
    all_goals with_reducible rfl
  try simp only [Act.put, List.setIfInBounds_toArray, List.set_cons_zero, List.set_cons_succ]
  refine wpAnyH_take (i := 13) (oi := ⟨some 27, _, _, _, _, _⟩) (v := ?_) rfl (by kernel_rfl) (by kernel_rfl) (by kernel_rfl) (fun _ _ _ h => h) (Or.inl ⟨by rfl, ?_⟩) hS ?_
  rotate_left 1
  · intro w' hw'
    go_simp
    all_goals with_reducible rfl
  try simp only [Act.put, List.setIfInBounds_toArray, List.set_cons_zero, List.set_cons_succ]
  refine wpAnyH_take (i := 14) (oi := ⟨some 28, _, _, _, _, _⟩) (v := ?_) rfl (by kernel_rfl) (by kernel_rfl) (by kernel_rfl) (fun _ _ _ h => h) (Or.inl ⟨by rfl, ?_⟩) hS ?_
  rotate_left 1
  · intro w' hw'
    go_simp
    all_goals with_reducible rfl
  try simp only [Act.put, List.setIfInBounds_toArray, List.set_cons_zero, List.set_cons_succ]
  refine wpAnyH_take (i := 15) (oi := ⟨some 29, _, _, _, _, _⟩) (v := ?_) rfl (by kernel_rfl) (by kernel_rfl) (by kernel_rfl) (fun _ _ _ h => h) (Or.inl ⟨by rfl, ?_⟩) hS ?_
  rotate_left 1
  · intro w' hw'
    go_simp
    all_goals with_reducible rfl
  try simp only [Act.put, List.setIfInBounds_toArray, List.set_cons_zero, List.set_cons_succ]
  refine wpAnyH_take (i := 16) (oi := ⟨some 30, _, _, _, _, _⟩) (v := ?_) rfl (by kernel_rfl) (by kernel_rfl) (by kernel_rfl) (fun _ _ _ h => h) (Or.inl ⟨by rfl, ?_⟩) hS ?_
  rotate_left 1
  · intro w' hw'
    refine run_loadAt_op 43 (.tmp 29) ?_ b off 25 ds big_def hdl2 ?_ (HC.out w' hw'.1) <;> rfl
  try simp only [Act.put, List.setIfInBounds_toArray, List.set_cons_zero, List.set_cons_succ]
  refine wpAnyH_take (i := 17) (oi := ⟨some 31, _, _, _, _, _⟩) (v := ?_) rfl (by kernel_rfl) (by kernel_rfl) (by kernel_rfl) (fun _ _ _ h => h) (Or.inl ⟨by rfl, ?_⟩) hS ?_
  rotate_left 1
  · intro w' hw'
    refine run_load_op 43 (.tmp 3) ?_ w.heap.size 25 wv big_def hwl ?_ hw'.2 <;> rfl
  try simp only [Act.put, List.setIfInBounds_toArray, List.set_cons_zero, List.set_cons_succ]
  refine wpAnyH_ready (rs := [18]) (by kernel_rfl) (by simp) ?_
  refine AllReadyH.cons (o := ⟨some 32, _, _, _, _, _⟩) rfl (fun K hK => ?_) AllReadyH.nil
  go_simp
  go_at_call 26
  refine (HCall.out _ hS.1).mono ?_
  rintro e w2 ⟨rfl, hb2⟩
  have hS2 : Below w1.heap.size w1 w2 ∧ HoldB w.heap.size 43 wv w2 := ⟨hS.1.trans (hb2.mono hS.1.size), (hb2.block _ (holds_size hS.2)).trans hS.2⟩
  refine hK.out _ _ hS2 (fun hS => ?_)
  clear hK K hb2
  try simp only [Act.put, List.setIfInBounds_toArray, List.set_cons_zero, List.set_cons_succ]
  refine wpAnyH_take (i := 19) (oi := ⟨some 33, _, _, _, _, _⟩) (v := ?_) rfl (by kernel_rfl) (by kernel_rfl) (by kernel_rfl) (fun _ _ _ h => h) (Or.inl ⟨by rfl, ?_⟩) hS ?_
  rotate_left 1
  · intro w' hw'
    go_simp
    all_goals with_reducible rfl
  try simp only [Act.put, List.setIfInBounds_toArray, List.set_cons_zero, List.set_cons_succ]
  refine wpAnyH_take (i := 20) (oi := ⟨some 34, _, _, _, _, _⟩) (v := ?_) rfl (by kernel_rfl) (by kernel_rfl) (by kernel_rfl) (fun _ _ _ h => h) (Or.inl ⟨by rfl, ?_⟩) hS ?_
  rotate_left 1
  · intro w' hw'
    go_simp
    all_goals with_reducible rfl
  try simp only [Act.put, List.setIfInBounds_toArray, List.set_cons_zero, List.set_cons_succ]
  refine wpAnyH_done (by kernel_rfl) ?_ _
  go_wp2_with fail
  rw [← HE.out]
  have hB2 := HB1.out.trans (hS.1.mono HB1.out.size)
  refine (HP2.out w2 hB2).mono ?_
  rintro e w3 ⟨hb3, rfl⟩
  have HB3 := hide (hB2.trans (hb3.mono hB2.size))
  have hat : ((s'.size : Nat) : Int) = (s.size : Int) - 1 := by omega
  clear hb3 hB2 HP2 hS
  rw [hat]
  go_wp2_with fail
  go_ret
  exact ⟨rfl, HB3.out⟩
end Go.Proofs.YtljoajjlkjjgeaaGreatDoor
namespace Go.Proofs.YtljoajjlkjjgeaaGreatDoor
open Go.RowKit

def lowB (c : Int) : Bool := decide (97 ≤ c) && decide (c ≤ 122)
def digB (c : Int) : Bool := decide (48 ≤ c) && decide (c ≤ 57)
def okAt (j : Nat) (c : UInt8) : Bool := lowB (c.toNat : Int) || (decide (j ≠ 0) && ((c.toNat : Int) == 95 || digB (c.toNat : Int)))
def preN (s : ByteArray) (k : Nat) : Prop := ∀ j, j < k → okAt j (s.data.toList.getD j 0) = true
instance preN.dec (s : ByteArray) (k : Nat) : Decidable (preN s k) := by unfold preN; infer_instance
def nameB (s : ByteArray) : Bool := decide (1 ≤ s.size ∧ s.size ≤ 16) && decide (preN s s.size)

theorem preN_zero (s : ByteArray) : preN s 0 := fun j h => by omega
theorem preN_succ {s : ByteArray} {k : Nat} (h : preN s k) (hk : k < s.size) (hc : okAt k s[k] = true) : preN s (k + 1) := fun j hj => by
  by_cases e : j = k
  · subst e; rw [getD_at s j hk]; exact hc
  · exact h j (by omega)
theorem nameB_not {s : ByteArray} {k : Nat} (hk : k < s.size) (hc : okAt k s[k] = false) : nameB s = false := by
  have : ¬ preN s s.size := fun h => by have h1 := h k hk; rw [getD_at s k hk, hc] at h1; cases h1
  unfold nameB; simp [this]
theorem nameB_size {s : ByteArray} (h : nameB s = true) : 1 ≤ s.size ∧ s.size ≤ 16 := by
  unfold nameB at h; simp at h; exact h.1

theorem sletter_any (c : Int) (w : World) : Calls Tryz.prog 49 #[.int .u8 c] w fun e w' => e = .returned (.bool (lowB c)) ∧ w = w' := by
  go_enter Tryz.func49, Tryz.ntmps49
  go_wp2
  all_goals go_ret
  all_goals exact ⟨ret_bool (by unfold lowB; simp; omega), rfl⟩
theorem sdigit_any (c : Int) (w : World) : Calls Tryz.prog 50 #[.int .u8 c] w fun e w' => e = .returned (.bool (digB c)) ∧ w = w' := by
  go_enter Tryz.func50, Tryz.ntmps50
  go_wp2
  all_goals go_ret
  all_goals exact ⟨ret_bool (by unfold digB; simp; omega), rfl⟩

theorem nameB_len {s : ByteArray} (h : ¬ (1 ≤ s.size ∧ s.size ≤ 16)) : nameB s = false := by unfold nameB; simp only [h, decide_false, Bool.false_and]
theorem nameB_all {s : ByteArray} (h1 : 1 ≤ s.size) (h2 : s.size ≤ 16) (h : preN s s.size) : nameB s = true := by unfold nameB; simp [h, h1, h2]
theorem okAt_first {s : ByteArray} {k : Nat} (hz : 0 < s.size) (h0 : lowB (s[0].toNat : Int) = true) (hk : k < s.size)
    (h : lowB (s[k].toNat : Int) = true ∨ digB (s[k].toNat : Int) = true ∨ ((s[k].toNat : Int) != 95) = false) : okAt k s[k] = true := by
  by_cases e : k = 0
  · subst e; unfold okAt; rw [h0]; rfl
  · unfold okAt
    rcases h with h | h | h
    · rw [h]; rfl
    · rw [h]; simp [e]
    · have h' : ((s[k].toNat : Int) == 95) = true := by simpa [bne] using h
      rw [h']; simp [e]
theorem okAt_no {k : Nat} {c : UInt8} (h1 : ¬ lowB (c.toNat : Int) = true) (h2 : ¬ digB (c.toNat : Int) = true) (h3 : ((c.toNat : Int) != 95) = true) : okAt k c = false := by
  unfold okAt
  have h' : ((c.toNat : Int) == 95) = false := by simpa [bne] using h3
  rw [h', Bool.not_eq_true _ |>.mp h1, Bool.not_eq_true _ |>.mp h2]; simp

set_option maxHeartbeats 800000 in
theorem sname_any (s : ByteArray) (w : World) (hs : s.size ≤ maxLen) :
    Calls Tryz.prog 27 #[.string s] w fun e w' => e = .returned (.bool (nameB s)) ∧ w = w' := by
  unfold maxLen at hs
  by_cases h0 : s.size = 0
  · have HR := hide (nameB_len (s := s) (by omega))
    have he : s.toList = [] := by rw [Lib.toList_data]; exact List.eq_nil_of_length_eq_zero (by simpa using h0)
    have he2 : s.toList.isEmpty = true := by rw [he]; rfl
    clear h0
    go_enter Tryz.func27, Tryz.ntmps27
    go_wp2
    go_ret
    exact ⟨ret_bool HR.out.symm, rfl⟩
  have he : s.toList.isEmpty = false := by
    rw [Lib.toList_data, Bool.eq_false_iff]; intro h; rw [List.isEmpty_iff] at h
    have : s.data.toList.length = s.size := by simp
    rw [h] at this; simp at this; omega
  have hz : 0 < s.size := by omega
  by_cases h16 : 16 < s.size
  · have HR := hide (nameB_len (s := s) (by omega))
    go_enter Tryz.func27, Tryz.ntmps27
    go_wp2
    go_ret
    exact ⟨ret_bool HR.out.symm, rfl⟩
  have hl : s.size ≤ 16 := by omega
  have hl' : ¬ (16 : Int) < (s.size : Int) := by omega
  cases hb : lowB (s[0].toNat : Int)
  · have HR := hide (nameB_not (s := s) (k := 0) hz (by unfold okAt; rw [hb]; rfl))
    have HB := hide hb
    clear hb
    go_enter Tryz.func27, Tryz.ntmps27
    go_wp2_with (go_at_call 49; refine (sletter_any _ _).mono ?_; rintro e w' ⟨rfl, rfl⟩; rw [HB.out])
    go_ret
    exact ⟨ret_bool HR.out.symm, rfl⟩
  · have HB := hide hb
    clear hb
    go_enter Tryz.func27, Tryz.ntmps27
    go_wp2_with (go_at_call 49; refine (sletter_any _ _).mono ?_; rintro e w' ⟨rfl, rfl⟩; rw [HB.out])
    go_loop [19] (fun i => ∃ k : Nat, k ≤ s.size ∧ i = .int .i64 k ∧ preN s k) (fun i => s.size - (intOf i).toNat)
    case atStart => exact ⟨0, Nat.zero_le _, rfl, preN_zero s⟩
    case round =>
      obtain ⟨k, hk, rfl, hp⟩ := hrel
      have HP := hide hp; clear hp
      by_cases hlt : k < s.size
      · go_wp2_with (first | (go_at_call 49; refine (sletter_any _ _).mono ?_; rintro e w' ⟨rfl, rfl⟩) | (go_at_call 50; refine (sdigit_any _ _).mono ?_; rintro e w' ⟨rfl, rfl⟩))
        all_goals first
          | (go_round
             case rel => exact ⟨k + 1, by omega, by go_num, preN_succ HP.out hlt (okAt_first hz HB.out hlt (by first | exact .inl ‹_› | exact .inr (.inl ‹_›) | exact .inr (.inr ‹_›)))⟩
             case measure => simp [intOf]; omega)
          | (go_ret; exact ⟨ret_bool (nameB_not hlt (okAt_no ‹_› ‹_› ‹_›)).symm, rfl⟩)
      · go_wp2
        go_ret
        exact ⟨ret_bool (nameB_all hz hl (by have := HP.out; rw [show k = s.size by omega] at this; exact this)).symm, rfl⟩

end Go.Proofs.YtljoajjlkjjgeaaGreatDoor
namespace Go.Proofs.YtljoajjlkjjgeaaGreatDoor
open Go.RowKit Go.Sort LM Go

/-- May the text stand as a name anywhere? -/
def wordB (s : ByteArray) : Bool := nameB s && decide (¬ s.toList = [97, 110, 100] ∧ ¬ s.toList = [111, 114] ∧ ¬ s.toList = [110, 111, 116] ∧ ¬ s.toList = [110, 117, 108, 108])
theorem wordB_name {s : ByteArray} (h : nameB s = false) : wordB s = false := by unfold wordB; rw [h]; rfl
theorem wordB_1 {s : ByteArray} (h : s.toList = [97, 110, 100]) : wordB s = false := by unfold wordB; simp [h]
theorem wordB_2 {s : ByteArray} (h : s.toList = [111, 114]) : wordB s = false := by unfold wordB; simp [h]
theorem wordB_3 {s : ByteArray} (h : s.toList = [110, 111, 116]) : wordB s = false := by unfold wordB; simp [h]
theorem wordB_4 {s : ByteArray} (h : s.toList = [110, 117, 108, 108]) : wordB s = false := by unfold wordB; simp [h]
theorem wordB_yes {s : ByteArray} (h : nameB s = true) (h1 : ¬ s.toList = [97, 110, 100]) (h2 : ¬ s.toList = [111, 114]) (h3 : ¬ s.toList = [110, 111, 116]) (h4 : ¬ s.toList = [110, 117, 108, 108]) : wordB s = true := by unfold wordB; simp [h, h1, h2, h3, h4]
set_option maxHeartbeats 4000000 in
set_option maxRecDepth 100000 in
theorem lword_any (s : ByteArray) (w : World) (hs : s.size ≤ maxLen) :
    Calls Tryz.prog 8 #[.string s] w fun e w' => e = .returned (.bool (wordB s)) ∧ Below w.heap.size w w' := by
  have HN := hide (sname_any s w hs)
  obtain ⟨R, HW⟩ : ∃ R, Hid (wordB s = R) := ⟨_, hide rfl⟩
  have H0 := hide (wordB_name (s := s))
  have H1 := hide (wordB_1 (s := s))
  have H2 := hide (wordB_2 (s := s))
  have H3 := hide (wordB_3 (s := s))
  have H4 := hide (wordB_4 (s := s))
  have H5 := hide (wordB_yes (s := s))
  rw [HW.out] at *
  clear HW
  cases hn : nameB s with
  | false =>
    have HR := hide (H0.out hn)
    rw [hn] at HN
    clear H0 H1 H2 H3 H4 H5 hn
    go_enter Tryz.func8, Tryz.ntmps8
    go_wp2_with fail
    refine HN.out.mono ?_
    rintro e w1 ⟨rfl, rfl⟩
    go_wp2_with fail
    go_ret
    exact ⟨ret_bool HR.out.symm, Below.refl _ _⟩
  | true =>
    have HY := hide (H5.out hn)
    rw [hn] at HN
    clear H0 H5 hn
    by_cases h1 : s.toList = [97, 110, 100]
    · have HR := hide (H1.out h1)
      clear H1 H2 H3 H4 HY
      go_enter Tryz.func8, Tryz.ntmps8
      go_wp2_with fail
      refine HN.out.mono ?_
      rintro e w1 ⟨rfl, rfl⟩
      go_wp2_with fail
      go_ret
      exact ⟨ret_bool HR.out.symm, Below.refl _ _⟩
    by_cases h2 : s.toList = [111, 114]
    · have HR := hide (H2.out h2)
      clear H1 H2 H3 H4 HY
      go_enter Tryz.func8, Tryz.ntmps8
      go_wp2_with fail
      refine HN.out.mono ?_
      rintro e w1 ⟨rfl, rfl⟩
      go_wp2_with fail
      go_ret
      exact ⟨ret_bool HR.out.symm, Below.refl _ _⟩
    by_cases h3 : s.toList = [110, 111, 116]
    · have HR := hide (H3.out h3)
      clear H1 H2 H3 H4 HY
      go_enter Tryz.func8, Tryz.ntmps8
      go_wp2_with fail
      refine HN.out.mono ?_
      rintro e w1 ⟨rfl, rfl⟩
      go_wp2_with fail
      go_ret
      exact ⟨ret_bool HR.out.symm, Below.refl _ _⟩
    by_cases h4 : s.toList = [110, 117, 108, 108]
    · have HR := hide (H4.out h4)
      clear H1 H2 H3 H4 HY
      go_enter Tryz.func8, Tryz.ntmps8
      go_wp2_with fail
      refine HN.out.mono ?_
      rintro e w1 ⟨rfl, rfl⟩
      go_wp2_with fail
      go_ret
      exact ⟨ret_bool HR.out.symm, Below.refl _ _⟩
    · have HR := hide (HY.out h1 h2 h3 h4)
      clear H1 H2 H3 H4 HY
      go_enter Tryz.func8, Tryz.ntmps8
      go_wp2_with fail
      refine HN.out.mono ?_
      rintro e w1 ⟨rfl, rfl⟩
      go_wp2_with fail
      go_ret
      exact ⟨ret_bool (by rw [HR.out]; simp [h1, h2, h3, h4]), Below.refl _ _⟩
/-- A row of texts. -/
def StrL (w : World) (l : List ByteArray) (v : Value) : Prop := ∃ A c, v = .slice A l.length c ∧ ∀ wr, Below w.heap.size w wr → ∀ j (h : j < l.length), ∃ b off, A = some ⟨b, off, none⟩ ∧ b < w.heap.size ∧ wr.cell? ⟨b, off + j, none⟩ = some (.string l[j])
def wordsB (l : List ByteArray) : Bool := l.all wordB && decide (0 < l.length ∧ l.length ≤ 20)
theorem wordsB_no {l : List ByteArray} {j : Nat} (h : j < l.length) (k : wordB l[j] = false) : wordsB l = false := by
  have : l.all wordB = false := by
    rw [List.all_eq_false]
    exact ⟨l[j], List.getElem_mem h, by rw [k]; simp⟩
  unfold wordsB
  rw [this]; rfl
theorem wordsB_end {l : List ByteArray} (h : ∀ k, ∀ hk : k < l.length, wordB l[k] = true) : wordsB l = decide (0 < l.length ∧ l.length ≤ 20) := by
  have : l.all wordB = true := by
    rw [List.all_eq_true]
    intro x hx
    obtain ⟨k, hk, rfl⟩ := List.getElem_of_mem hx
    exact h k hk
  unfold wordsB
  rw [this]; rfl
set_option maxHeartbeats 4000000 in
set_option maxRecDepth 100000 in
theorem words_any (l : List ByteArray) (v : Value) (w : World) (hv : StrL w l v) (hl : l.length ≤ maxLen) (hs : ∀ k, ∀ hk : k < l.length, l[k].size ≤ maxLen) :
    Calls Tryz.prog 9 #[v] w fun e w' => e = .returned (.bool (wordsB l)) ∧ Below w.heap.size w w' := by
  obtain ⟨A, c, rfl, hA⟩ := hv
  obtain ⟨R, HW⟩ : ∃ R, Hid (wordsB l = R) := ⟨_, hide rfl⟩
  have HA := hide hA
  have HNo := hide (fun j h k => wordsB_no (l := l) (j := j) h k)
  have HEn := hide (fun h => wordsB_end (l := l) h)
  have HWd := hide (fun k (hk : k < l.length) (w : World) => lword_any l[k] w (hs k hk))
  rw [HW.out] at *
  have HB0 := hide (Below.refl w.heap.size w)
  unfold maxLen at hl
  clear hA HW hs
  go_enter Tryz.func9, Tryz.ntmps9
  go_wp2_with fail
  go_loopw [7] (fun i wr => ∃ k : Nat, k ≤ l.length ∧ i = .int .i64 k ∧ Hid (Below w.heap.size w wr) ∧ Hid (∀ j, ∀ hj : j < l.length, j < k → wordB l[j] = true)) (fun i _ => l.length - (intOf i).toNat)
  case atStart => exact ⟨0, Nat.zero_le _, rfl, HB0, hide (fun j _ h => by omega)⟩
  case round =>
    obtain ⟨k, hk, rfl, HBr, HAll⟩ := hrel
    by_cases hlt : k < l.length
    · obtain ⟨b, off, rfl, hb, hc⟩ := HA.out wr HBr.out k hlt
      have HWk := hide (HWd.out k hlt)
      have HNk := hide (HNo.out k hlt)
      have HSt := hide (fun (h : wordB l[k] = true) j (hj : j < l.length) (hjk : j < k + 1) => (by
        by_cases e : j = k
        · subst e; exact h
        · exact HAll.out j hj (by omega) : wordB l[j] = true))
      generalize l[k] = x at *
      clear HNo HEn HWd HA
      cases hx : wordB x
      all_goals
        rw [hx] at HWk HNk HSt
        go_wp2_with fail
        refine (HWk.out _).mono ?_
        rintro e w1 ⟨rfl, hb1⟩
        have HB1 := hide (then_below HBr.out hb1)
        clear hb1
        go_wp2_with fail
      · go_ret
        exact ⟨ret_bool (HNk.out trivial).symm, HB1.out⟩
      · go_roundw
        case rel => exact ⟨k + 1, by omega, by go_num, HB1, hide (fun j hj h => HSt.out trivial j hj h)⟩
        case measure => simp [intOf]; omega
    · have HE := hide (HEn.out (fun j hj => HAll.out j hj (by omega)))
      clear HNo HEn HWd HA
      by_cases h0 : 0 < l.length
      · by_cases h20 : l.length ≤ 20
        · have g0 : (0 : Int) < (l.length : Nat) := by omega
          have g1 : ((l.length : Nat) : Int) ≤ 20 := by omega
          have HR := hide (show R = true by rw [HE.out]; simp [h0, h20])
          go_wp2_with fail
          go_ret
          exact ⟨ret_bool HR.out.symm, HBr.out⟩
        · have g0 : (0 : Int) < (l.length : Nat) := by omega
          have g1 : ¬ ((l.length : Nat) : Int) ≤ 20 := by omega
          have HR := hide (show R = false by rw [HE.out]; simp [h20])
          go_wp2_with fail
          go_ret
          exact ⟨ret_bool HR.out.symm, HBr.out⟩
      · have g0 : ¬ (0 : Int) < (l.length : Nat) := by omega
        have HR := hide (show R = false by rw [HE.out]; simp [h0])
        go_wp2_with fail
        go_ret
        exact ⟨ret_bool HR.out.symm, HBr.out⟩
end Go.Proofs.YtljoajjlkjjgeaaGreatDoor
