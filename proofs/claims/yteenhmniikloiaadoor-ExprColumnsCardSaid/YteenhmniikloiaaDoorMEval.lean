/-
  The value of an expression: the model, and that what it tells is of its type.
  What a typed expression comes to is of its type; what its parts then may be.
  ofTwo of any expression and values: the contracts put together.
  eval: the value of an expression that has a type, for a row that fits; by the number of expressions.
  Eval: the value of an expression for a row, and the error.
  A typed expression's arguments are typed, and worth what eval says of them.
-/
import Derived.Test.YteenhmniikloiaaDoorETwo
import Derived.Test.YteenhmniikloiaaDoorESettle
import Derived.Test.YteenhmniikloiaaDoorEType
import Derived.Test.YteenhmniikloiaaDoorSFits
import Derived.Test.YteenhmniikloiaaDoorETypeAt
import Derived.Test.YteenhmniikloiaaDoorETop
namespace Go.Proofs.YteenhmniikloiaaDoor
open Go.RowKit

/-- The number that a comparison has, less one; 6: it is none. -/
def cmpIx (op : ByteArray) : Nat := cmpsL.findIdx fun c => c.toList == op.toList
def twoX (wd op : ByteArray) (a b : Int × Int × ByteArray) : (Int × Int × ByteArray) × Int :=
  bif (wd.toList == [97, 110, 100]) then (truthV (trueV b), 0)
  else bif (wd.toList == [111, 114]) then (truthV (trueV b), 0)
  else bif (wd.toList == [101, 105, 116, 104, 101, 114]) then (b, 0)
  else bif (wd.toList == [105, 102]) then (b, 0)
  else bif (wd.toList == [99, 97, 116]) then catV a b
  else bif decide (cmpIx op < 6) then (compareV ((cmpIx op : Nat) + 1 : Int) a b, 0)
  else arithV (byte0 op) a b
def nextW (wd : ByteArray) (v : Int × Int × ByteArray) : Nat := if (wd.toList == [105, 102]) = true ∧ trueV v = false then 2 else 1
theorem nextK_eq (x : XT) (v : Int × Int × ByteArray) : nextK x v = nextW (wordX x) v := rfl
def partX (wd op : ByteArray) (n : Nat) (L : List ((Int × Int × ByteArray) × Int)) : (Int × Int × ByteArray) × Int :=
  if (L.getD 0 (d3, 0)).2 = 0 then
    (if n = 1 then oneX wd (L.getD 0 (d3, 0)).1
    else if (settleV wd (L.getD 0 (d3, 0)).1).2 = true then ((settleV wd (L.getD 0 (d3, 0)).1).1, 0)
    else if (L.getD (nextW wd (L.getD 0 (d3, 0)).1) (d3, 0)).2 = 0 then twoX wd op (L.getD 0 (d3, 0)).1 (L.getD (nextW wd (L.getD 0 (d3, 0)).1) (d3, 0)).1
    else (d3, (L.getD (nextW wd (L.getD 0 (d3, 0)).1) (d3, 0)).2))
  else (d3, (L.getD 0 (d3, 0)).2)
mutual
/-- What an expression comes to for a row, and the error. -/
def evalX (cs : List (ByteArray × Int)) (row : List (Int × Int × ByteArray)) : XT → (Int × Int × ByteArray) × Int
  | .mk k n v o A c ts =>
    if k = 1 then (row.getD (findK cs n) d3, 0) else if k = 2 then (v, 0) else partX (wordX (.mk k n v o A c ts)) o ts.length (evalsX cs row ts)
def evalsX (cs : List (ByteArray × Int)) (row : List (Int × Int × ByteArray)) : List XT → List ((Int × Int × ByteArray) × Int)
  | [] => []
  | x :: r => evalX cs row x :: evalsX cs row r
end
theorem evalsX_at (cs : List (ByteArray × Int)) (row : List (Int × Int × ByteArray)) : ∀ (l : List XT) (k : Nat), k < l.length → (evalsX cs row l).getD k (d3, 0) = evalX cs row (l.getD k dX)
  | [], k, h => by simp at h
  | x :: r, 0, _ => rfl
  | x :: r, k + 1, h => evalsX_at cs row r k (by simpa using h)

/-- A value is null, or of this type and right. -/
def okV (t : Int) (v : Int × Int × ByteArray) : Prop := v = d3 ∨ (t = 1 ∧ v.1 = 1 ∧ v.2.2 = ⟨#[]⟩ ∧ I64 v.2.1) ∨ (t = 2 ∧ v.1 = 2 ∧ v.2.1 = 0 ∧ rightT v.2.2 = true)
theorem empty_of {s : ByteArray} (h : s.toList.isEmpty = true) : s = ⟨#[]⟩ := by
  rw [Lib.toList_data] at h
  have : s.data.toList = [] := by simpa using h
  exact of_data this
theorem okV_right {k n : Int} {s : ByteArray} (h : rightV k n s = true) (hn : I64 n) : okV k (k, n, s) := by
  unfold rightV at h
  split at h
  · rename_i hk
    subst hk
    simp only [Bool.and_eq_true, decide_eq_true_eq] at h
    left
    rw [h.1, empty_of h.2]
  · split at h
    · rename_i hk
      exact .inr (.inl ⟨hk, hk, empty_of h, hn⟩)
    · split at h
      · rename_i hk
        simp only [Bool.and_eq_true, decide_eq_true_eq] at h
        exact .inr (.inr ⟨hk, hk, h.1, h.2⟩)
      · cases h
theorem okV_zero {v : Int × Int × ByteArray} (h : okV 0 v) : v = d3 := by
  rcases h with h | ⟨h, _⟩ | ⟨h, _⟩
  · exact h
  · cases h
  · cases h
theorem okV_size {t : Int} {v : Int × Int × ByteArray} (h : okV t v) : v.2.2.size ≤ 64 := by
  rcases h with rfl | ⟨_, _, h, _⟩ | ⟨_, _, _, h⟩
  · exact Nat.zero_le _
  · rw [h]; exact Nat.zero_le _
  · unfold rightT at h
    simp only [Bool.and_eq_true, decide_eq_true_eq] at h
    exact h.1
theorem okV_i64 {t : Int} {v : Int × Int × ByteArray} (h : okV t v) : I64 v.2.1 := by
  rcases h with rfl | ⟨_, _, _, h⟩ | ⟨_, _, h, _⟩
  · unfold I64; simp
  · exact h
  · rw [h]; unfold I64; simp
theorem okV_num {t : Int} {v : Int × Int × ByteArray} (h : okV t v) (ht : t = 0 ∨ t = 1) : numV v := by
  rcases h with rfl | ⟨_, h1, h2, _⟩ | ⟨h, _⟩
  · exact .inl rfl
  · exact .inr ⟨h1, h2⟩
  · omega
theorem okV_text {t : Int} {v : Int × Int × ByteArray} (h : okV t v) (ht : t = 0 ∨ t = 2) : v = d3 ∨ (v.1 = 2 ∧ v.2.1 = 0 ∧ rightT v.2.2 = true) := by
  rcases h with rfl | ⟨h, _⟩ | ⟨_, h⟩
  · exact .inl rfl
  · omega
  · exact .inr h
theorem okV_truth (b : Bool) : okV 1 (truthV b) := .inr (.inl ⟨rfl, rfl, rfl, by cases b <;> (unfold truthV I64; simp)⟩)
theorem okV_of0 {t : Int} {v : Int × Int × ByteArray} (h : okV 0 v) : okV t v := .inl (okV_zero h)

theorem okV_arith (op : Int) (a b : Int × Int × ByteArray) (hb : (op = 47 ∨ op = 37) ∨ op = 43 ∨ op = 45 ∨ op = 42) (ib : I64 b.2.1) (h : (arithV op a b).2 = 0) : okV 1 (arithV op a b).1 := by
  unfold arithV at h ⊢
  split
  · exact .inl rfl
  · rename_i h1
    rw [if_neg h1] at h
    split
    · exact .inl rfl
    · rename_i h2
      rw [if_neg h2] at h
      split
      · rename_i h3
        refine .inr (.inl ⟨rfl, rfl, rfl, ?_⟩)
        show I64 (arithN op a.2.1 b.2.1)
        rcases h3 with h3 | h3
        · subst h3
          have hm : b.2.1 ≠ 0 := fun e => h2 ⟨.inr rfl, e⟩
          show I64 (a.2.1.tmod b.2.1)
          have := abs_tmod_lt a.2.1 b.2.1 hm
          unfold I64 at *
          omega
        · exact of_decide_eq_true h3
      · exact .inl rfl
theorem okV_compare (op : Int) (a b : Int × Int × ByteArray) : okV 1 (compareV op a b) := by
  unfold compareV
  split
  · exact .inl rfl
  · exact .inr (.inl ⟨rfl, rfl, rfl, by unfold bit I64; split <;> simp⟩)
theorem okV_len {v : Int × Int × ByteArray} (h : v.2.2.size ≤ 64) : okV 1 (lenV v) := by
  unfold lenV
  split
  · rename_i hn
    unfold nullV at hn
    simp only [Bool.and_eq_true, beq_iff_eq] at hn
    obtain ⟨k, n, s⟩ := v
    simp only at hn
    left
    rw [hn.1, hn.2.1, empty_of (s := s) (by rw [hn.2.2, Lib.toList_data]; rfl)]
  · exact .inr (.inl ⟨rfl, rfl, rfl, by unfold I64; simp only; omega⟩)
theorem rightT_append {s t : ByteArray} (hs : rightT s = true) (ht : rightT t = true) (h : s.size + t.size ≤ 64) : rightT (s ++ t) = true := by
  unfold rightT at *
  simp only [Bool.and_eq_true, decide_eq_true_eq] at *
  refine ⟨by rw [ByteArray.size_append]; exact h, ?_⟩
  rw [ByteArray.data_append, Array.toList_append, List.all_append, hs.2, ht.2]; rfl
theorem null_d3 : nullV d3 = true := by unfold nullV; simp
theorem okV_cat {a b : Int × Int × ByteArray} (ha : a = d3 ∨ (a.1 = 2 ∧ a.2.1 = 0 ∧ rightT a.2.2 = true)) (hb : b = d3 ∨ (b.1 = 2 ∧ b.2.1 = 0 ∧ rightT b.2.2 = true)) : okV 2 (catV a b).1 := by
  unfold catV
  split
  · exact .inl rfl
  · rename_i hn
    split
    · exact .inl rfl
    · rename_i hl
      rcases ha with rfl | ⟨_, _, ha⟩
      · exact absurd (.inl null_d3) hn
      rcases hb with rfl | ⟨_, _, hb⟩
      · exact absurd (.inr null_d3) hn
      exact .inr (.inr ⟨rfl, rfl, rfl, rightT_append ha hb (by omega)⟩)
end Go.Proofs.YteenhmniikloiaaDoor
namespace Go.Proofs.YteenhmniikloiaaDoor
open Go.RowKit

theorem bytes_eq {s t : ByteArray} (h : s.toList = t.toList) : s = t := by
  rw [Lib.toList_data, Lib.toList_data] at h
  rw [of_data h]
theorem rule_mem {x : XT} (h1 : ¬ (x.kind = 1 ∨ x.kind = 2)) (h : (ruleX x).2 = true) : (ruleX x).1 ∈ rulesL ∧ (ruleX x).1.k = x.kind ∧ wordX x = (ruleX x).1.w := by
  unfold ruleX at *
  rw [if_neg h1] at *
  cases hr : ruleOf x.kind (wordX x) with
  | none => rw [hr] at h; cases h
  | some r =>
    unfold ruleOf at hr
    have hm := List.mem_of_find?_eq_some hr
    have hp := List.find?_some hr
    unfold hitR at hp
    simp only [Bool.and_eq_true, beq_iff_eq] at hp
    exact ⟨hm, hp.1, (bytes_eq hp.2).symm⟩
theorem errOf_zero : ∀ (l : List (Int × Int)), errOf l = 0 → ∀ j, j < l.length → (l.getD j (0, 0)).2 = 0
  | [], _, j, h => by simp at h
  | x :: r, h, 0, _ => by
    unfold errOf at h
    show x.2 = 0
    split at h
    · assumption
    · exact h
  | x :: r, h, j + 1, hj => by
    unfold errOf at h
    split at h
    · exact errOf_zero r h j (by simpa using hj)
    · rename_i hx; exact absurd h hx
/-- The types that the arguments have. -/
def argT (cs : List (ByteArray × Int)) (x : XT) (d : Int) (j : Nat) : Int := tyAt (typesX cs x.args (d + 1)) j
theorem argT_at {cs : List (ByteArray × Int)} {x : XT} {d : Int} {j : Nat} (h : j < x.args.length) : argT cs x d j = (typeX cs (x.args.getD j dX) (d + 1)).1 := by
  unfold argT tyAt; rw [typesX_at cs (d + 1) x.args j h]
/-- What the type of an expression that is no column and no constant says of its parts. -/
theorem typeX_parts {cs : List (ByteArray × Int)} {x : XT} {d : Int} (h : (typeX cs x d).2 = 0) (h1 : ¬ (x.kind = 1 ∨ x.kind = 2)) :
    d ≤ 32 ∧ (ruleX x).1 ∈ rulesL ∧ (ruleX x).1.k = x.kind ∧ wordX x = (ruleX x).1.w ∧ (x.args.length : Int) = (ruleX x).1.n ∧ (∀ k, k < x.args.length → (typeX cs (x.args.getD k dX) (d + 1)).2 = 0) ∧
    resX (ruleX x).1 [argT cs x d 0, argT cs x d 1, argT cs x d 2] = ((typeX cs x d).1, true) := by
  have hru := rule_mem h1
  have hf := fun h => (formed_len (x := x) h).1
  have hf2 : formedX x = true → (ruleX x).2 = true := fun h => by
    unfold formedX at h
    simp only [Bool.and_eq_true] at h
    exact h.1
  have hat := fun k hk => typesX_at cs (d + 1) x.args k hk
  have hlen := typesX_len cs (d + 1) x.args
  unfold argT
  obtain ⟨kd, nm, v, o, A, c, ts⟩ := x
  simp only [XT.kind, XT.args] at *
  rw [typeX] at h ⊢
  by_cases hd : 32 < d
  · rw [if_pos hd] at h; simp at h
  rw [if_neg hd] at h ⊢
  by_cases hfo : formedX (.mk kd nm v o A c ts) = false
  · rw [if_pos hfo] at h; simp at h
  rw [if_neg hfo] at h ⊢
  rw [if_neg (fun e => h1 (.inl e)), if_neg (fun e => h1 (.inr e))] at h ⊢
  have hfo' : formedX (.mk kd nm v o A c ts) = true := by simpa using hfo
  obtain ⟨r1, r2, r3⟩ := hru (hf2 hfo')
  by_cases he : errOf (typesX cs ts (d + 1)) = 0
  · rw [if_pos he] at h ⊢
    refine ⟨by omega, r1, r2, r3, hf hfo', fun k hk => ?_, ?_⟩
    · rw [← hat k hk]
      exact errOf_zero _ he k (by rw [hlen]; exact hk)
    · by_cases hq : (resX (ruleX (.mk kd nm v o A c ts)).1 [tyAt (typesX cs ts (d + 1)) 0, tyAt (typesX cs ts (d + 1)) 1, tyAt (typesX cs ts (d + 1)) 2]).2 = true
      · rw [if_pos hq]
        exact Prod.ext rfl hq
      · rw [if_neg hq] at h; simp at h
  · rw [if_neg he] at h
    exact absurd h he

/-- What the arguments of a rule may be. -/
theorem step_fit {t want same s : Int} (h : stepR t want same = some s) : t = 0 ∨ want = 0 ∨ want = 3 ∨ t = want := by
  unfold stepR at h
  split at h
  · rename_i h1; rcases h1 with h1 | h1 <;> simp [h1]
  · split at h
    · rename_i h1; simp [h1]
    · split at h
      · rename_i h1; simp [h1]
      · cases h

theorem step_any {t same s : Int} (h : stepR t 0 same = some s) : s = same := by
  unfold stepR at h
  rw [if_pos (.inr rfl)] at h
  exact (Option.some.inj h).symm
theorem step_same {t same s : Int} (h : stepR t 3 same = some s) : (t = 0 ∧ s = same) ∨ (t ≠ 0 ∧ same = 0 ∧ s = t) ∨ (t ≠ 0 ∧ t = same ∧ s = same) := by
  unfold stepR at h
  by_cases ht : t = 0
  · rw [if_pos (.inl ht)] at h
    exact .inl ⟨ht, (Option.some.inj h).symm⟩
  · rw [if_neg (by omega), if_pos rfl] at h
    by_cases hs : same = 0
    · rw [if_pos hs] at h
      exact .inr (.inl ⟨ht, hs, (Option.some.inj h).symm⟩)
    · rw [if_neg hs] at h
      by_cases he : t = same
      · rw [if_pos he] at h
        exact .inr (.inr ⟨ht, he, (Option.some.inj h).symm⟩)
      · rw [if_neg he] at h; cases h
theorem res_end {r : RL} {o : Option Int} {t : Int} (h : (match o with | none => ((0 : Int), false) | some s => if r.g = 3 then (s, true) else (r.g, true)) = (t, true)) : ∃ s, o = some s ∧ t = if r.g = 3 then s else r.g := by
  cases o with
  | none => simp at h
  | some s =>
    refine ⟨s, rfl, ?_⟩
    simp only at h
    split at h
    · rename_i hg; rw [if_pos hg]; exact (Prod.mk.inj h).1.symm
    · rename_i hg; rw [if_neg hg]; exact (Prod.mk.inj h).1.symm
theorem res_one {r : RL} {t0 t1 t2 t : Int} (hn : r.n = 1) (h : resX r [t0, t1, t2] = (t, true)) : ∃ s0, stepR t0 r.a 0 = some s0 ∧ t = if r.g = 3 then s0 else r.g := by
  unfold resX at h
  rw [hn] at h
  exact res_end (o := stepR t0 r.a 0) h
theorem res_two {r : RL} {t0 t1 t2 t : Int} (hn : r.n = 2) (h : resX r [t0, t1, t2] = (t, true)) : ∃ s0 s1, stepR t0 r.a 0 = some s0 ∧ stepR t1 r.b s0 = some s1 ∧ t = if r.g = 3 then s1 else r.g := by
  unfold resX at h
  rw [hn] at h
  obtain ⟨s1, h1, h2⟩ := res_end (o := (stepR t0 r.a 0).bind fun s => stepR t1 r.b s) h
  obtain ⟨s0, h3, h4⟩ := Option.bind_eq_some_iff.1 h1
  exact ⟨s0, s1, h3, h4, h2⟩
theorem res_three {r : RL} {t0 t1 t2 t : Int} (hn : r.n = 3) (h : resX r [t0, t1, t2] = (t, true)) : ∃ s0 s1 s2, stepR t0 r.a 0 = some s0 ∧ stepR t1 r.b s0 = some s1 ∧ stepR t2 r.c s1 = some s2 ∧ t = if r.g = 3 then s2 else r.g := by
  unfold resX at h
  rw [hn] at h
  obtain ⟨s2, h1, h2⟩ := res_end (o := ((stepR t0 r.a 0).bind fun s => stepR t1 r.b s).bind fun s => stepR t2 r.c s) h
  obtain ⟨s1, h3, h4⟩ := Option.bind_eq_some_iff.1 h1
  obtain ⟨s0, h5, h6⟩ := Option.bind_eq_some_iff.1 h3
  exact ⟨s0, s1, s2, h5, h6, h4, h2⟩

/-- What ofOne asks of the value. -/
def pre1 (wd : ByteArray) (v : Int × Int × ByteArray) : Prop :=
  (wd.toList == [110, 111, 116]) = false → (wd.toList == [105, 115, 110, 117, 108, 108]) = false → (wd.toList == [108, 101, 110]) = false → numV v ∧ I64 v.2.1
set_option maxHeartbeats 1600000 in
theorem one_sound {r : RL} {t0 t1 t2 t : Int} {v : Int × Int × ByteArray} (hr : r ∈ rulesL) (hn : r.n = 1) (hX : resX r [t0, t1, t2] = (t, true)) (hv : okV t0 v) :
    pre1 r.w v ∧ ((oneX r.w v).2 = 0 → okV t (oneX r.w v).1) := by
  have hsz := okV_size hv
  have hi := okV_i64 hv
  have har : (arithV 45 (1, 0, ⟨#[]⟩) v).2 = 0 → okV 1 (arithV 45 (1, 0, ⟨#[]⟩) v).1 := okV_arith 45 _ _ (.inr (.inr (.inl rfl))) hi
  obtain ⟨s0, hs, ht⟩ := res_one hn hX
  clear hX
  simp only [rulesL, List.mem_cons, List.not_mem_nil, or_false] at hr
  rcases hr with rfl | rfl | rfl | rfl | rfl | rfl | rfl | rfl | rfl | rfl | rfl | rfl | rfl | rfl | rfl | rfl | rfl | rfl | rfl | rfl | rfl
  all_goals first | (exfalso; revert hn; decide) | skip
  all_goals
    obtain rfl : t = 1 := ht
    clear hn
  · have e : oneX ⟨#[45]⟩ v = arithV 45 (1, 0, ⟨#[]⟩) v := by simp [oneX, Lib.toList_data]
    have h0 : t0 = 0 ∨ t0 = 1 := by have : t0 = 0 ∨ (1 : Int) = 0 ∨ (1 : Int) = 3 ∨ t0 = 1 := step_fit hs; omega
    refine ⟨fun _ _ _ => ⟨okV_num hv h0, hi⟩, ?_⟩
    rw [e]
    exact har
  · have e : oneX ⟨#[110, 111, 116]⟩ v = (truthV (!trueV v), 0) := by simp [oneX, Lib.toList_data]
    refine ⟨fun h => by simp [Lib.toList_data] at h, fun _ => ?_⟩
    rw [e]
    exact okV_truth _
  · have e : oneX ⟨#[108, 101, 110]⟩ v = (lenV v, 0) := by simp [oneX, Lib.toList_data]
    refine ⟨fun _ _ h => by simp [Lib.toList_data] at h, fun _ => ?_⟩
    rw [e]
    exact okV_len hsz
  · have e : oneX ⟨#[97, 98, 115]⟩ v = bif decide (0 ≤ v.2.1) then (v, 0) else arithV 45 (1, 0, ⟨#[]⟩) v := by simp [oneX, Lib.toList_data]
    have h0 : t0 = 0 ∨ t0 = 1 := by have : t0 = 0 ∨ (1 : Int) = 0 ∨ (1 : Int) = 3 ∨ t0 = 1 := step_fit hs; omega
    refine ⟨fun _ _ _ => ⟨okV_num hv h0, hi⟩, ?_⟩
    rw [e]
    cases decide (0 ≤ v.2.1)
    · exact har
    · intro _
      rcases hv with hv | ⟨_, hv⟩ | ⟨hv, _⟩
      · exact .inl hv
      · exact .inr (.inl ⟨rfl, hv⟩)
      · omega
  · have e : oneX ⟨#[105, 115, 110, 117, 108, 108]⟩ v = (truthV (nullV v), 0) := by simp [oneX, Lib.toList_data]
    refine ⟨fun _ h => by simp [Lib.toList_data] at h, fun _ => ?_⟩
    rw [e]
    exact okV_truth _

/-- What ofTwo asks of the values. -/
def pre2 (wd op : ByteArray) (a b : Int × Int × ByteArray) : Prop :=
  (wd.toList == [97, 110, 100]) = false → (wd.toList == [111, 114]) = false → (wd.toList == [101, 105, 116, 104, 101, 114]) = false → (wd.toList == [105, 102]) = false → (wd.toList == [99, 97, 116]) = false → ¬ cmpIx op < 6 →
    0 < op.size ∧ fiveOps (byte0 op) ∧ numV a ∧ numV b
theorem okV_any0 {t t' : Int} {v : Int × Int × ByteArray} (h : okV t v) (ht : t = 0 ∨ t = t') : okV t' v := by
  rcases ht with rfl | rfl
  · exact okV_of0 h
  · exact h
set_option maxHeartbeats 1600000 in
theorem settle_sound {r : RL} {t0 t1 t2 t : Int} {a : Int × Int × ByteArray} (hr : r ∈ rulesL) (hn : r.n = 2 ∨ r.n = 3) (hX : resX r [t0, t1, t2] = (t, true)) (ha : okV t0 a) (hs : (settleV r.w a).2 = true) :
    okV t (settleV r.w a).1 := by
  simp only [rulesL, List.mem_cons, List.not_mem_nil, or_false] at hr
  rcases hr with rfl | rfl | rfl | rfl | rfl | rfl | rfl | rfl | rfl | rfl | rfl | rfl | rfl | rfl | rfl | rfl | rfl | rfl | rfl | rfl | rfl
  all_goals first | (exfalso; revert hn; decide) | (exfalso; revert hs; simp [settleV, Lib.toList_data]; done) | skip
  · obtain ⟨s0, s1, h0, h1, ht⟩ := res_two rfl hX
    obtain rfl : t = 1 := ht
    have e : settleV ⟨#[97, 110, 100]⟩ a = (truthV false, !trueV a) := by simp [settleV, Lib.toList_data]
    rw [e]
    exact okV_truth _
  · obtain ⟨s0, s1, h0, h1, ht⟩ := res_two rfl hX
    obtain rfl : t = 1 := ht
    have e : settleV ⟨#[111, 114]⟩ a = (truthV true, trueV a) := by simp [settleV, Lib.toList_data]
    rw [e]
    exact okV_truth _
  · obtain ⟨s0, s1, h0, h1, ht⟩ := res_two rfl hX
    have ht : t = s1 := ht
    have e : settleV ⟨#[101, 105, 116, 104, 101, 114]⟩ a = (a, !nullV a) := by simp [settleV, Lib.toList_data]
    rw [e]
    have h0' := step_same h0
    have h1' := step_same h1
    exact okV_any0 ha (by omega)
set_option maxHeartbeats 3200000 in
theorem two_sound {r : RL} {t0 t1 t2 t : Int} {a b : Int × Int × ByteArray} {op : ByteArray} (hr : r ∈ rulesL) (hn : r.n = 2 ∨ r.n = 3) (hop : r.k = 4 → op = r.w) (hX : resX r [t0, t1, t2] = (t, true)) (ha : okV t0 a)
    (hb : okV (if nextW r.w a = 2 then t2 else t1) b) : pre2 r.w op a b ∧ ((twoX r.w op a b).2 = 0 → okV t (twoX r.w op a b).1) := by
  simp only [rulesL, List.mem_cons, List.not_mem_nil, or_false] at hr
  rcases hr with rfl | rfl | rfl | rfl | rfl | rfl | rfl | rfl | rfl | rfl | rfl | rfl | rfl | rfl | rfl | rfl | rfl | rfl | rfl | rfl | rfl
  all_goals first | (exfalso; revert hn; decide) | skip
  all_goals clear hn
  · obtain rfl := hop rfl
    obtain ⟨s0, s1, h0, h1, ht⟩ := res_two rfl hX
    obtain rfl : t = 1 := ht
    have e : twoX ⟨#[43]⟩ ⟨#[43]⟩ a b = arithV 43 a b := by simp [twoX, Lib.toList_data, cmpIx, cmpsL, byte0, List.findIdx_cons]
    rw [if_neg (by simp [nextW, Lib.toList_data])] at hb
    have h0' : t0 = 0 ∨ t0 = 1 := by have : t0 = 0 ∨ (1 : Int) = 0 ∨ (1 : Int) = 3 ∨ t0 = 1 := step_fit h0; omega
    have h1' : t1 = 0 ∨ t1 = 1 := by have : t1 = 0 ∨ (1 : Int) = 0 ∨ (1 : Int) = 3 ∨ t1 = 1 := step_fit h1; omega
    refine ⟨fun _ _ _ _ _ _ => ⟨by decide, .inl rfl, okV_num ha h0', okV_num hb h1'⟩, ?_⟩
    rw [e]
    exact okV_arith 43 a b (.inr (.inl rfl)) (okV_i64 hb)
  · obtain rfl := hop rfl
    obtain ⟨s0, s1, h0, h1, ht⟩ := res_two rfl hX
    obtain rfl : t = 1 := ht
    have e : twoX ⟨#[45]⟩ ⟨#[45]⟩ a b = arithV 45 a b := by simp [twoX, Lib.toList_data, cmpIx, cmpsL, byte0, List.findIdx_cons]
    rw [if_neg (by simp [nextW, Lib.toList_data])] at hb
    have h0' : t0 = 0 ∨ t0 = 1 := by have : t0 = 0 ∨ (1 : Int) = 0 ∨ (1 : Int) = 3 ∨ t0 = 1 := step_fit h0; omega
    have h1' : t1 = 0 ∨ t1 = 1 := by have : t1 = 0 ∨ (1 : Int) = 0 ∨ (1 : Int) = 3 ∨ t1 = 1 := step_fit h1; omega
    refine ⟨fun _ _ _ _ _ _ => ⟨by decide, .inr (.inl rfl), okV_num ha h0', okV_num hb h1'⟩, ?_⟩
    rw [e]
    exact okV_arith 45 a b (.inr (.inr (.inl rfl))) (okV_i64 hb)
  · obtain rfl := hop rfl
    obtain ⟨s0, s1, h0, h1, ht⟩ := res_two rfl hX
    obtain rfl : t = 1 := ht
    have e : twoX ⟨#[42]⟩ ⟨#[42]⟩ a b = arithV 42 a b := by simp [twoX, Lib.toList_data, cmpIx, cmpsL, byte0, List.findIdx_cons]
    rw [if_neg (by simp [nextW, Lib.toList_data])] at hb
    have h0' : t0 = 0 ∨ t0 = 1 := by have : t0 = 0 ∨ (1 : Int) = 0 ∨ (1 : Int) = 3 ∨ t0 = 1 := step_fit h0; omega
    have h1' : t1 = 0 ∨ t1 = 1 := by have : t1 = 0 ∨ (1 : Int) = 0 ∨ (1 : Int) = 3 ∨ t1 = 1 := step_fit h1; omega
    refine ⟨fun _ _ _ _ _ _ => ⟨by decide, .inr (.inr (.inl rfl)), okV_num ha h0', okV_num hb h1'⟩, ?_⟩
    rw [e]
    exact okV_arith 42 a b (.inr (.inr (.inr rfl))) (okV_i64 hb)
  · obtain rfl := hop rfl
    obtain ⟨s0, s1, h0, h1, ht⟩ := res_two rfl hX
    obtain rfl : t = 1 := ht
    have e : twoX ⟨#[47]⟩ ⟨#[47]⟩ a b = arithV 47 a b := by simp [twoX, Lib.toList_data, cmpIx, cmpsL, byte0, List.findIdx_cons]
    rw [if_neg (by simp [nextW, Lib.toList_data])] at hb
    have h0' : t0 = 0 ∨ t0 = 1 := by have : t0 = 0 ∨ (1 : Int) = 0 ∨ (1 : Int) = 3 ∨ t0 = 1 := step_fit h0; omega
    have h1' : t1 = 0 ∨ t1 = 1 := by have : t1 = 0 ∨ (1 : Int) = 0 ∨ (1 : Int) = 3 ∨ t1 = 1 := step_fit h1; omega
    refine ⟨fun _ _ _ _ _ _ => ⟨by decide, .inr (.inr (.inr (.inl rfl))), okV_num ha h0', okV_num hb h1'⟩, ?_⟩
    rw [e]
    exact okV_arith 47 a b (.inl (.inl rfl)) (okV_i64 hb)
  · obtain rfl := hop rfl
    obtain ⟨s0, s1, h0, h1, ht⟩ := res_two rfl hX
    obtain rfl : t = 1 := ht
    have e : twoX ⟨#[37]⟩ ⟨#[37]⟩ a b = arithV 37 a b := by simp [twoX, Lib.toList_data, cmpIx, cmpsL, byte0, List.findIdx_cons]
    rw [if_neg (by simp [nextW, Lib.toList_data])] at hb
    have h0' : t0 = 0 ∨ t0 = 1 := by have : t0 = 0 ∨ (1 : Int) = 0 ∨ (1 : Int) = 3 ∨ t0 = 1 := step_fit h0; omega
    have h1' : t1 = 0 ∨ t1 = 1 := by have : t1 = 0 ∨ (1 : Int) = 0 ∨ (1 : Int) = 3 ∨ t1 = 1 := step_fit h1; omega
    refine ⟨fun _ _ _ _ _ _ => ⟨by decide, .inr (.inr (.inr (.inr rfl))), okV_num ha h0', okV_num hb h1'⟩, ?_⟩
    rw [e]
    exact okV_arith 37 a b (.inl (.inr rfl)) (okV_i64 hb)
  · obtain rfl := hop rfl
    obtain ⟨s0, s1, h0, h1, ht⟩ := res_two rfl hX
    obtain rfl : t = 1 := ht
    have ec : cmpIx ⟨#[61]⟩ = 0 := by simp [cmpIx, cmpsL, Lib.toList_data, List.findIdx_cons]
    have e : twoX ⟨#[61]⟩ ⟨#[61]⟩ a b = (compareV 1 a b, 0) := by unfold twoX; rw [ec]; simp [Lib.toList_data]
    refine ⟨fun _ _ _ _ _ h => absurd (by rw [ec]; decide) h, fun _ => ?_⟩
    rw [e]
    exact okV_compare _ a b
  · obtain rfl := hop rfl
    obtain ⟨s0, s1, h0, h1, ht⟩ := res_two rfl hX
    obtain rfl : t = 1 := ht
    have ec : cmpIx ⟨#[33, 61]⟩ = 1 := by simp [cmpIx, cmpsL, Lib.toList_data, List.findIdx_cons]
    have e : twoX ⟨#[33, 61]⟩ ⟨#[33, 61]⟩ a b = (compareV 2 a b, 0) := by unfold twoX; rw [ec]; simp [Lib.toList_data]
    refine ⟨fun _ _ _ _ _ h => absurd (by rw [ec]; decide) h, fun _ => ?_⟩
    rw [e]
    exact okV_compare _ a b
  · obtain rfl := hop rfl
    obtain ⟨s0, s1, h0, h1, ht⟩ := res_two rfl hX
    obtain rfl : t = 1 := ht
    have ec : cmpIx ⟨#[60]⟩ = 2 := by simp [cmpIx, cmpsL, Lib.toList_data, List.findIdx_cons]
    have e : twoX ⟨#[60]⟩ ⟨#[60]⟩ a b = (compareV 3 a b, 0) := by unfold twoX; rw [ec]; simp [Lib.toList_data]
    refine ⟨fun _ _ _ _ _ h => absurd (by rw [ec]; decide) h, fun _ => ?_⟩
    rw [e]
    exact okV_compare _ a b
  · obtain rfl := hop rfl
    obtain ⟨s0, s1, h0, h1, ht⟩ := res_two rfl hX
    obtain rfl : t = 1 := ht
    have ec : cmpIx ⟨#[60, 61]⟩ = 3 := by simp [cmpIx, cmpsL, Lib.toList_data, List.findIdx_cons]
    have e : twoX ⟨#[60, 61]⟩ ⟨#[60, 61]⟩ a b = (compareV 4 a b, 0) := by unfold twoX; rw [ec]; simp [Lib.toList_data]
    refine ⟨fun _ _ _ _ _ h => absurd (by rw [ec]; decide) h, fun _ => ?_⟩
    rw [e]
    exact okV_compare _ a b
  · obtain rfl := hop rfl
    obtain ⟨s0, s1, h0, h1, ht⟩ := res_two rfl hX
    obtain rfl : t = 1 := ht
    have ec : cmpIx ⟨#[62]⟩ = 4 := by simp [cmpIx, cmpsL, Lib.toList_data, List.findIdx_cons]
    have e : twoX ⟨#[62]⟩ ⟨#[62]⟩ a b = (compareV 5 a b, 0) := by unfold twoX; rw [ec]; simp [Lib.toList_data]
    refine ⟨fun _ _ _ _ _ h => absurd (by rw [ec]; decide) h, fun _ => ?_⟩
    rw [e]
    exact okV_compare _ a b
  · obtain rfl := hop rfl
    obtain ⟨s0, s1, h0, h1, ht⟩ := res_two rfl hX
    obtain rfl : t = 1 := ht
    have ec : cmpIx ⟨#[62, 61]⟩ = 5 := by simp [cmpIx, cmpsL, Lib.toList_data, List.findIdx_cons]
    have e : twoX ⟨#[62, 61]⟩ ⟨#[62, 61]⟩ a b = (compareV 6 a b, 0) := by unfold twoX; rw [ec]; simp [Lib.toList_data]
    refine ⟨fun _ _ _ _ _ h => absurd (by rw [ec]; decide) h, fun _ => ?_⟩
    rw [e]
    exact okV_compare _ a b
  · obtain ⟨s0, s1, h0, h1, ht⟩ := res_two rfl hX
    obtain rfl : t = 1 := ht
    have e : twoX ⟨#[97, 110, 100]⟩ op a b = (truthV (trueV b), 0) := by simp [twoX, Lib.toList_data]
    refine ⟨fun h => by simp [Lib.toList_data] at h, fun _ => ?_⟩
    rw [e]
    exact okV_truth _
  · obtain ⟨s0, s1, h0, h1, ht⟩ := res_two rfl hX
    obtain rfl : t = 1 := ht
    have e : twoX ⟨#[111, 114]⟩ op a b = (truthV (trueV b), 0) := by simp [twoX, Lib.toList_data]
    refine ⟨fun _ h => by simp [Lib.toList_data] at h, fun _ => ?_⟩
    rw [e]
    exact okV_truth _
  · obtain ⟨s0, s1, h0, h1, ht⟩ := res_two rfl hX
    obtain rfl : t = 2 := ht
    have e : twoX ⟨#[99, 97, 116]⟩ op a b = catV a b := by simp [twoX, Lib.toList_data]
    rw [if_neg (by simp [nextW, Lib.toList_data])] at hb
    have h0' : t0 = 0 ∨ t0 = 2 := by have : t0 = 0 ∨ (2 : Int) = 0 ∨ (2 : Int) = 3 ∨ t0 = 2 := step_fit h0; omega
    have h1' : t1 = 0 ∨ t1 = 2 := by have : t1 = 0 ∨ (2 : Int) = 0 ∨ (2 : Int) = 3 ∨ t1 = 2 := step_fit h1; omega
    refine ⟨fun _ _ _ _ h => by simp [Lib.toList_data] at h, fun _ => ?_⟩
    rw [e]
    exact okV_cat (okV_text ha h0') (okV_text hb h1')
  · obtain ⟨s0, s1, h0, h1, ht⟩ := res_two rfl hX
    have ht : t = s1 := ht
    have e : twoX ⟨#[101, 105, 116, 104, 101, 114]⟩ op a b = (b, 0) := by simp [twoX, Lib.toList_data]
    rw [if_neg (by simp [nextW, Lib.toList_data])] at hb
    have h0' := step_same h0
    have h1' := step_same h1
    refine ⟨fun _ _ h => by simp [Lib.toList_data] at h, fun _ => ?_⟩
    rw [e]
    exact okV_any0 hb (by omega)
  · obtain ⟨s0, s1, s2, h0, h1, h2, ht⟩ := res_three rfl hX
    have ht : t = s2 := ht
    have e : twoX ⟨#[105, 102]⟩ op a b = (b, 0) := by simp [twoX, Lib.toList_data]
    have h0' := step_any h0
    have h1' := step_same h1
    have h2' := step_same h2
    refine ⟨fun _ _ _ h => by simp [Lib.toList_data] at h, fun _ => ?_⟩
    rw [e]
    split at hb
    · exact okV_any0 hb (by omega)
    · exact okV_any0 hb (by omega)
theorem next_lt {r : RL} {v : Int × Int × ByteArray} (hr : r ∈ rulesL) (hn : r.n = 2 ∨ r.n = 3) : (nextW r.w v : Int) < r.n := by
  simp only [rulesL, List.mem_cons, List.not_mem_nil, or_false] at hr
  rcases hr with rfl | rfl | rfl | rfl | rfl | rfl | rfl | rfl | rfl | rfl | rfl | rfl | rfl | rfl | rfl | rfl | rfl | rfl | rfl | rfl | rfl
  all_goals first | (exfalso; revert hn; decide) | (simp [nextW, Lib.toList_data]; done) | skip
  show ((nextW _ _ : Nat) : Int) < 3
  unfold nextW
  split <;> decide
theorem nextW_12 (wd : ByteArray) (v : Int × Int × ByteArray) : nextW wd v = 1 ∨ nextW wd v = 2 := by
  unfold nextW
  split
  · exact .inr rfl
  · exact .inl rfl
theorem rule_n {r : RL} (hr : r ∈ rulesL) : r.n = 1 ∨ r.n = 2 ∨ r.n = 3 := by
  have h : ∀ r ∈ rulesL, (decide (r.n = 1) || decide (r.n = 2) || decide (r.n = 3)) = true := List.all_eq_true.1 (by decide)
  have := h r hr
  simp only [Bool.or_eq_true, decide_eq_true_eq] at this
  omega

mutual
/-- The numbers within are of 64 bits. -/
def wfI : XT → Prop
  | .mk _ _ v _ _ _ ts => I64 v.2.1 ∧ wfIs ts
def wfIs : List XT → Prop
  | [] => True
  | x :: r => wfI x ∧ wfIs r
end
theorem wfIs_at : ∀ {l : List XT} {k : Nat}, wfIs l → k < l.length → wfI (l.getD k dX)
  | [], k, _, h => by simp at h
  | _ :: _, 0, h, _ => h.1
  | _ :: r, k + 1, h, hk => wfIs_at (l := r) (k := k) h.2 (by simpa using hk)
theorem fits_len {cs : List (ByteArray × Int)} {vs : List (Int × Int × ByteArray)} (h : rowFits cs vs = true) : vs.length = cs.length := by
  unfold rowFits at h
  simp only [Bool.and_eq_true, decide_eq_true_eq] at h
  exact h.1
theorem fits_okV {cs : List (ByteArray × Int)} {vs : List (Int × Int × ByteArray)} (h : rowFits cs vs = true) (hw : WfR vs) {j : Nat} (hj : j < cs.length) : okV (cs.getD j (⟨#[]⟩, 0)).2 (vs.getD j d3) := by
  have hl := fits_len h
  unfold rowFits at h
  simp only [Bool.and_eq_true, decide_eq_true_eq] at h
  have hh := h.2 j hj
  unfold heldAt holdsB at hh
  simp only [Bool.and_eq_true, Bool.or_eq_true, beq_iff_eq] at hh
  have hv := hw.at (show j < vs.length by omega)
  show okV _ (vs.getD j (0, 0, ⟨#[]⟩))
  generalize vs.getD j (0, 0, ⟨#[]⟩) = v at *
  obtain ⟨k, n, t⟩ := v
  have hk := okV_right hh.1 hv.2.1
  simp only at hk hh ⊢
  rcases hh.2 with h0 | h0
  · subst h0
    exact okV_of0 hk
  · subst h0
    exact hk

theorem typeX_col {cs : List (ByteArray × Int)} {x : XT} {d : Int} (h : (typeX cs x d).2 = 0) (h1 : x.kind = 1) : findK cs x.name < cs.length ∧ (typeX cs x d).1 = (cs.getD (findK cs x.name) (⟨#[]⟩, 0)).2 := by
  obtain ⟨kd, nm, v, o, A, c, ts⟩ := x
  simp only [XT.kind, XT.name] at *
  rw [typeX] at h ⊢
  by_cases hd : 32 < d
  · rw [if_pos hd] at h; simp at h
  rw [if_neg hd] at h ⊢
  by_cases hfo : formedX (.mk kd nm v o A c ts) = false
  · rw [if_pos hfo] at h; simp at h
  rw [if_neg hfo, if_pos h1] at h ⊢
  unfold typeOfX at h ⊢
  split
  · rename_i hk; exact ⟨hk, rfl⟩
  · rename_i hk; rw [if_neg hk] at h; simp at h
theorem typeX_const {cs : List (ByteArray × Int)} {x : XT} {d : Int} (h : (typeX cs x d).2 = 0) (h1 : x.kind = 2) : rightV x.val.1 x.val.2.1 x.val.2.2 = true ∧ (typeX cs x d).1 = x.val.1 := by
  obtain ⟨kd, nm, v, o, A, c, ts⟩ := x
  simp only [XT.kind, XT.val] at *
  rw [typeX] at h ⊢
  by_cases hd : 32 < d
  · rw [if_pos hd] at h; simp at h
  rw [if_neg hd] at h ⊢
  by_cases hfo : formedX (.mk kd nm v o A c ts) = false
  · rw [if_pos hfo] at h; simp at h
  rw [if_neg hfo, if_neg (by omega), if_pos h1] at h ⊢
  refine ⟨?_, rfl⟩
  have hf : formedX (.mk kd nm v o A c ts) = true := by simpa using hfo
  unfold formedX tailF at hf
  simp only [XT.kind, h1, if_true, Bool.and_eq_true] at hf
  exact hf.2.2.2.2

set_option maxHeartbeats 1600000 in
/-- What a typed expression comes to is of its type, or null. -/
theorem eval_sound {cs : List (ByteArray × Int)} {row : List (Int × Int × ByteArray)} (hfit : rowFits cs row = true) (hw : WfR row) : ∀ (N : Nat) (x : XT) (d : Int), szX x ≤ N → wfI x → (typeX cs x d).2 = 0 → (evalX cs row x).2 = 0 → okV (typeX cs x d).1 (evalX cs row x).1
  | 0, x, d, hN, _, _, _ => by have := szX_pos x; omega
  | N + 1, .mk kd nm v o A c ts, d, hN, hi, ht, he => by
    by_cases h1 : kd = 1
    · obtain ⟨hk, e⟩ := typeX_col ht h1
      rw [e]
      rw [evalX, if_pos h1]
      exact fits_okV hfit hw hk
    · by_cases h2 : kd = 2
      · obtain ⟨hr, e⟩ := typeX_const ht h2
        rw [e]
        rw [evalX, if_neg h1, if_pos h2]
        exact okV_right hr hi.1
      · obtain ⟨hd, hr, hk, hwd, hln, hsub, hX⟩ := typeX_parts ht (by rintro (h | h); exact h1 h; exact h2 h)
        have hat := fun k (hk : k < ts.length) => evalsX_at cs row ts k hk
        have ih := fun k (hk : k < ts.length) => eval_sound hfit hw N (ts.getD k dX) (d + 1) (by have := szX_arg (x := .mk kd nm v o A c ts) hk; simp only [XT.args] at this; omega) (wfIs_at hi.2 hk) (hsub k hk)
        have hT := fun j (h : j < ts.length) => argT_at (cs := cs) (x := .mk kd nm v o A c ts) (d := d) h
        have hop : (ruleX (.mk kd nm v o A c ts)).1.k = 4 → o = (ruleX (.mk kd nm v o A c ts)).1.w := fun h => by
          rw [← hwd]
          have : kd = 4 := hk.symm.trans h
          show o = if kd = 5 then nm else o
          rw [if_neg (by omega)]
        rw [evalX, if_neg h1, if_neg h2] at he ⊢
        rw [hwd] at he ⊢
        simp only [XT.args] at hln hsub ih hT
        generalize (typeX cs (.mk kd nm v o A c ts) d).1 = t at *
        generalize (ruleX (.mk kd nm v o A c ts)).1 = r at *
        generalize evalsX cs row ts = L at *
        have hrn := rule_n hr
        have hlt := next_lt (v := (L.getD 0 (d3, 0)).1) hr
        have hn12 := nextW_12 r.w (L.getD 0 (d3, 0)).1
        unfold partX at he ⊢
        by_cases hf : (L.getD 0 (d3, 0)).2 = 0
        · rw [if_pos hf] at he ⊢
          have a0 := ih 0 (by omega) (by rw [← hat 0 (by omega)]; exact hf)
          rw [← hT 0 (by omega), ← hat 0 (by omega)] at a0
          by_cases hn1 : ts.length = 1
          · rw [if_pos hn1] at he ⊢
            exact (one_sound hr (by omega) hX a0).2 he
          · rw [if_neg hn1] at he ⊢
            have hn23 : r.n = 2 ∨ r.n = 3 := by omega
            by_cases hs : (settleV r.w (L.getD 0 (d3, 0)).1).2 = true
            · rw [if_pos hs]
              exact settle_sound hr hn23 hX a0 hs
            · rw [if_neg hs] at he ⊢
              have hl2 := hlt hn23
              by_cases hg : (L.getD (nextW r.w (L.getD 0 (d3, 0)).1) (d3, 0)).2 = 0
              · rw [if_pos hg] at he ⊢
                have b0 := ih (nextW r.w (L.getD 0 (d3, 0)).1) (by omega) (by rw [← hat _ (by omega)]; exact hg)
                rw [← hT _ (by omega), ← hat _ (by omega)] at b0
                refine (two_sound hr hn23 hop hX a0 ?_).2 he
                rcases hn12 with h12 | h12
                · rw [h12] at b0 ⊢
                  exact b0
                · rw [h12] at b0 ⊢
                  exact b0
              · rw [if_neg hg] at he
                exact absurd he hg
        · rw [if_neg hf] at he
          exact absurd he hf
end Go.Proofs.YteenhmniikloiaaDoor
namespace Go.Proofs.YteenhmniikloiaaDoor
open Go.RowKit

theorem cmpIx_at {op : ByteArray} {z : Nat} (hz : z < 6) (hno : ∀ j, j < z → ((cmpsL.getD j ⟨#[]⟩).toList == op.toList) = false) (he : ((cmpsL.getD z ⟨#[]⟩).toList == op.toList) = true) : cmpIx op = z := by
  unfold cmpIx
  have hl : z < cmpsL.length := hz
  rw [List.findIdx_eq hl]
  refine ⟨?_, fun j hj => ?_⟩
  · rw [List.getD_eq_getElem?_getD, List.getElem?_eq_getElem hl] at he; exact he
  · have := hno j hj
    rw [List.getD_eq_getElem?_getD, List.getElem?_eq_getElem (by omega)] at this; exact this
theorem cmpIx_none {op : ByteArray} (hno : ∀ j, j < 6 → ((cmpsL.getD j ⟨#[]⟩).toList == op.toList) = false) : ¬ cmpIx op < 6 := by
  unfold cmpIx
  have : cmpsL.findIdx (fun c => c.toList == op.toList) = cmpsL.length := by
    rw [List.findIdx_eq_length]
    intro c hc
    obtain ⟨j, hj, e⟩ := List.getElem_of_mem hc
    have := hno j hj
    rw [List.getD_eq_getElem?_getD, List.getElem?_eq_getElem hj] at this
    rw [← e]; exact this
  rw [this]
  decide

theorem ofTwo_any (x : XT) (a b : Int × Int × ByteArray) (w : World) (hM : Cmps w) (ha : a.2.2.size ≤ 64) (hb : b.2.2.size ≤ 64) (ia : I64 a.2.1) (ib : I64 b.2.1) (hp : pre2 (wordX x) x.op a b) :
    Calls Tryd.prog 61 #[vX x, vOf a, vOf b] w fun e w' => e = .returned (.tuple #[vOf (twoX (wordX x) x.op a b).1, .int .i64 (twoX (wordX x) x.op a b).2]) ∧ Below w.heap.size w w' := by
  obtain ⟨k, n, s⟩ := a
  obtain ⟨l, m, t⟩ := b
  simp only at ha hb ia ib
  unfold pre2 at hp
  cases h0 : ((wordX x).toList == [97, 110, 100])
  · cases h1 : ((wordX x).toList == [111, 114])
    · cases h2 : ((wordX x).toList == [101, 105, 116, 104, 101, 114])
      · cases h3 : ((wordX x).toList == [105, 102])
        · cases h4 : ((wordX x).toList == [99, 97, 116])
          · have e : twoX (wordX x) x.op (k, n, s) (l, m, t) = bif decide (cmpIx x.op < 6) then (compareV ((cmpIx x.op : Nat) + 1 : Int) (k, n, s) (l, m, t), 0) else arithV (byte0 x.op) (k, n, s) (l, m, t) := by unfold twoX; rw [h0, h1, h2, h3, h4]; rfl
            rw [e]
            refine ofTwo_rest x k n s l m t w _ _ h0 h1 h2 h3 h4 hM (fun z hz hno he => ?_) fun hno => ?_
            · rw [cmpIx_at hz hno he, decide_eq_true hz]
              exact ⟨rfl, rfl⟩
            · have hc := cmpIx_none hno
              obtain ⟨p1, p2, p3, p4⟩ := hp h0 h1 h2 h3 h4 hc
              rw [decide_eq_false hc]
              exact ⟨p1, fun w => arithV_any (byte0 x.op) (k, n, s) (l, m, t) w p2 p3 p4 ia ib⟩
          · have e : twoX (wordX x) x.op (k, n, s) (l, m, t) = catV (k, n, s) (l, m, t) := by unfold twoX; rw [h0, h1, h2, h3, h4]; rfl
            rw [e]
            exact ofTwo_cat x k n s l m t w h0 h1 h2 h3 h4 (by omega) (by omega)
        · have e : twoX (wordX x) x.op (k, n, s) (l, m, t) = ((l, m, t), 0) := by unfold twoX; rw [h0, h1, h2, h3]; rfl
          rw [e]
          exact ofTwo_if x k n s l m t w h0 h1 h2 h3
      · have e : twoX (wordX x) x.op (k, n, s) (l, m, t) = ((l, m, t), 0) := by unfold twoX; rw [h0, h1, h2]; rfl
        rw [e]
        exact ofTwo_either x k n s l m t w h0 h1 h2
    · have e : twoX (wordX x) x.op (k, n, s) (l, m, t) = (truthV (trueV (l, m, t)), 0) := by unfold twoX; rw [h0, h1]; rfl
      rw [e]
      exact ofTwo_or x k n s l m t w h0 h1
  · have e : twoX (wordX x) x.op (k, n, s) (l, m, t) = (truthV (trueV (l, m, t)), 0) := by unfold twoX; rw [h0]; rfl
    rw [e]
    exact ofTwo_and x k n s l m t w h0
end Go.Proofs.YteenhmniikloiaaDoor
namespace Go.Proofs.YteenhmniikloiaaDoor
open Go.RowKit

/-- The world of eval ahead of its calls: the expression's box, and the result's. -/
def evlW (w : World) (x : XT) : World := (boxE w x).alloc (.cells #[.int .i64 0, .int .i64 0, .string ⟨#[]⟩] 29)
theorem evlW_below (w : World) (x : XT) : Below w.heap.size w (evlW w x) := then_below (boxE_below w x) (Joins.below_alloc1 _ _)
theorem evlW_at {w : World} {x : XT} {w' : World} (h : Below (evlW w x).heap.size (evlW w x) w') :
    w'.cell? ⟨w.heap.size, 0, none⟩ = some (.int .i64 x.kind) ∧ w'.cell? ⟨w.heap.size, 1, none⟩ = some (.string x.name) ∧ w'.cell? ⟨w.heap.size, 2, none⟩ = some (.int .i64 x.val.1) ∧ w'.cell? ⟨w.heap.size, 3, none⟩ = some (.int .i64 x.val.2.1) ∧
    w'.cell? ⟨w.heap.size, 4, none⟩ = some (.string x.val.2.2) ∧ w'.cell? ⟨w.heap.size, 5, none⟩ = some (.string x.op) ∧ w'.cell? ⟨w.heap.size, 6, none⟩ = some (.slice x.adr x.args.length x.cap) ∧
    w'.cell? ⟨w.heap.size + 1, 0, none⟩ = some (.int .i64 0) ∧ w'.cell? ⟨w.heap.size + 1, 1, none⟩ = some (.int .i64 0) ∧ w'.cell? ⟨w.heap.size + 1, 2, none⟩ = some (.string ⟨#[]⟩) ∧
    w'.frozen? ⟨w.heap.size + 1, 0, none⟩ = false ∧ w'.frozen? ⟨w.heap.size + 1, 1, none⟩ = false ∧ w'.frozen? ⟨w.heap.size + 1, 2, none⟩ = false ∧ w.heap.size < w'.heap.size ∧ w.heap.size + 1 < w'.heap.size := by
  have hz : (boxE w x).heap.size = w.heap.size + 1 := by simp [boxE]
  have hz2 : (evlW w x).heap.size = w.heap.size + 2 := by unfold evlW; simp [hz]
  have hn : (evlW w x).heap[w.heap.size + 1]? = some (.cells #[.int .i64 0, .int .i64 0, .string ⟨#[]⟩] 29 (0, 0)) := by rw [← hz]; exact heap_alloc_new _ _
  have hs := h.size
  obtain ⟨c0, c1, c2, c3, c4, c5, c6, -⟩ := boxE_at (w := w) (x := x) (then_below (Joins.below_alloc1 _ _) h)
  have k1 := (h.block (w.heap.size + 1) (by omega)).trans hn
  exact ⟨c0, c1, c2, c3, c4, c5, c6, Lib.cell_of_heap k1 0, Lib.cell_of_heap k1 1, Lib.cell_of_heap k1 2, Lib.frozen_of_heap k1 0, Lib.frozen_of_heap k1 1, Lib.frozen_of_heap k1 2, by omega, by omega⟩
/-- The three cells of a value. -/
def At3 (w : World) (b : Nat) (v : Int × Int × ByteArray) : Prop := w.cell? ⟨b, 0, none⟩ = some (.int .i64 v.1) ∧ w.cell? ⟨b, 1, none⟩ = some (.int .i64 v.2.1) ∧ w.cell? ⟨b, 2, none⟩ = some (.string v.2.2) ∧ b < w.heap.size
theorem At3.on {w w' : World} {b : Nat} {v : Int × Int × ByteArray} (h : At3 w b v) (hb : Below w.heap.size w w') : At3 w' b v :=
  ⟨(hb.cell (p := ⟨b, 0, none⟩) h.2.2.2).trans h.1, (hb.cell (p := ⟨b, 1, none⟩) h.2.2.2).trans h.2.1, (hb.cell (p := ⟨b, 2, none⟩) h.2.2.2).trans h.2.2.1, Nat.lt_of_lt_of_le h.2.2.2 hb.size⟩

/-- What eval does at expressions up to this size. -/
def EvalOk (S : Option Addr) (c0 : Nat) (cs : List (ByteArray × Int)) (R : Option Addr) (c1 : Nat) (row : List (Int × Int × ByteArray)) (N : Nat) : Prop :=
  ∀ (x : XT) (d : Int) (w : World), szX x ≤ N → (typeX cs x d).2 = 0 → LiesX w.heap.size w x → wfX x → wfI x → ColsAt w.heap.size w S cs → RowAt w.heap.size w R row → Cmps w →
    Calls Tryd.prog 38 #[vX x, .slice S cs.length c0, .slice R row.length c1] w fun e w' => e = .returned (.tuple #[vOf (evalX cs row x).1, .int .i64 (evalX cs row x).2]) ∧ Below w.heap.size w w'
set_option maxHeartbeats 3200000 in
set_option maxRecDepth 100000 in
theorem eval_step (S : Option Addr) (c0 : Nat) (cs : List (ByteArray × Int)) (hwf : Wf cs) (R : Option Addr) (c1 : Nat) (row : List (Int × Int × ByteArray)) (hfit : rowFits cs row = true) (hw : WfR row) (N : Nat) (hih : EvalOk S c0 cs R c1 row N)
    (kd : Int) (nm : ByteArray) (v : Int × Int × ByteArray) (o : ByteArray) (A : Option Addr) (c : Nat) (ts : List XT) (d : Int) (w : World) (hN : szX (.mk kd nm v o A c ts) ≤ N + 1) (ht : (typeX cs (.mk kd nm v o A c ts) d).2 = 0) (hx : LiesX w.heap.size w (.mk kd nm v o A c ts)) (hfx : wfX (.mk kd nm v o A c ts)) (hfi : wfI (.mk kd nm v o A c ts))
    (hC : ColsAt w.heap.size w S cs) (hR : RowAt w.heap.size w R row) (hM : Cmps w) :
    Calls Tryd.prog 38 #[vX (.mk kd nm v o A c ts), .slice S cs.length c0, .slice R row.length c1] w fun e w' => e = .returned (.tuple #[vOf (evalX cs row (.mk kd nm v o A c ts)).1, .int .i64 (evalX cs row (.mk kd nm v o A c ts)).2]) ∧ Below w.heap.size w w' := by
  have ih := hide hih
  clear hih
  have hal := evlW_below w (.mk kd nm v o A c ts)
  have HAt := hide (fun w' => evlW_at (w := w) (x := .mk kd nm v o A c ts) (w' := w'))
  have HWE := hide (show evlW w (.mk kd nm v o A c ts) = (w.alloc (.cells (eCells kd nm v o A ts.length c) 32)).alloc (.cells #[.int .i64 0, .int .i64 0, .string ⟨#[]⟩] 29) from rfl)
  have HX0 := hide hx
  have HX := hide (hx.on hal)
  have HCo := hide (hC.on hal)
  have HRo := hide (hR.on hal)
  have HM := hide (hM.stays hal)
  have HL := hide hal
  have HEX := hide (show evalX cs row (.mk kd nm v o A c ts) = _ from by rw [evalX])
  have hVx : vX (.mk kd nm v o A c ts) = .agg (eCells kd nm v o A ts.length c) := rfl
  have hl := hwf.1
  have HRL := hide (fits_len hfit)
  unfold maxLen at hl
  show Calls Tryd.prog 38 #[.agg (eCells kd nm v o A ts.length c), .slice S cs.length c0, .slice R row.length c1] w _
  simp only [XT.kind, XT.name, XT.val, XT.op, XT.adr, XT.args, XT.cap] at HAt
  generalize hq : evalX cs row (.mk kd nm v o A c ts) = q at HEX ⊢
  by_cases h1 : kd = 1
  · have b1 : (kd == 1) = true := by rw [beq_iff_eq]; exact h1
    obtain ⟨hk, -⟩ := typeX_col ht h1
    simp only [XT.name] at hk
    have HFi := hide (fun w' h => (find_any S c0 cs nm w' h hwf.1).mono fun e w1 hh => (⟨by rw [hh.1, foundV_at hk rfl], hh.2⟩ : e = .returned (.tuple #[.int .i64 (findK cs nm : Nat), .bool true]) ∧ Below w'.heap.size w' w1))
    have HQ := hide (show q = (row.getD (findK cs nm) d3, 0) by rw [HEX.out, if_pos h1])
    generalize findK cs nm = i at *
    generalize evlW w (.mk kd nm v o A c ts) = W at *
    have hi1 : (i : Int) < (row.length : Int) := by have := HRL.out; omega
    have hi0 : (0 : Int) ≤ (i : Int) := by omega
    clear hx hfx hfi hC hR hal hVx h1 hM ht hN HEX
    go_enter Tryd.func38, Tryd.ntmps38
    obtain ⟨a0, a1, a2, a3, a4, a5, a6, r0, r1, r2, f0, f1, f2, hy, hz⟩ := HAt.out _ (Below.refl _ _)
    go_wp2_with fail
    rw [← HWE.out]
    refine (HFi.out _ HCo.out).mono ?_
    rintro e w2 ⟨rfl, hb2⟩
    have HB2 := hide hb2
    clear a0 a1 a2 a3 a4 a5 a6 r0 r1 r2 f0 f1 f2 hy hz
    obtain ⟨a0, a1, a2, a3, a4, a5, a6, r0, r1, r2, f0, f1, f2, hy, hz⟩ := HAt.out _ hb2
    obtain ⟨b, off, rfl, hb, g0, g1, g2⟩ := HRo.out.below hb2 i (by omega)
    generalize row.getD i (0, 0, ⟨#[]⟩) = y at *
    clear hb2
    go_wp2_with fail
    refine bodyPost_ret (v := .tuple #[vVal y.1 y.2.1 y.2.2, .int .i64 0]) (by simp [results, Tryd.results38, go_sem, r0, r1, r2]) rfl ⟨by rw [HQ.out], ?_⟩
    have hfin := HL.out.trans (HB2.out.mono HL.out.size)
    exact ((hfin.setCell (p := ⟨w.heap.size + 1, 0, none⟩) (by simp only; omega) _).setCell (p := ⟨w.heap.size + 1, 1, none⟩) (by simp only; omega) _).setCell (p := ⟨w.heap.size + 1, 2, none⟩) (by simp only; omega) _
  have b1 : (kd == 1) = false := by rw [beq_eq_false_iff_ne]; exact h1
  by_cases h2 : kd = 2
  · have b2 : (kd == 2) = true := by rw [beq_iff_eq]; exact h2
    have HQ := hide (show q = (v, 0) by rw [HEX.out, if_neg h1, if_pos h2])
    generalize evlW w (.mk kd nm v o A c ts) = W at *
    clear hx hfx hfi hC hR hal hVx h1 h2 hM ht hN HEX
    go_enter Tryd.func38, Tryd.ntmps38
    obtain ⟨a0, a1, a2, a3, a4, a5, a6, r0, r1, r2, f0, f1, f2, hy, hz⟩ := HAt.out _ (Below.refl _ _)
    go_wp2_with fail
    go_returns
    exact ⟨by rw [HQ.out], by go_grown⟩
  have b2 : (kd == 2) = false := by rw [beq_eq_false_iff_ne]; exact h2
  have hnl : ¬ ((XT.mk kd nm v o A c ts).kind = 1 ∨ (XT.mk kd nm v o A c ts).kind = 2) := by rintro (h | h); exact h1 h; exact h2 h
  obtain ⟨hd, hr, hk, hwd, hln, hsub, hXr⟩ := typeX_parts ht hnl
  have hrn := rule_n hr
  have HQ := hide (show q = partX (wordX (.mk kd nm v o A c ts)) o ts.length (evalsX cs row ts) by rw [HEX.out, if_neg h1, if_neg h2])
  have hop : (ruleX (.mk kd nm v o A c ts)).1.k = 4 → o = (ruleX (.mk kd nm v o A c ts)).1.w := fun h => by
    rw [← hwd]
    have : kd = 4 := hk.symm.trans h
    show o = if kd = 5 then nm else o
    rw [if_neg (by omega)]
  simp only [XT.args] at hln hsub
  have hIh := fun k (hk : k < ts.length) w' h4 h5 h6 h7 => ih.out (ts.getD k dX) (d + 1) w' (by have := szX_arg (x := .mk kd nm v o A c ts) hk; simp only [XT.args] at this; omega) (hsub k hk) h4 (wfXs_at hfx.2 hk) (wfIs_at hfi.2 hk) h5 h6 h7
  have HIh := hide (fun k (hk : k < ts.length) w' h4 h5 h6 h7 => (hIh k hk w' h4 h5 h6 h7).mono fun e w1 hh => (⟨by rw [hh.1, evalsX_at cs row ts k hk], hh.2⟩ : e = .returned (.tuple #[vOf ((evalsX cs row ts).getD k (d3, 0)).1, .int .i64 ((evalsX cs row ts).getD k (d3, 0)).2]) ∧ Below w'.heap.size w' w1))
  have HOk := hide (fun k (hk : k < ts.length) (h : ((evalsX cs row ts).getD k (d3, 0)).2 = 0) => (by
    have e := argT_at (cs := cs) (x := .mk kd nm v o A c ts) (d := d) hk
    simp only [XT.args] at e
    rw [e]
    rw [evalsX_at cs row ts k hk] at h ⊢
    exact eval_sound hfit hw _ (ts.getD k dX) (d + 1) (Nat.le_refl _) (wfIs_at hfi.2 hk) (hsub k hk) h : okV (argT cs (.mk kd nm v o A c ts) d k) ((evalsX cs row ts).getD k (d3, 0)).1))
  have HOne := hide (fun v' w' h1 h2 => ofOne_any (.mk kd nm v o A c ts) v' w' h1 h2)
  have HSet := hide (fun v' w' => settle_any (.mk kd nm v o A c ts) v' w')
  have HNx := hide (show ∀ (v' : Int × Int × ByteArray) (w' : World), LiesX w'.heap.size w' (.mk kd nm v o A c ts) → nextW (wordX (.mk kd nm v o A c ts)) v' < ts.length → Calls Tryd.prog 60 #[vX (.mk kd nm v o A c ts), vOf v'] w' fun e w1 => e = .returned (vX (ts.getD (nextW (wordX (.mk kd nm v o A c ts)) v') dX)) ∧ Below w'.heap.size w' w1 from fun v' w' h1 h2 => next_any (.mk kd nm v o A c ts) v'.1 v'.2.1 v'.2.2 w' h1 h2)
  have HTwo := hide (fun a b w' h1 h2 h3 h4 h5 h6 => ofTwo_any (.mk kd nm v o A c ts) a b w' h1 h2 h3 h4 h5 h6)
  simp only [XT.op] at HTwo
  rw [hwd] at HQ HOne HSet HNx HTwo
  rw [hVx] at HOne HSet HNx HTwo
  have H1s := hide (fun (hn : (ruleX (.mk kd nm v o A c ts)).1.n = 1) a ha => (one_sound (v := a) hr hn hXr ha).1)
  have H2s := hide (fun (hn : (ruleX (.mk kd nm v o A c ts)).1.n = 2 ∨ (ruleX (.mk kd nm v o A c ts)).1.n = 3) a b ha hb => (two_sound (a := a) (b := b) (op := o) hr hn hop hXr ha hb).1)
  have HLt := hide (fun (hn : (ruleX (.mk kd nm v o A c ts)).1.n = 2 ∨ (ruleX (.mk kd nm v o A c ts)).1.n = 3) a => next_lt (v := a) hr hn)
  have HN12 := hide (fun a => nextW_12 (ruleX (.mk kd nm v o A c ts)).1.w a)
  generalize evalsX cs row ts = L at *
  generalize (ruleX (.mk kd nm v o A c ts)).1 = r at *
  generalize argT cs (.mk kd nm v o A c ts) d = tt at *
  generalize evlW w (.mk kd nm v o A c ts) = W at *
  have hlen0 : 0 < ts.length := by omega
  have hlen0' : (0 : Int) < (ts.length : Int) := by omega
  have HLN := hide hln
  have HRN := hide hrn
  clear hx hfx hfi hC hR hal hVx hM ht hN HEX hIh ih hr hk hwd hln hrn hsub hXr hop hnl h1 h2 hd hq
  obtain ⟨b, off, hadr, hb, h7, -⟩ := HX0.out.at (j := 0) hlen0
  obtain ⟨-, -, -, -, -, hly⟩ := HX.out.at (j := 0) hlen0
  simp only [XT.adr, XT.args] at hadr h7 hly
  subst hadr
  rw [show off + 0 * 7 = off by omega] at h7
  have HLY := hide hly
  clear HX0
  have HI0 := hide (HIh.out 0 hlen0)
  have HO0 := hide (HOk.out 0 hlen0)
  generalize ts.getD 0 dX = y at *
  obtain ⟨g0, g1, g2, g3, g4, g5, g6⟩ := h7
  unfold partX at HQ
  generalize L.getD 0 (d3, 0) = f at *
  obtain ⟨f, fe⟩ := f
  simp only at HQ HI0 HO0
  go_enter Tryd.func38, Tryd.ntmps38
  obtain ⟨a0, a1, a2, a3, a4, a5, a6, r0, r1, r2, f0, f1, f2, hy, hz⟩ := HAt.out _ (Below.refl _ _)
  go_wp2_with fail
  rw [← HWE.out]
  refine (HI0.out _ HLY.out HCo.out HRo.out HM.out).mono ?_
  rintro e w3 ⟨rfl, hb3⟩
  have HB3 := hide hb3
  clear a0 a1 a2 a3 a4 a5 a6 r0 r1 r2 f0 f1 f2 hy hz
  clear g0 g1 g2 g3 g4 g5 g6 hly
  obtain ⟨a0, a1, a2, a3, a4, a5, a6, r0, r1, r2, f0, f1, f2, hy, hz⟩ := HAt.out _ hb3
  clear hb3
  by_cases hf : fe = 0
  · subst hf
    rw [if_pos rfl] at HQ
    have HO := hide (HO0.out rfl)
    have HSz := hide (okV_size HO.out)
    have hb4 := Joins.below_alloc1 w3 (.cells #[.int .i64 f.1, .int .i64 f.2.1, .string f.2.2] 29)
    have HB4 := hide (then_below HB3.out hb4)
    have HB4N := hide (show At3 (w3.alloc (.cells #[.int .i64 f.1, .int .i64 f.2.1, .string f.2.2] 29)) w3.heap.size f from ⟨by simp, by simp, by simp, by simp⟩)
    clear hb4
    by_cases hn1 : ts.length = 1
    · have bl : ((ts.length : Int) == 1) = true := by rw [beq_iff_eq]; omega
      rw [if_pos hn1] at HQ
      have HP := hide (H1s.out (by have := HLN.out; omega) f HO.out)
      clear hn1
      go_wp2_with fail
      generalize (w3.alloc (.cells #[.int .i64 f.1, .int .i64 f.2.1, .string f.2.2] 29)) = W4 at *
      refine (HOne.out f W4 (by have := HSz.out; unfold maxLen; omega) HP.out).mono ?_
      rintro e w5 ⟨rfl, hb5⟩
      have HB5 := hide (then_below HB4.out hb5)
      clear a0 a1 a2 a3 a4 a5 a6 r0 r1 r2 f0 f1 f2 hy hz
      obtain ⟨a0, a1, a2, a3, a4, a5, a6, r0, r1, r2, f0, f1, f2, hy, hz⟩ := HAt.out _ HB5.out
      clear hb5
      generalize oneX r.w f = z at *
      go_wp2_with fail
      refine bodyPost_ret (v := .tuple #[vOf z.1, .int .i64 z.2]) (by simp [results, Tryd.results38, go_sem, r0, r1, r2]) rfl ⟨by rw [HQ.out], ?_⟩
      have hfin := HL.out.trans (HB5.out.mono HL.out.size)
      exact ((hfin.setCell (p := ⟨w.heap.size + 1, 0, none⟩) (by simp only; omega) _).setCell (p := ⟨w.heap.size + 1, 1, none⟩) (by simp only; omega) _).setCell (p := ⟨w.heap.size + 1, 2, none⟩) (by simp only; omega) _
    · have bl : ((ts.length : Int) == 1) = false := by rw [beq_eq_false_iff_ne]; omega
      rw [if_neg hn1] at HQ
      have HN23 := hide (show r.n = 2 ∨ r.n = 3 by have := HLN.out; have := HRN.out; omega)
      clear hn1
      go_wp2_with fail
      generalize (w3.alloc (.cells #[.int .i64 f.1, .int .i64 f.2.1, .string f.2.2] 29)) = W4 at *
      generalize w3.heap.size = Q at *
      refine (HSet.out f W4).mono ?_
      rintro e w5 ⟨rfl, hb5⟩
      have HB5 := hide (then_below HB4.out hb5)
      have HB5N := hide (HB4N.out.on hb5)
      clear a0 a1 a2 a3 a4 a5 a6 r0 r1 r2 f0 f1 f2 hy hz
      obtain ⟨a0, a1, a2, a3, a4, a5, a6, r0, r1, r2, f0, f1, f2, hy, hz⟩ := HAt.out _ HB5.out
      obtain ⟨x0, x1, x2, xz⟩ := HB5N.out
      clear hb5
      generalize settleV r.w f = sv at *
      obtain ⟨sv, sb⟩ := sv
      simp only at HQ
      cases sb
      · rw [if_neg (by simp)] at HQ
        have hb6 := Joins.below_alloc1 w5 (.cells #[.int .i64 sv.1, .int .i64 sv.2.1, .string sv.2.2] 29)
        have HB6 := hide (then_below HB5.out hb6)
        have HB6N := hide (HB5N.out.on hb6)
        have HL2 := hide (HLt.out HN23.out f)
        have HNk := hide (HN12.out f)
        clear hb6
        go_wp2_with fail
        generalize (w5.alloc (.cells #[.int .i64 sv.1, .int .i64 sv.2.1, .string sv.2.2] 29)) = W6 at *
        have hnl2 : nextW r.w f < ts.length := by have h1 := HL2.out; have h2 := HLN.out; omega
        have HI2 := hide (HIh.out (nextW r.w f) hnl2)
        have HO2 := hide (HOk.out (nextW r.w f) hnl2)
        have HN6 := hide (HNx.out f W6 (HX.out.on HB6.out) hnl2)
        have HL6 := hide ((HX.out.on HB6.out).at (j := nextW r.w f) hnl2)
        simp only [XT.args] at HL6
        generalize ts.getD (nextW r.w f) dX = y2 at *
        refine HN6.out.mono ?_
        rintro e w7 ⟨rfl, hb7⟩
        have HB7 := hide (then_below HB6.out hb7)
        have HB7N := hide (HB6N.out.on hb7)
        have HL7 := hide (show LiesX w7.heap.size w7 y2 by obtain ⟨_, _, _, _, _, h⟩ := HL6.out; exact h.on hb7)
        clear a0 a1 a2 a3 a4 a5 a6 r0 r1 r2 f0 f1 f2 hy hz
        clear x0 x1 x2 xz
        obtain ⟨a0, a1, a2, a3, a4, a5, a6, r0, r1, r2, f0, f1, f2, hy, hz⟩ := HAt.out _ HB7.out
        obtain ⟨x0, x1, x2, xz⟩ := HB7N.out
        clear hb7
        go_wp2_with fail
        refine (HI2.out _ HL7.out (HCo.out.on HB7.out) (HRo.out.on HB7.out) (HM.out.stays HB7.out)).mono ?_
        rintro e w8 ⟨rfl, hb8⟩
        have HB8 := hide (then_below HB7.out hb8)
        have HB8N := hide (HB7N.out.on hb8)
        clear a0 a1 a2 a3 a4 a5 a6 r0 r1 r2 f0 f1 f2 hy hz
        clear x0 x1 x2 xz
        obtain ⟨a0, a1, a2, a3, a4, a5, a6, r0, r1, r2, f0, f1, f2, hy, hz⟩ := HAt.out _ HB8.out
        obtain ⟨x0, x1, x2, xz⟩ := HB8N.out
        clear hb8
        have HTy := hide (show okV (if nextW r.w f = 2 then tt 2 else tt 1) (L.getD (nextW r.w f) (d3, 0)).1 ∨ ¬ (L.getD (nextW r.w f) (d3, 0)).2 = 0 by
          by_cases hg : (L.getD (nextW r.w f) (d3, 0)).2 = 0
          · left
            have := HO2.out hg
            rcases HNk.out with h | h <;> (rw [h] at this ⊢; exact this)
          · exact .inr hg)
        generalize L.getD (nextW r.w f) (d3, 0) = g at *
        obtain ⟨g, ge⟩ := g
        simp only at HQ HTy
        by_cases hg : ge = 0
        · subst hg
          rw [if_pos rfl] at HQ
          have HG := hide (show okV (if nextW r.w f = 2 then tt 2 else tt 1) g by rcases HTy.out with h | h; exact h; exact absurd rfl h)
          have hb9 := Joins.below_alloc1 w8 (.cells #[.int .i64 g.1, .int .i64 g.2.1, .string g.2.2] 29)
          have HB9 := hide (then_below HB8.out hb9)
          clear hb9
          go_wp2_with fail
          generalize (w8.alloc (.cells #[.int .i64 g.1, .int .i64 g.2.1, .string g.2.2] 29)) = W9 at *
          refine (HTwo.out f g W9 (HM.out.stays HB9.out) HSz.out (okV_size HG.out) (okV_i64 HO.out) (okV_i64 HG.out) (H2s.out HN23.out f g HO.out HG.out)).mono ?_
          rintro e w10 ⟨rfl, hb10⟩
          have HB10 := hide (then_below HB9.out hb10)
          clear a0 a1 a2 a3 a4 a5 a6 r0 r1 r2 f0 f1 f2 hy hz
          clear x0 x1 x2 xz
          obtain ⟨a0, a1, a2, a3, a4, a5, a6, r0, r1, r2, f0, f1, f2, hy, hz⟩ := HAt.out _ HB10.out
          clear hb10
          generalize twoX r.w o f g = z at *
          go_wp2_with fail
          refine bodyPost_ret (v := .tuple #[vOf z.1, .int .i64 z.2]) (by simp [results, Tryd.results38, go_sem, r0, r1, r2]) rfl ⟨by rw [HQ.out], ?_⟩
          have hfin := HL.out.trans (HB10.out.mono HL.out.size)
          exact ((hfin.setCell (p := ⟨w.heap.size + 1, 0, none⟩) (by simp only; omega) _).setCell (p := ⟨w.heap.size + 1, 1, none⟩) (by simp only; omega) _).setCell (p := ⟨w.heap.size + 1, 2, none⟩) (by simp only; omega) _
        · rw [if_neg hg] at HQ
          have bg : (ge != 0) = true := by rw [bne_iff_ne]; exact hg
          have hb9 := Joins.below_alloc1 w8 (.cells #[.int .i64 g.1, .int .i64 g.2.1, .string g.2.2] 29)
          have HB9 := hide (then_below HB8.out hb9)
          clear hb9
          go_wp2_with fail
          refine bodyPost_ret (v := .tuple #[vVal 0 0 ⟨#[]⟩, .int .i64 ge]) (by simp [results, Tryd.results38, go_sem, r0, r1, r2, hz]) rfl ⟨by rw [HQ.out], ?_⟩
          have hfin := HL.out.trans (HB8.out.mono HL.out.size)
          have hfz := hfin.size
          refine Below.alloc (((hfin.setCell (p := ⟨w.heap.size + 1, 0, none⟩) (by simp only; omega) _).setCell (p := ⟨w.heap.size + 1, 1, none⟩) (by simp only; omega) _).setCell (p := ⟨w.heap.size + 1, 2, none⟩) (by simp only; omega) _) ?_ _
          simp <;> omega
      · rw [if_pos rfl] at HQ
        have hb6 := Joins.below_alloc1 w5 (.cells #[.int .i64 sv.1, .int .i64 sv.2.1, .string sv.2.2] 29)
        have HB6 := hide (then_below HB5.out hb6)
        clear hb6
        go_wp2_with fail
        refine bodyPost_ret (v := .tuple #[vOf sv, .int .i64 0]) (by simp [results, Tryd.results38, go_sem, r0, r1, r2, hz]) rfl ⟨by rw [HQ.out], ?_⟩
        have hfin := HL.out.trans (HB5.out.mono HL.out.size)
        have hfz := hfin.size
        refine Below.alloc (((hfin.setCell (p := ⟨w.heap.size + 1, 0, none⟩) (by simp only; omega) _).setCell (p := ⟨w.heap.size + 1, 1, none⟩) (by simp only; omega) _).setCell (p := ⟨w.heap.size + 1, 2, none⟩) (by simp only; omega) _) ?_ _
        simp <;> omega
  · rw [if_neg hf] at HQ
    have bf : (fe != 0) = true := by rw [bne_iff_ne]; exact hf
    have hb4 := Joins.below_alloc1 w3 (.cells #[.int .i64 f.1, .int .i64 f.2.1, .string f.2.2] 29)
    have HB4 := hide (then_below HB3.out hb4)
    have HB4N := hide (show At3 (w3.alloc (.cells #[.int .i64 f.1, .int .i64 f.2.1, .string f.2.2] 29)) w3.heap.size f from ⟨by simp, by simp, by simp, by simp⟩)
    clear hb4
    go_wp2_with fail
    refine bodyPost_ret (v := .tuple #[vVal 0 0 ⟨#[]⟩, .int .i64 fe]) (by simp [results, Tryd.results38, go_sem, r0, r1, r2, hz]) rfl ⟨by rw [HQ.out], ?_⟩
    have hfin := HL.out.trans (HB3.out.mono HL.out.size)
    have hfz := hfin.size
    refine Below.alloc (((hfin.setCell (p := ⟨w.heap.size + 1, 0, none⟩) (by simp only; omega) _).setCell (p := ⟨w.heap.size + 1, 1, none⟩) (by simp only; omega) _).setCell (p := ⟨w.heap.size + 1, 2, none⟩) (by simp only; omega) _) ?_ _
    simp <;> omega
theorem eval_any (S : Option Addr) (c0 : Nat) (cs : List (ByteArray × Int)) (hwf : Wf cs) (R : Option Addr) (c1 : Nat) (row : List (Int × Int × ByteArray)) (hfit : rowFits cs row = true) (hw : WfR row) (N : Nat) : EvalOk S c0 cs R c1 row N := by
  induction N with
  | zero => intro x _ _ hN; have := szX_pos x; omega
  | succ N ih =>
    intro x d w hN ht hx hfx hfi hC hR hM
    obtain ⟨kd, nm, v, o, A, c, ts⟩ := x
    exact eval_step S c0 cs hwf R c1 row hfit hw N ih kd nm v o A c ts d w hN ht hx hfx hfi hC hR hM
end Go.Proofs.YteenhmniikloiaaDoor
namespace Go.Proofs.YteenhmniikloiaaDoor
open Go.RowKit

def evalTop (cs : List (ByteArray × Int)) (row : List (Int × Int × ByteArray)) (x : XT) : (Int × Int × ByteArray) × Int :=
  if (typeTop cs x).2 = 0 then (if fitsB cs row = true then evalX cs row x else (d3, 12)) else (d3, (typeTop cs x).2)
theorem typeTop_ok {cs : List (ByteArray × Int)} {x : XT} (h : (typeTop cs x).2 = 0) : checkC cs = 0 ∧ szX x ≤ 256 ∧ (typeX cs x 1).2 = 0 ∧ typeTop cs x = typeX cs x 1 := by
  unfold typeTop at h ⊢
  by_cases hc : checkC cs = 0
  · rw [if_pos hc] at h ⊢
    by_cases hz : 256 < szX x
    · rw [if_pos hz] at h; simp at h
    · rw [if_neg hz] at h ⊢
      exact ⟨hc, by omega, h, rfl⟩
  · rw [if_neg hc] at h; exact absurd h hc
theorem fitsB_row {cs : List (ByteArray × Int)} {row : List (Int × Int × ByteArray)} (h : fitsB cs row = true) : rowFits cs row = true := by
  unfold fitsB at h
  simp only [Bool.and_eq_true] at h
  exact h.2
set_option maxHeartbeats 3200000 in
set_option maxRecDepth 100000 in
theorem evalTop_any (S : Option Addr) (c0 : Nat) (cs : List (ByteArray × Int)) (hwf : Wf cs) (R : Option Addr) (c1 : Nat) (row : List (Int × Int × ByteArray)) (hw : WfR row) (x : XT) (w : World) (hz : szX x ≤ 1000000) (hx : LiesX w.heap.size w x) (hfx : wfX x) (hfi : wfI x)
    (hC : ColsAt w.heap.size w S cs) (hR : RowAt w.heap.size w R row) (hM : Cmps w) (hRl : Rls w) :
    Calls Tryd.prog 18 #[vX x, .slice S cs.length c0, .slice R row.length c1] w fun e w' => e = .returned (.tuple #[vOf (evalTop cs row x).1, .int .i64 (evalTop cs row x).2]) ∧ Below w.heap.size w w' := by
  have hal := evlW_below w x
  have HAt := hide (fun w' => evlW_at (w := w) (x := x) (w' := w'))
  have HL := hide hal
  have HTy := hide (type_any S c0 cs x _ hwf hz (hx.on hal) hfx (hC.on hal) (hRl.stays hal))
  have HFt := hide (fun w' (h : Below (evlW w x).heap.size (evlW w x) w') => fits_any S R c0 c1 cs row w' ((hC.on hal).on h) ((hR.on hal).on h) hwf hw)
  have HEv := hide (fun (h1 : (typeTop cs x).2 = 0) (h2 : fitsB cs row = true) w' (h : Below (evlW w x).heap.size (evlW w x) w') => eval_any S c0 cs hwf R c1 row (fitsB_row h2) hw (szX x) x 1 w' (Nat.le_refl _) (typeTop_ok h1).2.2.1 ((hx.on hal).on h) hfx hfi ((hC.on hal).on h) ((hR.on hal).on h) ((hM.stays hal).stays h))
  have HX := hide (show evalTop cs row x = if (typeTop cs x).2 = 0 then (if fitsB cs row = true then evalX cs row x else (d3, 12)) else (d3, (typeTop cs x).2) from rfl)
  obtain ⟨kd, nm, v, o, A, c, ts⟩ := x
  have HWE := hide (show evlW w (.mk kd nm v o A c ts) = (w.alloc (.cells (eCells kd nm v o A ts.length c) 32)).alloc (.cells #[.int .i64 0, .int .i64 0, .string ⟨#[]⟩] 29) from rfl)
  have hVx : vX (.mk kd nm v o A c ts) = .agg (eCells kd nm v o A ts.length c) := rfl
  rw [hVx] at HTy HEv ⊢
  simp only [XT.kind, XT.name, XT.val, XT.op, XT.adr, XT.args, XT.cap] at HAt
  generalize evalTop cs row (.mk kd nm v o A c ts) = q at *
  generalize typeTop cs (.mk kd nm v o A c ts) = ty at *
  generalize evalX cs row (.mk kd nm v o A c ts) = ev at *
  generalize fitsB cs row = fb at *
  generalize evlW w (.mk kd nm v o A c ts) = W at *
  obtain ⟨ty, te⟩ := ty
  obtain ⟨ev, ee⟩ := ev
  simp only at HX HTy HEv
  clear hx hfx hfi hC hR hM hRl hal hVx hz
  by_cases ht : te = 0
  · subst ht
    rw [if_pos rfl] at HX
    cases fb
    · have HQ := hide (show q = (d3, 12) by rw [HX.out]; rfl)
      clear HX
      go_enter Tryd.func18, Tryd.ntmps18
      obtain ⟨a0, a1, a2, a3, a4, a5, a6, r0, r1, r2, f0, f1, f2, hy, hz⟩ := HAt.out _ (Below.refl _ _)
      go_wp2_with fail
      rw [← HWE.out]
      refine HTy.out.mono ?_
      rintro e w3 ⟨rfl, hb3⟩
      have HB3 := hide hb3
      clear a0 a1 a2 a3 a4 a5 a6 r0 r1 r2 f0 f1 f2 hy hz
      obtain ⟨a0, a1, a2, a3, a4, a5, a6, r0, r1, r2, f0, f1, f2, hy, hz⟩ := HAt.out _ hb3
      clear hb3
      go_wp2_with fail
      refine (HFt.out _ HB3.out).mono ?_
      rintro e w4 ⟨rfl, hb4⟩
      have HB4 := hide (then_below HB3.out hb4)
      clear a0 a1 a2 a3 a4 a5 a6 r0 r1 r2 f0 f1 f2 hy hz
      obtain ⟨a0, a1, a2, a3, a4, a5, a6, r0, r1, r2, f0, f1, f2, hy, hz⟩ := HAt.out _ HB4.out
      clear hb4
      go_wp2_with fail
      refine bodyPost_ret (v := .tuple #[vVal 0 0 ⟨#[]⟩, .int .i64 12]) (by simp [results, Tryd.results18, go_sem, r0, r1, r2]) rfl ⟨by rw [HQ.out], ?_⟩
      have hfin := HL.out.trans (HB4.out.mono HL.out.size)
      exact ((hfin.setCell (p := ⟨w.heap.size + 1, 0, none⟩) (by simp only; omega) _).setCell (p := ⟨w.heap.size + 1, 1, none⟩) (by simp only; omega) _).setCell (p := ⟨w.heap.size + 1, 2, none⟩) (by simp only; omega) _
    · have HQ := hide (show q = (ev, ee) by rw [HX.out]; rfl)
      clear HX
      go_enter Tryd.func18, Tryd.ntmps18
      obtain ⟨a0, a1, a2, a3, a4, a5, a6, r0, r1, r2, f0, f1, f2, hy, hz⟩ := HAt.out _ (Below.refl _ _)
      go_wp2_with fail
      rw [← HWE.out]
      refine HTy.out.mono ?_
      rintro e w3 ⟨rfl, hb3⟩
      have HB3 := hide hb3
      clear a0 a1 a2 a3 a4 a5 a6 r0 r1 r2 f0 f1 f2 hy hz
      obtain ⟨a0, a1, a2, a3, a4, a5, a6, r0, r1, r2, f0, f1, f2, hy, hz⟩ := HAt.out _ hb3
      clear hb3
      go_wp2_with fail
      refine (HFt.out _ HB3.out).mono ?_
      rintro e w4 ⟨rfl, hb4⟩
      have HB4 := hide (then_below HB3.out hb4)
      clear a0 a1 a2 a3 a4 a5 a6 r0 r1 r2 f0 f1 f2 hy hz
      obtain ⟨a0, a1, a2, a3, a4, a5, a6, r0, r1, r2, f0, f1, f2, hy, hz⟩ := HAt.out _ HB4.out
      clear hb4
      go_wp2_with fail
      refine (HEv.out trivial trivial _ HB4.out).mono ?_
      rintro e w5 ⟨rfl, hb5⟩
      have HB5 := hide (then_below HB4.out hb5)
      clear a0 a1 a2 a3 a4 a5 a6 r0 r1 r2 f0 f1 f2 hy hz
      obtain ⟨a0, a1, a2, a3, a4, a5, a6, r0, r1, r2, f0, f1, f2, hy, hz⟩ := HAt.out _ HB5.out
      clear hb5
      go_wp2_with fail
      refine bodyPost_ret (v := .tuple #[vOf ev, .int .i64 ee]) (by simp [results, Tryd.results18, go_sem, r0, r1, r2]) rfl ⟨by rw [HQ.out], ?_⟩
      have hfin := HL.out.trans (HB5.out.mono HL.out.size)
      exact ((hfin.setCell (p := ⟨w.heap.size + 1, 0, none⟩) (by simp only; omega) _).setCell (p := ⟨w.heap.size + 1, 1, none⟩) (by simp only; omega) _).setCell (p := ⟨w.heap.size + 1, 2, none⟩) (by simp only; omega) _
  · have bt : (te != 0) = true := by rw [bne_iff_ne]; exact ht
    have HQ := hide (show q = (d3, te) by rw [HX.out, if_neg ht])
    clear HX ht
    go_enter Tryd.func18, Tryd.ntmps18
    obtain ⟨a0, a1, a2, a3, a4, a5, a6, r0, r1, r2, f0, f1, f2, hy, hz⟩ := HAt.out _ (Below.refl _ _)
    go_wp2_with fail
    rw [← HWE.out]
    refine HTy.out.mono ?_
    rintro e w3 ⟨rfl, hb3⟩
    have HB3 := hide hb3
    clear a0 a1 a2 a3 a4 a5 a6 r0 r1 r2 f0 f1 f2 hy hz
    obtain ⟨a0, a1, a2, a3, a4, a5, a6, r0, r1, r2, f0, f1, f2, hy, hz⟩ := HAt.out _ hb3
    clear hb3
    go_wp2_with fail
    refine bodyPost_ret (v := .tuple #[vVal 0 0 ⟨#[]⟩, .int .i64 te]) (by simp [results, Tryd.results18, go_sem, r0, r1, r2]) rfl ⟨by rw [HQ.out], ?_⟩
    have hfin := HL.out.trans (HB3.out.mono HL.out.size)
    exact ((hfin.setCell (p := ⟨w.heap.size + 1, 0, none⟩) (by simp only; omega) _).setCell (p := ⟨w.heap.size + 1, 1, none⟩) (by simp only; omega) _).setCell (p := ⟨w.heap.size + 1, 2, none⟩) (by simp only; omega) _
end Go.Proofs.YteenhmniikloiaaDoor
namespace Go.Proofs.YteenhmniikloiaaDoor
open Go.RowKit

theorem typesX_same {cs : List (ByteArray × Int)} {d e : Int} : ∀ (l : List XT), (∀ k, k < l.length → typeX cs (l.getD k dX) d = typeX cs (l.getD k dX) e) → typesX cs l d = typesX cs l e
  | [], _ => rfl
  | x :: r, h => by
    show typeX cs x d :: typesX cs r d = typeX cs x e :: typesX cs r e
    rw [show typeX cs x d = typeX cs x e from h 0 (by simp), typesX_same r (fun k hk => h (k + 1) (by simpa using hk))]
theorem typeX_mono (cs : List (ByteArray × Int)) : ∀ (N : Nat) (x : XT) (d : Int), szX x ≤ N → (typeX cs x (d + 1)).2 = 0 → typeX cs x d = typeX cs x (d + 1)
  | 0, x, d, hN, _ => by have := szX_pos x; omega
  | N + 1, .mk kd nm v o A c ts, d, hN, h => by
    have hsub := fun h1 => (typeX_parts h h1).2.2.2.2.2.1
    have ih := fun k (hk : k < ts.length) => typeX_mono cs N (ts.getD k dX) (d + 1) (by have := szX_arg (x := .mk kd nm v o A c ts) hk; simp only [XT.args] at this; omega)
    simp only [XT.kind, XT.args] at hsub
    rw [typeX] at h
    rw [typeX, typeX]
    by_cases hd : 32 < d + 1
    · rw [if_pos hd] at h; simp at h
    rw [if_neg hd] at h ⊢
    rw [if_neg (show ¬ 32 < d by omega)]
    by_cases hfo : formedX (.mk kd nm v o A c ts) = false
    · rw [if_pos hfo] at h; simp at h
    rw [if_neg hfo, if_neg hfo]
    by_cases h1 : kd = 1
    · rw [if_pos h1, if_pos h1]
    rw [if_neg h1, if_neg h1]
    by_cases h2 : kd = 2
    · rw [if_pos h2, if_pos h2]
    rw [if_neg h2, if_neg h2]
    rw [typesX_same ts (fun k hk => ih k hk (hsub (by rintro (e | e); exact h1 e; exact h2 e) k hk))]
theorem evalTop_of {cs : List (ByteArray × Int)} {row : List (Int × Int × ByteArray)} {x : XT} (h : (typeTop cs x).2 = 0) (hf : fitsB cs row = true) : evalTop cs row x = evalX cs row x := by
  unfold evalTop; rw [if_pos h, if_pos hf]
theorem typeTop_arg {cs : List (ByteArray × Int)} {x : XT} {k : Nat} (h : (typeTop cs x).2 = 0) (h1 : ¬ (x.kind = 1 ∨ x.kind = 2)) (hk : k < x.args.length) : (typeTop cs (x.args.getD k dX)).2 = 0 := by
  obtain ⟨hc, hz, ht, -⟩ := typeTop_ok h
  have hs := (typeX_parts ht h1).2.2.2.2.2.1 k hk
  have hz2 := szX_arg hk
  have hm := typeX_mono cs _ (x.args.getD k dX) 1 (Nat.le_refl _) hs
  unfold typeTop
  rw [if_pos hc, if_neg (by omega), hm]
  exact hs
theorem evalTop_arg {cs : List (ByteArray × Int)} {row : List (Int × Int × ByteArray)} {x : XT} {k : Nat} (h : (typeTop cs x).2 = 0) (hf : fitsB cs row = true) (h1 : ¬ (x.kind = 1 ∨ x.kind = 2)) (hk : k < x.args.length) : evalTop cs row (x.args.getD k dX) = evalX cs row (x.args.getD k dX) :=
  evalTop_of (typeTop_arg h h1 hk) hf
end Go.Proofs.YteenhmniikloiaaDoor
