/-
  What a typed expression comes to is of its type; what its parts then may be.
-/
import Derived.Test.YtpohofcfmllghaaDoorEEvalM
namespace Go.Proofs.YtpohofcfmllghaaDoor
open Go.RowKit

theorem bytes_eq {s t : ByteArray} (h : s.toList = t.toList) : s = t := by
  rw [Lib.toList_data, Lib.toList_data] at h
  rw [of_data h]
theorem rule_mem {x : XT} (h1 : ¬ (x.kind = 1 ∨ x.kind = 2)) (h : (ruleX x).2 = true) : (ruleX x).1 ∈ rulesL ∧ (ruleX x).1.k = x.kind ∧ wordX x = (ruleX x).1.w := by
  unfold ruleX at *
  rw [if_neg h1] at *
  cases hr : ruleOf x.kind (wordX x) with
  | none => rw [hr] at h; cases h
  | some r =>
    unfold ruleOf at hr
    have hm := List.mem_of_find?_eq_some hr
    have hp := List.find?_some hr
    unfold hitR at hp
    simp only [Bool.and_eq_true, beq_iff_eq] at hp
    exact ⟨hm, hp.1, (bytes_eq hp.2).symm⟩
theorem errOf_zero : ∀ (l : List (Int × Int)), errOf l = 0 → ∀ j, j < l.length → (l.getD j (0, 0)).2 = 0
  | [], _, j, h => by simp at h
  | x :: r, h, 0, _ => by
    unfold errOf at h
    show x.2 = 0
    split at h
    · assumption
    · exact h
  | x :: r, h, j + 1, hj => by
    unfold errOf at h
    split at h
    · exact errOf_zero r h j (by simpa using hj)
    · rename_i hx; exact absurd h hx
/-- The types that the arguments have. -/
def argT (cs : List (ByteArray × Int)) (x : XT) (d : Int) (j : Nat) : Int := tyAt (typesX cs x.args (d + 1)) j
theorem argT_at {cs : List (ByteArray × Int)} {x : XT} {d : Int} {j : Nat} (h : j < x.args.length) : argT cs x d j = (typeX cs (x.args.getD j dX) (d + 1)).1 := by
  unfold argT tyAt; rw [typesX_at cs (d + 1) x.args j h]
/-- What the type of an expression that is no column and no constant says of its parts. -/
theorem typeX_parts {cs : List (ByteArray × Int)} {x : XT} {d : Int} (h : (typeX cs x d).2 = 0) (h1 : ¬ (x.kind = 1 ∨ x.kind = 2)) :
    d ≤ 32 ∧ (ruleX x).1 ∈ rulesL ∧ (ruleX x).1.k = x.kind ∧ wordX x = (ruleX x).1.w ∧ (x.args.length : Int) = (ruleX x).1.n ∧ (∀ k, k < x.args.length → (typeX cs (x.args.getD k dX) (d + 1)).2 = 0) ∧
    resX (ruleX x).1 [argT cs x d 0, argT cs x d 1, argT cs x d 2] = ((typeX cs x d).1, true) := by
  have hru := rule_mem h1
  have hf := fun h => (formed_len (x := x) h).1
  have hf2 : formedX x = true → (ruleX x).2 = true := fun h => by
    unfold formedX at h
    simp only [Bool.and_eq_true] at h
    exact h.1
  have hat := fun k hk => typesX_at cs (d + 1) x.args k hk
  have hlen := typesX_len cs (d + 1) x.args
  unfold argT
  obtain ⟨kd, nm, v, o, A, c, ts⟩ := x
  simp only [XT.kind, XT.args] at *
  rw [typeX] at h ⊢
  by_cases hd : 32 < d
  · rw [if_pos hd] at h; simp at h
  rw [if_neg hd] at h ⊢
  by_cases hfo : formedX (.mk kd nm v o A c ts) = false
  · rw [if_pos hfo] at h; simp at h
  rw [if_neg hfo] at h ⊢
  rw [if_neg (fun e => h1 (.inl e)), if_neg (fun e => h1 (.inr e))] at h ⊢
  have hfo' : formedX (.mk kd nm v o A c ts) = true := by simpa using hfo
  obtain ⟨r1, r2, r3⟩ := hru (hf2 hfo')
  by_cases he : errOf (typesX cs ts (d + 1)) = 0
  · rw [if_pos he] at h ⊢
    refine ⟨by omega, r1, r2, r3, hf hfo', fun k hk => ?_, ?_⟩
    · rw [← hat k hk]
      exact errOf_zero _ he k (by rw [hlen]; exact hk)
    · by_cases hq : (resX (ruleX (.mk kd nm v o A c ts)).1 [tyAt (typesX cs ts (d + 1)) 0, tyAt (typesX cs ts (d + 1)) 1, tyAt (typesX cs ts (d + 1)) 2]).2 = true
      · rw [if_pos hq]
        exact Prod.ext rfl hq
      · rw [if_neg hq] at h; simp at h
  · rw [if_neg he] at h
    exact absurd h he

/-- What the arguments of a rule may be. -/
theorem step_fit {t want same s : Int} (h : stepR t want same = some s) : t = 0 ∨ want = 0 ∨ want = 3 ∨ t = want := by
  unfold stepR at h
  split at h
  · rename_i h1; rcases h1 with h1 | h1 <;> simp [h1]
  · split at h
    · rename_i h1; simp [h1]
    · split at h
      · rename_i h1; simp [h1]
      · cases h

theorem step_any {t same s : Int} (h : stepR t 0 same = some s) : s = same := by
  unfold stepR at h
  rw [if_pos (.inr rfl)] at h
  exact (Option.some.inj h).symm
theorem step_same {t same s : Int} (h : stepR t 3 same = some s) : (t = 0 ∧ s = same) ∨ (t ≠ 0 ∧ same = 0 ∧ s = t) ∨ (t ≠ 0 ∧ t = same ∧ s = same) := by
  unfold stepR at h
  by_cases ht : t = 0
  · rw [if_pos (.inl ht)] at h
    exact .inl ⟨ht, (Option.some.inj h).symm⟩
  · rw [if_neg (by omega), if_pos rfl] at h
    by_cases hs : same = 0
    · rw [if_pos hs] at h
      exact .inr (.inl ⟨ht, hs, (Option.some.inj h).symm⟩)
    · rw [if_neg hs] at h
      by_cases he : t = same
      · rw [if_pos he] at h
        exact .inr (.inr ⟨ht, he, (Option.some.inj h).symm⟩)
      · rw [if_neg he] at h; cases h
theorem res_end {r : RL} {o : Option Int} {t : Int} (h : (match o with | none => ((0 : Int), false) | some s => if r.g = 3 then (s, true) else (r.g, true)) = (t, true)) : ∃ s, o = some s ∧ t = if r.g = 3 then s else r.g := by
  cases o with
  | none => simp at h
  | some s =>
    refine ⟨s, rfl, ?_⟩
    simp only at h
    split at h
    · rename_i hg; rw [if_pos hg]; exact (Prod.mk.inj h).1.symm
    · rename_i hg; rw [if_neg hg]; exact (Prod.mk.inj h).1.symm
theorem res_one {r : RL} {t0 t1 t2 t : Int} (hn : r.n = 1) (h : resX r [t0, t1, t2] = (t, true)) : ∃ s0, stepR t0 r.a 0 = some s0 ∧ t = if r.g = 3 then s0 else r.g := by
  unfold resX at h
  rw [hn] at h
  exact res_end (o := stepR t0 r.a 0) h
theorem res_two {r : RL} {t0 t1 t2 t : Int} (hn : r.n = 2) (h : resX r [t0, t1, t2] = (t, true)) : ∃ s0 s1, stepR t0 r.a 0 = some s0 ∧ stepR t1 r.b s0 = some s1 ∧ t = if r.g = 3 then s1 else r.g := by
  unfold resX at h
  rw [hn] at h
  obtain ⟨s1, h1, h2⟩ := res_end (o := (stepR t0 r.a 0).bind fun s => stepR t1 r.b s) h
  obtain ⟨s0, h3, h4⟩ := Option.bind_eq_some_iff.1 h1
  exact ⟨s0, s1, h3, h4, h2⟩
theorem res_three {r : RL} {t0 t1 t2 t : Int} (hn : r.n = 3) (h : resX r [t0, t1, t2] = (t, true)) : ∃ s0 s1 s2, stepR t0 r.a 0 = some s0 ∧ stepR t1 r.b s0 = some s1 ∧ stepR t2 r.c s1 = some s2 ∧ t = if r.g = 3 then s2 else r.g := by
  unfold resX at h
  rw [hn] at h
  obtain ⟨s2, h1, h2⟩ := res_end (o := ((stepR t0 r.a 0).bind fun s => stepR t1 r.b s).bind fun s => stepR t2 r.c s) h
  obtain ⟨s1, h3, h4⟩ := Option.bind_eq_some_iff.1 h1
  obtain ⟨s0, h5, h6⟩ := Option.bind_eq_some_iff.1 h3
  exact ⟨s0, s1, s2, h5, h6, h4, h2⟩

/-- What ofOne asks of the value. -/
def pre1 (wd : ByteArray) (v : Int × Int × ByteArray) : Prop :=
  (wd.toList == [110, 111, 116]) = false → (wd.toList == [105, 115, 110, 117, 108, 108]) = false → (wd.toList == [108, 101, 110]) = false → numV v ∧ I64 v.2.1
set_option maxHeartbeats 1600000 in
theorem one_sound {r : RL} {t0 t1 t2 t : Int} {v : Int × Int × ByteArray} (hr : r ∈ rulesL) (hn : r.n = 1) (hX : resX r [t0, t1, t2] = (t, true)) (hv : okV t0 v) :
    pre1 r.w v ∧ ((oneX r.w v).2 = 0 → okV t (oneX r.w v).1) := by
  have hsz := okV_size hv
  have hi := okV_i64 hv
  have har : (arithV 45 (1, 0, ⟨#[]⟩) v).2 = 0 → okV 1 (arithV 45 (1, 0, ⟨#[]⟩) v).1 := okV_arith 45 _ _ (.inr (.inr (.inl rfl))) hi
  obtain ⟨s0, hs, ht⟩ := res_one hn hX
  clear hX
  simp only [rulesL, List.mem_cons, List.not_mem_nil, or_false] at hr
  rcases hr with rfl | rfl | rfl | rfl | rfl | rfl | rfl | rfl | rfl | rfl | rfl | rfl | rfl | rfl | rfl | rfl | rfl | rfl | rfl | rfl | rfl
  all_goals first | (exfalso; revert hn; decide) | skip
  all_goals
    obtain rfl : t = 1 := ht
    clear hn
  · have e : oneX ⟨#[45]⟩ v = arithV 45 (1, 0, ⟨#[]⟩) v := by simp [oneX, Lib.toList_data]
    have h0 : t0 = 0 ∨ t0 = 1 := by have : t0 = 0 ∨ (1 : Int) = 0 ∨ (1 : Int) = 3 ∨ t0 = 1 := step_fit hs; omega
    refine ⟨fun _ _ _ => ⟨okV_num hv h0, hi⟩, ?_⟩
    rw [e]
    exact har
  · have e : oneX ⟨#[110, 111, 116]⟩ v = (truthV (!trueV v), 0) := by simp [oneX, Lib.toList_data]
    refine ⟨fun h => by simp [Lib.toList_data] at h, fun _ => ?_⟩
    rw [e]
    exact okV_truth _
  · have e : oneX ⟨#[108, 101, 110]⟩ v = (lenV v, 0) := by simp [oneX, Lib.toList_data]
    refine ⟨fun _ _ h => by simp [Lib.toList_data] at h, fun _ => ?_⟩
    rw [e]
    exact okV_len hsz
  · have e : oneX ⟨#[97, 98, 115]⟩ v = bif decide (0 ≤ v.2.1) then (v, 0) else arithV 45 (1, 0, ⟨#[]⟩) v := by simp [oneX, Lib.toList_data]
    have h0 : t0 = 0 ∨ t0 = 1 := by have : t0 = 0 ∨ (1 : Int) = 0 ∨ (1 : Int) = 3 ∨ t0 = 1 := step_fit hs; omega
    refine ⟨fun _ _ _ => ⟨okV_num hv h0, hi⟩, ?_⟩
    rw [e]
    cases decide (0 ≤ v.2.1)
    · exact har
    · intro _
      rcases hv with hv | ⟨_, hv⟩ | ⟨hv, _⟩
      · exact .inl hv
      · exact .inr (.inl ⟨rfl, hv⟩)
      · omega
  · have e : oneX ⟨#[105, 115, 110, 117, 108, 108]⟩ v = (truthV (nullV v), 0) := by simp [oneX, Lib.toList_data]
    refine ⟨fun _ h => by simp [Lib.toList_data] at h, fun _ => ?_⟩
    rw [e]
    exact okV_truth _

/-- What ofTwo asks of the values. -/
def pre2 (wd op : ByteArray) (a b : Int × Int × ByteArray) : Prop :=
  (wd.toList == [97, 110, 100]) = false → (wd.toList == [111, 114]) = false → (wd.toList == [101, 105, 116, 104, 101, 114]) = false → (wd.toList == [105, 102]) = false → (wd.toList == [99, 97, 116]) = false → ¬ cmpIx op < 6 →
    0 < op.size ∧ fiveOps (byte0 op) ∧ numV a ∧ numV b
theorem okV_any0 {t t' : Int} {v : Int × Int × ByteArray} (h : okV t v) (ht : t = 0 ∨ t = t') : okV t' v := by
  rcases ht with rfl | rfl
  · exact okV_of0 h
  · exact h
set_option maxHeartbeats 1600000 in
theorem settle_sound {r : RL} {t0 t1 t2 t : Int} {a : Int × Int × ByteArray} (hr : r ∈ rulesL) (hn : r.n = 2 ∨ r.n = 3) (hX : resX r [t0, t1, t2] = (t, true)) (ha : okV t0 a) (hs : (settleV r.w a).2 = true) :
    okV t (settleV r.w a).1 := by
  simp only [rulesL, List.mem_cons, List.not_mem_nil, or_false] at hr
  rcases hr with rfl | rfl | rfl | rfl | rfl | rfl | rfl | rfl | rfl | rfl | rfl | rfl | rfl | rfl | rfl | rfl | rfl | rfl | rfl | rfl | rfl
  all_goals first | (exfalso; revert hn; decide) | (exfalso; revert hs; simp [settleV, Lib.toList_data]; done) | skip
  · obtain ⟨s0, s1, h0, h1, ht⟩ := res_two rfl hX
    obtain rfl : t = 1 := ht
    have e : settleV ⟨#[97, 110, 100]⟩ a = (truthV false, !trueV a) := by simp [settleV, Lib.toList_data]
    rw [e]
    exact okV_truth _
  · obtain ⟨s0, s1, h0, h1, ht⟩ := res_two rfl hX
    obtain rfl : t = 1 := ht
    have e : settleV ⟨#[111, 114]⟩ a = (truthV true, trueV a) := by simp [settleV, Lib.toList_data]
    rw [e]
    exact okV_truth _
  · obtain ⟨s0, s1, h0, h1, ht⟩ := res_two rfl hX
    have ht : t = s1 := ht
    have e : settleV ⟨#[101, 105, 116, 104, 101, 114]⟩ a = (a, !nullV a) := by simp [settleV, Lib.toList_data]
    rw [e]
    have h0' := step_same h0
    have h1' := step_same h1
    exact okV_any0 ha (by omega)
set_option maxHeartbeats 3200000 in
theorem two_sound {r : RL} {t0 t1 t2 t : Int} {a b : Int × Int × ByteArray} {op : ByteArray} (hr : r ∈ rulesL) (hn : r.n = 2 ∨ r.n = 3) (hop : r.k = 4 → op = r.w) (hX : resX r [t0, t1, t2] = (t, true)) (ha : okV t0 a)
    (hb : okV (if nextW r.w a = 2 then t2 else t1) b) : pre2 r.w op a b ∧ ((twoX r.w op a b).2 = 0 → okV t (twoX r.w op a b).1) := by
  simp only [rulesL, List.mem_cons, List.not_mem_nil, or_false] at hr
  rcases hr with rfl | rfl | rfl | rfl | rfl | rfl | rfl | rfl | rfl | rfl | rfl | rfl | rfl | rfl | rfl | rfl | rfl | rfl | rfl | rfl | rfl
  all_goals first | (exfalso; revert hn; decide) | skip
  all_goals clear hn
  · obtain rfl := hop rfl
    obtain ⟨s0, s1, h0, h1, ht⟩ := res_two rfl hX
    obtain rfl : t = 1 := ht
    have e : twoX ⟨#[43]⟩ ⟨#[43]⟩ a b = arithV 43 a b := by simp [twoX, Lib.toList_data, cmpIx, cmpsL, byte0, List.findIdx_cons]
    rw [if_neg (by simp [nextW, Lib.toList_data])] at hb
    have h0' : t0 = 0 ∨ t0 = 1 := by have : t0 = 0 ∨ (1 : Int) = 0 ∨ (1 : Int) = 3 ∨ t0 = 1 := step_fit h0; omega
    have h1' : t1 = 0 ∨ t1 = 1 := by have : t1 = 0 ∨ (1 : Int) = 0 ∨ (1 : Int) = 3 ∨ t1 = 1 := step_fit h1; omega
    refine ⟨fun _ _ _ _ _ _ => ⟨by decide, .inl rfl, okV_num ha h0', okV_num hb h1'⟩, ?_⟩
    rw [e]
    exact okV_arith 43 a b (.inr (.inl rfl)) (okV_i64 hb)
  · obtain rfl := hop rfl
    obtain ⟨s0, s1, h0, h1, ht⟩ := res_two rfl hX
    obtain rfl : t = 1 := ht
    have e : twoX ⟨#[45]⟩ ⟨#[45]⟩ a b = arithV 45 a b := by simp [twoX, Lib.toList_data, cmpIx, cmpsL, byte0, List.findIdx_cons]
    rw [if_neg (by simp [nextW, Lib.toList_data])] at hb
    have h0' : t0 = 0 ∨ t0 = 1 := by have : t0 = 0 ∨ (1 : Int) = 0 ∨ (1 : Int) = 3 ∨ t0 = 1 := step_fit h0; omega
    have h1' : t1 = 0 ∨ t1 = 1 := by have : t1 = 0 ∨ (1 : Int) = 0 ∨ (1 : Int) = 3 ∨ t1 = 1 := step_fit h1; omega
    refine ⟨fun _ _ _ _ _ _ => ⟨by decide, .inr (.inl rfl), okV_num ha h0', okV_num hb h1'⟩, ?_⟩
    rw [e]
    exact okV_arith 45 a b (.inr (.inr (.inl rfl))) (okV_i64 hb)
  · obtain rfl := hop rfl
    obtain ⟨s0, s1, h0, h1, ht⟩ := res_two rfl hX
    obtain rfl : t = 1 := ht
    have e : twoX ⟨#[42]⟩ ⟨#[42]⟩ a b = arithV 42 a b := by simp [twoX, Lib.toList_data, cmpIx, cmpsL, byte0, List.findIdx_cons]
    rw [if_neg (by simp [nextW, Lib.toList_data])] at hb
    have h0' : t0 = 0 ∨ t0 = 1 := by have : t0 = 0 ∨ (1 : Int) = 0 ∨ (1 : Int) = 3 ∨ t0 = 1 := step_fit h0; omega
    have h1' : t1 = 0 ∨ t1 = 1 := by have : t1 = 0 ∨ (1 : Int) = 0 ∨ (1 : Int) = 3 ∨ t1 = 1 := step_fit h1; omega
    refine ⟨fun _ _ _ _ _ _ => ⟨by decide, .inr (.inr (.inl rfl)), okV_num ha h0', okV_num hb h1'⟩, ?_⟩
    rw [e]
    exact okV_arith 42 a b (.inr (.inr (.inr rfl))) (okV_i64 hb)
  · obtain rfl := hop rfl
    obtain ⟨s0, s1, h0, h1, ht⟩ := res_two rfl hX
    obtain rfl : t = 1 := ht
    have e : twoX ⟨#[47]⟩ ⟨#[47]⟩ a b = arithV 47 a b := by simp [twoX, Lib.toList_data, cmpIx, cmpsL, byte0, List.findIdx_cons]
    rw [if_neg (by simp [nextW, Lib.toList_data])] at hb
    have h0' : t0 = 0 ∨ t0 = 1 := by have : t0 = 0 ∨ (1 : Int) = 0 ∨ (1 : Int) = 3 ∨ t0 = 1 := step_fit h0; omega
    have h1' : t1 = 0 ∨ t1 = 1 := by have : t1 = 0 ∨ (1 : Int) = 0 ∨ (1 : Int) = 3 ∨ t1 = 1 := step_fit h1; omega
    refine ⟨fun _ _ _ _ _ _ => ⟨by decide, .inr (.inr (.inr (.inl rfl))), okV_num ha h0', okV_num hb h1'⟩, ?_⟩
    rw [e]
    exact okV_arith 47 a b (.inl (.inl rfl)) (okV_i64 hb)
  · obtain rfl := hop rfl
    obtain ⟨s0, s1, h0, h1, ht⟩ := res_two rfl hX
    obtain rfl : t = 1 := ht
    have e : twoX ⟨#[37]⟩ ⟨#[37]⟩ a b = arithV 37 a b := by simp [twoX, Lib.toList_data, cmpIx, cmpsL, byte0, List.findIdx_cons]
    rw [if_neg (by simp [nextW, Lib.toList_data])] at hb
    have h0' : t0 = 0 ∨ t0 = 1 := by have : t0 = 0 ∨ (1 : Int) = 0 ∨ (1 : Int) = 3 ∨ t0 = 1 := step_fit h0; omega
    have h1' : t1 = 0 ∨ t1 = 1 := by have : t1 = 0 ∨ (1 : Int) = 0 ∨ (1 : Int) = 3 ∨ t1 = 1 := step_fit h1; omega
    refine ⟨fun _ _ _ _ _ _ => ⟨by decide, .inr (.inr (.inr (.inr rfl))), okV_num ha h0', okV_num hb h1'⟩, ?_⟩
    rw [e]
    exact okV_arith 37 a b (.inl (.inr rfl)) (okV_i64 hb)
  · obtain rfl := hop rfl
    obtain ⟨s0, s1, h0, h1, ht⟩ := res_two rfl hX
    obtain rfl : t = 1 := ht
    have ec : cmpIx ⟨#[61]⟩ = 0 := by simp [cmpIx, cmpsL, Lib.toList_data, List.findIdx_cons]
    have e : twoX ⟨#[61]⟩ ⟨#[61]⟩ a b = (compareV 1 a b, 0) := by unfold twoX; rw [ec]; simp [Lib.toList_data]
    refine ⟨fun _ _ _ _ _ h => absurd (by rw [ec]; decide) h, fun _ => ?_⟩
    rw [e]
    exact okV_compare _ a b
  · obtain rfl := hop rfl
    obtain ⟨s0, s1, h0, h1, ht⟩ := res_two rfl hX
    obtain rfl : t = 1 := ht
    have ec : cmpIx ⟨#[33, 61]⟩ = 1 := by simp [cmpIx, cmpsL, Lib.toList_data, List.findIdx_cons]
    have e : twoX ⟨#[33, 61]⟩ ⟨#[33, 61]⟩ a b = (compareV 2 a b, 0) := by unfold twoX; rw [ec]; simp [Lib.toList_data]
    refine ⟨fun _ _ _ _ _ h => absurd (by rw [ec]; decide) h, fun _ => ?_⟩
    rw [e]
    exact okV_compare _ a b
  · obtain rfl := hop rfl
    obtain ⟨s0, s1, h0, h1, ht⟩ := res_two rfl hX
    obtain rfl : t = 1 := ht
    have ec : cmpIx ⟨#[60]⟩ = 2 := by simp [cmpIx, cmpsL, Lib.toList_data, List.findIdx_cons]
    have e : twoX ⟨#[60]⟩ ⟨#[60]⟩ a b = (compareV 3 a b, 0) := by unfold twoX; rw [ec]; simp [Lib.toList_data]
    refine ⟨fun _ _ _ _ _ h => absurd (by rw [ec]; decide) h, fun _ => ?_⟩
    rw [e]
    exact okV_compare _ a b
  · obtain rfl := hop rfl
    obtain ⟨s0, s1, h0, h1, ht⟩ := res_two rfl hX
    obtain rfl : t = 1 := ht
    have ec : cmpIx ⟨#[60, 61]⟩ = 3 := by simp [cmpIx, cmpsL, Lib.toList_data, List.findIdx_cons]
    have e : twoX ⟨#[60, 61]⟩ ⟨#[60, 61]⟩ a b = (compareV 4 a b, 0) := by unfold twoX; rw [ec]; simp [Lib.toList_data]
    refine ⟨fun _ _ _ _ _ h => absurd (by rw [ec]; decide) h, fun _ => ?_⟩
    rw [e]
    exact okV_compare _ a b
  · obtain rfl := hop rfl
    obtain ⟨s0, s1, h0, h1, ht⟩ := res_two rfl hX
    obtain rfl : t = 1 := ht
    have ec : cmpIx ⟨#[62]⟩ = 4 := by simp [cmpIx, cmpsL, Lib.toList_data, List.findIdx_cons]
    have e : twoX ⟨#[62]⟩ ⟨#[62]⟩ a b = (compareV 5 a b, 0) := by unfold twoX; rw [ec]; simp [Lib.toList_data]
    refine ⟨fun _ _ _ _ _ h => absurd (by rw [ec]; decide) h, fun _ => ?_⟩
    rw [e]
    exact okV_compare _ a b
  · obtain rfl := hop rfl
    obtain ⟨s0, s1, h0, h1, ht⟩ := res_two rfl hX
    obtain rfl : t = 1 := ht
    have ec : cmpIx ⟨#[62, 61]⟩ = 5 := by simp [cmpIx, cmpsL, Lib.toList_data, List.findIdx_cons]
    have e : twoX ⟨#[62, 61]⟩ ⟨#[62, 61]⟩ a b = (compareV 6 a b, 0) := by unfold twoX; rw [ec]; simp [Lib.toList_data]
    refine ⟨fun _ _ _ _ _ h => absurd (by rw [ec]; decide) h, fun _ => ?_⟩
    rw [e]
    exact okV_compare _ a b
  · obtain ⟨s0, s1, h0, h1, ht⟩ := res_two rfl hX
    obtain rfl : t = 1 := ht
    have e : twoX ⟨#[97, 110, 100]⟩ op a b = (truthV (trueV b), 0) := by simp [twoX, Lib.toList_data]
    refine ⟨fun h => by simp [Lib.toList_data] at h, fun _ => ?_⟩
    rw [e]
    exact okV_truth _
  · obtain ⟨s0, s1, h0, h1, ht⟩ := res_two rfl hX
    obtain rfl : t = 1 := ht
    have e : twoX ⟨#[111, 114]⟩ op a b = (truthV (trueV b), 0) := by simp [twoX, Lib.toList_data]
    refine ⟨fun _ h => by simp [Lib.toList_data] at h, fun _ => ?_⟩
    rw [e]
    exact okV_truth _
  · obtain ⟨s0, s1, h0, h1, ht⟩ := res_two rfl hX
    obtain rfl : t = 2 := ht
    have e : twoX ⟨#[99, 97, 116]⟩ op a b = catV a b := by simp [twoX, Lib.toList_data]
    rw [if_neg (by simp [nextW, Lib.toList_data])] at hb
    have h0' : t0 = 0 ∨ t0 = 2 := by have : t0 = 0 ∨ (2 : Int) = 0 ∨ (2 : Int) = 3 ∨ t0 = 2 := step_fit h0; omega
    have h1' : t1 = 0 ∨ t1 = 2 := by have : t1 = 0 ∨ (2 : Int) = 0 ∨ (2 : Int) = 3 ∨ t1 = 2 := step_fit h1; omega
    refine ⟨fun _ _ _ _ h => by simp [Lib.toList_data] at h, fun _ => ?_⟩
    rw [e]
    exact okV_cat (okV_text ha h0') (okV_text hb h1')
  · obtain ⟨s0, s1, h0, h1, ht⟩ := res_two rfl hX
    have ht : t = s1 := ht
    have e : twoX ⟨#[101, 105, 116, 104, 101, 114]⟩ op a b = (b, 0) := by simp [twoX, Lib.toList_data]
    rw [if_neg (by simp [nextW, Lib.toList_data])] at hb
    have h0' := step_same h0
    have h1' := step_same h1
    refine ⟨fun _ _ h => by simp [Lib.toList_data] at h, fun _ => ?_⟩
    rw [e]
    exact okV_any0 hb (by omega)
  · obtain ⟨s0, s1, s2, h0, h1, h2, ht⟩ := res_three rfl hX
    have ht : t = s2 := ht
    have e : twoX ⟨#[105, 102]⟩ op a b = (b, 0) := by simp [twoX, Lib.toList_data]
    have h0' := step_any h0
    have h1' := step_same h1
    have h2' := step_same h2
    refine ⟨fun _ _ _ h => by simp [Lib.toList_data] at h, fun _ => ?_⟩
    rw [e]
    split at hb
    · exact okV_any0 hb (by omega)
    · exact okV_any0 hb (by omega)
theorem next_lt {r : RL} {v : Int × Int × ByteArray} (hr : r ∈ rulesL) (hn : r.n = 2 ∨ r.n = 3) : (nextW r.w v : Int) < r.n := by
  simp only [rulesL, List.mem_cons, List.not_mem_nil, or_false] at hr
  rcases hr with rfl | rfl | rfl | rfl | rfl | rfl | rfl | rfl | rfl | rfl | rfl | rfl | rfl | rfl | rfl | rfl | rfl | rfl | rfl | rfl | rfl
  all_goals first | (exfalso; revert hn; decide) | (simp [nextW, Lib.toList_data]; done) | skip
  show ((nextW _ _ : Nat) : Int) < 3
  unfold nextW
  split <;> decide
theorem nextW_12 (wd : ByteArray) (v : Int × Int × ByteArray) : nextW wd v = 1 ∨ nextW wd v = 2 := by
  unfold nextW
  split
  · exact .inr rfl
  · exact .inl rfl
theorem rule_n {r : RL} (hr : r ∈ rulesL) : r.n = 1 ∨ r.n = 2 ∨ r.n = 3 := by
  have h : ∀ r ∈ rulesL, (decide (r.n = 1) || decide (r.n = 2) || decide (r.n = 3)) = true := List.all_eq_true.1 (by decide)
  have := h r hr
  simp only [Bool.or_eq_true, decide_eq_true_eq] at this
  omega

mutual
/-- The numbers within are of 64 bits. -/
def wfI : XT → Prop
  | .mk _ _ v _ _ _ ts => I64 v.2.1 ∧ wfIs ts
def wfIs : List XT → Prop
  | [] => True
  | x :: r => wfI x ∧ wfIs r
end
theorem wfIs_at : ∀ {l : List XT} {k : Nat}, wfIs l → k < l.length → wfI (l.getD k dX)
  | [], k, _, h => by simp at h
  | _ :: _, 0, h, _ => h.1
  | _ :: r, k + 1, h, hk => wfIs_at (l := r) (k := k) h.2 (by simpa using hk)
theorem fits_len {cs : List (ByteArray × Int)} {vs : List (Int × Int × ByteArray)} (h : rowFits cs vs = true) : vs.length = cs.length := by
  unfold rowFits at h
  simp only [Bool.and_eq_true, decide_eq_true_eq] at h
  exact h.1
theorem fits_okV {cs : List (ByteArray × Int)} {vs : List (Int × Int × ByteArray)} (h : rowFits cs vs = true) (hw : WfR vs) {j : Nat} (hj : j < cs.length) : okV (cs.getD j (⟨#[]⟩, 0)).2 (vs.getD j d3) := by
  have hl := fits_len h
  unfold rowFits at h
  simp only [Bool.and_eq_true, decide_eq_true_eq] at h
  have hh := h.2 j hj
  unfold heldAt holdsB at hh
  simp only [Bool.and_eq_true, Bool.or_eq_true, beq_iff_eq] at hh
  have hv := hw.at (show j < vs.length by omega)
  show okV _ (vs.getD j (0, 0, ⟨#[]⟩))
  generalize vs.getD j (0, 0, ⟨#[]⟩) = v at *
  obtain ⟨k, n, t⟩ := v
  have hk := okV_right hh.1 hv.2.1
  simp only at hk hh ⊢
  rcases hh.2 with h0 | h0
  · subst h0
    exact okV_of0 hk
  · subst h0
    exact hk

theorem typeX_col {cs : List (ByteArray × Int)} {x : XT} {d : Int} (h : (typeX cs x d).2 = 0) (h1 : x.kind = 1) : findK cs x.name < cs.length ∧ (typeX cs x d).1 = (cs.getD (findK cs x.name) (⟨#[]⟩, 0)).2 := by
  obtain ⟨kd, nm, v, o, A, c, ts⟩ := x
  simp only [XT.kind, XT.name] at *
  rw [typeX] at h ⊢
  by_cases hd : 32 < d
  · rw [if_pos hd] at h; simp at h
  rw [if_neg hd] at h ⊢
  by_cases hfo : formedX (.mk kd nm v o A c ts) = false
  · rw [if_pos hfo] at h; simp at h
  rw [if_neg hfo, if_pos h1] at h ⊢
  unfold typeOfX at h ⊢
  split
  · rename_i hk; exact ⟨hk, rfl⟩
  · rename_i hk; rw [if_neg hk] at h; simp at h
theorem typeX_const {cs : List (ByteArray × Int)} {x : XT} {d : Int} (h : (typeX cs x d).2 = 0) (h1 : x.kind = 2) : rightV x.val.1 x.val.2.1 x.val.2.2 = true ∧ (typeX cs x d).1 = x.val.1 := by
  obtain ⟨kd, nm, v, o, A, c, ts⟩ := x
  simp only [XT.kind, XT.val] at *
  rw [typeX] at h ⊢
  by_cases hd : 32 < d
  · rw [if_pos hd] at h; simp at h
  rw [if_neg hd] at h ⊢
  by_cases hfo : formedX (.mk kd nm v o A c ts) = false
  · rw [if_pos hfo] at h; simp at h
  rw [if_neg hfo, if_neg (by omega), if_pos h1] at h ⊢
  refine ⟨?_, rfl⟩
  have hf : formedX (.mk kd nm v o A c ts) = true := by simpa using hfo
  unfold formedX tailF at hf
  simp only [XT.kind, h1, if_true, Bool.and_eq_true] at hf
  exact hf.2.2.2.2

set_option maxHeartbeats 1600000 in
/-- What a typed expression comes to is of its type, or null. -/
theorem eval_sound {cs : List (ByteArray × Int)} {row : List (Int × Int × ByteArray)} (hfit : rowFits cs row = true) (hw : WfR row) : ∀ (N : Nat) (x : XT) (d : Int), szX x ≤ N → wfI x → (typeX cs x d).2 = 0 → (evalX cs row x).2 = 0 → okV (typeX cs x d).1 (evalX cs row x).1
  | 0, x, d, hN, _, _, _ => by have := szX_pos x; omega
  | N + 1, .mk kd nm v o A c ts, d, hN, hi, ht, he => by
    by_cases h1 : kd = 1
    · obtain ⟨hk, e⟩ := typeX_col ht h1
      rw [e]
      rw [evalX, if_pos h1]
      exact fits_okV hfit hw hk
    · by_cases h2 : kd = 2
      · obtain ⟨hr, e⟩ := typeX_const ht h2
        rw [e]
        rw [evalX, if_neg h1, if_pos h2]
        exact okV_right hr hi.1
      · obtain ⟨hd, hr, hk, hwd, hln, hsub, hX⟩ := typeX_parts ht (by rintro (h | h); exact h1 h; exact h2 h)
        have hat := fun k (hk : k < ts.length) => evalsX_at cs row ts k hk
        have ih := fun k (hk : k < ts.length) => eval_sound hfit hw N (ts.getD k dX) (d + 1) (by have := szX_arg (x := .mk kd nm v o A c ts) hk; simp only [XT.args] at this; omega) (wfIs_at hi.2 hk) (hsub k hk)
        have hT := fun j (h : j < ts.length) => argT_at (cs := cs) (x := .mk kd nm v o A c ts) (d := d) h
        have hop : (ruleX (.mk kd nm v o A c ts)).1.k = 4 → o = (ruleX (.mk kd nm v o A c ts)).1.w := fun h => by
          rw [← hwd]
          have : kd = 4 := hk.symm.trans h
          show o = if kd = 5 then nm else o
          rw [if_neg (by omega)]
        rw [evalX, if_neg h1, if_neg h2] at he ⊢
        rw [hwd] at he ⊢
        simp only [XT.args] at hln hsub ih hT
        generalize (typeX cs (.mk kd nm v o A c ts) d).1 = t at *
        generalize (ruleX (.mk kd nm v o A c ts)).1 = r at *
        generalize evalsX cs row ts = L at *
        have hrn := rule_n hr
        have hlt := next_lt (v := (L.getD 0 (d3, 0)).1) hr
        have hn12 := nextW_12 r.w (L.getD 0 (d3, 0)).1
        unfold partX at he ⊢
        by_cases hf : (L.getD 0 (d3, 0)).2 = 0
        · rw [if_pos hf] at he ⊢
          have a0 := ih 0 (by omega) (by rw [← hat 0 (by omega)]; exact hf)
          rw [← hT 0 (by omega), ← hat 0 (by omega)] at a0
          by_cases hn1 : ts.length = 1
          · rw [if_pos hn1] at he ⊢
            exact (one_sound hr (by omega) hX a0).2 he
          · rw [if_neg hn1] at he ⊢
            have hn23 : r.n = 2 ∨ r.n = 3 := by omega
            by_cases hs : (settleV r.w (L.getD 0 (d3, 0)).1).2 = true
            · rw [if_pos hs]
              exact settle_sound hr hn23 hX a0 hs
            · rw [if_neg hs] at he ⊢
              have hl2 := hlt hn23
              by_cases hg : (L.getD (nextW r.w (L.getD 0 (d3, 0)).1) (d3, 0)).2 = 0
              · rw [if_pos hg] at he ⊢
                have b0 := ih (nextW r.w (L.getD 0 (d3, 0)).1) (by omega) (by rw [← hat _ (by omega)]; exact hg)
                rw [← hT _ (by omega), ← hat _ (by omega)] at b0
                refine (two_sound hr hn23 hop hX a0 ?_).2 he
                rcases hn12 with h12 | h12
                · rw [h12] at b0 ⊢
                  exact b0
                · rw [h12] at b0 ⊢
                  exact b0
              · rw [if_neg hg] at he
                exact absurd he hg
        · rw [if_neg hf] at he
          exact absurd he hf
end Go.Proofs.YtpohofcfmllghaaDoor
