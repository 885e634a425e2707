/-
  A region that draws its order, within a round of a range over a function: it may be walked as one outside.
-/
import Derived.Test.YtggaflihblhapaaDoorHLoop
import Derived.OrdersHeld
import Derived.StillTail
import Derived.OrdersIn
import Derived.Deep.RegionHeld
import Derived.Deep.RegionHeld3
namespace Go.Proofs.YtggaflihblhapaaDoor
open Go.RowKit Go.Shelf

/-- The end that goes on, and no other. -/
def only (Q : Exit → Act → World → Prop) : Exit → Act → World → Prop
  | .normal, a, w => Q .normal a w
  | _, _, _ => False
theorem only_kept (Q : Exit → Act → World → Prop) : ¬ LetsOut (only Q) := fun ⟨_, _, h⟩ => h
def plainB (o : Oper) : Bool := match o.op with
  | .defer _ => false
  | _ => true
theorem op_round {P : Program} {n l : Nat} {Q : Exit → Act → World → Prop} {o : Oper} (ho : plainB o = true) {K K' : Act → World → Prop} (hK : ∀ a w, K a w → K' a w) {a : Act} {w : World} (h : o.wp P a w K (only Q)) : o.wpIn (Fence.wide.inRound l) n P a w K' Q := by
  refine ⟨fun _ _ => trivial, ?_⟩
  rw [Oper.semAt_eq _ _ _ (fun c hc => by unfold plainB at ho; rw [hc] at ho; cases ho)]
  unfold Oper.wp at h
  generalize (execOp a.eval o).run P w = r at *
  cases r with
  | ok x w' =>
    cases x
    case value v => exact hK _ _ h
    case skip => exact hK _ _ h
    case defer d => exact hK _ _ h
    case enter f args =>
      refine ⟨fun hd => (by cases hd), CallsIn.inRound l (callsIn_wide.2 (Calls.mono h fun e w'' he => ?_))⟩
      cases e with
      | returned v => exact hK _ _ he
      | panicked c => exact he.elim
      | outgrown => exact absurd he (only_kept Q)
    case row row args =>
      have hr : Rows P row args w' fun v w'' => K (a.put o.dst v) w'' := h
      refine ⟨fun hd => (by cases hd), fun c cs _ => ?_⟩
      obtain ⟨v, w'', hk, hs⟩ := hr c cs
      exact ⟨v, w'', hK _ _ hk, stepsIn_wide.2 hs⟩
    all_goals exact h.elim
  | halt x w' => cases x <;> exact h.elim
theorem any_round {P : Program} {n l : Nat} {Q : Exit → Act → World → Prop} {ops : Array Oper} {md : Region.Mode} (ho : ∀ (i : Nat) o, ops[i]? = some o → plainB o = true) :
    ∀ (fuel : Nat) (listed : Array Bool) (a : Act) (w : World), wpAny P md ops (only Q) fuel listed a w → wpAnyIn (Fence.wide.inRound l) n P md ops Q fuel listed a w
  | 0, _, _, _, h => h
  | fuel + 1, listed, a, w, h => by
    refine ⟨h.1, fun i hi => ?_⟩
    have h1 := h.2 i hi
    have hrec := fun a w => any_round (P := P) (n := n) (l := l) (Q := Q) (md := md) ho fuel (listed.setIfInBounds i true) a w
    unfold wpOp at h1
    unfold wpOpIn
    cases hoi : ops[i]? with
    | none => rw [hoi] at h1; exact hrec _ _ h1
    | some o =>
      rw [hoi] at h1
      simp only at h1 ⊢
      split
      · rename_i hw
        rw [if_pos hw] at h1
        rcases h1 with h1 | h1
        · exact op_round (ho i o hoi) hrec h1
        · exact absurd h1.2 (only_kept Q)
      · rename_i hw
        rw [if_neg hw] at h1
        exact ⟨fun _ _ => trivial, hrec _ _ h1⟩
/-- THE LAW: such a region in a round, walked by one condition S on the world. -/
theorem region_round {P : Program} {n l id : Nat} {Q : Exit → Act → World → Prop} {ops : Array Oper} {a : Act} {w : World} {S : World → Prop} (hm : P.follows .mixedOrders = true) (ho : ops.toList.all plainB = true) (hS : S w.drew)
    (h : S w.drew → wpAnyH P .any ops (only Q) S ops.size (Array.replicate ops.size false) a w.drew) : (Code.region id ops true).wpIn (Fence.wide.inRound l) n P Q a w :=
  wpIn_region_any hm (any_round (fun i o hi => List.all_eq_true.1 ho o (by
    obtain ⟨hlt, rfl⟩ := Array.getElem?_eq_some_iff.1 hi
    exact Array.mem_toList_iff.2 (Array.getElem_mem hlt))) _ _ _ _ (wpAny_of_held _ _ _ _ (h hS)))
theorem op_wide {P : Program} {n : Nat} {Q : Exit → Act → World → Prop} {o : Oper} (ho : plainB o = true) {K K' : Act → World → Prop} (hK : ∀ a w, K a w → K' a w) {a : Act} {w : World} (h : o.wp P a w K (only Q)) : o.wpIn Fence.wide n P a w K' Q := by
  refine ⟨fun _ _ => trivial, ?_⟩
  rw [Oper.semAt_eq _ _ _ (fun c hc => by unfold plainB at ho; rw [hc] at ho; cases ho)]
  unfold Oper.wp at h
  generalize (execOp a.eval o).run P w = r at *
  cases r with
  | ok x w' =>
    cases x
    case value v => exact hK _ _ h
    case skip => exact hK _ _ h
    case defer d => exact hK _ _ h
    case enter f args =>
      refine ⟨fun hd => (by cases hd), callsIn_wide.2 (Calls.mono h fun e w'' he => ?_)⟩
      cases e with
      | returned v => exact hK _ _ he
      | panicked c => exact he.elim
      | outgrown => exact absurd he (only_kept Q)
    case row row args =>
      have hr : Rows P row args w' fun v w'' => K (a.put o.dst v) w'' := h
      refine ⟨fun hd => (by cases hd), fun c cs _ => ?_⟩
      obtain ⟨v, w'', hk, hs⟩ := hr c cs
      exact ⟨v, w'', hK _ _ hk, stepsIn_wide.2 hs⟩
    all_goals exact h.elim
  | halt x w' => cases x <;> exact h.elim
theorem any_wide {P : Program} {n : Nat} {Q : Exit → Act → World → Prop} {ops : Array Oper} {md : Region.Mode} (ho : ∀ (i : Nat) o, ops[i]? = some o → plainB o = true) :
    ∀ (fuel : Nat) (listed : Array Bool) (a : Act) (w : World), wpAny P md ops (only Q) fuel listed a w → wpAnyIn Fence.wide n P md ops Q fuel listed a w
  | 0, _, _, _, h => h
  | fuel + 1, listed, a, w, h => by
    refine ⟨h.1, fun i hi => ?_⟩
    have h1 := h.2 i hi
    have hrec := fun a w => any_wide (P := P) (n := n) (Q := Q) (md := md) ho fuel (listed.setIfInBounds i true) a w
    unfold wpOp at h1
    unfold wpOpIn
    cases hoi : ops[i]? with
    | none => rw [hoi] at h1; exact hrec _ _ h1
    | some o =>
      rw [hoi] at h1
      simp only at h1 ⊢
      split
      · rename_i hw
        rw [if_pos hw] at h1
        rcases h1 with h1 | h1
        · exact op_wide (ho i o hoi) hrec h1
        · exact absurd h1.2 (only_kept Q)
      · rename_i hw
        rw [if_neg hw] at h1
        exact ⟨fun _ _ => trivial, hrec _ _ h1⟩
/-- Such a region outside a round, in a walk within the wide fence. -/
theorem region_wide {P : Program} {n id : Nat} {Q : Exit → Act → World → Prop} {ops : Array Oper} {a : Act} {w : World} {S : World → Prop} (hm : P.follows .mixedOrders = true) (ho : ops.toList.all plainB = true) (hS : S w.drew)
    (h : S w.drew → wpAnyH P .any ops (only Q) S ops.size (Array.replicate ops.size false) a w.drew) : (Code.region id ops true).wpIn Fence.wide n P Q a w :=
  wpIn_region_any hm (any_wide (fun i o hi => List.all_eq_true.1 ho o (by
    obtain ⟨hlt, rfl⟩ := Array.getElem?_eq_some_iff.1 hi
    exact Array.mem_toList_iff.2 (Array.getElem_mem hlt))) _ _ _ _ (wpAny_of_held _ _ _ _ (h hS)))
section
variable {P : Program} {ops : Array Oper} {Q : Exit → Act → World → Prop} {md : Region.Mode} {S : World → Prop} {L : Nat}

/-- Whatever order is picked, and S holds behind each operation but number L. -/
def heldBut (P : Program) (md : Region.Mode) (ops : Array Oper) (Q : Exit → Act → World → Prop) (S : World → Prop) (L : Nat) : Nat → Array Bool → Act → World → Prop
  | 0, listed, a, w => Region.ready md ops listed = [] ∧ Q .normal a w
  | n + 1, listed, a, w => (Region.ready md ops listed = [] → Q .normal a w) ∧
      ∀ i ∈ Region.ready md ops listed, wpOp P ops Q i (fun a' w' => (i = L ∨ S w') ∧ heldBut P md ops Q S L n (listed.setIfInBounds i true) a' w') a w
theorem any_of_heldBut : ∀ (n : Nat) (listed : Array Bool) (a : Act) (w : World), heldBut P md ops Q S L n listed a w → wpAny P md ops Q n listed a w
  | 0, _, _, _, h => h
  | n + 1, _, _, _, h => ⟨h.1, fun i hi => wpOp_mono (fun a' w' h' => any_of_heldBut n _ a' w' h'.2) (h.2 i hi)⟩
theorem not_last {i : Nat} {listed : Array Bool} (hw : Region.waitsFor md ops L i = true) (hr : i ∈ Region.ready md ops listed) : ∀ j ∈ Region.ready md ops listed, j ≠ L := by
  intro j hj e
  subst e
  obtain ⟨oj, hoj, e, he, hb, hon⟩ := Region.waitsFor_spec hw
  obtain ⟨_, ok, hok, hall⟩ := mem_ready.1 hj
  have : oj = ok := Option.some.inj (hoj.symm.trans hok)
  subst this
  have h1 := hall e he hb
  have h0 := (mem_ready.1 hr).1
  rw [hon] at h1
  rcases Nat.lt_or_ge i listed.size with h' | h'
  · simp [h'] at h0 h1; rw [h0] at h1; cases h1
  · simp [Array.getElem?_eq_none h'] at h1
theorem heldBut_first {i : Nat} {oi : Oper} {v : Value} (hi : ops[i]? = some oi) (hsel : ∀ (j : Nat) (o : Oper) cs b, ops[j]? = some o → o.op ≠ .select cs b)
    (hQ : ∀ c a w, Q (.panic c) (a.put oi.dst v) w → Q (.panic c) a w) (hw : Region.waitsFor md ops L i = true) :
    ∀ (n : Nat) (listed : Array Bool) (a : Act) (w : World),
      (∀ j oj, ops[j]? = some oj → j ≠ i → listed.getD j true = false → (∀ e ∈ oj.after, Region.binds md e = true → e.on ≠ i) → oi.apart ops oj = true) →
      i ∈ Region.ready md ops listed → YieldsIf P ops S oi v a → S w →
      heldBut P md ops Q S L n (listed.setIfInBounds i true) (a.put oi.dst v) w → heldBut P md ops Q S L (n + 1) listed a w := by
  intro n
  induction n with
  | zero =>
    intro listed a w _ hr hy hS H
    refine ⟨fun h => (by rw [h] at hr; cases hr), fun j hj => ?_⟩
    by_cases hji : j = i
    · subst hji; exact hy.wpOp hi hS ⟨.inr hS, H⟩
    · have := ready_mono hj hji
      rw [H.1] at this
      cases this
  | succ n ih =>
    intro listed a w hfree hr hy hS H
    refine ⟨fun h => (by rw [h] at hr; cases hr), fun j hj => ?_⟩
    by_cases hji : j = i
    · subst hji; exact hy.wpOp hi hS ⟨.inr hS, H⟩
    · have hjL := not_last hw hr j hj
      have h1 := H.2 j (ready_mono hj hji)
      obtain ⟨hjun, oj, hoj, hall⟩ := mem_ready.1 hj
      have hnot : ∀ e ∈ oj.after, Region.binds md e = true → e.on ≠ i := fun e he hb heq => by
        have h1 := hall e he hb
        have h0 := (mem_ready.1 hr).1
        rw [heq] at h1
        rcases Nat.lt_or_ge i listed.size with h' | h'
        · simp [h'] at h0 h1; rw [h0] at h1; cases h1
        · simp [Array.getElem?_eq_none h'] at h1
      have h2 := wpOp_putIf hoj (hfree j oj hoj hji hjun hnot) (fun cs b => hsel i oi cs b hi) (fun cs b => hsel j oj cs b hoj) hQ hy h1
      have hfree' : ∀ k ok, ops[k]? = some ok → k ≠ i → (listed.setIfInBounds j true).getD k true = false →
          (∀ e ∈ ok.after, Region.binds md e = true → e.on ≠ i) → oi.apart ops ok = true := fun k ok hk hki hun hno => by
        refine hfree k ok hk hki ?_ hno
        by_cases hjk : j = k
        · subst hjk; exact hjun
        · rw [getD_set_ne true hjk] at hun; exact hun
      refine wpOp_mono (fun a' w' h3 => ⟨h3.2.1, ih (listed.setIfInBounds j true) a' w' hfree' (ready_mono hr (Ne.symm hji)) h3.1 (h3.2.1.resolve_left hjL) ?_⟩) h2
      rw [Array.setIfInBounds_comm _ _ hji]
      exact h3.2.2
theorem heldBut_take {i : Nat} {oi : Oper} {v : Value} {n : Nat} {listed : Array Bool} {a : Act} {w : World} (hi : ops[i]? = some oi)
    (hs : Region.noSelect ops = true) (hf : Region.free md ops listed i = true) (hr : (Region.ready md ops listed).contains i = true) (hw : Region.waitsFor md ops L i = true)
    (hQ : ∀ c a w, Q (.panic c) (a.put oi.dst v) w → Q (.panic c) a w) (hy : YieldsIf P ops S oi v a) (hS : S w)
    (h : heldBut P md ops Q S L n (listed.setIfInBounds i true) (a.put oi.dst v) w) : heldBut P md ops Q S L (n + 1) listed a w :=
  heldBut_first hi (Region.noSelect_spec hs) hQ hw n listed a w (Region.free_spec hi hf) (by simpa using hr) hy hS h
theorem heldBut_one {i : Nat} {o : Oper} {n : Nat} {listed : Array Bool} {a : Act} {w : World} (hr : Region.ready md ops listed = [i]) (ho : ops[i]? = some o)
    (h : ∀ K' : Act → World → Prop, Shut (∀ a w, (i = L ∨ S w) → (i = L ∨ S w → heldBut P md ops Q S L n (listed.setIfInBounds i true) a w) → K' a w) → if Region.wanted o (yielded ops a.tmps) = true then Oper.wp P o a w K' Q else K' (a.put o.dst undef) w) :
    heldBut P md ops Q S L (n + 1) listed a w :=
  ⟨fun h0 => (by rw [hr] at h0; cases h0), fun j hj => by
    rw [hr] at hj
    obtain rfl : j = i := by simpa using hj
    exact wpOp_step ho (fun K' hK => h K' (fun a w hS hW => hK a w ⟨hS, hW hS⟩))⟩
theorem heldBut_done {listed : Array Bool} {a : Act} {w : World} (hr : Region.ready md ops listed = []) (h : Q .normal a w) : ∀ n, heldBut P md ops Q S L n listed a w
  | 0 => ⟨hr, h⟩
  | _ + 1 => ⟨fun _ => h, by rw [hr]; simp⟩
end
/-- The same where the condition holds up to the last operation alone. -/
theorem region_roundBut {P : Program} {n l id L : Nat} {Q : Exit → Act → World → Prop} {ops : Array Oper} {a : Act} {w : World} {S : World → Prop} (hm : P.follows .mixedOrders = true) (ho : ops.toList.all plainB = true) (hS : S w.drew)
    (h : S w.drew → heldBut P .any ops (only Q) S L ops.size (Array.replicate ops.size false) a w.drew) : (Code.region id ops true).wpIn (Fence.wide.inRound l) n P Q a w :=
  wpIn_region_any hm (any_round (fun i o hi => List.all_eq_true.1 ho o (by
    obtain ⟨hlt, rfl⟩ := Array.getElem?_eq_some_iff.1 hi
    exact Array.mem_toList_iff.2 (Array.getElem_mem hlt))) _ _ _ _ (any_of_heldBut _ _ _ _ (h hS)))
end Go.Proofs.YtggaflihblhapaaDoor
