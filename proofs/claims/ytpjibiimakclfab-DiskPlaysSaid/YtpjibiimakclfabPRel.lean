/-
  The disk and the reference's disk say the same, call by call.
-/
import Derived.Test.YtpjibiimakclfabPCrash
import Derived.Test.YtpjibiimakclfabKPow
namespace Go.Proofs.Ytpjibiimakclfab
open Go.RowKit

def sfOf (s : Int) (n : Nat) : List Bool := List.replicate s.toNat true ++ List.replicate (n - s.toNat) false
theorem heads_rep : ∀ (a b : Nat), heads (List.replicate a true ++ List.replicate b false) = a
  | 0, 0 => rfl
  | 0, b + 1 => rfl
  | a + 1, b => by
    show heads (true :: (List.replicate a true ++ List.replicate b false)) = _
    show heads (List.replicate a true ++ List.replicate b false) + 1 = _
    rw [heads_rep a b]
structure Rel (d : PD) (x : RP) : Prop where
  bs : ∀ i, i < 4 → x.bs i = d.xs i
  sf : ∀ i, i < 4 → x.sf i = sfOf (d.s i) (d.xs i).length
  cap : x.cap = d.cap
  done : x.done = d.done
  down : x.down = d.down
  armed : x.armed = decide (0 ≤ d.left)
  left : 0 ≤ d.left → x.left = d.left
  l0 : -9223372036854775808 ≤ x.left
  l1 : x.left ≤ 9223372036854775807
theorem Rel.used {d : PD} {x : RP} (h : Rel d x) : x.used = d.used := by
  unfold RP.used PD.used
  rw [h.bs 0 (by decide), h.bs 1 (by decide), h.bs 2 (by decide), h.bs 3 (by decide)]
theorem Rel.heads {d : PD} {x : RP} (h : Rel d x) {i : Nat} (hi : i < 4) : heads (x.sf i) = (d.s i).toNat := by
  rw [h.sf i hi]
  exact heads_rep _ _
theorem Rel.ok {d : PD} {x : RP} (h : Rel d x) (hO : d.Ok) : x.Ok := by
  refine ⟨by rw [h.used]; exact hO.used, fun i hi => ?_, by rw [h.done]; exact hO.done0, h.l0, h.l1⟩
  rw [h.sf i hi, h.bs i hi]
  unfold sfOf
  rw [List.length_append, List.length_replicate, List.length_replicate]
  have := hO.s0 i hi
  have := hO.s1 i hi
  omega
theorem Rel.armed0 {d : PD} {x : RP} (h : Rel d x) : x.armed = true → 0 ≤ x.left := fun e => by
  rw [h.armed, decide_eq_true_eq] at e
  rw [h.left e]; exact e
theorem Rel.check {d : PD} {x : RP} (h : Rel d x) (n : Int) : wrE x n = checkE d n := by
  unfold wrE checkE fileB
  rw [h.down]
  by_cases hd : d.down = true
  · rw [if_pos hd, if_pos hd]
  · rw [if_neg hd, if_neg hd]
    by_cases e : n < 0 ∨ 3 < n
    · rw [if_pos e, if_neg]
      simp only [Bool.and_eq_true, decide_eq_true_eq]
      omega
    · rw [if_neg e, if_pos]
      simp only [Bool.and_eq_true, decide_eq_true_eq]
      omega
theorem Rel.stop {d : PD} {x : RP} (h : Rel d x) : (x.armed = true ∧ x.left = 0) ↔ d.left = 0 := by
  rw [h.armed, decide_eq_true_eq]
  constructor
  · rintro ⟨a, b⟩
    rw [h.left a] at b; exact b
  · intro e
    exact ⟨by omega, by rw [h.left (by omega)]; exact e⟩
theorem Rel.cmdE {d : PD} {x : RP} (h : Rel d x) : rcE x = cmdE d := by
  unfold rcE Go.Proofs.Ytpjibiimakclfab.cmdE
  by_cases e : d.left = 0
  · rw [if_pos e, if_pos (h.stop.2 e)]
  · rw [if_neg e, if_neg (fun h2 => e (h.stop.1 h2))]
theorem Rel.cmd {d : PD} {x : RP} (h : Rel d x) : Rel (cmdP d) (rcP x) := by
  unfold rcP cmdP
  by_cases e : d.left = 0
  · rw [if_pos e, if_pos (h.stop.2 e)]
    exact ⟨h.bs, h.sf, h.cap, h.done, rfl, h.armed, h.left, h.l0, h.l1⟩
  · rw [if_neg e, if_neg (fun h2 => e (h.stop.1 h2))]
    have ha := h.armed
    by_cases hp : 0 < d.left
    · have ht : x.armed = true := by rw [ha, decide_eq_true_eq]; omega
      have hl := h.left (by omega)
      have h0 := h.l0
      have h1 := h.l1
      refine ⟨h.bs, h.sf, h.cap, by show x.done + 1 = d.done + 1; rw [h.done], h.down, ?_, fun _ => ?_, ?_, ?_⟩
      · show x.armed = decide (0 ≤ if 0 < d.left then d.left - 1 else d.left)
        rw [if_pos hp, ht]; symm; rw [decide_eq_true_eq]; omega
      · show (if x.armed = true then x.left - 1 else x.left) = if 0 < d.left then d.left - 1 else d.left
        rw [if_pos ht, if_pos hp, hl]
      · show _ ≤ (if x.armed = true then x.left - 1 else x.left)
        rw [if_pos ht]; omega
      · show (if x.armed = true then x.left - 1 else x.left) ≤ _
        rw [if_pos ht]; omega
    · have ht : ¬ x.armed = true := by rw [ha, decide_eq_true_eq]; omega
      refine ⟨h.bs, h.sf, h.cap, by show x.done + 1 = d.done + 1; rw [h.done], h.down, ?_, fun hz => ?_, ?_, ?_⟩
      · show x.armed = decide (0 ≤ if 0 < d.left then d.left - 1 else d.left)
        rw [if_neg hp]; exact ha
      · exfalso
        have hz : 0 ≤ (if 0 < d.left then d.left - 1 else d.left) := hz
        rw [if_neg hp] at hz
        omega
      · show _ ≤ (if x.armed = true then x.left - 1 else x.left)
        rw [if_neg ht]; exact h.l0
      · show (if x.armed = true then x.left - 1 else x.left) ≤ _
        rw [if_neg ht]; exact h.l1
theorem Rel.add {d : PD} {x : RP} (h : Rel d x) (hO : d.Ok) {i : Nat} (hi : i < 4) (ys : List UInt8) : Rel (addP d i ys) (raP x i ys) := by
  refine ⟨fun j hj => ?_, fun j hj => ?_, h.cap, h.done, h.down, h.armed, h.left, h.l0, h.l1⟩
  · show upd x.bs i (x.bs i ++ ys) j = upd d.xs i (d.xs i ++ ys) j
    by_cases e : j = i
    · rw [e, upd_same, upd_same, h.bs i hi]
    · rw [upd_other _ _ e, upd_other _ _ e, h.bs j hj]
  · show upd x.sf i (x.sf i ++ List.replicate ys.length false) j = sfOf (upd d.s i (d.s i) j) (upd d.xs i (d.xs i ++ ys) j).length
    rw [upd_self]
    by_cases e : j = i
    · rw [e, upd_same, upd_same, h.sf i hi, List.length_append]
      unfold sfOf
      have h0 := hO.s0 i hi
      have h1 := hO.s1 i hi
      rw [List.append_assoc, List.replicate_append_replicate]
      congr 2
      omega
    · rw [upd_other _ _ e, upd_other _ _ e, h.sf j hj]
theorem Rel.app {d : PD} {x : RP} (h : Rel d x) (hO : d.Ok) (n : Int) (ys : List UInt8) : raE x n ys.length = appE d n ys.length ∧ Rel (appP d n ys) (raF x n ys) := by
  unfold raE appE raF appP
  rw [h.check n, h.cap, h.used]
  by_cases hc : checkE d n = 0
  · rw [if_pos hc, if_pos hc, if_pos hc, if_pos hc]
    by_cases hr : d.cap < ((d.used + ys.length : Nat) : Int)
    · rw [if_pos hr, if_pos hr, if_pos (by omega), if_pos (by omega)]
      exact ⟨rfl, h⟩
    · rw [if_neg hr, if_neg hr, if_neg (by omega), if_neg (by omega)]
      have hf := fileB_four (checkE_zero hc).2
      exact ⟨h.cmdE, (h.add hO (by omega) ys).cmd⟩
  · rw [if_neg hc, if_neg hc, if_neg hc, if_neg hc]
    exact ⟨rfl, h⟩
theorem Rel.cutP {d : PD} {x : RP} (h : Rel d x) {i k : Nat} (hi : i < 4) (hk : k ≤ (d.xs i).length) : Rel (cutP d i k) (rfP x i k) := by
  refine ⟨fun j hj => ?_, fun j hj => ?_, h.cap, h.done, h.down, h.armed, h.left, h.l0, h.l1⟩
  · show upd x.bs i ((x.bs i).take k) j = upd d.xs i ((d.xs i).take k) j
    by_cases e : j = i
    · rw [e, upd_same, upd_same, h.bs i hi]
    · rw [upd_other _ _ e, upd_other _ _ e, h.bs j hj]
  · show upd x.sf i (List.replicate k true) j = sfOf (upd d.s i (k : Int) j) (upd d.xs i ((d.xs i).take k) j).length
    by_cases e : j = i
    · rw [e, upd_same, upd_same, upd_same, List.length_take, Nat.min_eq_left hk]
      unfold sfOf
      rw [Int.toNat_natCast, Nat.sub_self, List.replicate_zero, List.append_nil]
    · rw [upd_other _ _ e, upd_other _ _ e, upd_other _ _ e, h.sf j hj]
theorem cmd_xs' (d : PD) : (cmdP d).xs = d.xs := by
  unfold cmdP
  split <;> rfl
theorem Rel.cut {d : PD} {x : RP} (h : Rel d x) (n m : Int) : ruE x n m = ctE d n m ∧ Rel (ctP d n m) (ruF x n m) := by
  unfold ruE ctE ruF ctP secP
  rw [h.check n, h.cmdE]
  by_cases hc : checkE d n = 0
  · rw [if_pos hc, if_pos hc, if_pos hc, if_pos hc]
    have hf := fileB_four (checkE_zero hc).2
    have hn : n.toNat < 4 := by omega
    rw [h.bs _ hn]
    by_cases hm : 0 ≤ m ∧ m ≤ (d.xs n.toNat).length
    · have hx : ¬ (m < 0 ∨ ((d.xs n.toNat).length : Int) < m) := by omega
      rw [if_pos hm, if_pos hm, if_neg hx, if_neg hx]
      refine ⟨rfl, ?_⟩
      by_cases he : Go.Proofs.Ytpjibiimakclfab.cmdE d = 0
      · rw [if_pos he, if_pos he]
        exact h.cmd.cutP hn (by rw [cmd_xs' d]; omega)
      · rw [if_neg he, if_neg he]
        exact h.cmd
    · have hx : m < 0 ∨ ((d.xs n.toNat).length : Int) < m := by omega
      rw [if_neg hm, if_neg hm, if_pos hx, if_pos hx]
      exact ⟨rfl, h⟩
  · rw [if_neg hc, if_neg hc, if_neg hc, if_neg hc]
    exact ⟨rfl, h⟩
theorem ssP_all {x : RP} {i : Nat} (hl : (x.sf i).length = (x.bs i).length) : ssP x i (x.sf i).length = rfP x i (x.bs i).length := by
  unfold ssP rfP
  rw [List.drop_length, List.append_nil, List.take_length, upd_self, hl]
theorem Rel.sync {d : PD} {x : RP} (h : Rel d x) (hO : d.Ok) (n : Int) : rsE x n = synE d n ∧ Rel (synP d n) (rsF x n) := by
  unfold rsE synE rsF synP secP
  rw [h.check n, h.cmdE]
  by_cases hc : checkE d n = 0
  · rw [if_pos hc, if_pos hc, if_pos hc]
    have hf := fileB_four (checkE_zero hc).2
    have hn : n.toNat < 4 := by omega
    refine ⟨rfl, ?_⟩
    by_cases he : Go.Proofs.Ytpjibiimakclfab.cmdE d = 0
    · rw [if_pos he, if_pos he]
      have h1 := (rcP_same x).1
      have h2 := (rcP_same x).2.1
      have h3 : ssP (rcP x) n.toNat (x.sf n.toNat).length = rfP (rcP x) n.toNat (x.bs n.toNat).length := by
        rw [← h2, ← h1]
        exact ssP_all (by rw [h2, h1]; exact (h.ok hO).len _ hn)
      rw [h3, h.bs _ hn]
      exact h.cmd.cutP hn (by rw [cmd_xs' d]; omega)
    · rw [if_neg he, if_neg he]
      exact h.cmd
  · rw [if_neg hc, if_neg hc, if_neg hc]
    exact ⟨rfl, h⟩
theorem Rel.keepN {d : PD} {x : RP} (h : Rel d x) (hO : d.Ok) (ks : List Int) {i : Nat} (hi : i < 4) : Go.Proofs.Ytpjibiimakclfab.heads (x.sf i) + rkM x ks i = crN d ks i := by
  unfold rkM crN crI
  rw [h.heads hi, h.bs i hi]
  have h0 := hO.s0 i hi
  have h1 := hO.s1 i hi
  split <;> omega
theorem Rel.crK {d : PD} {x : RP} (h : Rel d x) (hO : d.Ok) (ks : List Int) : ∀ k, k ≤ 4 → Rel (crK d ks k) (rzP x ks k)
  | 0, _ => h
  | k + 1, hk => by
    have ih := h.crK hO ks k (by omega)
    have hok := crK_ok hO ks k (by omega)
    show Rel (Go.Proofs.Ytpjibiimakclfab.cutP _ k (crN _ ks k)) (rfP _ k (Go.Proofs.Ytpjibiimakclfab.heads ((rzP x ks k).sf k) + rkM (rzP x ks k) ks k))
    rw [ih.keepN hok ks (by omega)]
    exact ih.cutP (by omega) (crI_ok hok ks (by omega)).2
theorem Rel.crash {d : PD} {x : RP} (h : Rel d x) (hO : d.Ok) (ks : List Int) : Rel (crashP d ks) (rxP x ks) := by
  have := h.crK hO ks 4 (Nat.le_refl _)
  exact ⟨this.bs, this.sf, this.cap, this.done, rfl, rfl, fun hz => absurd (show (0 : Int) ≤ -1 from hz) (by decide), this.l0, this.l1⟩
theorem Rel.arm {d : PD} {x : RP} (h : Rel d x) (n : Int) (h0 : -9223372036854775808 ≤ n) (h1 : n ≤ 9223372036854775807) : Rel { d with left := n } { x with armed := decide (0 ≤ n), left := n } :=
  ⟨h.bs, h.sf, h.cap, h.done, h.down, rfl, fun _ => rfl, h0, h1⟩
theorem Rel.lim {d : PD} {x : RP} (h : Rel d x) (n : Int) : Rel (limP d n) (if 0 ≤ n ∧ n ≤ 1073741824 then { x with cap := n } else x) := by
  unfold limP capB
  by_cases e : 0 ≤ n ∧ n ≤ 1073741824
  · rw [if_pos e, if_pos (by simp [e])]
    exact ⟨h.bs, h.sf, rfl, h.done, h.down, h.armed, h.left, h.l0, h.l1⟩
  · rw [if_neg e, if_neg (by simp only [Bool.and_eq_true, decide_eq_true_eq]; exact e)]
    exact h
def rnewP (cap : Int) : RP := ⟨fun _ => [], fun _ => [], cap, 0, 0, false, false⟩
theorem Rel.new (cap : Int) : Rel (newP cap) (rnewP cap) :=
  ⟨fun _ _ => rfl, fun _ _ => rfl, rfl, rfl, rfl, rfl, fun hz => absurd (show (0 : Int) ≤ -1 from hz) (by decide), show _ ≤ (0 : Int) by decide, show (0 : Int) ≤ _ by decide⟩
end Go.Proofs.Ytpjibiimakclfab
