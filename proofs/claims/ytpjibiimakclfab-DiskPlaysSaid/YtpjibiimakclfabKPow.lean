/-
  What an armed disk does: just so many commands.
-/
import Derived.Test.YtpjibiimakclfabKOps
namespace Go.Proofs.Ytpjibiimakclfab
open Go.RowKit

structure Pow (a : Int) (p : PD) : Prop where
  ok : p.Ok
  neg : a < 0 → p.down = false ∧ p.left = a
  pos : 0 ≤ a → (p.down = true → p.done = a) ∧ p.left = a - p.done ∧ p.done ≤ a
theorem pow_new {a n : Int} (h : capB n = true) (h0 : -9223372036854775808 ≤ a) (h1 : a ≤ 9223372036854775807) : Pow a { newP n with left := a } := by
  obtain ⟨a1, a2, a3, a4, a5, a6, _, _⟩ := new_ok h
  refine ⟨⟨a1, a2, a3, a4, a5, a6, h0, h1⟩, fun _ => ⟨rfl, rfl⟩, fun h => ⟨(fun e => by cases e), ?_, h⟩⟩
  show a = a - 0
  omega
theorem pow_cmd {a : Int} {p : PD} (h : Pow a p) (hd : p.down = false) : Pow a (cmdP p) ∧ ((cmdP p).down = true ↔ cmdE p = 40) ∧ (cmdP p).done ≤ p.done + 1 := by
  have hk := cmd_ok h.ok
  by_cases h0 : p.left = 0
  · have e : cmdP p = { p with down := true } := if_pos h0
    have e2 : cmdE p = 40 := if_pos h0
    rw [e] at hk ⊢
    rw [e2]
    refine ⟨⟨hk, fun ha => ?_, fun ha => ?_⟩, ⟨fun _ => rfl, fun _ => rfl⟩, by show p.done ≤ _; omega⟩
    · have := (h.neg ha).2
      omega
    · obtain ⟨p1, p2, p3⟩ := h.pos ha
      exact ⟨fun _ => by show p.done = a; omega, p2, p3⟩
  · have e : cmdP p = { p with left := if 0 < p.left then p.left - 1 else p.left, done := p.done + 1 } := if_neg h0
    have e2 : cmdE p = 0 := if_neg h0
    rw [e] at hk ⊢
    rw [e2]
    refine ⟨⟨hk, fun ha => ?_, fun ha => ?_⟩, ⟨fun x => ?_, fun x => absurd x (by decide)⟩, Int.le_refl _⟩
    · obtain ⟨q1, q2⟩ := h.neg ha
      refine ⟨q1, ?_⟩
      show (if 0 < p.left then p.left - 1 else p.left) = a
      rw [if_neg (by omega)]
      exact q2
    · obtain ⟨p1, p2, p3⟩ := h.pos ha
      refine ⟨fun x => ?_, ?_, ?_⟩
      · have x' : p.down = true := x
        rw [hd] at x'; cases x'
      · show (if 0 < p.left then p.left - 1 else p.left) = a - (p.done + 1)
        rw [if_pos (by omega)]
        omega
      · show p.done + 1 ≤ a
        omega
    · have x' : p.down = true := x
      rw [hd] at x'; cases x'
/-- What holds of a call: what it tells, and what it leaves. -/
structure Told (a : Int) (p p' : PD) (e : Int) : Prop where
  pow : Pow a p'
  iff : p'.down = true ↔ e = 40
  was : p.down = true → e = 40
  done : p'.done ≤ p.done + 1
theorem check_two (p : PD) (n : Int) : checkE p n = (if p.down = true then 40 else if fileB n = true then 0 else 30) := rfl
theorem check_told {a : Int} {p : PD} (h : Pow a p) (n : Int) : Told a p p (checkE p n) := by
  rw [check_two]
  cases hd : p.down
  · refine ⟨h, ⟨fun e => absurd (hd.symm.trans e) (by decide), fun e => ?_⟩, fun e => absurd (hd.symm.trans e) (by decide), by omega⟩
    simp at e
    split at e <;> cases e
  · exact ⟨h, ⟨fun _ => rfl, fun _ => hd⟩, fun _ => rfl, by omega⟩
theorem told_cmd {a : Int} {p q : PD} (h : Pow a p) (hd : p.down = false) (hq : q = cmdP p) : Told a p q (cmdE p) := by
  subst hq
  obtain ⟨h1, h2, h3⟩ := pow_cmd h hd
  exact ⟨h1, h2, fun e => absurd (hd.symm.trans e) (by decide), h3⟩
theorem pow_same {a : Int} {p q : PD} (h : Pow a p) (ho : q.Ok) (h1 : q.down = p.down) (h2 : q.left = p.left) (h3 : q.done = p.done) : Pow a q :=
  ⟨ho, fun ha => by rw [h1, h2]; exact h.neg ha, fun ha => by rw [h1, h2, h3]; exact h.pos ha⟩
theorem cmd_same {p q : PD} (h1 : q.down = p.down) (h2 : q.left = p.left) (h3 : q.done = p.done) : cmdE q = cmdE p ∧ (cmdP q).down = (cmdP p).down ∧ (cmdP q).left = (cmdP p).left ∧ (cmdP q).done = (cmdP p).done := by
  unfold cmdE cmdP
  rw [h2]
  refine ⟨rfl, ?_, ?_, ?_⟩ <;> split <;> first | rfl | simp [h1, h3]
theorem told_app {a : Int} {p : PD} (h : Pow a p) (n : Int) (ys : List UInt8) : Told a p (appP p n ys) (appE p n ys.length) := by
  have ho := app_ok h.ok n ys
  unfold appP at ho ⊢
  unfold appE
  by_cases hc : checkE p n = 0
  · rw [if_pos hc] at ho
    rw [if_pos hc, if_pos hc]
    obtain ⟨hd, hf⟩ := checkE_zero hc
    by_cases hr : p.cap < (p.used + ys.length : Nat)
    · rw [if_pos hr, if_pos hr]
      exact ⟨h, ⟨fun e => absurd (hd.symm.trans e) (by decide), fun e => absurd e (by decide)⟩, fun e => absurd (hd.symm.trans e) (by decide), by omega⟩
    · rw [if_neg hr] at ho
      rw [if_neg hr, if_neg hr]
      have hs := cmd_same (p := p) (q := addP p n.toNat ys) rfl rfl rfl
      have ht := told_cmd h hd rfl
      exact ⟨pow_same ht.pow ho hs.2.1 hs.2.2.1 hs.2.2.2, by rw [hs.2.1]; exact ht.iff, ht.was, by rw [hs.2.2.2]; exact ht.done⟩
  · rw [if_neg hc, if_neg hc]
    exact check_told h n
theorem told_sec {a : Int} {p : PD} (h : Pow a p) (hd : p.down = false) (i m : Nat) (hm : m ≤ (p.xs i).length) : Told a p (secP p i m) (cmdE p) := by
  have ho := sec_ok h.ok hm
  have ht := told_cmd h hd rfl
  unfold secP at ho ⊢
  split
  · rename_i he
    rw [if_pos he] at ho
    exact ⟨pow_same ht.pow ho rfl rfl rfl, ht.iff, ht.was, ht.done⟩
  · exact ht
theorem told_syn {a : Int} {p : PD} (h : Pow a p) (n : Int) : Told a p (synP p n) (synE p n) := by
  unfold synP synE
  by_cases hc : checkE p n = 0
  · rw [if_pos hc, if_pos hc]
    exact told_sec h (checkE_zero hc).1 _ _ (Nat.le_refl _)
  · rw [if_neg hc, if_neg hc]
    exact check_told h n
theorem told_cut {a : Int} {p : PD} (h : Pow a p) (n m : Int) : Told a p (ctP p n m) (ctE p n m) := by
  unfold ctP ctE
  by_cases hc : checkE p n = 0
  · rw [if_pos hc, if_pos hc]
    have hd := (checkE_zero hc).1
    by_cases hm : 0 ≤ m ∧ m ≤ (p.xs n.toNat).length
    · rw [if_pos hm, if_pos hm]
      exact told_sec h hd _ _ (by omega)
    · rw [if_neg hm, if_neg hm]
      exact ⟨h, ⟨fun e => absurd (hd.symm.trans e) (by decide), fun e => absurd e (by decide)⟩, fun e => absurd (hd.symm.trans e) (by decide), by omega⟩
  · rw [if_neg hc, if_neg hc]
    exact check_told h n
theorem crK_cmd (p : PD) (ks : List Int) : ∀ k, (crK p ks k).done = p.done
  | 0 => rfl
  | k + 1 => crK_cmd p ks k
theorem crash_syn {p : PD} (ks : List Int) : (crashP p ks).down = false ∧ synE (crashP p ks) 0 = 0 ∧ (crashP p ks).done = p.done :=
  ⟨rfl, rfl, crK_cmd p ks 4⟩
theorem pApp {base g : Nat} {D : DS} {a : Int} {w : World} (n : Int) (A : Option Addr) (c : Nat) (ys : List UInt8) (hD : DiskAt base g w D) (h : Pow a D.p) (hd : D.p.done ≤ 1000000000) (hy : BytesAt w.heap.size w A ys) (hn : A = none → c = 0) (hl : ys.length ≤ 140737488355328) :
    Calls Try.prog 17 #[vD g, .int .i64 n, .slice A ys.length c] w fun e w' => ∃ (r : Int) (D' : DS), e = .returned (.int .i64 r) ∧ Told a D.p D'.p r ∧ DiskAt base g w' D' ∧ Turned g D D' w w' := by
  refine (append_any n A c ys w hD h.ok (by omega) hy hn hl).mono ?_
  rintro e w' ⟨rfl, D', e1, e2, e3⟩
  exact ⟨_, D', rfl, by rw [e1]; exact told_app h n ys, e2, e3⟩
theorem pSyn {base g : Nat} {D : DS} {a : Int} {w : World} (n : Int) (hD : DiskAt base g w D) (h : Pow a D.p) (hd : D.p.done ≤ 1000000000) :
    Calls Try.prog 18 #[vD g, .int .i64 n] w fun e w' => ∃ (r : Int) (D' : DS), e = .returned (.int .i64 r) ∧ Told a D.p D'.p r ∧ DiskAt base g w' D' ∧ Turned g D D' w w' := by
  refine (sync_any n w hD h.ok (by omega)).mono ?_
  rintro e w' ⟨rfl, D', e1, e2, e3⟩
  exact ⟨_, D', rfl, by rw [e1]; exact told_syn h n, e2, e3⟩
theorem pCut {base g : Nat} {D : DS} {a : Int} {w : World} (n m : Int) (hD : DiskAt base g w D) (h : Pow a D.p) (hd : D.p.done ≤ 1000000000) :
    Calls Try.prog 23 #[vD g, .int .i64 n, .int .i64 m] w fun e w' => ∃ (r : Int) (D' : DS), e = .returned (.int .i64 r) ∧ Told a D.p D'.p r ∧ DiskAt base g w' D' ∧ Turned g D D' w w' := by
  refine (cut_any n m w hD h.ok (by omega)).mono ?_
  rintro e w' ⟨rfl, D', e1, e2, e3⟩
  exact ⟨_, D', rfl, by rw [e1]; exact told_cut h n m, e2, e3⟩
theorem pRead {base g : Nat} {D : DS} {a : Int} {w : World} (n : Int) (hD : DiskAt base g w D) (h : Pow a D.p)  :
    Calls Try.prog 20 #[vD g, .int .i64 n] w fun e w' => ∃ (r : Int) (D' : DS), (∃ u, e = .returned (.tuple #[u, .int .i64 r])) ∧ Told a D.p D'.p r ∧ DiskAt base g w' D' ∧ Turned g D D' w w' := by
  refine (read_any n w hD h.ok).mono ?_
  rintro e w' ⟨⟨A, c, rfl, h1, -, -⟩, hb⟩
  exact ⟨checkE D.p n, D, ⟨_, rfl⟩, check_told h n, hD.below hb, Turned.of_below hb⟩
end Go.Proofs.Ytpjibiimakclfab
