/-
  What a disk that is neither armed nor down answers.
-/
import Derived.Test.YtpjibiimakclfabKAwake
namespace Go.Proofs.Ytpjibiimakclfab
open Go.RowKit

structure Calm (p : PD) (cap : Int) (u : Nat) : Prop where
  ok : p.Ok
  down : p.down = false
  left : p.left = -1
  capE : p.cap = cap
  used : p.used = u
theorem calm_new {n : Int} (h : capB n = true) : Calm (newP n) n 0 := ⟨new_ok h, rfl, rfl, rfl, rfl⟩
theorem Calm.check {p : PD} {cap : Int} {u : Nat} (h : Calm p cap u) {n : Int} (hf : fileB n = true) : checkE p n = 0 := by
  unfold checkE
  rw [h.down, hf]
  rfl
theorem calm_cmd {p : PD} {cap : Int} {u : Nat} (h : Calm p cap u) : cmdE p = 0 ∧ Calm (cmdP p) cap u ∧ (cmdP p).done = p.done + 1 := by
  have hl : ¬ p.left = 0 := by rw [h.left]; decide
  have hp : ¬ 0 < p.left := by rw [h.left]; decide
  have e : cmdP p = { p with done := p.done + 1 } := by unfold cmdP; rw [if_neg hl, if_neg hp]
  refine ⟨if_neg hl, ⟨cmd_ok h.ok, ?_, ?_, ?_, ?_⟩, by rw [e]⟩
  · rw [e]; exact h.down
  · rw [e]; exact h.left
  · rw [e]; exact h.capE
  · rw [e]; exact h.used
theorem calm_app {p : PD} {cap : Int} {u : Nat} (h : Calm p cap u) {n : Int} (hf : fileB n = true) (ys : List UInt8) :
    (cap < (u + ys.length : Nat) → appE p n ys.length = 41 ∧ appP p n ys = p) ∧ (¬ cap < (u + ys.length : Nat) → appE p n ys.length = 0 ∧ Calm (appP p n ys) cap (u + ys.length) ∧ (appP p n ys).done = p.done + 1) := by
  have hc := h.check hf
  have hn := fileB_four hf
  unfold appE appP
  rw [if_pos hc, if_pos hc, h.capE, h.used]
  constructor
  · intro hr
    rw [if_pos hr, if_pos hr]
    exact ⟨rfl, rfl⟩
  · intro hr
    rw [if_neg hr, if_neg hr]
    have hi : n.toNat < 4 := by omega
    have h1 : Calm (addP p n.toNat ys) cap (u + ys.length) := by
      have hcap := h.ok.cap1
      rw [h.capE] at hcap
      exact ⟨add_ok h.ok hi (by rw [h.used]; omega), h.down, h.left, h.capE, by rw [add_used hi, h.used]⟩
    have h2 := calm_cmd h1
    exact ⟨(calm_cmd h).1, h2.2.1, h2.2.2⟩
theorem calm_cut {p : PD} {cap : Int} {u : Nat} (h : Calm p cap u) (m : Int) :
    (0 ≤ m ∧ m ≤ (p.xs 0).length → ctE p 0 m = 0 ∧ Calm (ctP p 0 m) cap (u - (p.xs 0).length + m.toNat) ∧ safeD (ctP p 0 m) 0 = m ∧ (ctP p 0 m).done = p.done + 1) ∧ (¬ (0 ≤ m ∧ m ≤ (p.xs 0).length) → ctE p 0 m = 30 ∧ ctP p 0 m = p) := by
  have hc := h.check (n := 0) rfl
  unfold ctE ctP
  rw [if_pos hc, if_pos hc]
  constructor
  · intro hm
    have hm' : 0 ≤ m ∧ m ≤ (p.xs (Int.toNat 0)).length := hm
    rw [if_pos hm', if_pos hm']
    obtain ⟨e1, h2, e3⟩ := calm_cmd h
    have hx : (cmdP p).xs = p.xs := (cmd_xs p).1
    have hs : secP p (Int.toNat 0) m.toNat = cutP (cmdP p) 0 m.toNat := by unfold secP; rw [if_pos e1]; rfl
    rw [hs]
    have hle : m.toNat ≤ ((cmdP p).xs 0).length := by rw [hx]; omega
    refine ⟨e1, ⟨cut_ok h2.ok hle, h2.down, h2.left, h2.capE, ?_⟩, ?_, e3⟩
    · have hu := h2.used
      unfold PD.used at hu ⊢
      show (upd (cmdP p).xs 0 (((cmdP p).xs 0).take m.toNat) 0).length + (upd (cmdP p).xs 0 (((cmdP p).xs 0).take m.toNat) 1).length + (upd (cmdP p).xs 0 (((cmdP p).xs 0).take m.toNat) 2).length + (upd (cmdP p).xs 0 (((cmdP p).xs 0).take m.toNat) 3).length = _
      rw [upd_same, upd_other _ _ (by decide), upd_other _ _ (by decide), upd_other _ _ (by decide), List.length_take]
      rw [hx] at hu hle ⊢
      omega
    · show upd (cmdP p).s 0 (m.toNat : Int) 0 = m
      rw [upd_same]
      omega
  · intro hm
    have hm' : ¬ (0 ≤ m ∧ m ≤ (p.xs (Int.toNat 0)).length) := hm
    rw [if_neg hm', if_neg hm']
    exact ⟨rfl, rfl⟩
theorem made_bytes (n : Nat) : (madeCells #[Value.int .u8 0] n).toList = byC (List.replicate n 0) := by
  unfold madeCells byC
  simp [Nat.mod_one]
  apply List.ext_getElem?
  intro i
  simp only [List.getElem?_map, List.getElem?_replicate]
  by_cases h : i < n
  · simp [h]
  · simp [h]
theorem made_at {w : World} {base b m : Nat} (h : w.ownsRow base 5 1 (.slice (some ⟨b, 0, none⟩) m m) m (madeCells #[Value.int .u8 0] m).toList) : BytesAt w.heap.size w (some ⟨b, 0, none⟩) (List.replicate m 0) := by
  rw [made_bytes] at h
  have hl : (List.replicate m (0 : UInt8)).length = m := List.length_replicate
  obtain ⟨A, c, e, hB, _⟩ := bytes_of_row (w := w) (base := base) (e := 5) (v := .slice (some ⟨b, 0, none⟩) m m) (l := List.replicate m (0 : UInt8)) (by rw [hl]; exact h)
  injection e with e1
  rw [e1]
  exact hB
theorem cApp_no {base g : Nat} {D : DS} {cap : Int} {u : Nat} {n : Int} {A : Option Addr} {c m : Nat} {ys : List UInt8} {w : World} (hD : DiskAt base g w D) (hC : Calm D.p cap u) (hd : D.p.done ≤ 1000000000) (hf : fileB n = true) (hm : ys.length = m) (hy : BytesAt w.heap.size w A ys) (hn : A = none → c = 0) (hl : m ≤ 140737488355328) (hr : cap < (u : Int) + m) :
    Calls Try.prog 17 #[vD g, .int .i64 n, .slice A m c] w fun e w' => e = .returned (.int .i64 41) ∧ ∃ D' : DS, D'.p = D.p ∧ DiskAt base g w' D' ∧ Turned g D D' w w' := by
  subst hm
  have h := (calm_app hC hf ys).1 (by omega)
  refine (append_any n A c ys w hD hC.ok (by omega) hy hn hl).mono ?_
  rintro e w' ⟨rfl, D', e1, e2, e3⟩
  exact ⟨by rw [h.1], D', by rw [e1, h.2], e2, e3⟩
theorem cApp_yes {base g : Nat} {D : DS} {cap : Int} {u : Nat} {n : Int} {A : Option Addr} {c m : Nat} {ys : List UInt8} {w : World} (hD : DiskAt base g w D) (hC : Calm D.p cap u) (hd : D.p.done ≤ 1000000000) (hf : fileB n = true) (hm : ys.length = m) (hy : BytesAt w.heap.size w A ys) (hn : A = none → c = 0) (hl : m ≤ 140737488355328) (hr : ¬ cap < (u : Int) + m) :
    Calls Try.prog 17 #[vD g, .int .i64 n, .slice A m c] w fun e w' => e = .returned (.int .i64 0) ∧ ∃ D' : DS, Calm D'.p cap (u + m) ∧ D'.p.done = D.p.done + 1 ∧ DiskAt base g w' D' ∧ Turned g D D' w w' := by
  subst hm
  have h := (calm_app hC hf ys).2 (by omega)
  refine (append_any n A c ys w hD hC.ok (by omega) hy hn hl).mono ?_
  rintro e w' ⟨rfl, D', e1, e2, e3⟩
  exact ⟨by rw [h.1], D', by rw [e1]; exact h.2.1, by rw [e1]; exact h.2.2, e2, e3⟩
theorem cSize {base g : Nat} {D : DS} {w : World} (hD : DiskAt base g w D) : Calls Try.prog 13 #[vD g, .int .i64 0] w fun e w' => e = .returned (.int .i64 ((D.p.xs 0).length : Nat)) ∧ Below w.heap.size w w' := size_any 0 w hD
theorem cCut_no {base g : Nat} {D : DS} {cap : Int} {u : Nat} {m : Int} {w : World} (hD : DiskAt base g w D) (hC : Calm D.p cap u) (hd : D.p.done ≤ 1000000000) (hm : ¬ (0 ≤ m ∧ m ≤ (D.p.xs 0).length)) :
    Calls Try.prog 23 #[vD g, .int .i64 0, .int .i64 m] w fun e w' => e = .returned (.int .i64 30) ∧ ∃ D' : DS, D'.p = D.p ∧ DiskAt base g w' D' ∧ Turned g D D' w w' := by
  have h := (calm_cut hC m).2 hm
  refine (cut_any 0 m w hD hC.ok (by omega)).mono ?_
  rintro e w' ⟨rfl, D', e1, e2, e3⟩
  exact ⟨by rw [h.1], D', by rw [e1, h.2], e2, e3⟩
theorem cCut_yes {base g : Nat} {D : DS} {cap : Int} {u m : Nat} {w : World} (hD : DiskAt base g w D) (hC : Calm D.p cap u) (hd : D.p.done ≤ 1000000000) (hm : m ≤ (D.p.xs 0).length) :
    Calls Try.prog 23 #[vD g, .int .i64 0, .int .i64 m] w fun e w' => e = .returned (.int .i64 0) ∧ ∃ D' : DS, Calm D'.p cap (u - (D.p.xs 0).length + m) ∧ safeD D'.p 0 = m ∧ D'.p.done = D.p.done + 1 ∧ DiskAt base g w' D' ∧ Turned g D D' w w' := by
  have h := (calm_cut hC m).1 ⟨by omega, by omega⟩
  rw [Int.toNat_natCast] at h
  refine (cut_any 0 m w hD hC.ok (by omega)).mono ?_
  rintro e w' ⟨rfl, D', e1, e2, e3⟩
  exact ⟨by rw [h.1], D', by rw [e1]; exact h.2.1, by rw [e1]; exact h.2.2.1, by rw [e1]; exact h.2.2.2, e2, e3⟩
theorem cUsed {base g : Nat} {D : DS} {cap : Int} {u : Nat} {w : World} (hD : DiskAt base g w D) (hC : Calm D.p cap u) : Calls Try.prog 10 #[vD g] w fun e w' => e = .returned (.int .i64 (u : Nat)) ∧ Below w.heap.size w w' := by
  have := used_any w hD hC.ok
  rw [hC.used] at this
  exact this
end Go.Proofs.Ytpjibiimakclfab
