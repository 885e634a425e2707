/-
  Lists of calls in memory; small.
-/
import Derived.Test.YtpjibiimakclfabKFullW
namespace Go.Proofs.Ytpjibiimakclfab
open Go.RowKit

theorem IntsAt.on {w w' : World} {A : Option Addr} {l : List Int} (h : IntsAt w.heap.size w A l) (hb : Below w.heap.size w w') : IntsAt w'.heap.size w' A l := fun j hj => by
  obtain ⟨b, off, e, hlt, h0⟩ := h j hj
  exact ⟨b, off, e, Nat.lt_of_lt_of_le hlt hb.size, (hb.cell (p := ⟨b, off + j, none⟩) hlt).trans h0⟩
theorem IntsAt.mono {B B' : Nat} {w : World} {A : Option Addr} {l : List Int} (h : IntsAt B w A l) (hB : B ≤ B') : IntsAt B' w A l := fun j hj => by
  obtain ⟨b, off, e, hlt, h0⟩ := h j hj
  exact ⟨b, off, e, Nat.lt_of_lt_of_le hlt hB, h0⟩
theorem BytesAt.mono {B B' : Nat} {w : World} {A : Option Addr} {l : List UInt8} (h : BytesAt B w A l) (hB : B ≤ B') : BytesAt B' w A l := fun j hj => by
  obtain ⟨b, off, e, hlt, h0⟩ := h j hj
  exact ⟨b, off, e, Nat.lt_of_lt_of_le hlt hB, h0⟩
/-- One call, with what its slices hold. -/
structure OpR where
  k : Int
  f : Int
  n : Int
  dA : Option Addr
  dc : Nat
  dl : List UInt8
  kA : Option Addr
  kc : Nat
  kl : List Int
def dO : OpR := ⟨0, 0, 0, none, 0, [], none, 0, []⟩
abbrev oCells (o : OpR) : Array Value := #[.int .i64 o.k, .int .i64 o.f, .int .i64 o.n, .slice o.dA o.dl.length o.dc, .slice o.kA o.kl.length o.kc]
/-- The call at this place, and what its slices hold, below block B. -/
structure OpAt (B : Nat) (w : World) (b o : Nat) (x : OpR) : Prop where
  c0 : w.cell? ⟨b, o, none⟩ = some (.int .i64 x.k)
  c1 : w.cell? ⟨b, o + 1, none⟩ = some (.int .i64 x.f)
  c2 : w.cell? ⟨b, o + 2, none⟩ = some (.int .i64 x.n)
  c3 : w.cell? ⟨b, o + 3, none⟩ = some (.slice x.dA x.dl.length x.dc)
  c4 : w.cell? ⟨b, o + 4, none⟩ = some (.slice x.kA x.kl.length x.kc)
  d : BytesAt B w x.dA x.dl
  k : IntsAt B w x.kA x.kl
theorem OpAt.below {B b o : Nat} {w w' : World} {x : OpR} (h : OpAt B w b o x) (hlt : b < B) (hb : Below B w w') : OpAt B w' b o x :=
  ⟨(hb.cell (p := ⟨b, o, none⟩) hlt).trans h.c0, (hb.cell (p := ⟨b, o + 1, none⟩) hlt).trans h.c1, (hb.cell (p := ⟨b, o + 2, none⟩) hlt).trans h.c2, (hb.cell (p := ⟨b, o + 3, none⟩) hlt).trans h.c3, (hb.cell (p := ⟨b, o + 4, none⟩) hlt).trans h.c4, h.d.below hb, h.k.below hb⟩
def OpsAt (B : Nat) (w : World) (A : Option Addr) (l : List OpR) : Prop := ∀ j, j < l.length → ∃ b off, A = some ⟨b, off, none⟩ ∧ b < B ∧ OpAt B w b (off + j * 5) (l.getD j dO)
theorem OpsAt.below {B : Nat} {w w' : World} {A : Option Addr} {l : List OpR} (h : OpsAt B w A l) (hb : Below B w w') : OpsAt B w' A l := fun j hj => by
  obtain ⟨b, off, e, hlt, h0⟩ := h j hj
  exact ⟨b, off, e, hlt, h0.below hlt hb⟩
structure WfO (o : OpR) : Prop where
  k0 : -9223372036854775808 ≤ o.k
  k1 : o.k ≤ 9223372036854775807
  f0 : -9223372036854775808 ≤ o.f
  f1 : o.f ≤ 9223372036854775807
  n0 : -9223372036854775808 ≤ o.n
  n1 : o.n ≤ 9223372036854775807
  dl : o.dl.length ≤ maxLen
  dn : o.dA = none → o.dc = 0
  kl : o.kl.length ≤ maxLen
  kn : o.kA = none → o.kc = 0
  ks : ∀ j, j < o.kl.length → -9223372036854775808 ≤ o.kl.getD j 0 ∧ o.kl.getD j 0 ≤ 9223372036854775807
def WfOs (l : List OpR) : Prop := l.length ≤ maxLen ∧ ∀ j, j < l.length → WfO (l.getD j dO)
def okO (o : OpR) : Bool := decide (o.dl.length ≤ 300) && decide (o.kl.length ≤ 20)
def smallO (l : List OpR) (m : Int) : Bool := l.all okO && decide ((l.length : Int) ≤ m)
theorem smallO_no {l : List OpR} {m : Int} {k : Nat} (hk : k < l.length) (h : okO (l.getD k dO) = false) : smallO l m = false := by
  unfold smallO
  have : l.all okO = false := by
    rw [List.all_eq_false]
    rw [List.getD_eq_getElem?_getD, List.getElem?_eq_getElem hk] at h
    exact ⟨_, List.getElem_mem hk, by rw [Option.getD_some] at h; rw [h]; decide⟩
  rw [this]; rfl
theorem smallO_all {l : List OpR} {m : Int} (h : ∀ j, j < l.length → okO (l.getD j dO) = true) : smallO l m = decide ((l.length : Int) ≤ m) := by
  unfold smallO
  have : l.all okO = true := by
    rw [List.all_eq_true]
    intro x hx
    obtain ⟨j, hj, e⟩ := List.getElem_of_mem hx
    have := h j hj
    rw [List.getD_eq_getElem?_getD, List.getElem?_eq_getElem hj, Option.getD_some, e] at this
    exact this
  rw [this, Bool.true_and]
theorem smallO_at {l : List OpR} {m : Int} (h : smallO l m = true) : (l.length : Int) ≤ m ∧ ∀ j, j < l.length → (l.getD j dO).dl.length ≤ 300 ∧ (l.getD j dO).kl.length ≤ 20 := by
  unfold smallO at h
  rw [Bool.and_eq_true, List.all_eq_true, decide_eq_true_iff] at h
  refine ⟨h.2, fun j hj => ?_⟩
  have := h.1 (l.getD j dO) (by rw [List.getD_eq_getElem?_getD, List.getElem?_eq_getElem hj]; exact List.getElem_mem hj)
  unfold okO at this
  rw [Bool.and_eq_true, decide_eq_true_iff, decide_eq_true_iff] at this
  exact this
set_option maxHeartbeats 3200000 in
set_option maxRecDepth 100000 in
theorem small_any (A : Option Addr) (c : Nat) (l : List OpR) (m : Int) (w : World) (hO : OpsAt w.heap.size w A l) (hw : WfOs l) :
    Calls Try.prog 6 #[.slice A l.length c, .int .i64 m] w fun e w' => e = .returned (.bool (smallO l m)) ∧ Below w.heap.size w w' := by
  have HO := hide hO
  have hl := hw.1
  unfold maxLen at hl
  have HW := hide hw.2
  have HNo := hide (fun k h1 h2 => smallO_no (l := l) (m := m) (k := k) h1 h2)
  have HAll := hide (fun h => smallO_all (l := l) (m := m) h)
  clear hO hw
  generalize smallO l m = q at *
  go_enter Try.func6, Try.ntmps6
  go_wp2_with fail
  go_loopw [9] (fun i wr => ∃ k : Nat, k ≤ l.length ∧ i = .int .i64 k ∧ (∀ j, j < k → okO (l.getD j dO) = true) ∧ Below w.heap.size w wr) (fun i _ => l.length - (intOf i).toNat)
  case atStart => exact ⟨0, Nat.zero_le _, rfl, fun j h => by omega, Below.refl _ _⟩
  case round =>
    obtain ⟨k, hk, rfl, hpre, hbw⟩ := hrel
    have HPre := hide hpre
    have HB := hide hbw
    clear hpre
    by_cases hlt : k < l.length
    · obtain ⟨b, off, rfl, hb, hx⟩ := (HO.out.below hbw) k hlt
      have HStep := hide (fun (h : okO (l.getD k dO) = true) j (hj : j < k + 1) => (by
        by_cases e : j = k
        · rw [e]; exact h
        · exact HPre.out j (by omega) : okO (l.getD j dO) = true))
      have HBad := hide (fun h => HNo.out k hlt h)
      have HWk := HW.out k hlt
      have hd1 := HWk.dl
      have hd2 := HWk.kl
      have HX := hide hx
      have HLt := hide hlt
      have hs := hbw.size
      generalize l.getD k dO = o at *
      have g0 := hx.c0; have g1 := hx.c1; have g2 := hx.c2; have g3 := hx.c3; have g4 := hx.c4
      unfold maxLen at hd1 hd2
      have hb' : b < wr.heap.size := Nat.lt_of_lt_of_le hb hs
      clear hx HWk hbw
      by_cases h1 : o.dl.length ≤ 300
      · have h1' : ¬ (300 : Int) < (o.dl.length : Int) := by omega
        by_cases h2 : o.kl.length ≤ 20
        · have h2' : ¬ (20 : Int) < (o.kl.length : Int) := by omega
          have HSn := hide (HStep.out (by unfold okO; simp [h1, h2]))
          clear HStep HBad h1 h2
          go_wp2_with fail
          go_roundw
          case rel => exact ⟨k + 1, HLt.out, by go_num, HSn.out, HB.out.alloc hs _⟩
          case measure => have := HLt.out; simp only [intOf]; omega
        · have h2' : (20 : Int) < (o.kl.length : Int) := by omega
          have HQ := hide (HBad.out (by unfold okO; simp [h1, h2]))
          clear HStep HBad h1 h2
          go_wp2_with fail
          go_ret
          exact ⟨ret_bool HQ.out.symm, HB.out.alloc hs _⟩
      · have h1' : (300 : Int) < (o.dl.length : Int) := by omega
        have HQ := hide (HBad.out (by unfold okO; simp [h1]))
        clear HStep HBad h1
        go_wp2_with fail
        go_ret
        exact ⟨ret_bool HQ.out.symm, HB.out.alloc hs _⟩
    · obtain rfl : k = l.length := by omega
      have HQ := hide (HAll.out HPre.out)
      clear HNo HAll
      by_cases hm : (l.length : Int) ≤ m
      · have HQ2 := hide (show q = true by rw [HQ.out]; simp [hm])
        clear HQ
        go_wp2_with fail
        go_ret
        exact ⟨ret_bool HQ2.out.symm, HB.out⟩
      · have HQ2 := hide (show q = false by rw [HQ.out]; simp [hm])
        clear HQ
        go_wp2_with fail
        go_ret
        exact ⟨ret_bool HQ2.out.symm, HB.out⟩
end Go.Proofs.Ytpjibiimakclfab
