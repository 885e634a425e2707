/-
  The rules of operators and functions: the table, and the walks of word and rule.
-/
import Derived.Test.YtpohofcfmllghaaDoorECount
import Derived.Lib.QuietBelow
import Derived.BigQuiet
namespace Go.Proofs.YtpohofcfmllghaaDoor
open Go.RowKit

/-- A rule: the kind, the word, how many arguments, their types, the type that it gives. -/
structure RL where
  k : Int
  w : ByteArray
  n : Int
  a : Int
  b : Int
  c : Int
  g : Int
def dR : RL := ⟨0, ⟨#[]⟩, 0, 0, 0, 0, 0⟩
abbrev rCells (r : RL) : Array Value := #[.int .i64 r.k, .string r.w, .int .i64 r.n, .int .i64 r.a, .int .i64 r.b, .int .i64 r.c, .int .i64 r.g]
def rulesL : List RL := [
  ⟨3, ⟨#[45]⟩, 1, 1, 0, 0, 1⟩,
  ⟨3, ⟨#[110, 111, 116]⟩, 1, 0, 0, 0, 1⟩,
  ⟨4, ⟨#[43]⟩, 2, 1, 1, 0, 1⟩,
  ⟨4, ⟨#[45]⟩, 2, 1, 1, 0, 1⟩,
  ⟨4, ⟨#[42]⟩, 2, 1, 1, 0, 1⟩,
  ⟨4, ⟨#[47]⟩, 2, 1, 1, 0, 1⟩,
  ⟨4, ⟨#[37]⟩, 2, 1, 1, 0, 1⟩,
  ⟨4, ⟨#[61]⟩, 2, 3, 3, 0, 1⟩,
  ⟨4, ⟨#[33, 61]⟩, 2, 3, 3, 0, 1⟩,
  ⟨4, ⟨#[60]⟩, 2, 3, 3, 0, 1⟩,
  ⟨4, ⟨#[60, 61]⟩, 2, 3, 3, 0, 1⟩,
  ⟨4, ⟨#[62]⟩, 2, 3, 3, 0, 1⟩,
  ⟨4, ⟨#[62, 61]⟩, 2, 3, 3, 0, 1⟩,
  ⟨4, ⟨#[97, 110, 100]⟩, 2, 0, 0, 0, 1⟩,
  ⟨4, ⟨#[111, 114]⟩, 2, 0, 0, 0, 1⟩,
  ⟨5, ⟨#[108, 101, 110]⟩, 1, 2, 0, 0, 1⟩,
  ⟨5, ⟨#[97, 98, 115]⟩, 1, 1, 0, 0, 1⟩,
  ⟨5, ⟨#[105, 115, 110, 117, 108, 108]⟩, 1, 0, 0, 0, 1⟩,
  ⟨5, ⟨#[99, 97, 116]⟩, 2, 2, 2, 0, 2⟩,
  ⟨5, ⟨#[101, 105, 116, 104, 101, 114]⟩, 2, 3, 3, 0, 3⟩,
  ⟨5, ⟨#[105, 102]⟩, 3, 0, 3, 3, 3⟩]
/-- The variable rules holds the table. -/
def Rls (w : World) : Prop := ∀ i, i < 21 →
  w.cell? ⟨1, i * 7, none⟩ = some (.int .i64 (rulesL.getD i dR).k) ∧ w.cell? ⟨1, i * 7 + 1, none⟩ = some (.string (rulesL.getD i dR).w) ∧ w.cell? ⟨1, i * 7 + 2, none⟩ = some (.int .i64 (rulesL.getD i dR).n) ∧
  w.cell? ⟨1, i * 7 + 3, none⟩ = some (.int .i64 (rulesL.getD i dR).a) ∧ w.cell? ⟨1, i * 7 + 4, none⟩ = some (.int .i64 (rulesL.getD i dR).b) ∧ w.cell? ⟨1, i * 7 + 5, none⟩ = some (.int .i64 (rulesL.getD i dR).c) ∧
  w.cell? ⟨1, i * 7 + 6, none⟩ = some (.int .i64 (rulesL.getD i dR).g)
theorem Rls.stays {w w' : World} (h : Rls w) (hb : Below w.heap.size w w') : Rls w' := fun i hi => by
  obtain ⟨h0, h1, h2, h3, h4, h5, h6⟩ := h i hi
  have c : ∀ j u, w.cell? ⟨1, j, none⟩ = some u → w'.cell? ⟨1, j, none⟩ = some u := fun j u hu => (hb.cell (p := ⟨1, j, none⟩) (by
    rcases Nat.lt_or_ge 1 w.heap.size with h' | h'
    · exact h'
    · exfalso
      have : w.heap[1]? = none := Array.getElem?_eq_none h'
      simp [World.cell?, this] at hu)).trans hu
  exact ⟨c _ _ h0, c _ _ h1, c _ _ h2, c _ _ h3, c _ _ h4, c _ _ h5, c _ _ h6⟩

def wordX (x : XT) : ByteArray := if x.kind = 5 then x.name else x.op
set_option maxHeartbeats 800000 in
set_option maxRecDepth 100000 in
theorem word_any (x : XT) (w : World) : Calls Tryd.prog 38 #[vX x] w fun e w' => e = .returned (.string (wordX x)) ∧ Below w.heap.size w w' := by
  obtain ⟨kd, nm, v, o, A, c, ts⟩ := x
  show Calls Tryd.prog 38 #[.agg (eCells kd nm v o A ts.length c)] w _
  by_cases h5 : kd = 5
  · have hk : (kd == 5) = true := by rw [beq_iff_eq]; exact h5
    have HW := hide (show wordX (.mk kd nm v o A c ts) = nm by unfold wordX; exact if_pos h5)
    generalize wordX (.mk kd nm v o A c ts) = z at HW ⊢
    clear h5
    go_enter Tryd.func38, Tryd.ntmps38
    go_wp2_with fail
    go_ret
    exact ⟨by rw [HW.out]; rfl, by go_grown⟩
  · have hk : (kd == 5) = false := by rw [beq_eq_false_iff_ne]; exact h5
    have HW := hide (show wordX (.mk kd nm v o A c ts) = o by unfold wordX; exact if_neg h5)
    generalize wordX (.mk kd nm v o A c ts) = z at HW ⊢
    clear h5
    go_enter Tryd.func38, Tryd.ntmps38
    go_wp2_with fail
    go_ret
    exact ⟨by rw [HW.out]; rfl, by go_grown⟩

/-- The rule that an expression has. -/
def hitR (kd : Int) (wd : ByteArray) (r : RL) : Bool := r.k == kd && r.w.toList == wd.toList
def ruleOf (kd : Int) (wd : ByteArray) : Option RL := rulesL.find? (hitR kd wd)
def ruleX (x : XT) : RL × Bool := if x.kind = 1 ∨ x.kind = 2 then (dR, true) else match ruleOf x.kind (wordX x) with
  | some r => (r, true)
  | none => (dR, false)
theorem find_hit {α : Type} {p : α → Bool} {d : α} : ∀ (l : List α) (k : Nat), k < l.length → (∀ j, j < k → p (l.getD j d) = false) → p (l.getD k d) = true → l.find? p = some (l.getD k d)
  | [], k, h, _, _ => by simp at h
  | x :: r, 0, _, _, h => by
    have : p x = true := h
    rw [List.find?_cons_of_pos this]; rfl
  | x :: r, k + 1, hk, hj, h => by
    have h0 : ¬ p x = true := by rw [Bool.not_eq_true]; exact hj 0 (by omega)
    rw [List.find?_cons_of_neg h0]
    exact find_hit r k (by simpa using hk) (fun j hj' => hj (j + 1) (by omega)) h
theorem find_miss {α : Type} {p : α → Bool} {d : α} {l : List α} (h : ∀ j, j < l.length → p (l.getD j d) = false) : l.find? p = none := by
  rw [List.find?_eq_none]
  intro x hx
  obtain ⟨j, hj, e⟩ := List.getElem_of_mem hx
  have := h j hj
  rw [List.getD_eq_getElem?_getD, List.getElem?_eq_getElem hj, Option.getD_some, e] at this
  simp [this]
end Go.Proofs.YtpohofcfmllghaaDoor
