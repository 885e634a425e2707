/-
  LexShows: its walk.
-/
import Derived.Test.YtljoajjlkjjgeaaGreatDoorML1
import Derived.Test.YtljoajjlkjjgeaaGreatDoorML3
namespace Go.Proofs.YtljoajjlkjjgeaaGreatDoor
open Go.RowKit Go.Sort LM
theorem lexA_form (l : List UInt8) : (lexA l).2.2 = 0 ∨ (lexA l).1 = [] := by
 unfold lexA
 split
 ·exact Or.inr rfl
 ·exact lexF_form _ _ _
theorem keys_len {M L : List Tk} (h : M.map keyT = L.map keyT) : M.length = L.length := by have := congrArg List.length h; simpa using this
theorem keys_at {M L : List Tk} (h : M.map keyT = L.map keyT) {j : Nat} (h1 : j < M.length) (h2 : j < L.length) : M[j].k = L[j].k ∧ M[j].t = L[j].t ∧ M[j].n = L[j].n := by
 have e : (M.map keyT)[j]? = (L.map keyT)[j]? := by rw [h]
 rw [List.getElem?_map, List.getElem?_map, List.getElem?_eq_getElem h1, List.getElem?_eq_getElem h2] at e
 simp only [Option.map_some, Option.some.injEq, keyT, Prod.mk.injEq] at e
 exact e
theorem ToksAt.at {B : Nat} {w : World} {A : Option Addr} {L : List Tk} (h : ToksAt B w A L) {j : Nat} (hj : j < L.length) : ∃ b off, A = some ⟨b, off, none⟩ ∧ b < B ∧ w.cell? ⟨b, off + j * 4, none⟩ = some (.int .i64 L[j].k) ∧ w.cell? ⟨b, off + j * 4 + 1, none⟩ = some (txt L[j].t) ∧ w.cell? ⟨b, off + j * 4 + 2, none⟩ = some (.int .i64 L[j].n) ∧ w.cell? ⟨b, off + j * 4 + 3, none⟩ = some (.int .i64 (L[j].at' : Nat)) := h j hj
theorem glue_take (G : Nat → List UInt8) (L : List Tk) {j : Nat} (hj : j < L.length) : glue G 0 (L.take (j + 1)) = glue G 0 (L.take j) ++ (shT L[j] ++ G j) := by
 rw [List.take_succ_eq_append_getElem hj, glue_snoc, Nat.zero_add, List.length_take, Nat.min_eq_left (by omega)]
theorem valT_facts {x : Tk} (h : ValT x) : (x.k = 1 ∨ x.k = 2 ∨ x.k = 3 ∨ x.k = 4) ∧ 0 ≤ x.n ∧ x.n ≤ 9223372036854775807 ∧ x.t.length ≤ 64 ∧ (x.k = 3 → x.t.all okByte = true) := by
 obtain ⟨l, m, e⟩ := h
 obtain ⟨-, -, -, h1, h2, h3, h4, -, h5⟩ := tok_some e
 exact ⟨h1, h2, h3, h4, h5⟩
abbrev G32 : Nat → List UInt8 := fun _ => [32]
theorem g32_ok (i : Nat) : ∃ c r, G32 i = c :: r ∧ sepB c = true := ⟨32, [], rfl, rfl⟩
theorem g32_gap (i : Nat) : GapOk (G32 i) := gap_blank [32] (by rfl)

end Go.Proofs.YtljoajjlkjjgeaaGreatDoor
