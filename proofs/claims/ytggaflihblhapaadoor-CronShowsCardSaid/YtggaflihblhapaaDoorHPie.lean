/-
  The parts of a text between bytes of one kind: no program in it.
-/
import Derived.Lib.Bytealg
namespace Go.Proofs.YtggaflihblhapaaDoor
namespace HM
open Go.Lib
def pieces (c : UInt8) : List UInt8 → List (List UInt8)
  | [] => [[]]
  | b :: l => if b = c then [] :: pieces c l else match pieces c l with
    | [] => [[b]]
    | p :: r => (b :: p) :: r
theorem pieces_ne (c : UInt8) (l : List UInt8) : pieces c l ≠ [] := by
  cases l with
  | nil => simp [pieces]
  | cons b l =>
    unfold pieces
    split
    · simp
    · split <;> simp
theorem index_range (c : UInt8) : ∀ l : List UInt8, indexByte l c = -1 ∨ (0 ≤ indexByte l c ∧ indexByte l c < l.length)
  | [] => .inl rfl
  | b :: l => by
    have := index_range c l
    unfold indexByte
    split
    · right; simp
    · split
      · left; rfl
      · rename_i h
        rcases this with h1 | h1
        · rw [h1] at h; simp at h
        · right; simp; omega
theorem pieces_none {c : UInt8} : ∀ {l : List UInt8}, indexByte l c = -1 → pieces c l = [l]
  | [], _ => rfl
  | b :: l, h => by
    unfold indexByte at h
    split at h
    · simp at h
    · rename_i hb
      split at h
      · rename_i h1
        unfold pieces
        rw [if_neg (by simpa using hb), pieces_none (by simpa using h1)]
      · rename_i h1
        rcases index_range c l with h2 | h2
        · rw [h2] at h1; simp at h1
        · omega
theorem pieces_at {c : UInt8} : ∀ {l : List UInt8} {k : Nat}, indexByte l c = (k : Int) → k < l.length ∧ pieces c l = l.take k :: pieces c (l.drop (k + 1))
  | [], k, h => by simp [indexByte] at h
  | b :: l, k, h => by
    unfold indexByte at h
    split at h
    · rename_i hb
      obtain rfl : k = 0 := by omega
      refine ⟨by simp, ?_⟩
      conv => lhs; unfold pieces
      rw [if_pos (by simpa using hb)]
      simp
    · rename_i hb
      split at h
      · omega
      · rename_i h1
        obtain ⟨j, rfl⟩ : ∃ j, k = j + 1 := ⟨k - 1, by
          rcases index_range c l with h2 | h2
          · rw [h2] at h1; simp at h1
          · omega⟩
        obtain ⟨h3, h4⟩ := pieces_at (c := c) (l := l) (k := j) (by omega)
        refine ⟨by simp; omega, ?_⟩
        conv => lhs; unfold pieces
        rw [if_neg (by simpa using hb), h4]
        simp
/-- The bytes of texts. -/
abbrev bytesOf (l : List ByteArray) : List (List UInt8) := l.map (·.data.toList)
end HM
end Go.Proofs.YtggaflihblhapaaDoor
