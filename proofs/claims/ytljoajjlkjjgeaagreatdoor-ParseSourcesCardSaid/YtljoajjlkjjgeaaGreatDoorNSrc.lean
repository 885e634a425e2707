/-
  ParseSources: what its arguments say, and its text (pure); a drawn region's condition made stronger.
-/
import Derived.Test.YtljoajjlkjjgeaaGreatDoorNSched
import Derived.Test.YtljoajjlkjjgeaaGreatDoorMTx
namespace Go.Proofs.YtljoajjlkjjgeaaGreatDoor
open Go.RowKit Go.Sort LM Go

section
variable {P : Program} {ops : Array Oper} {Q : Exit → Act → World → Prop} {md : Region.Mode} {S S' : World → Prop}
/-- The condition may be made stronger on the way. -/
theorem wpAnyH_up (h : ∀ w, S' w → S w) : ∀ (fuel : Nat) (listed : Array Bool) (a : Act) (w : World), wpAnyH P md ops Q S' fuel listed a w → wpAnyH P md ops Q S fuel listed a w
  | 0, _, _, _, k => k
  | n + 1, _, _, _, k => ⟨k.1, fun i hi => wpOp_mono (fun _ _ h' => ⟨h _ h'.1, wpAnyH_up h n _ _ _ h'.2⟩) (k.2 i hi)⟩
end
/-- The law's columns: numbers and texts in turn. -/
def parQ : Bool → List ByteArray → List (List UInt8 × Bool)
  | _, [] => []
  | b, x :: r => (x.data.toList, b) :: parQ (!b) r
theorem parQ_len : ∀ (b : Bool) (l : List ByteArray), (parQ b l).length = l.length
  | _, [] => rfl
  | b, x :: r => by rw [parQ, List.length_cons, parQ_len, List.length_cons]
theorem parQ_at : ∀ (b : Bool) (l : List ByteArray) (j : Nat) (h : j < l.length), (parQ b l)[j]'(by rw [parQ_len]; exact h) = (l[j].data.toList, (b ^^ decide (j % 2 = 1)))
  | b, x :: r, 0, _ => by simp [parQ]
  | b, x :: r, j + 1, h => by
    simp only [parQ, List.getElem_cons_succ]
    rw [parQ_at (!b) r j (by simpa using h)]
    congr 1
    rcases Nat.mod_two_eq_zero_or_one j with e | e
    · have : (j + 1) % 2 = 1 := by omega
      simp [e, this]
    · have : (j + 1) % 2 = 0 := by omega
      simp [e, this]
theorem parQ_mem {b : Bool} {l : List ByteArray} {x : List UInt8 × Bool} (h : x ∈ parQ b l) : ∃ y ∈ l, x.1 = y.data.toList := by
  obtain ⟨j, hj, rfl⟩ := List.getElem_of_mem h
  rw [parQ_len] at hj
  rw [parQ_at b l j hj]
  exact ⟨_, List.getElem_mem hj, rfl⟩
theorem parQ_take {α : Type} (f : List UInt8 × Bool → α) (l : List ByteArray) (j : Nat) (h : j < l.length) : ((parQ false l).take (j + 1)).map f = ((parQ false l).take j).map f ++ [f (l[j].data.toList, decide (j % 2 = 1))] := by
  have h' : j < (parQ false l).length := by rw [parQ_len]; exact h
  rw [List.take_succ_eq_append_getElem h', List.map_append, List.map_singleton, parQ_at false l j h]
  simp
/-- An own row of texts is a row of texts. -/
theorem strl_of_row {w : World} {base n : Nat} {v : Value} {l : List ByteArray} (h : w.ownsRow base 9 1 v n (l.map Value.string)) (hn : n = l.length) : StrL w l v := by
  subst hn
  rcases h.2 with ⟨rfl, h0⟩ | ⟨g, cap, cur, rfl, hg, hh, hn, hm, hsz, htk⟩
  · obtain rfl : l = [] := List.length_eq_zero_iff.1 h0
    exact ⟨none, 0, rfl, fun _ _ j hj => by simp at hj⟩
  · have hlt : g < w.heap.size := by
      rcases Nat.lt_or_ge g w.heap.size with h' | h'
      · exact h'
      · simp [Array.getElem?_eq_none h'] at hh
    refine ⟨_, cap, rfl, fun wr hb j hj => ⟨g, 0, rfl, hlt, ?_⟩⟩
    rw [hb.cell (p := ⟨g, 0 + j, none⟩) hlt, Lib.cell_of_heap hh, Nat.zero_add]
    have h3 : (l.map Value.string)[j]? = some (.string l[j]) := by rw [List.getElem?_map, List.getElem?_eq_getElem hj]; rfl
    rw [← htk, List.getElem?_take_of_lt (by omega)] at h3
    simpa using h3
/-- A row of plain columns. -/
abbrev colV (y : List UInt8 × Bool) : List Value := [.string (ba y.1), .int .i64 (if y.2 then 2 else 1)]
theorem cols_rep (P : Nat → Prop) (w : World) : ∀ l : List (List UInt8 × Bool), RepL P w 2 ((l.map colM).map dCol) (l.map colV).flatten
  | [] => RepL.nil _ _ _
  | y :: r => ⟨fun e he => by
      rw [List.map_map] at he
      obtain ⟨z, _, rfl⟩ := List.mem_map.1 he; rfl, RepC.cons (rep_str _ _ _) (RepC.cons (rep_int _ _ _) (cols_rep P w r).2)⟩
theorem flat_leA {α : Type} {l : List α} {c : Nat} (f : α → List UInt8) (h : ∀ x ∈ l, (f x).length ≤ c) : (l.map f).flatten.length ≤ l.length * c := by
  induction l with
  | nil => simp
  | cons x r ih =>
    have h1 := h x (by simp)
    have h2 := ih (fun y hy => h y (by simp [hy]))
    rw [List.map_cons, List.flatten_cons, List.length_append, List.length_cons, Nat.succ_mul]; omega
theorem ba_cat (a b : List UInt8) : ba a ++ ba b = ba (a ++ b) := cat_ba a b
def numB (n : Int) : ByteArray := ⟨(Lib.itoa n).toArray⟩
theorem numB_nat (n : Nat) : numB (n : Int) = ba (Lib.decDigits n) := by
  unfold numB Lib.itoa
  rw [if_neg (by omega)]; rfl
/-- The text that the law writes. -/
def srcB (s0 : ByteArray) (J KW NA NZ : ByteArray) : ByteArray :=
  ba [115, 111, 117, 114, 99, 101, 32] ++ s0 ++ ba [40] ++ J ++ ba [41, 32] ++ KW ++ ba [32] ++ NA ++ ba [46, 46] ++ NZ ++ ba [59]
theorem srcB_eq (s0 : ByteArray) (x : List UInt8 × Bool) (l : List (List UInt8 × Bool)) (i a z : Nat) :
    srcB s0 (ba (joinU [44] ((x :: l).map colT) ((x :: l).map colT).length)) (ba (schWords.getD i [])) (numB a) (numB z) = ba (srcT s0.data.toList x l i a z [59]) := by
  unfold srcB
  rw [List.map_cons, joinU_all, numB_nat, numB_nat]
  obtain ⟨n, rfl⟩ : ∃ n, s0 = ba n := ⟨_, (ba_data s0).symm⟩
  have e6 : (ba n).data.toList = n := by unfold ba; simp
  rw [e6]
  simp only [ba_cat]
  unfold srcT
  rw [List.map_map]
  simp [Function.comp_def]
theorem ba_cutS (t : List UInt8) (x : UInt8) : (ba (t ++ [x])).extract 0 ((ba (t ++ [x])).size - 1) = ba t := by
  apply ByteArray.ext
  rw [ba_size]
  unfold ba
  simp
theorem srcT_snoc (nm : List UInt8) (x : List UInt8 × Bool) (l : List (List UInt8 × Bool)) (i a z : Nat) : srcT nm x l i a z [59] = srcT nm x l i a z [] ++ [59] := by unfold srcT; simp
theorem colT_len {x : List UInt8 × Bool} (h : x.1.length ≤ 16) : (colT x).length ≤ 21 := by
  unfold colT
  cases x.2 <;> simp <;> omega
theorem dec19 {v : Nat} (h : v < 9223372036854775808) : (Lib.decDigits v).length ≤ 20 := by
  have := decLen v (by omega)
  omega
theorem srcT_len {nm : List UInt8} {x : List UInt8 × Bool} {l : List (List UInt8 × Bool)} {i a z : Nat} (h1 : nm.length ≤ 16) (h2 : ∀ y ∈ x :: l, y.1.length ≤ 16) (hi : i < 5) (ha : a < 9223372036854775808) (hz : z < 9223372036854775808) (hl : l.length ≤ 20) :
    (srcT nm x l i a z [59]).length ≤ 1000 := by
  have hf := flat_leA (l := l) (c := 22) (fun x => 44 :: [] ++ colT x) (fun y hy => by have := colT_len (h2 y (by simp [hy])); simp; omega)
  have hx := colT_len (h2 x (by simp))
  have ga := dec19 ha
  have gz := dec19 hz
  have gw : (schWords.getD i []).length ≤ 7 := by
    have h5 : i = 0 ∨ i = 1 ∨ i = 2 ∨ i = 3 ∨ i = 4 := by omega
    rcases h5 with rfl | rfl | rfl | rfl | rfl <;> decide
  unfold srcT
  simp only [List.length_append, List.length_cons, List.length_nil] at hf ⊢
  omega
theorem src_one {s0 : ByteArray} {x : List UInt8 × Bool} {l : List (List UInt8 × Bool)} {i a z : Nat} {wv : List Value} {P : Nat → Prop} {w : World} (hL : Lw w) (h0 : Nm s0.data.toList) (h2 : ∀ y ∈ x :: l, Nm y.1) (hi : i < 5) (ha : a < 9223372036854775808) (hz : z < 9223372036854775808) (h4 : l.length ≤ 20)
    (hw : RepC P w (srcD s0.data.toList x l i a z).enc wv) :
    Calls Tryz.prog 13 #[.string (srcB s0 (ba (joinU [44] ((x :: l).map colT) ((x :: l).map colT).length)) (ba (schWords.getD i [])) (numB a) (numB z)), .agg wv.toArray] w fun e w' => e = .returned (.bool true) ∧ Below w.heap.size w w' := by
  have hlen := srcT_len h0.len (fun y hy => (h2 y hy).len) hi ha hz h4
  obtain ⟨k1, k2⟩ := src_reads (F := 16384) (by decide) h0 (h2 x (by simp)) (fun y hy => h2 y (by simp [hy])) hi ha hz h4 (by omega)
  rw [srcB_eq]
  refine one_any (by decide) (by decide) _ (ba (srcT s0.data.toList x l i a z [])) _ wv w hL (by rw [ba_size]; omega) (by rw [ba_size, srcT_snoc]; simp) ?_ hw (⟨pe_zero, by simp [srcD]; omega, by simp [srcD], by simp [srcD]⟩ : DfOk 1 _) k1 k2
  rw [srcT_snoc, ba_cutS]
end Go.Proofs.YtljoajjlkjjgeaaGreatDoor
