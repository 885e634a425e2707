/-
  The text of a table and what a text is read as; the walks that read one line.
-/
import Derived.Test.YtfjhdfpdgjjcgaaGreatDoorTShowM
import Derived.Test.YtfjhdfpdgjjcgaaGreatDoorZS
import Derived.Test.YtfjhdfpdgjjcgaaGreatDoorZV
import Derived.Test.YtfjhdfpdgjjcgaaGreatDoorShelf
import Derived.Test.YtfjhdfpdgjjcgaaGreatDoorTRows

/-
  The text of a table, and what a text is read as; that one undoes the other. No program in it.
-/
namespace Go.Proofs.YtfjhdfpdgjjcgaaGreatDoor
open Go.RowKit

def IsText (l : List UInt8) (v : Int × Int × ByteArray) : Prop := rightV v.1 v.2.1 v.2.2 = true ∧ I64 v.1 ∧ I64 v.2.1 ∧ showL v = l
open Classical in
noncomputable def parseM (l : List UInt8) : Option (Int × Int × ByteArray) := if h : ∃ v, IsText l v then some h.choose else none
theorem parseM_some {l : List UInt8} {v : Int × Int × ByteArray} (h : parseM l = some v) : IsText l v := by
  unfold parseM at h
  split at h
  · rename_i hx
    injection h with h
    rw [← h]; exact hx.choose_spec
  · cases h
theorem parseM_none {l : List UInt8} (h : parseM l = none) (v : Int × Int × ByteArray) : ¬ IsText l v := fun hv => by
  unfold parseM at h
  rw [dif_pos ⟨v, hv⟩] at h; cases h
theorem showL_head {v : Int × Int × ByteArray} (hr : rightV v.1 v.2.1 v.2.2 = true) :
    (v.1 = 0 ∧ v.2.1 = 0 ∧ v.2.2 = ⟨#[]⟩ ∧ showL v = [110, 117, 108, 108]) ∨ (v.1 = 1 ∧ v.2.2 = ⟨#[]⟩ ∧ showL v = Lib.itoa v.2.1) ∨ (v.1 = 2 ∧ v.2.1 = 0 ∧ showL v = quoteL v.2.2.data.toList) := by
  obtain ⟨k, n, s⟩ := v
  simp only at hr
  unfold showL showV
  simp only
  rw [hr]
  rcases rightV_cases hr with ⟨rfl, rfl, rfl⟩ | ⟨rfl, rfl⟩ | ⟨rfl, rfl, _⟩
  · exact .inl ⟨rfl, rfl, rfl, rfl⟩
  · exact .inr (.inl ⟨rfl, rfl, rfl⟩)
  · exact .inr (.inr ⟨rfl, rfl, rfl⟩)
theorem quoteL_inj {a b : List UInt8} (h : quoteL a = quoteL b) : a = b := by
  unfold quoteL at h
  simp only [List.cons.injEq, true_and, List.append_cancel_right_eq] at h
  have := congrArg unesc h
  rwa [unesc_esc, unesc_esc] at this
theorem showL_inj {v u : Int × Int × ByteArray} (hv : rightV v.1 v.2.1 v.2.2 = true) (hu : rightV u.1 u.2.1 u.2.2 = true) (iv : I64 v.2.1) (iu : I64 u.2.1) (h : showL v = showL u) : v = u := by
  obtain ⟨k, n, s⟩ := v
  obtain ⟨l, m, t⟩ := u
  simp only at iv iu
  obtain ⟨c, r, hc, hcc⟩ := itoa_head n
  obtain ⟨d, q, hd, hdd⟩ := itoa_head m
  have n110 : ¬ ((110 : UInt8).toNat = 45 ∨ (48 ≤ (110 : UInt8).toNat ∧ (110 : UInt8).toNat ≤ 57)) := by decide
  have n34 : ¬ ((34 : UInt8).toNat = 45 ∨ (48 ≤ (34 : UInt8).toNat ∧ (34 : UInt8).toNat ≤ 57)) := by decide
  rcases showL_head hv with ⟨a1, a2, a3, a4⟩ | ⟨a1, a3, a4⟩ | ⟨a1, a2, a4⟩ <;> rcases showL_head hu with ⟨b1, b2, b3, b4⟩ | ⟨b1, b3, b4⟩ | ⟨b1, b2, b4⟩
  all_goals
    rw [a4, b4] at h
    simp only at a1 b1 h
    subst a1 b1
    clear a4 b4
  · simp only at a2 a3 b2 b3; subst a2 a3 b2 b3; rfl
  · rw [hd] at h; injection h with h _; subst h; exact absurd hdd n110
  · unfold quoteL at h; injection h with h _; cases h
  · rw [hc] at h; injection h with h _; subst h; exact absurd hcc n110
  · simp only at a3 b3
    have := congrArg Lib.atoiAll h
    rw [atoi_itoa n iv, atoi_itoa m iu] at this
    injection this with this
    subst a3 b3 this; rfl
  · unfold quoteL at h; rw [hc] at h; injection h with h _; subst h; exact absurd hcc n34
  · unfold quoteL at h; injection h with h _; cases h
  · unfold quoteL at h; rw [hd] at h; injection h with h _; subst h; exact absurd hdd n34
  · have := quoteL_inj h
    simp only at a2 b2
    subst a2 b2
    rw [of_data this, ← of_data (s := t) rfl]
theorem parseM_show {v : Int × Int × ByteArray} (hv : rightV v.1 v.2.1 v.2.2 = true) (h1 : I64 v.1) (h2 : I64 v.2.1) : parseM (showL v) = some v := by
  cases h : parseM (showL v) with
  | none => exact absurd ⟨hv, h1, h2, rfl⟩ (parseM_none h v)
  | some u =>
    obtain ⟨a, _, c, d⟩ := parseM_some h
    rw [showL_inj a hv c h2 d]

/-- How many bytes there are up to the closing quote, it too. -/
def scanQ : List UInt8 → Nat
  | [] => 0
  | [_] => 1
  | c :: d :: r => if c = 34 then 1 else if c = 92 then 2 + scanQ r else 1 + scanQ (d :: r)
theorem scanQ_le : ∀ l : List UInt8, scanQ l ≤ l.length
  | [] => Nat.le_refl _
  | [_] => Nat.le_refl _
  | c :: d :: r => by
    unfold scanQ
    have := scanQ_le r
    have := scanQ_le (d :: r)
    simp only [List.length_cons] at *
    repeat' split
    all_goals omega
theorem scanQ_quote (l : List UInt8) (r : List UInt8) : scanQ (34 :: l ++ r) = 1 := by
  cases h : l ++ r with
  | nil => show scanQ (34 :: (l ++ r)) = 1; rw [h]; rfl
  | cons d q => show scanQ (34 :: (l ++ r)) = 1; rw [h]; unfold scanQ; rw [if_pos rfl]
theorem scanQ_esc : ∀ (l tail : List UInt8), scanQ (esc l ++ 34 :: tail) = (esc l).length + 1
  | [], tail => scanQ_quote [] tail
  | c :: l, tail => by
    have ih := scanQ_esc l tail
    rw [esc_cons]
    by_cases h : c = 34 ∨ c = 92
    · have e : escByte c = [92, c] := by unfold escByte; rw [if_pos h]
      rw [e]
      show scanQ (92 :: c :: (esc l ++ 34 :: tail)) = _
      unfold scanQ
      rw [if_neg (by decide), if_pos rfl, ih]
      simp; omega
    · have e : escByte c = [c] := by unfold escByte; rw [if_neg h]
      rw [e]
      have h34 : ¬ c = 34 := fun x => h (Or.inl x)
      have h92 : ¬ c = 92 := fun x => h (Or.inr x)
      show scanQ (c :: (esc l ++ 34 :: tail)) = _
      cases hx : esc l ++ 34 :: tail with
      | nil => simp at hx
      | cons d r =>
        unfold scanQ
        rw [if_neg h34, if_neg h92, ← hx, ih]
        simp; omega

def cellEndM (l : List UInt8) : Nat := if l.head? = some 34 then 1 + scanQ (l.drop 1) else if 0 ≤ Lib.index l [44, 32] then (Lib.index l [44, 32]).toNat else l.length
theorem cellEndM_le (l : List UInt8) : cellEndM l ≤ l.length := by
  unfold cellEndM
  split
  · rename_i h
    have := scanQ_le (l.drop 1)
    rw [List.length_drop] at this
    cases l with
    | nil => simp at h
    | cons c r => simp only [List.length_cons] at *; omega
  · split
    · rename_i h
      have := Lib.index_spec l [44, 32]
      rcases this with ⟨h1, _⟩ | ⟨i, h1, h2, h3, _⟩
      · omega
      · omega
    · exact Nat.le_refl _
theorem digit_bytes : ∀ (k u : Nat), u ≤ k → ∀ b ∈ Lib.decDigits u, b ≠ (44 : UInt8) ∧ b ≠ (10 : UInt8)
  | k, u, hk, b, hb => by
    have hd : ∀ u, (dig u).toNat = 48 + u % 10 := fun u => by have := dig_val u; omega
    have hx : dig u ≠ 44 ∧ dig u ≠ 10 := ⟨fun e => by have := hd u; rw [e] at this; simp at this; omega, fun e => by have := hd u; rw [e] at this; simp at this; omega⟩
    by_cases h : u < 10
    · rw [dec_small h] at hb; simp at hb; subst hb; exact hx
    · match k, hk with
      | 0, hk => omega
      | k + 1, hk =>
        rw [dec_big h] at hb
        rcases List.mem_append.1 hb with h' | h'
        · exact digit_bytes k (u / 10) (by omega) b h'
        · simp at h'; subst h'; exact hx
theorem itoa_bytes (n : Int) : ∀ b ∈ Lib.itoa n, b ≠ (44 : UInt8) ∧ b ≠ (10 : UInt8) := fun b hb => by
  unfold Lib.itoa at hb
  split at hb
  · rcases List.mem_cons.1 hb with rfl | h
    · decide
    · exact digit_bytes _ _ (Nat.le_refl _) b h
  · exact digit_bytes _ _ (Nat.le_refl _) b hb
theorem esc_bytes {l : List UInt8} (h : ∀ b ∈ l, b ≠ (10 : UInt8)) : ∀ b ∈ esc l, b ≠ (10 : UInt8) := fun b hb => by
  unfold esc at hb
  obtain ⟨c, hc, hb⟩ := List.mem_flatMap.1 hb
  unfold escByte at hb
  split at hb <;> simp at hb
  · rcases hb with rfl | rfl
    · decide
    · exact h _ hc
  · subst hb; exact h _ hc
theorem rightV_bytes {s : ByteArray} {n : Int} (h : rightV 2 n s = true) : ∀ b ∈ s.data.toList, b ≠ (10 : UInt8) := fun b hb => by
  have hall : s.data.toList.all okByte = true := by
    unfold rightV rightT at h
    rw [if_neg (by decide), if_neg (by decide), if_pos rfl, Bool.and_eq_true, Bool.and_eq_true] at h
    exact h.2.2
  have := List.all_eq_true.1 hall b hb
  rintro rfl
  revert this
  unfold okByte
  decide
theorem showL_bytes {v : Int × Int × ByteArray} (hr : rightV v.1 v.2.1 v.2.2 = true) : ∀ b ∈ showL v, b ≠ (10 : UInt8) := fun b hb => by
  rcases showL_head hr with ⟨_, _, _, e⟩ | ⟨_, _, e⟩ | ⟨e1, e2, e⟩
  · rw [e] at hb; simp at hb; rcases hb with rfl | rfl | rfl | rfl <;> decide
  · rw [e] at hb; exact (itoa_bytes _ b hb).2
  · rw [e] at hb
    unfold quoteL at hb
    rcases List.mem_cons.1 hb with rfl | hb
    · decide
    · rcases List.mem_append.1 hb with hb | hb
      · rw [e1] at hr; exact esc_bytes (rightV_bytes hr) b hb
      · simp at hb; subst hb; decide
/-- The first cell of what begins with a value's text. -/
theorem cellEndM_show {v : Int × Int × ByteArray} (hr : rightV v.1 v.2.1 v.2.2 = true) {tail : List UInt8} (ht : tail = [] ∨ ∃ r, tail = 44 :: 32 :: r) : cellEndM (showL v ++ tail) = (showL v).length := by
  have plain : (showL v ++ tail).head? ≠ some 34 → (∀ b ∈ showL v, b ≠ (44 : UInt8)) → cellEndM (showL v ++ tail) = (showL v).length := fun h1 h2 => by
    unfold cellEndM
    rw [if_neg h1]
    rcases ht with rfl | ⟨r, rfl⟩
    · rw [List.append_nil, index_absent 44 [32] _ h2, if_neg (by decide)]
    · have := index_after 44 [32] r (showL v) h2
      rw [show (44 :: [32] ++ r : List UInt8) = 44 :: 32 :: r from rfl] at this
      rw [this, if_pos (by omega), Int.toNat_natCast]
  rcases showL_head hr with ⟨_, _, _, e⟩ | ⟨_, _, e⟩ | ⟨_, _, e⟩
  · refine plain ?_ ?_
    · rw [e]; simp
    · rw [e]; intro b hb; simp at hb; rcases hb with rfl | rfl | rfl | rfl <;> decide
  · refine plain ?_ ?_
    · obtain ⟨c, r, ec, hc⟩ := itoa_head v.2.1
      rw [e, ec]
      simp only [List.cons_append, List.head?_cons, ne_eq, Option.some.injEq]
      rintro rfl
      revert hc; decide
    · rw [e]; exact fun b hb => (itoa_bytes _ b hb).1
  · rw [e]
    unfold cellEndM quoteL
    rw [if_pos (by simp)]
    show 1 + scanQ ((esc v.2.2.data.toList ++ [34]) ++ tail) = _
    rw [List.append_assoc]
    show 1 + scanQ (esc v.2.2.data.toList ++ 34 :: tail) = _
    rw [scanQ_esc]
    simp; omega
theorem showL_ne {v : Int × Int × ByteArray} (hr : rightV v.1 v.2.1 v.2.2 = true) : 1 ≤ (showL v).length := by
  rcases showL_head hr with ⟨_, _, _, e⟩ | ⟨_, _, e⟩ | ⟨_, _, e⟩ <;> rw [e]
  · simp
  · obtain ⟨c, r, ec, _⟩ := itoa_head v.2.1; rw [ec]; simp
  · unfold quoteL; simp

/-- The values of a line. -/
noncomputable def readRowM : Nat → List UInt8 → Option (List (Int × Int × ByteArray))
  | 0, _ => none
  | n + 1, l =>
    match parseM (l.take (cellEndM l)) with
    | none => none
    | some v => if l.drop (cellEndM l) = [] then some [v] else if [44, 32].isPrefixOf (l.drop (cellEndM l)) = true then (readRowM n ((l.drop (cellEndM l)).drop 2)).map (v :: ·) else none
def lineL (r : List (Int × Int × ByteArray)) : List UInt8 := joinL [44, 32] (r.map showL)
def Good (v : Int × Int × ByteArray) : Prop := rightV v.1 v.2.1 v.2.2 = true ∧ I64 v.1 ∧ I64 v.2.1
theorem readRowM_sound : ∀ (n : Nat) (l : List UInt8) (vs : List (Int × Int × ByteArray)), readRowM n l = some vs → vs ≠ [] ∧ (∀ v ∈ vs, Good v) ∧ lineL vs = l
  | 0, _, _, h => by cases h
  | n + 1, l, vs, h => by
    unfold readRowM at h
    split at h
    · cases h
    · rename_i v hv
      obtain ⟨a, b, c, d⟩ := parseM_some hv
      have hl := List.take_append_drop (cellEndM l) l
      split at h
      · rename_i hr
        injection h with h
        subst h
        rw [hr, List.append_nil] at hl
        refine ⟨by simp, fun u hu => ?_, ?_⟩
        · simp at hu; subst hu; exact ⟨a, b, c⟩
        · show showL v = l
          rw [d, hl]
      · split at h
        · rename_i hr hp
          obtain ⟨ws, hw, rfl⟩ := Option.map_eq_some_iff.1 h
          obtain ⟨h1, h2, h3⟩ := readRowM_sound n _ ws hw
          refine ⟨by simp, fun u hu => ?_, ?_⟩
          · rcases List.mem_cons.1 hu with rfl | hu
            · exact ⟨a, b, c⟩
            · exact h2 u hu
          · unfold lineL at h3 ⊢
            rw [List.map_cons, joinL_cons (by simpa using h1), h3, d]
            rw [List.isPrefixOf_iff_prefix] at hp
            obtain ⟨q, hq⟩ := hp
            rw [← hq] at hl ⊢
            show _ ++ ([44, 32] ++ q) = l
            exact hl
        · cases h
theorem readRowM_line : ∀ (n : Nat) (vs : List (Int × Int × ByteArray)), vs ≠ [] → vs.length ≤ n → (∀ v ∈ vs, Good v) → readRowM n (lineL vs) = some vs
  | _, [], h, _, _ => absurd rfl h
  | 0, _ :: _, _, h, _ => by simp at h
  | n + 1, [v], _, _, hg => by
    obtain ⟨a, b, c⟩ := hg v (by simp)
    have he : cellEndM (showL v) = (showL v).length := by have := cellEndM_show a (tail := []) (.inl rfl); rwa [List.append_nil] at this
    show readRowM (n + 1) (showL v) = _
    unfold readRowM
    rw [he, List.take_length, parseM_show a b c]
    simp
  | n + 1, v :: u :: vs, _, hl, hg => by
    obtain ⟨a, b, c⟩ := hg v (by simp)
    have ih := readRowM_line n (u :: vs) (by simp) (by simpa using hl) (fun x hx => hg x (List.mem_cons_of_mem _ hx))
    have hline : lineL (v :: u :: vs) = showL v ++ (44 :: 32 :: lineL (u :: vs)) := rfl
    rw [hline]
    have he := cellEndM_show a (tail := 44 :: 32 :: lineL (u :: vs)) (.inr ⟨_, rfl⟩)
    unfold readRowM
    rw [he, List.take_left, List.drop_left, parseM_show a b c]
    simp only [reduceCtorEq, if_false]
    rw [if_pos (by simp [List.isPrefixOf])]
    show Option.map (v :: ·) (readRowM n (lineL (u :: vs))) = _
    rw [ih]; rfl
theorem lineL_bytes : ∀ {vs : List (Int × Int × ByteArray)}, (∀ v ∈ vs, Good v) → ∀ b ∈ lineL vs, b ≠ (10 : UInt8)
  | [], _, b, hb => by simp [lineL, joinL] at hb
  | [v], h, b, hb => showL_bytes (h v (by simp)).1 b hb
  | v :: u :: vs, h, b, hb => by
    have hline : lineL (v :: u :: vs) = showL v ++ ([44, 32] ++ lineL (u :: vs)) := rfl
    rw [hline] at hb
    rcases List.mem_append.1 hb with hb | hb
    · exact showL_bytes (h v (by simp)).1 b hb
    · rcases List.mem_append.1 hb with hb | hb
      · simp at hb; rcases hb with rfl | rfl <;> decide
      · exact lineL_bytes (fun x hx => h x (List.mem_cons_of_mem _ hx)) b hb
theorem cut_line {x rest : List UInt8} (h : ∀ b ∈ x, b ≠ (10 : UInt8)) : Lib.cut (x ++ 10 :: rest) [10] = (x, rest, true) := by
  unfold Lib.cut
  have := index_after 10 [] rest x h
  rw [show (10 :: [] ++ rest : List UInt8) = 10 :: rest from rfl] at this
  rw [this, if_pos (by omega), Int.toNat_natCast, List.take_left]
  congr 2
  rw [show x ++ 10 :: rest = (x ++ [10]) ++ rest by simp, show x.length + ([10] : List UInt8).length = (x ++ [(10 : UInt8)]).length by simp, List.drop_left]
theorem cut_found {l a b : List UInt8} (h : Lib.cut l [10] = (a, b, true)) : l = a ++ 10 :: b := by
  unfold Lib.cut at h
  split at h
  · rename_i hi
    have := index_at (s := l) (sep := [10]) (by rw [beq_iff_eq]; omega)
    simp only [Prod.mk.injEq] at h
    obtain ⟨h1, h2, _⟩ := h
    rw [h1, h2] at this
    exact this
  · simp at h

/-- The rows of the lines behind the first one: as far as there are no more than may be, and one more. -/
noncomputable def readRowsM : Nat → Nat → List UInt8 → Option R3
  | 0, _, _ => none
  | n + 1, k, l =>
    if l = [] ∨ 4096 < k then some []
    else if (Lib.cut l [10]).2.2 = true then
      match readRowM ((Lib.cut l [10]).1.length + 1) (Lib.cut l [10]).1 with
      | none => none
      | some r => (readRowsM n (k + 1) (Lib.cut l [10]).2.1).map (r :: ·)
    else none
def linesL (rs : R3) : List UInt8 := rs.flatMap fun r => lineL r ++ [10]
def showT (cs : List (ByteArray × Int)) (rs : R3) : List UInt8 := showC cs ++ 10 :: linesL rs
theorem readRowsM_sound : ∀ (n k : Nat) (l : List UInt8) (rs : R3), readRowsM n k l = some rs → (∀ r ∈ rs, r ≠ [] ∧ ∀ v ∈ r, Good v) ∧ (k + rs.length ≤ 4096 → linesL rs = l)
  | 0, _, _, _, h => by cases h
  | n + 1, k, l, rs, h => by
    unfold readRowsM at h
    split at h
    · rename_i hk
      injection h with h
      subst h
      refine ⟨fun r hr => by simp at hr, fun hle => ?_⟩
      rcases hk with rfl | hk
      · rfl
      · simp at hle; omega
    · split at h
      · rename_i hc
        split at h
        · cases h
        · rename_i r hr
          obtain ⟨ws, hw, rfl⟩ := Option.map_eq_some_iff.1 h
          obtain ⟨h1, h2, h3⟩ := readRowM_sound _ _ _ hr
          obtain ⟨g1, g2⟩ := readRowsM_sound n _ _ ws hw
          refine ⟨fun x hx => ?_, fun hle => ?_⟩
          · rcases List.mem_cons.1 hx with rfl | hx
            · exact ⟨h1, h2⟩
            · exact g1 x hx
          · have hl := cut_found (l := l) (a := (Lib.cut l [10]).1) (b := (Lib.cut l [10]).2.1) (by rw [← hc])
            have hg := g2 (by simp only [List.length_cons] at hle; omega)
            unfold linesL at hg ⊢
            rw [List.flatMap_cons, hg, h3, List.append_assoc]
            exact hl.symm
      · cases h
theorem good_line_len : ∀ {vs : List (Int × Int × ByteArray)}, (∀ v ∈ vs, Good v) → vs.length ≤ (lineL vs).length + 1
  | [], _ => by simp
  | [v], _ => by simp
  | v :: u :: vs, h => by
    have ih := good_line_len (vs := u :: vs) (fun x hx => h x (List.mem_cons_of_mem _ hx))
    have hline : lineL (v :: u :: vs) = showL v ++ ([44, 32] ++ lineL (u :: vs)) := rfl
    rw [hline]
    simp only [List.length_append, List.length_cons, List.length_nil] at *
    omega
theorem readRowsM_lines : ∀ (n k : Nat) (rs : R3), rs.length < n → k + rs.length ≤ 4096 → (∀ r ∈ rs, r ≠ [] ∧ ∀ v ∈ r, Good v) → readRowsM n k (linesL rs) = some rs
  | 0, _, _, h, _, _ => by omega
  | n + 1, k, [], _, _, _ => by unfold readRowsM linesL; simp
  | n + 1, k, r :: rs, h, hk, hg => by
    obtain ⟨h1, h2⟩ := hg r (by simp)
    have hl : linesL (r :: rs) = lineL r ++ 10 :: linesL rs := by unfold linesL; simp
    have ih := readRowsM_lines n (k + 1) rs (by simpa using h) (by simp only [List.length_cons] at hk; omega) (fun x hx => hg x (List.mem_cons_of_mem _ hx))
    unfold readRowsM
    rw [hl, cut_line (lineL_bytes h2)]
    rw [if_neg (by simp; omega)]
    simp only [if_true]
    rw [readRowM_line _ r h1 (good_line_len h2) h2, ih]
    rfl
/-- Columns and rows that a text could be of. -/
noncomputable def readT (l : List UInt8) : Option (List (ByteArray × Int) × R3) :=
  if (Lib.cut l [10]).2.2 = true then
    match parsedC ⟨(Lib.cut l [10]).1.toArray⟩ with
    | none => none
    | some cs => (readRowsM ((Lib.cut l [10]).2.1.length + 1) 0 (Lib.cut l [10]).2.1).map fun rs => (cs, rs)
  else none
noncomputable def parseT (l : List UInt8) : Option (List (ByteArray × Int) × R3) :=
  match readT l with
  | none => none
  | some x => if fullT x.1 x.2 = 0 then some x else none
theorem parseT_sound {l : List UInt8} {cs : List (ByteArray × Int)} {rs : R3} (h : parseT l = some (cs, rs)) : fullT cs rs = 0 ∧ showT cs rs = l ∧ (∀ r ∈ rs, ∀ v ∈ r, Good v) := by
  unfold parseT at h
  split at h
  · cases h
  · rename_i x hx
    split at h
    · rename_i hf
      injection h with h
      subst h
      unfold readT at hx
      split at hx
      · rename_i hc
        split at hx
        · cases hx
        · rename_i cs' hp
          obtain ⟨ws, hw, he⟩ := Option.map_eq_some_iff.1 hx
          simp only [Prod.mk.injEq] at he
          obtain ⟨rfl, rfl⟩ := he
          have hl := cut_found (l := l) (a := (Lib.cut l [10]).1) (b := (Lib.cut l [10]).2.1) (by rw [← hc])
          obtain ⟨g1, g2⟩ := readRowsM_sound _ _ _ _ hw
          have hz := checkT_zero (fullT_zero hf).1
          have hz2 : ws.length ≤ 4096 := hz.2.1
          refine ⟨hf, ?_, fun r hr => (g1 r hr).2⟩
          have hs := (parsedC_show hp).1
          rw [list_of] at hs
          unfold showT
          rw [hs, g2 (by omega)]
          exact hl.symm
      · cases hx
    · cases h
theorem showC_bytes {cs : List (ByteArray × Int)} (hz : checkC cs = 0) : ∀ b ∈ showC cs, b ≠ (10 : UInt8) := fun b hb => by
  obtain ⟨_, _, hcl⟩ := checkC_ok hz
  have hnm : ∀ c ∈ cs, nameB c.1 = true := fun c hc => by
    obtain ⟨j, hj, e⟩ := List.getElem_of_mem hc
    have := (badC_name (hcl j hj)).1
    rwa [List.getD_eq_getElem?_getD, List.getElem?_eq_getElem hj, Option.getD_some, e] at this
  have hone : ∀ c ∈ cs, ∀ b ∈ oneC c, b ≠ (10 : UInt8) := fun c hc b hb => by
    unfold oneC at hb
    rcases List.mem_append.1 hb with hb | hb
    · have hn := hnm c hc
      unfold nameB at hn
      simp only [Bool.and_eq_true, decide_eq_true_eq] at hn
      obtain ⟨j, hj, e⟩ := List.getElem_of_mem hb
      have hk := hn.2 j (by simpa using hj)
      rw [List.getD_eq_getElem?_getD, List.getElem?_eq_getElem hj] at hk
      simp only [Option.getD_some, e] at hk
      rintro rfl
      revert hk
      unfold okAt lowB digB
      simp
    · unfold tailC at hb
      split at hb <;> simp at hb <;> rcases hb with rfl | rfl | rfl | rfl | rfl <;> decide
  rw [showC_join] at hb
  rcases List.mem_cons.1 hb with rfl | hb
  · decide
  rcases List.mem_append.1 hb with hb | hb
  · have hj : ∀ (ls : List (List UInt8)), (∀ x ∈ ls, ∀ b ∈ x, b ≠ (10 : UInt8)) → ∀ b ∈ joinL [44, 32] ls, b ≠ (10 : UInt8) := fun ls => by
      induction ls with
      | nil => intro _ b hb; simp [joinL] at hb
      | cons x r ih =>
        intro h b hb
        cases r with
        | nil => exact h x (by simp) b hb
        | cons y r =>
          rw [joinL_cons (by simp)] at hb
          rcases List.mem_append.1 hb with hb | hb
          · exact h x (by simp) b hb
          · rcases List.mem_append.1 hb with hb | hb
            · simp at hb; rcases hb with rfl | rfl <;> decide
            · exact ih (fun z hz => h z (List.mem_cons_of_mem _ hz)) b hb
    refine hj _ (fun x hx => ?_) b hb
    obtain ⟨c, hc, rfl⟩ := List.mem_map.1 hx
    exact hone c hc
  · simp at hb; subst hb; decide
theorem linesL_len : ∀ rs : R3, rs.length ≤ (linesL rs).length
  | [] => Nat.le_refl _
  | r :: rs => by
    have := linesL_len rs
    unfold linesL at *
    simp only [List.flatMap_cons, List.length_append, List.length_cons, List.length_nil] at *
    omega
theorem parseT_show {cs : List (ByteArray × Int)} {rs : R3} (hf : fullT cs rs = 0) (hw : ∀ r ∈ rs, ∀ v ∈ r, I64 v.1 ∧ I64 v.2.1) : parseT (showT cs rs) = some (cs, rs) := by
  obtain ⟨hz, hlen, hfit⟩ := checkT_zero (fullT_zero hf).1
  rw [List.all_eq_true] at hfit
  have hg : ∀ r ∈ rs, r ≠ [] ∧ ∀ v ∈ r, Good v := fun r hr => by
    have h := hfit r hr
    unfold rowFits at h
    simp only [Bool.and_eq_true, decide_eq_true_eq] at h
    obtain ⟨h1, h2⟩ := h
    obtain ⟨c1, c2, _⟩ := checkC_ok hz
    refine ⟨fun e => by rw [e] at h1; simp at h1; omega, fun v hv => ?_⟩
    obtain ⟨j, hj, e⟩ := List.getElem_of_mem hv
    have := h2 j (by omega)
    unfold heldAt holdsB at this
    rw [List.getD_eq_getElem?_getD, List.getElem?_eq_getElem hj, Option.getD_some, e] at this
    simp only [Bool.and_eq_true] at this
    exact ⟨this.1, hw r hr v hv⟩
  unfold parseT readT showT
  rw [cut_line (showC_bytes hz)]
  simp only [if_true]
  rw [parsed_show hz]
  simp only
  rw [readRowsM_lines _ 0 rs (by have := linesL_len rs; omega) (by omega) hg]
  simp only [Option.map_some]
  rw [if_pos hf]
end Go.Proofs.YtfjhdfpdgjjcgaaGreatDoor

/-
  Where a cell's text ends: the walks of textEnd and cellEnd.
-/
namespace Go.Proofs.YtfjhdfpdgjjcgaaGreatDoor
open Go.RowKit

/-- How far the scan of a text in quotes has come. -/
def ScanAt (s : ByteArray) (R k : Nat) : Prop := (k ≤ s.size ∧ k + scanQ (s.data.toList.drop k) = R) ∨ (k = s.size + 1 ∧ R = s.size)
theorem scan_end {s : ByteArray} {R k : Nat} (hs : ScanAt s R k) (h : ¬ k < s.size) : R = s.size := by
  rcases hs with ⟨h1, h2⟩ | ⟨_, h2⟩
  · rw [List.drop_eq_nil_of_le (by simp; omega)] at h2
    unfold scanQ at h2
    omega
  · exact h2
theorem scan_quote {s : ByteArray} {R k : Nat} (hs : ScanAt s R k) (h : k < s.size) (hc : s[k] = 34) : R = k + 1 := by
  rcases hs with ⟨_, h2⟩ | ⟨h1, _⟩
  · rw [drop_at h, hc] at h2
    have := scanQ_quote [] (s.data.toList.drop (k + 1))
    rw [show (34 :: [] ++ s.data.toList.drop (k + 1) : List UInt8) = 34 :: s.data.toList.drop (k + 1) from rfl] at this
    omega
  · omega
theorem scan_skip {s : ByteArray} {R k : Nat} (hs : ScanAt s R k) (h : k < s.size) (hc : s[k] = 92) : ScanAt s R (k + 2) := by
  rcases hs with ⟨_, h2⟩ | ⟨h1, _⟩
  · rw [drop_at h, hc] at h2
    by_cases hk : k + 1 < s.size
    · rw [drop_at hk] at h2
      unfold scanQ at h2
      rw [if_neg (by decide), if_pos rfl] at h2
      exact .inl ⟨by omega, by show k + 2 + scanQ (List.drop (k + 1 + 1) s.data.toList) = R; omega⟩
    · rw [List.drop_eq_nil_of_le (by simp; omega)] at h2
      unfold scanQ at h2
      exact .inr ⟨by omega, by omega⟩
  · omega
theorem scan_step {s : ByteArray} {R k : Nat} (hs : ScanAt s R k) (h : k < s.size) (hc : ¬ s[k] = 34) (hd : ¬ s[k] = 92) : ScanAt s R (k + 1) := by
  rcases hs with ⟨_, h2⟩ | ⟨h1, _⟩
  · rw [drop_at h] at h2
    by_cases hk : k + 1 < s.size
    · have e := drop_at hk
      rw [e] at h2
      unfold scanQ at h2
      rw [if_neg hc, if_neg hd, ← e] at h2
      exact .inl ⟨by omega, by omega⟩
    · rw [List.drop_eq_nil_of_le (by simp; omega)] at h2
      unfold scanQ at h2
      refine .inl ⟨by omega, ?_⟩
      rw [List.drop_eq_nil_of_le (by simp; omega)]
      unfold scanQ
      omega
  · omega

set_option maxHeartbeats 1600000 in
set_option maxRecDepth 100000 in
theorem textEnd_any (s : ByteArray) (w : World) (hs : s.size ≤ 140737488355328) (h1 : 1 ≤ s.size) :
    Calls Tryz.prog 108 #[.string s] w fun e w' => e = .returned (.int .i64 (1 + scanQ (s.data.toList.drop 1) : Nat)) ∧ w = w' := by
  have HSt := hide (show ScanAt s (1 + scanQ (s.data.toList.drop 1)) 1 from .inl ⟨h1, rfl⟩)
  generalize 1 + scanQ (s.data.toList.drop 1) = R at HSt ⊢
  go_enter Tryz.func108, Tryz.ntmps108
  go_wp2_with fail
  go_loop [3] (fun i => ∃ k : Nat, k ≤ s.size + 1 ∧ i = .int .i64 k ∧ ScanAt s R k) (fun i => s.size + 1 - (intOf i).toNat)
  case atStart => exact ⟨1, by omega, rfl, HSt.out⟩
  case round =>
    obtain ⟨k, hk, rfl, hsc⟩ := hrel
    have HSC := hide hsc
    clear hsc
    by_cases hlt : k < s.size
    · by_cases hq : s[k] = 34
      · have hq1 : ((s[k].toNat : Int) == 34) = true := by rw [hq]; rfl
        have HR := hide (scan_quote HSC.out hlt hq)
        clear hq
        go_wp2_with fail
        go_ret
        exact ⟨ret_int (by rw [HR.out]; go_num), rfl⟩
      · have hq1 : ((s[k].toNat : Int) == 34) = false := by
          rw [show (34 : Int) = ((34 : Nat) : Int) from rfl, byte_eq _ 34 (by decide)]; simpa using hq
        by_cases h92 : s[k] = 92
        · have hq2 : ((s[k].toNat : Int) == 92) = true := by rw [h92]; rfl
          have HR := hide (scan_skip HSC.out hlt h92)
          clear hq h92
          go_wp2_with fail
          go_round
          case rel => exact ⟨k + 2, by omega, by go_num, HR.out⟩
          case measure => simp [intOf]; omega
        · have hq2 : ((s[k].toNat : Int) == 92) = false := by
            rw [show (92 : Int) = ((92 : Nat) : Int) from rfl, byte_eq _ 92 (by decide)]; simpa using h92
          have HR := hide (scan_step HSC.out hlt hq h92)
          clear hq h92
          go_wp2_with fail
          go_round
          case rel => exact ⟨k + 1, by omega, by go_num, HR.out⟩
          case measure => simp [intOf]; omega
    · have HR := hide (scan_end HSC.out hlt)
      go_wp2_with fail
      go_ret
      exact ⟨ret_int (by rw [HR.out]), rfl⟩
end Go.Proofs.YtfjhdfpdgjjcgaaGreatDoor

/-
  The values of a line: the walks of cellEnd and readRow.
-/
namespace Go.Proofs.YtfjhdfpdgjjcgaaGreatDoor
open Go.RowKit

theorem head_prefix {l : List UInt8} (h : Lib.hasPrefix l [34] = true) : l.head? = some 34 := by
  cases l with
  | nil => simp [Lib.hasPrefix] at h
  | cons c r => simp [Lib.hasPrefix, List.isPrefixOf] at h; simp [h]
theorem head_other {l : List UInt8} (h : Lib.hasPrefix l [34] = false) : ¬ l.head? = some 34 := by
  cases l with
  | nil => simp
  | cons c r => simp [Lib.hasPrefix, List.isPrefixOf] at h; simp; exact fun e => h e.symm

set_option maxHeartbeats 1600000 in
set_option maxRecDepth 100000 in
theorem cellEnd_any (s : ByteArray) (w : World) (hs : s.size < 4294967281) (hM : Mx w) :
    Calls Tryz.prog 86 #[.string s] w fun e w' => e = .returned (.int .i64 (cellEndM s.data.toList : Nat)) ∧ w' = w := by
  have hl : s.data.toList.length = s.size := by simp
  have HP := hide (fun w' => Tryz.strings_HasPrefix s ⟨#[34]⟩ w')
  cases hp : Lib.hasPrefix s.data.toList [34]
  · have HN := hide (head_other hp)
    have HPR := hide hp
    have HI := hide (fun m w' hm => Tryz.strings_Index s ⟨#[44, 32]⟩ m w' hs hm)
    have HM := hide hM
    clear hp hM
    by_cases hi : 0 ≤ Lib.index s.data.toList [44, 32]
    · have HC := hide (show cellEndM s.data.toList = (Lib.index s.data.toList [44, 32]).toNat by unfold cellEndM; rw [if_neg HN.out, if_pos hi])
      generalize cellEndM s.data.toList = z at HC ⊢
      have HX := hide (show ∀ j, j = Lib.index s.data.toList [44, 32] → 0 ≤ j from fun j hj => hj ▸ hi)
      clear hi
      go_enter Tryz.func86, Tryz.ntmps86
      go_wp2_with fail
      refine (HP.out _).mono ?_
      rintro e w1 ⟨rfl, rfl⟩
      rw [show Lib.hasPrefix s.data.toList (⟨#[34]⟩ : ByteArray).data.toList = false from HPR.out]
      go_wp2_with fail
      obtain ⟨m, hm⟩ := HM.out
      refine (HI.out m _ hm).mono ?_
      rintro e w2 ⟨rfl, rfl⟩
      have hj := HX.out _ rfl
      have HE := hide (show (z : Int) = Lib.index s.data.toList [44, 32] by rw [HC.out]; omega)
      clear hm
      rw [show Lib.index s.data.toList (⟨#[44, 32]⟩ : ByteArray).data.toList = Lib.index s.data.toList [44, 32] from rfl]
      generalize Lib.index s.data.toList [44, 32] = j at hj HE ⊢
      go_wp2_with fail
      go_ret
      exact ⟨ret_int HE.out.symm, rfl⟩
    · have HC := hide (show cellEndM s.data.toList = s.size by unfold cellEndM; rw [if_neg HN.out, if_neg hi, hl])
      generalize cellEndM s.data.toList = z at HC ⊢
      have HX := hide (show ∀ j, j = Lib.index s.data.toList [44, 32] → ¬ 0 ≤ j from fun j hj => hj ▸ hi)
      clear hi
      go_enter Tryz.func86, Tryz.ntmps86
      go_wp2_with fail
      refine (HP.out _).mono ?_
      rintro e w1 ⟨rfl, rfl⟩
      rw [show Lib.hasPrefix s.data.toList (⟨#[34]⟩ : ByteArray).data.toList = false from HPR.out]
      go_wp2_with fail
      obtain ⟨m, hm⟩ := HM.out
      refine (HI.out m _ hm).mono ?_
      rintro e w2 ⟨rfl, rfl⟩
      have hj := HX.out _ rfl
      clear hm
      rw [show Lib.index s.data.toList (⟨#[44, 32]⟩ : ByteArray).data.toList = Lib.index s.data.toList [44, 32] from rfl]
      generalize Lib.index s.data.toList [44, 32] = j at hj ⊢
      go_wp2_with fail
      go_ret
      exact ⟨ret_int (by rw [HC.out]), rfl⟩
  · have hh := head_prefix hp
    have HPR := hide hp
    have h1 : 1 ≤ s.size := by
      cases hd : s.data.toList with
      | nil => rw [hd] at hh; cases hh
      | cons c r => rw [← hl, hd]; simp
    have HC := hide (show cellEndM s.data.toList = 1 + scanQ (s.data.toList.drop 1) by unfold cellEndM; rw [if_pos hh])
    have HT := hide (fun w' => textEnd_any s w' (by omega) h1)
    clear hp hh
    generalize cellEndM s.data.toList = z at HC ⊢
    go_enter Tryz.func86, Tryz.ntmps86
    go_wp2_with fail
    refine (HP.out _).mono ?_
    rintro e w1 ⟨rfl, rfl⟩
    rw [show Lib.hasPrefix s.data.toList (⟨#[34]⟩ : ByteArray).data.toList = true from HPR.out]
    go_wp2_with fail
    refine (HT.out _).mono ?_
    rintro e w2 ⟨rfl, rfl⟩
    go_wp2_with fail
    go_ret
    exact ⟨ret_int (by rw [HC.out]; simp), rfl⟩

/-- What Parse of a value tells, by the value whose text it is. -/
def ParseG (s : ByteArray) (w : World) (e : Ending) (w' : World) : Prop :=
  (match parseM s.data.toList with
    | some v => e = .returned (.tuple #[vVal v.1 v.2.1 v.2.2, .int .i64 0])
    | none => e = .returned (.tuple #[vNull, .int .i64 20])) ∧ Below w.heap.size w w'
theorem parseG_any (s : ByteArray) (w : World) (hs : s.size ≤ 140737488355328) (hT : Tab w) (hE : Errs w) :
    Calls Tryz.prog 87 #[.string s] w (ParseG s w) := by
  unfold ParseG
  cases h : parseM s.data.toList with
  | some v =>
    obtain ⟨a, b, c, d⟩ := parseM_some h
    have hp := parse_right v.1 v.2.1 v.2.2 w a c hT
    rw [show (⟨(showV v.1 v.2.1 v.2.2).toArray⟩ : ByteArray) = s from (of_data (show s.data.toList = showV v.1 v.2.1 v.2.2 from d.symm)).symm] at hp
    exact hp
  | none =>
    refine (parseV_any s w hs hT hE).mono fun e w' ⟨h1, h2⟩ => ⟨?_, h2⟩
    rcases h1 with ⟨k, n, t, a, b, c, d, _⟩ | h1
    · exact absurd ⟨a, b, c, d⟩ (parseM_none h (k, n, t))
    · exact h1

/-- One value of a line. -/
theorem row_step {R : Option (List (Int × Int × ByteArray))} {acc : List (Int × Int × ByteArray)} {m : Nat} {l : List UInt8} (hm : l.length + 1 ≤ m) (hR : R = (readRowM m l).map (acc ++ ·)) :
    (parseM (l.take (cellEndM l)) = none ∧ R = none) ∨ ∃ v, parseM (l.take (cellEndM l)) = some v ∧
      ((Lib.hasPrefix (l.drop (cellEndM l)) [44, 32] = true ∧ ∃ m', ((l.drop (cellEndM l)).drop 2).length + 1 ≤ m' ∧ ((l.drop (cellEndM l)).drop 2).length < l.length ∧ R = (readRowM m' ((l.drop (cellEndM l)).drop 2)).map ((acc ++ [v]) ++ ·)) ∨
       (Lib.hasPrefix (l.drop (cellEndM l)) [44, 32] = false ∧ R = if l.drop (cellEndM l) = [] then some (acc ++ [v]) else none)) := by
  match m, hm with
  | m + 1, hm =>
    unfold readRowM at hR
    cases hp : parseM (l.take (cellEndM l)) with
    | none => rw [hp] at hR; exact .inl ⟨rfl, hR⟩
    | some v =>
      rw [hp] at hR
      refine .inr ⟨v, rfl, ?_⟩
      simp only at hR
      by_cases hd : l.drop (cellEndM l) = []
      · rw [if_pos hd] at hR
        refine .inr ⟨by rw [hd]; rfl, by rw [if_pos hd]; exact hR⟩
      · rw [if_neg hd] at hR
        cases hx : Lib.hasPrefix (l.drop (cellEndM l)) [44, 32]
        · rw [if_neg (by unfold Lib.hasPrefix at hx; rw [hx]; simp)] at hR
          exact .inr ⟨rfl, by rw [if_neg hd]; exact hR⟩
        · rw [if_pos (by unfold Lib.hasPrefix at hx; exact hx)] at hR
          unfold Lib.hasPrefix at hx
          rw [List.isPrefixOf_iff_prefix] at hx
          obtain ⟨q, hq⟩ := hx
          have hlen : ((l.drop (cellEndM l)).drop 2).length + 2 ≤ l.length := by
            have h1 : (l.drop (cellEndM l)).length ≤ l.length := by rw [List.length_drop]; omega
            have h2 : 2 ≤ (l.drop (cellEndM l)).length := by rw [← hq]; simp
            rw [List.length_drop]; omega
          refine .inl ⟨rfl, m, by omega, by omega, ?_⟩
          rw [hR, Option.map_map]
          congr 1
          funext r
          simp
theorem ext_tail (s : ByteArray) (k : Nat) : (s.extract k s.size).data.toList = s.data.toList.drop k := by
  rw [Lib.extract_data]
  rw [List.take_of_length_le (by simp)]
theorem ext_head (s : ByteArray) (k : Nat) : (s.extract 0 k).data.toList = s.data.toList.take k := by
  rw [Lib.extract_data]
  simp

/-- What readRow tells of a line. -/
def RowGot (l : List UInt8) (w : World) (e : Ending) (w' : World) : Prop :=
  (match readRowM (l.length + 1) l with
    | some vs => ∃ A c, e = .returned (.tuple #[.slice A (List.length vs) c, .bool true]) ∧ RowAt w'.heap.size w' A vs ∧ (A = none → c = 0) ∧ ∀ a, A = some a → w.heap.size ≤ a.block
    | none => ∃ A n c, e = .returned (.tuple #[.slice A n c, .bool false])) ∧ Below w.heap.size w w'
theorem rowGot_some {l : List UInt8} {w w' : World} {e : Ending} {vs : List (Int × Int × ByteArray)} (h : readRowM (l.length + 1) l = some vs)
    (hx : ∃ A c, e = .returned (.tuple #[.slice A (List.length vs) c, .bool true]) ∧ RowAt w'.heap.size w' A vs ∧ (A = none → c = 0) ∧ ∀ a, A = some a → w.heap.size ≤ a.block) (hb : Below w.heap.size w w') : RowGot l w e w' := by
  unfold RowGot; rw [h]; exact ⟨hx, hb⟩
theorem rowGot_none {l : List UInt8} {w w' : World} {e : Ending} (h : readRowM (l.length + 1) l = none)
    (hx : ∃ A n c, e = .returned (.tuple #[.slice A n c, .bool false])) (hb : Below w.heap.size w w') : RowGot l w e w' := by
  unfold RowGot; rw [h]; exact ⟨hx, hb⟩

def moreM (v t : Value) : Nat := match v, t with
  | .bool true, .string s => s.size + 1
  | _, _ => 0

set_option maxHeartbeats 3200000 in
set_option maxRecDepth 100000 in
theorem readRow_any (s : ByteArray) (w : World) (hs : s.size ≤ 1000000) (hT : Tab w) (hE : Errs w) (hM : Mx w) :
    Calls Tryz.prog 64 #[.string s] w (RowGot s.data.toList w) := by
  have HT := hide hT; have HE := hide hE; have HM := hide hM
  have hl : s.data.toList.length = s.size := by simp
  obtain ⟨R, hR⟩ : ∃ R, R = readRowM (s.data.toList.length + 1) s.data.toList := ⟨_, rfl⟩
  have HS := hide (fun e w' vs (h : R = some vs) hx hb => rowGot_some (l := s.data.toList) (w := w) (w' := w') (e := e) (hR ▸ h) hx hb)
  have HN := hide (fun e w' (h : R = none) hx hb => rowGot_none (l := s.data.toList) (w := w) (w' := w') (e := e) (hR ▸ h) hx hb)
  have HR := hide (show R = (readRowM (s.data.toList.length + 1) s.data.toList).map (([] : List (Int × Int × ByteArray)) ++ ·) by rw [hR]; cases readRowM (s.data.toList.length + 1) s.data.toList <;> rfl)
  obtain ⟨i0, hi, hz0, hz1, hz2⟩ := info_parts val_info
  clear hR hT hE hM
  go_enter Tryz.func64, Tryz.ntmps64
  go_wp2_with fail
  go_loopw [0, 4, 5] (fun t v mo wr => ∃ (acc : List (Int × Int × ByteArray)) (t' : ByteArray), t = .string t' ∧ t'.size ≤ s.size ∧ wr.ownsRow w.heap.size 54 3 v acc.length (valCells acc) ∧ Below w.heap.size w wr ∧
    ((mo = .bool true ∧ acc.length + t'.size ≤ s.size ∧ ∃ m, t'.data.toList.length + 1 ≤ m ∧ R = (readRowM m t'.data.toList).map (acc ++ ·)) ∨ (mo = .bool false ∧ R = if t'.data.toList = [] then some acc else none))) (fun t _ mo _ => moreM mo t)
  case atStart => exact ⟨[], s, rfl, Nat.le_refl _, World.ownsRow_nil _ _ _ _, Below.refl _ _, .inl ⟨rfl, by simp, _, Nat.le_refl _, HR.out⟩⟩
  case round =>
    obtain ⟨acc, t, rfl, hts, hown, hbw, hcase⟩ := hrel
    have HO := hide hown
    have hs0 := hbw.size
    clear hown
    rcases hcase with ⟨rfl, hal, m, hm, hRR⟩ | ⟨rfl, hRR⟩
    · have hle := cellEndM_le t.data.toList
      have htl : t.data.toList.length = t.size := by simp
      rw [htl] at hle
      have HCE := hide (cellEnd_any t wr (by omega) (HM.out.stays hbw))
      have hz5 : ((t.extract 0 (cellEndM t.data.toList)).size) ≤ t.size := by simp; omega
      have HPG := hide (parseG_any (t.extract 0 (cellEndM t.data.toList)) wr (by omega) (HT.out.stays hbw (Nat.le_refl _)) (HE.out.stays hbw (Nat.le_refl _)))
      have HCP := hide (fun w' => Tryz.strings_CutPrefix (t.extract (cellEndM t.data.toList) t.size) ⟨#[44, 32]⟩ w')
      unfold ParseG at HPG
      rw [ext_tail] at HCP
      rw [ext_head] at HPG
      rcases row_step hm hRR with ⟨hp, hRn⟩ | ⟨v, hp, hRs⟩
      · rw [hp] at HPG
        have HRN := hide hRn
        clear hp hRn hRR hm htl HCP
        generalize cellEndM t.data.toList = k at *
        go_wp2_with fail
        refine HCE.out.mono ?_
        rintro e w1 ⟨rfl, rfl⟩
        go_wp2_with fail
        refine HPG.out.mono ?_
        rintro e w2 ⟨rfl, hb2⟩
        go_wp2_with fail
        go_ret2
        exact HN.out _ _ HRN.out ⟨_, _, _, rfl⟩ (then_below hbw (hb2.alloc hb2.size _))
      · rw [hp] at HPG
        have hv := parseM_some hp
        rw [show (⟨#[44, 32]⟩ : ByteArray).data.toList = [44, 32] from rfl] at HCP
        have HV := hide (valCells_snoc acc v)
        rcases hRs with ⟨hx, m', hm', hlt', hRR'⟩ | ⟨hx, hRR'⟩
        all_goals
          have HX := hide hRR'
          rw [hx] at HCP
          have htr : Lib.trimPrefix (t.data.toList.drop (cellEndM t.data.toList)) [44, 32] = if Lib.hasPrefix (t.data.toList.drop (cellEndM t.data.toList)) [44, 32] = true then (t.data.toList.drop (cellEndM t.data.toList)).drop 2 else t.data.toList.drop (cellEndM t.data.toList) := rfl
          rw [htr, hx] at HCP
          clear htr hp hx hRR hRR'
        · rw [if_pos rfl] at HCP
          have HL' := hide hlt'; have HM' := hide hm'
          clear hm hlt' hm' htl hv
          generalize hq : (t.data.toList.drop (cellEndM t.data.toList)).drop 2 = q at *
          clear hq
          generalize cellEndM t.data.toList = k at *
          go_wp2_with fail
          refine HCE.out.mono ?_
          rintro e w1 ⟨rfl, rfl⟩
          go_wp2_with fail
          refine HPG.out.mono ?_
          rintro e w2 ⟨rfl, hb2⟩
          have HB2 := hide (then_below hbw hb2)
          have hown2 := HO.out.kept (only_of_below hb2 none) (by cases hv : u4.ownBlock <;> simp)
          have hs2 := hb2.size
          clear HCE HPG hb2
          go_wp2_with (at_builtin; go_must (refine wpList_append_own _ rfl _ _ 27 rfl w.heap.size 54 i0 (.agg #[.int .i64 0, .int .i64 0, .string ⟨#[]⟩]) 3 32 Tryz.underlying27 hi hz0 hz1 hz2 rfl (by decide) _ _ _ rfl ((hown2.alloc _).alloc _) ⟨w2.heap.size + 1, 0, none⟩ 1 1 [.int .i64 v.1, .int .i64 v.2.1, .string v.2.2] rfl rfl (val_new _ _ v _ (by simp)) (val_one v) (by unfold maxLen; omega) (by omega) (by simp; omega) ?_))
          intro v' w3 hown3 hgrow3 _
          have HO3 := hide hown3; have HG3 := hide hgrow3
          clear hown3 hgrow3 hown2
          go_wp2_with fail
          refine (HCP.out _).mono ?_
          rintro e w4 ⟨rfl, rfl⟩
          go_wp2_with fail
          go_roundw
          case rel =>
            have hl' := HL'.out
            have hsq := size_of q
            rw [Array.length_toList] at hl'
            have hl'' : q.length < t.size := hl'
            refine ⟨acc ++ [v], ⟨q.toArray⟩, rfl, by omega, ?_, ?_, .inl ⟨rfl, ?_, m', ?_, ?_⟩⟩
            · rw [HV.out, List.length_append]; exact HO3.out
            · exact ((HB2.out.alloc (by omega) _).alloc (by simp; omega) _).grown HG3.out (by simp; omega) (fun j hj => (HO.out.lt j hj).1)
            · rw [List.length_append]; simp only [List.length_singleton]; omega
            · rw [list_of]; exact HM'.out
            · rw [list_of]; exact HX.out
          case measure =>
            have hl' := HL'.out
            have hsq := size_of q
            rw [Array.length_toList] at hl'
            have hl'' : q.length < t.size := hl'
            simp only [moreM]
            omega
        · rw [if_neg (by simp)] at HCP
          have hdl : (t.data.toList.drop (cellEndM t.data.toList)).length ≤ t.size := by rw [List.length_drop, htl]; omega
          clear hm htl hv
          generalize hq : t.data.toList.drop (cellEndM t.data.toList) = q at *
          clear hq
          generalize cellEndM t.data.toList = k at *
          go_wp2_with fail
          refine HCE.out.mono ?_
          rintro e w1 ⟨rfl, rfl⟩
          go_wp2_with fail
          refine HPG.out.mono ?_
          rintro e w2 ⟨rfl, hb2⟩
          have HB2 := hide (then_below hbw hb2)
          have hown2 := HO.out.kept (only_of_below hb2 none) (by cases hv : u4.ownBlock <;> simp)
          have hs2 := hb2.size
          clear HCE HPG hb2
          go_wp2_with (at_builtin; go_must (refine wpList_append_own _ rfl _ _ 27 rfl w.heap.size 54 i0 (.agg #[.int .i64 0, .int .i64 0, .string ⟨#[]⟩]) 3 32 Tryz.underlying27 hi hz0 hz1 hz2 rfl (by decide) _ _ _ rfl ((hown2.alloc _).alloc _) ⟨w2.heap.size + 1, 0, none⟩ 1 1 [.int .i64 v.1, .int .i64 v.2.1, .string v.2.2] rfl rfl (val_new _ _ v _ (by simp)) (val_one v) (by unfold maxLen; omega) (by omega) (by simp; omega) ?_))
          intro v' w3 hown3 hgrow3 _
          have HO3 := hide hown3; have HG3 := hide hgrow3
          clear hown3 hgrow3 hown2
          go_wp2_with fail
          refine (HCP.out _).mono ?_
          rintro e w4 ⟨rfl, rfl⟩
          go_wp2_with fail
          go_roundw
          case rel =>
            have hsq := size_of q
            refine ⟨acc ++ [v], ⟨q.toArray⟩, rfl, by omega, ?_, ?_, .inr ⟨rfl, ?_⟩⟩
            · rw [HV.out, List.length_append]; exact HO3.out
            · exact ((HB2.out.alloc (by omega) _).alloc (by simp; omega) _).grown HG3.out (by simp; omega) (fun j hj => (HO.out.lt j hj).1)
            · rw [list_of]; exact HX.out
          case measure => simp only [moreM]; omega
    · by_cases he : t.data.toList = []
      · rw [if_pos he] at hRR
        have he1 : (t.toList == []) = true := by rw [Lib.toList_data, he]; rfl
        have HRR := hide hRR
        obtain ⟨A', c', e1, hA, hn', hf'⟩ := row_new HO.out
        subst e1
        have HA := hide hA; have HN' := hide hn'; have HF' := hide hf'
        clear hRR he hA hn' hf'
        go_wp2_with fail
        go_ret2
        exact HS.out _ _ _ HRR.out ⟨A', c', rfl, HA.out, HN'.out, HF'.out⟩ hbw
      · rw [if_neg he] at hRR
        have he1 : (t.toList == []) = false := by rw [Lib.toList_data]; simpa using he
        have HRR := hide hRR
        obtain ⟨A', c', e1, hA, hn', hf'⟩ := row_new HO.out
        subst e1
        clear hRR he hA hn' hf'
        go_wp2_with fail
        go_ret2
        exact HN.out _ _ HRR.out ⟨_, _, _, rfl⟩ hbw
end Go.Proofs.YtfjhdfpdgjjcgaaGreatDoor
