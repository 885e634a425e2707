/-
  What the model reads of tokens that are right, at any depth: assets and queries (pure).
-/
import Derived.Test.YtljoajjlkjjgeaaGreatDoorMTx
namespace Go.Proofs.YtljoajjlkjjgeaaGreatDoor
open Go.RowKit Go.Sort LM Go

/-- The parser at a depth, nothing failed. -/
abbrev Pn (d : Int) (L : List T3) : PSt := ⟨L, d, none⟩
abbrev hd0 (R : List T3) : T3 := R.getD 0 (0, [], 0)
theorem take_n {d : Int} {t : T3} {L : List T3} (hd : d ≤ 32) (h : t.1 ≠ 0) : takeS (Pn d (t :: L)) = (t, Pn d L) := by
 have e : deepS (Pn d (t :: L)) = Pn d (t :: L) := by unfold deepS; rw [if_neg (show ¬ (32 : Int) < d by omega)]
 unfold takeS
 rw [e, show aheadS 0 (Pn d (t :: L)) = t from rfl, if_neg h]
 rfl
theorem isT_ne {t : T3} {x : List UInt8} (h : isT t x = true) : t.1 ≠ 0 := by
 intro e
 unfold isT at h
 rw [e] at h
 simp at h
theorem expect_n {d : Int} {t : T3} {L : List T3} {x : List UInt8} (hd : d ≤ 32) (h : isT t x = true) : expectS x (Pn d (t :: L)) = Pn d L := by
 unfold expectS
 rw [show aheadS 0 (Pn d (t :: L)) = t from rfl, if_pos h, take_n hd (isT_ne h)]
theorem name_n {d : Int} (hd : d ≤ 32) (u : List UInt8) (L : List T3) : nameS (Pn d (kW u :: L)) = (ba u, Pn d L) := by
 unfold nameS tokenS
 rw [show aheadS 0 (Pn d (kW u :: L)) = kW u from rfl, if_pos rfl, take_n hd (show (1 : Int) ≠ 0 by decide)]
theorem number_n {d : Int} (hd : d ≤ 32) (v : Int) (L : List T3) : numberS (Pn d (kN v :: L)) = (v, Pn d L) := by
 unfold numberS tokenS
 rw [show aheadS 0 (Pn d (kN v :: L)) = kN v from rfl, if_pos rfl, take_n hd (show (2 : Int) ≠ 0 by decide)]
theorem which_n {d : Int} {xs : List (List UInt8)} {t : T3} {L : List T3} {i : Nat} (hd : d ≤ 32) (h : findW xs t = some i) (h0 : t.1 ≠ 0) : whichS xs (Pn d (t :: L)) = (some i, Pn d L) := by
 unfold whichS
 rw [show aheadS 0 (Pn d (t :: L)) = t from rfl, h]
 simp only
 rw [take_n hd h0]
theorem which_no {d : Int} {xs : List (List UInt8)} {L : List T3} (h : findW xs (hd0 L) = none) : whichS xs (Pn d L) = (none, Pn d L) := by
 unfold whichS
 rw [show aheadS 0 (Pn d L) = hd0 L from rfl, h]
theorem oneOf_n {d : Int} {xs : List (List UInt8)} {t : T3} {L : List T3} {i : Nat} (hd : d ≤ 32) (h : findW xs t = some i) (h0 : t.1 ≠ 0) : oneOfS xs (Pn d (t :: L)) = ((i : Int) + 1, Pn d L) := by
 unfold oneOfS
 rw [which_n hd h h0]
theorem listG_n {α β : Type} {d : Int} {r : Rule α} (hd : d ≤ 32) (f : β → List T3) (g : β → α) {R : List T3} (hR : NoC R) : ∀ (l : List β) (n : Nat) (acc : List α), (∀ x R', r (Pn d (f x ++ R')) = (g x, Pn d R')) → l.length < n → listG r n acc (Pn d (comK f l ++ R)) = (acc ++ l.map g, Pn d R)
 | [], n + 1, acc, _, _ => by
  rw [listG, show aheadS 0 (Pn d (comK f [] ++ R)) = R.getD 0 (0, [], 0) from rfl, if_neg (by rw [hR]; simp)]
  simp [comK]
 | x :: l, n + 1, acc, h, hn => by
  have e : comK f (x :: l) ++ R = kS [44] :: (f x ++ (comK f l ++ R)) := by simp [comK]
  rw [listG, e, show aheadS 0 (Pn d (kS [44] :: (f x ++ (comK f l ++ R)))) = kS [44] from rfl, if_pos (by decide), take_n hd (by decide)]
  simp only
  rw [h x _]
  simp only
  rw [listG_n hd f g hR l n (acc ++ [g x]) h (by simpa using hn)]
  simp
theorem listS_n {α β : Type} {d : Int} {r : Rule α} (hd : d ≤ 32) (f : β → List T3) (g : β → α) {R : List T3} (hR : NoC R) (F : Nat) (x : β) (l : List β) (h : ∀ y R', r (Pn d (f y ++ R')) = (g y, Pn d R')) (hn : l.length < F) :
  listS F r (Pn d (f x ++ (comK f l ++ R))) = (g x :: l.map g, Pn d R) := by
 unfold listS
 rw [h]
 simp only
 rw [listG_n hd f g hR l F [g x] h hn]
 simp
theorem nested_n {α : Type} {r : Rule α} {d : Int} {L R : List T3} {x : α} (h : r (Pn (d + 1) L) = (x, Pn (d + 1) R)) : nestedS r (Pn d L) = (x, Pn d R) := by
 unfold nestedS
 rw [h]
 simp
theorem enclosed_n {α : Type} {r : Rule α} {d : Int} (hd : d ≤ 32) {L R : List T3} {x : α} (h : r (Pn d L) = (x, Pn d (kS [41] :: R))) : enclosedS r (Pn d (kS [40] :: L)) = (x, Pn d R) := by
 unfold enclosedS
 rw [expect_n hd (by decide), h]
 simp only
 rw [expect_n hd (by decide)]
theorem as_n {d : Int} (hd : d ≤ 32) (u : List UInt8) (L : List T3) : asS (Pn d (kW [97, 115] :: kW u :: L)) = (ba u, Pn d L) := by
 unfold asS
 rw [expect_n hd (by decide), name_n hd]
/-- A name's word is no sign. -/
theorem nm_sign {u x : List UInt8} (h : Nm u) (hx : ∀ c r, x = c :: r → lowP c = false) (n : Int) : isT (1, u, n) x = false := by
 obtain ⟨-, ⟨c, r, rfl, hc⟩, -⟩ := h
 unfold isT
 have : (c :: r == x) = false := by
  rw [beq_eq_false_iff_ne]
  intro e
  have := hx c r e.symm
  rw [this] at hc; cases hc
 simp [this]
theorem nm_open {u : List UInt8} (h : Nm u) : isT (kW u) [40] = false := nm_sign h (fun c r e => by injection e with e1 e2; rw [← e1]; decide) 0
abbrev scanP (m : List UInt8) : Pl := {k := 1, nm := ba m}
theorem part_name {Q : Rule Pl} {d : Int} (hd : d ≤ 32) {u : List UInt8} (hu : Nm u) (L : List T3) : partS Q (Pn d (kW u :: L)) = (scanP u, Pn d L) := by
 unfold partS
 rw [show aheadS 0 (Pn d (kW u :: L)) = kW u from rfl, if_neg (by rw [nm_open hu]; simp), name_n hd]
theorem steps_end {F n : Nat} {X : Rule XT} {P : Rule Pl} {q : Pl} {d : Int} {R : List T3} (h : isT (hd0 R) [124] = false) : stepsG F X P n q (Pn d R) = (q, Pn d R) := by
 cases n with
 | zero => rfl
 | succ n => rw [stepsG, show aheadS 0 (Pn d R) = hd0 R from rfl, if_neg (by rw [h]; simp)]
theorem step_8 {F : Nat} {X : Rule XT} {P : Rule Pl} {q : List Dt} {d : Int} (hd : d ≤ 32) (L : List T3) : stepS F X P q (Pn d (kW [100, 105, 115, 116, 105, 110, 99, 116] :: L)) = ({k := 8, args := [q]}, Pn d L) := by
 unfold stepS
 rw [oneOf_n (i := 6) hd (by decide) (by decide)]
 simp only
 rfl
theorem query_dist {F n : Nat} {d : Int} (hF : 1 < F) (hd : d ≤ 32) {m : List UInt8} (hm : Nm m) {R : List T3} (hR : isT (hd0 R) [124] = false) : queryG F (n + 1) (Pn d (kW m :: kS [124] :: kW [100, 105, 115, 116, 105, 110, 99, 116] :: R)) = ({k := 8, args := [(scanP m).enc]}, Pn d R) := by
 unfold queryG
 rw [part_name hd hm]
 simp only
 obtain ⟨f, e⟩ : ∃ f, F = f + 1 := ⟨F - 1, by omega⟩
 have e0 : ∀ X P q s, stepsG F X P F q s = stepsG F X P (f + 1) q s := fun X P q s => by rw [← e]
 rw [e0, stepsG, show aheadS 0 (Pn d (kS [124] :: kW [100, 105, 115, 116, 105, 110, 99, 116] :: R)) = kS [124] from rfl, if_pos (by decide), take_n hd (by decide)]
 simp only
 rw [step_8 hd]
 simp only
 rw [steps_end hR]
/-- An asset's tokens. -/
abbrev In3 := List UInt8 × Int × Int
def mapK (k n : Int) : List T3 := kW (mapWords.getD (k.toNat - 1) []) :: (if k = 2 then [kN n] else if k = 3 then (if n < 0 then [kS [45], kN (-n)] else [kN n]) else [])
def inpK (x : In3) : List T3 := kW x.1 :: (mapK x.2.1 x.2.2 ++ [kW [97, 115], kW x.1])
def inpM (x : In3) : ByteArray × (Int × Int) × ByteArray := (ba x.1, (x.2.1, x.2.2), ba x.1)
/-- A mapping that has a text. -/
def MapOk (k n : Int) : Prop := (k = 1 ∧ n = 0) ∨ (k = 2 ∧ 0 ≤ n) ∨ k = 3 ∨ (k = 4 ∧ n = 0) ∨ (k = 5 ∧ n = 0)
theorem map_P {k n : Int} (h : MapOk k n) (R : List T3) : mappingS (P1 (mapK k n ++ R)) = ((k, n), P1 R) := by
 unfold mappingS
 rcases h with ⟨rfl, rfl⟩ | ⟨rfl, h0⟩ | rfl | ⟨rfl, rfl⟩ | ⟨rfl, rfl⟩
 ·rw [show mapK 1 0 ++ R = kW [115, 97, 109, 101] :: R from rfl, oneOf_n (i := 0) (by decide) (by decide) (by decide)]; rfl
 ·rw [show mapK 2 n ++ R = kW [108, 97, 115, 116] :: kN n :: R from rfl, oneOf_n (i := 1) (by decide) (by decide) (by decide)]
  simp only
  rw [if_pos (by decide), number_n (by decide)]; rfl
 ·by_cases hn : n < 0
  ·have e : mapK 3 n ++ R = kW [115, 104, 105, 102, 116] :: kS [45] :: kN (-n) :: R := by unfold mapK; rw [if_neg (by decide), if_pos rfl, if_pos hn]; rfl
   rw [e, oneOf_n (i := 2) (by decide) (by decide) (by decide)]
   simp only
   rw [if_neg (by decide), if_pos (by decide)]
   unfold distS
   rw [show aheadS 0 (P1 (kS [45] :: kN (-n) :: R)) = kS [45] from rfl, if_pos (by decide), take_n (by decide) (by decide)]
   simp only
   rw [number_n (by decide)]
   simp only [Int.neg_neg]
   rfl
  ·have e : mapK 3 n ++ R = kW [115, 104, 105, 102, 116] :: kN n :: R := by unfold mapK; rw [if_neg (by decide), if_pos rfl, if_neg hn]; rfl
   rw [e, oneOf_n (i := 2) (by decide) (by decide) (by decide)]
   simp only
   rw [if_neg (by decide), if_pos (by decide)]
   unfold distS
   rw [show aheadS 0 (P1 (kN n :: R)) = kN n from rfl, if_neg (by simp [isT]), number_n (by decide)]
   rfl
 ·rw [show mapK 4 0 ++ R = kW [119, 105, 116, 104, 105, 110] :: R from rfl, oneOf_n (i := 3) (by decide) (by decide) (by decide)]; rfl
 ·rw [show mapK 5 0 ++ R = kW [97, 108, 108] :: R from rfl, oneOf_n (i := 4) (by decide) (by decide) (by decide)]; rfl
theorem inp_P {x : In3} (h : MapOk x.2.1 x.2.2) (R : List T3) : inputS (P1 (inpK x ++ R)) = (inpM x, P1 R) := by
 have e : inpK x ++ R = kW x.1 :: (mapK x.2.1 x.2.2 ++ (kW [97, 115] :: kW x.1 :: R)) := by simp [inpK]
 unfold inputS
 rw [e, name_n (by decide)]
 simp only
 rw [map_P h]
 simp only
 rw [as_n (by decide)]
 rfl
theorem listG_m {α β : Type} {d : Int} {r : Rule α} (hd : d ≤ 32) (f : β → List T3) (g : β → α) {R : List T3} (hR : NoC R) : ∀ (l : List β) (n : Nat) (acc : List α), (∀ x ∈ l, ∀ R', r (Pn d (f x ++ R')) = (g x, Pn d R')) → l.length < n → listG r n acc (Pn d (comK f l ++ R)) = (acc ++ l.map g, Pn d R)
 | [], n + 1, acc, _, _ => by
  rw [listG, show aheadS 0 (Pn d (comK f [] ++ R)) = R.getD 0 (0, [], 0) from rfl, if_neg (by rw [hR]; simp)]
  simp [comK]
 | x :: l, n + 1, acc, h, hn => by
  have e : comK f (x :: l) ++ R = kS [44] :: (f x ++ (comK f l ++ R)) := by simp [comK]
  rw [listG, e, show aheadS 0 (Pn d (kS [44] :: (f x ++ (comK f l ++ R)))) = kS [44] from rfl, if_pos (by decide), take_n hd (by decide)]
  simp only
  rw [h x (by simp)]
  simp only
  rw [listG_m hd f g hR l n (acc ++ [g x]) (fun y hy => h y (by simp [hy])) (by simpa using hn)]
  simp
def asK (nm : List UInt8) (x : In3) (l : List In3) (i : Nat) (a z : Int) : List T3 :=
 kW [97, 115, 115, 101, 116] :: kW nm :: (schmK i a z ++ (kW [102, 114, 111, 109] :: (inpK x ++ (comK inpK l ++ [kW [100, 111], kW x.1, kS [124], kW [100, 105, 115, 116, 105, 110, 99, 116]]))))
def asD (nm : List UInt8) (x : In3) (l : List In3) (i : Nat) (a z : Int) : Df := {k := 2, nm := ba nm, sc := ((i : Int) + 1, a, z), ins := inpM x :: l.map inpM, pl := {k := 8, args := [(scanP x.1).enc]}}
theorem as_def (nm : List UInt8) (x : In3) (l : List In3) {i : Nat} (hi : i < 5) (a z : Int) (R : List T3) (hR : isT (hd0 R) [124] = false) {F : Nat} (hF : l.length < F) (h1 : 1 < F) (hx : Nm x.1) (hm : ∀ y ∈ x :: l, MapOk y.2.1 y.2.2) : defS F (P1 (asK nm x l i a z ++ R)) = (asD nm x l i a z, P1 R) := by
 have e : asK nm x l i a z ++ R = kW [97, 115, 115, 101, 116] :: kW nm :: (schmK i a z ++ (kW [102, 114, 111, 109] :: (inpK x ++ (comK inpK l ++ (kW [100, 111] :: kW x.1 :: kS [124] :: kW [100, 105, 115, 116, 105, 110, 99, 116] :: R))))) := by simp [asK]
 unfold defS
 rw [e, oneOf_P (i := 1) (by decide) (by decide)]
 simp only
 rw [name_P]
 simp only
 unfold defK
 rw [if_neg (by decide), if_pos (by decide), scheme_P hi]
 simp only
 rw [expect_n (by decide) (by decide)]
 have e1 : listS F inputS (P1 (inpK x ++ (comK inpK l ++ (kW [100, 111] :: kW x.1 :: kS [124] :: kW [100, 105, 115, 116, 105, 110, 99, 116] :: R)))) = (inpM x :: l.map inpM, P1 (kW [100, 111] :: kW x.1 :: kS [124] :: kW [100, 105, 115, 116, 105, 110, 99, 116] :: R)) := by
  unfold listS
  rw [inp_P (hm x (by simp))]
  simp only
  rw [listG_m (d := 1) (by decide) inpK inpM (show NoC (kW [100, 111] :: _) from rfl) l F [inpM x] (fun y hy R' => inp_P (hm y (by simp [hy])) R') hF]
  simp
 rw [e1]
 simp only
 rw [expect_n (by decide) (by decide)]
 unfold queryS
 rw [query_dist h1 (by decide) hx hR]
 rfl
end Go.Proofs.YtljoajjlkjjgeaaGreatDoor
