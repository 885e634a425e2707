/-
  The parser as a function of its tokens: each rule of the grammar, with the state of the parser behind it.
  What every rule of the grammar keeps: the depth, a tail of the tokens, the first error; and that it reads the same ahead of more tokens.
-/
import Derived.Test.YtljoajjlkjjgeaaGreatDoorML1
import Derived.Test.YtljoajjlkjjgeaaGreatDoorME1
namespace Go.Proofs.YtljoajjlkjjgeaaGreatDoor
open Go.RowKit Go.Sort LM

abbrev T3 := Int × List UInt8 × Int
def ba (l : List UInt8) : ByteArray := ⟨l.toArray⟩
/-- The parser: what is not read yet, the depth, the first error with how many tokens were left there. -/
structure PSt where
 L : List T3
 d : Int
 b : Option (Int × Nat)
abbrev Rule (α : Type) := PSt → α × PSt
def failS (e : Int) (s : PSt) : PSt := match s.b with
 | none => ⟨[], s.d, some (e, s.L.length)⟩
 | some _ => s
def aheadS (i : Nat) (s : PSt) : T3 := s.L.getD i (0, [], 0)
def isT (t : T3) (x : List UInt8) : Bool := (t.1 == 1 || t.1 == 4) && t.2.1 == x
def deepS (s : PSt) : PSt := if 32 < s.d then failS 52 s else s
def takeS (s : PSt) : T3 × PSt := (aheadS 0 (deepS s), if (aheadS 0 (deepS s)).1 = 0 then deepS s else ⟨(deepS s).L.tail, (deepS s).d, (deepS s).b⟩)
def acceptS (x : List UInt8) (s : PSt) : Bool × PSt := if isT (aheadS 0 s) x then (true, (takeS s).2) else (false, s)
def expectS (x : List UInt8) (s : PSt) : PSt := if isT (aheadS 0 s) x then (takeS s).2 else failS 51 s
def findW (xs : List (List UInt8)) (t : T3) : Option Nat := xs.findIdx? fun x => isT t x
def whichS (xs : List (List UInt8)) (s : PSt) : Option Nat × PSt := match findW xs (aheadS 0 s) with
 | some i => (some i, (takeS s).2)
 | none => (none, s)
def idxI : Option Nat → Int
 | some i => i
 | none => -1
def oneOfS (xs : List (List UInt8)) : Rule Int := fun s => match whichS xs s with
 | (some i, s1) => ((i : Int) + 1, s1)
 | (none, s1) => (0, failS 51 s1)
def tokenS (k : Int) (s : PSt) : T3 × PSt := takeS (if (aheadS 0 s).1 = k then s else failS 51 s)
def nameS : Rule ByteArray := fun s => (ba (tokenS 1 s).1.2.1, (tokenS 1 s).2)
def numberS : Rule Int := fun s => ((tokenS 2 s).1.2.2, (tokenS 2 s).2)
def literalS : Rule ByteArray := fun s => (ba (tokenS 3 s).1.2.1, (tokenS 3 s).2)

section
variable {α : Type}
def listG (r : Rule α) : Nat → List α → PSt → List α × PSt
 | 0, l, s => (l, s)
 | n + 1, l, s => if isT (aheadS 0 s) [44] then listG r n (l ++ [(r (takeS s).2).1]) (r (takeS s).2).2 else (l, s)
def listS (F : Nat) (r : Rule α) : Rule (List α) := fun s => listG r F [(r s).1] (r s).2
def nestedS (r : Rule α) : Rule α := fun s => ((r ⟨s.L, s.d + 1, s.b⟩).1, ⟨(r ⟨s.L, s.d + 1, s.b⟩).2.L, (r ⟨s.L, s.d + 1, s.b⟩).2.d - 1, (r ⟨s.L, s.d + 1, s.b⟩).2.b⟩)
def enclosedS (r : Rule α) : Rule α := fun s => ((r (expectS [40] s)).1, expectS [41] (r (expectS [40] s)).2)
def optionalS (F : Nat) (r : Rule α) : Rule (List α) := fun s => if (aheadS 0 s).1 = 1 then listS F r s else ([], s)
end

abbrev z0 : ByteArray := ⟨#[]⟩
def colE (n : ByteArray) : XT := .mk 1 n (0, 0, z0) z0 none 0 []
def conE (v : Int × Int × ByteArray) : XT := .mk 2 z0 v z0 none 0 []
def unE (o : ByteArray) (a : XT) : XT := .mk 3 z0 (0, 0, z0) o none 0 [a]
def binE (o : ByteArray) (a b : XT) : XT := .mk 4 z0 (0, 0, z0) o none 0 [a, b]
def callE (n : ByteArray) (l : List XT) : XT := .mk 5 n (0, 0, z0) z0 none 0 l

def chainG (r : Rule XT) (ops : List (List UInt8)) : Nat → XT → PSt → XT × PSt
 | 0, x, s => (x, s)
 | n + 1, x, s => match whichS ops s with
  | (some i, s1) => chainG r ops n (binE (ba (ops.getD i [])) x (r s1).1) (r s1).2
  | (none, _) => (x, s)
def chainS (F : Nat) (r : Rule XT) (ops : List (List UInt8)) : Rule XT := fun s => chainG r ops F (r s).1 (r s).2
def cmpOps : List (List UInt8) := [[61], [33, 61], [60], [60, 61], [62], [62, 61]]
def compareS (sum : Rule XT) : Rule XT := fun s => match whichS cmpOps (sum s).2 with
 | (some i, s1) => (binE (ba (cmpOps.getD i [])) (sum s).1 (sum s1).1, (sum s1).2)
 | (none, _) => sum s
def minusG (prim : Rule XT) : Nat → Rule XT
 | 0 => prim
 | n + 1 => fun s => if isT (aheadS 0 s) [45] then
   (if (aheadS 0 (takeS s).2).1 = 2 ∧ 0 < (aheadS 0 (takeS s).2).2.2 then (conE (1, -(numberS (takeS s).2).1, z0), (numberS (takeS s).2).2)
   else (unE (ba [45]) (nestedS (minusG prim n) (takeS s).2).1, (nestedS (minusG prim n) (takeS s).2).2))
  else prim s
def notG (cmp : Rule XT) : Nat → Rule XT
 | 0 => cmp
 | n + 1 => fun s => if isT (aheadS 0 s) [110, 111, 116] then (unE (ba [110, 111, 116]) (nestedS (notG cmp n) (takeS s).2).1, (nestedS (notG cmp n) (takeS s).2).2) else cmp s
def badWord (t : T3) : Bool := isT t [97, 110, 100] || isT t [111, 114] || isT t [110, 111, 116]
def primS (F : Nat) (E : Rule XT) : Rule XT := fun s =>
 if (aheadS 0 s).1 = 2 then (conE (1, (numberS s).1, z0), (numberS s).2)
 else if (aheadS 0 s).1 = 3 then (conE (2, 0, (literalS s).1), (literalS s).2)
 else if isT (aheadS 0 s) [40] then nestedS (enclosedS E) s
 else if (aheadS 0 s).1 = 1 ∧ isT (aheadS 1 s) [40] then
  (callE (nameS s).1 (enclosedS (listS F (nestedS E)) (nameS s).2).1, (enclosedS (listS F (nestedS E)) (nameS s).2).2)
 else if isT (aheadS 0 s) [110, 117, 108, 108] then (conE (0, 0, z0), (takeS s).2)
 else if badWord (aheadS 0 s) then (colE (nameS (failS 51 s)).1, (nameS (failS 51 s)).2)
 else (colE (nameS s).1, (nameS s).2)
def mulOps : List (List UInt8) := [[42], [47], [37]]
def addOps : List (List UInt8) := [[43], [45]]
def minusS (F : Nat) (E : Rule XT) : Rule XT := minusG (primS F E) F
def productS (F : Nat) (E : Rule XT) : Rule XT := chainS F (minusS F E) mulOps
def sumS (F : Nat) (E : Rule XT) : Rule XT := chainS F (productS F E) addOps
def notS (F : Nat) (E : Rule XT) : Rule XT := notG (compareS (sumS F E)) F
def andS (F : Nat) (E : Rule XT) : Rule XT := chainS F (notS F E) [[97, 110, 100]]
def exprG (F : Nat) : Nat → Rule XT
 | 0 => fun s => (colE z0, s)
 | n + 1 => chainS F (andS F (exprG F n)) [[111, 114]]

/-- What is kept of a value in memory: a plain cell, or a slice of elements of so many cells. -/
inductive Dt where
 | one (v : Value)
 | row (sz : Nat) (els : List (List Dt))
abbrev dI (n : Int) : Dt := .one (.int .i64 n)
abbrev dS (s : ByteArray) : Dt := .one (.string s)
mutual
def dE : XT → List Dt
 | .mk k n v o _ _ ts => [dI k, dS n, dI v.1, dI v.2.1, dS v.2.2, dS o, .row 7 (dEs ts)]
def dEs : List XT → List (List Dt)
 | [] => []
 | x :: r => dE x :: dEs r
end
theorem dEs_map : ∀ l, dEs l = l.map dE
 | [] => rfl
 | x :: r => by rw [dEs, dEs_map r]; rfl
structure Pl where
 k : Int
 nm : ByteArray := z0
 args : List (List Dt) := []
 cond : XT := .mk 0 z0 (0, 0, z0) z0 none 0 []
 names : List ByteArray := []
 exprs : List XT := []
 on : List (ByteArray × ByteArray) := []
 aggs : List (ByteArray × ByteArray × ByteArray) := []
 ord : List (ByteArray × Bool) := []
 cnt : Int := 0
def dPair (x : ByteArray × ByteArray) : List Dt := [dS x.1, dS x.2]
def dAgg (x : ByteArray × ByteArray × ByteArray) : List Dt := [dS x.1, dS x.2.1, dS x.2.2]
def dOrd (x : ByteArray × Bool) : List Dt := [dS x.1, .one (.bool x.2)]
def dStrs (l : List ByteArray) : Dt := .row 1 (l.map fun s => [dS s])
def Pl.enc (p : Pl) : List Dt := [dI p.k, dS p.nm, .row 16 p.args] ++ dE p.cond ++ [dStrs p.names, .row 7 (p.exprs.map dE), .row 2 (p.on.map dPair), .row 3 (p.aggs.map dAgg), .row 2 (p.ord.map dOrd), dI p.cnt]

def asS : Rule ByteArray := fun s => nameS (expectS [97, 115] s)
def keptS (X : Rule XT) : Rule (XT × ByteArray) := fun s => (((X s).1, (asS (X s).2).1), (asS (X s).2).2)
def pairS : Rule (ByteArray × ByteArray) := fun s => (((nameS s).1, (nameS (expectS [61] (nameS s).2)).1), (nameS (expectS [61] (nameS s).2)).2)
def aggWords : List (List UInt8) := [[99, 111, 117, 110, 116], [115, 117, 109], [109, 105, 110], [109, 97, 120]]
def optNameS : Rule ByteArray := fun s => if (aheadS 0 s).1 = 1 then nameS s else (z0, s)
def aggS : Rule (ByteArray × ByteArray × ByteArray) := fun s =>
 let c := enclosedS optNameS (oneOfS aggWords s).2
 ((ba (aheadS 0 s).2.1, c.1, (asS c.2).1), (asS c.2).2)
def orderS : Rule (ByteArray × Bool) := fun s => (((nameS s).1, isT (aheadS 0 (nameS s).2) [100, 111, 119, 110]), if isT (aheadS 0 (nameS s).2) [100, 111, 119, 110] then (takeS (nameS s).2).2 else (nameS s).2)
def stepWords : List (List UInt8) := [[119, 104, 101, 114, 101], [107, 101, 101, 112], [106, 111, 105, 110], [108, 101, 102, 116], [103, 114, 111, 117, 112], [117, 110, 105, 111, 110], [100, 105, 115, 116, 105, 110, 99, 116], [102, 105, 114, 115, 116]]
def partS (Q : Rule Pl) : Rule Pl := fun s => if isT (aheadS 0 s) [40] then nestedS (enclosedS Q) s else ({k := 1, nm := (nameS s).1}, (nameS s).2)
/-- The rest of a step of kind k over the plan q. -/
def stepK (F : Nat) (X : Rule XT) (P : Rule Pl) (q : List Dt) (k : Int) : Rule Pl := fun s =>
 if k = 2 then ({k, args := [q], cond := (X s).1}, (X s).2)
 else if k = 3 then
  let l := listS F (keptS X) s
  ({k, args := [q], exprs := l.1.map (·.1), names := l.1.map (·.2)}, l.2)
 else if k = 4 ∨ k = 5 then
  let p := P s
  let l := listS F pairS (expectS [111, 110] p.2)
  ({k, args := [q, p.1.enc], on := l.1}, l.2)
 else if k = 6 then
  let n := optionalS F nameS s
  let a := optionalS F aggS (expectS [58] n.2)
  ({k, args := [q], names := n.1, aggs := a.1}, a.2)
 else if k = 7 then ({k, args := [q, (P s).1.enc]}, (P s).2)
 else if k = 9 then
  let n := numberS s
  if isT (aheadS 0 n.2) [98, 121] then
   let l := listS F orderS (takeS n.2).2
   ({k, args := [q], cnt := n.1, ord := l.1}, l.2)
  else ({k, args := [q], cnt := n.1}, n.2)
 else ({k, args := [q]}, s)
def stepS (F : Nat) (X : Rule XT) (P : Rule Pl) (q : List Dt) : Rule Pl := fun s => stepK F X P q (1 + (oneOfS stepWords s).1) (oneOfS stepWords s).2
def stepsG (F : Nat) (X : Rule XT) (P : Rule Pl) : Nat → Pl → PSt → Pl × PSt
 | 0, q, s => (q, s)
 | n + 1, q, s => if isT (aheadS 0 s) [124] then stepsG F X P n (stepS F X P q.enc (takeS s).2).1 (stepS F X P q.enc (takeS s).2).2 else (q, s)
def queryG (F : Nat) : Nat → Rule Pl
 | 0 => fun s => ({k := 0}, s)
 | n + 1 => fun s => stepsG F (exprG F (F + 1)) (partS (queryG F n)) F (partS (queryG F n) s).1 (partS (queryG F n) s).2
def queryS (F : Nat) : Rule Pl := queryG F (F + 1)

structure Df where
 k : Int
 nm : ByteArray
 sch : List (ByteArray × Int) := []
 sc : Int × Int × Int := (0, 0, 0)
 ins : List (ByteArray × (Int × Int) × ByteArray) := []
 pl : Pl := {k := 0}
 cron : ByteArray := z0
 makes : List ByteArray := []
def dCol (x : ByteArray × Int) : List Dt := [dS x.1, dI x.2]
def dInp (x : ByteArray × (Int × Int) × ByteArray) : List Dt := [dS x.1, dI x.2.1.1, dI x.2.1.2, dS x.2.2]
def Df.enc (d : Df) : List Dt := [dI d.k, dS d.nm, .row 2 (d.sch.map dCol), dI d.sc.1, dI d.sc.2.1, dI d.sc.2.2, .row 4 (d.ins.map dInp)] ++ d.pl.enc ++ [dS d.cron, dStrs d.makes]
def colS : Rule (ByteArray × Int) := fun s => (((nameS s).1, (oneOfS [[105, 110, 116], [116, 101, 120, 116]] (nameS s).2).1), (oneOfS [[105, 110, 116], [116, 101, 120, 116]] (nameS s).2).2)
def schWords : List (List UInt8) := [[104, 111, 117, 114, 108, 121], [100, 97, 105, 108, 121], [119, 101, 101, 107, 108, 121], [109, 111, 110, 116, 104, 108, 121], [115, 116, 97, 116, 105, 99]]
def schemeS : Rule (Int × Int × Int) := fun s =>
 let k := oneOfS schWords s
 let a := numberS k.2
 let z := numberS (expectS [46, 46] a.2)
 ((k.1, a.1, z.1), z.2)
def distS : Rule Int := fun s => if isT (aheadS 0 s) [45] then (-(numberS (takeS s).2).1, (numberS (takeS s).2).2) else numberS s
def mapWords : List (List UInt8) := [[115, 97, 109, 101], [108, 97, 115, 116], [115, 104, 105, 102, 116], [119, 105, 116, 104, 105, 110], [97, 108, 108]]
def mappingS : Rule (Int × Int) := fun s =>
 let k := oneOfS mapWords s
 if k.1 = 2 then ((k.1, (numberS k.2).1), (numberS k.2).2)
 else if k.1 = 3 then ((k.1, (distS k.2).1), (distS k.2).2)
 else ((k.1, 0), k.2)
def inputS : Rule (ByteArray × (Int × Int) × ByteArray) := fun s =>
 let m := mappingS (nameS s).2
 (((nameS s).1, m.1, (asS m.2).1), (asS m.2).2)
def defWords : List (List UInt8) := [[115, 111, 117, 114, 99, 101], [97, 115, 115, 101, 116], [115, 99, 104, 101, 100, 117, 108, 101]]
/-- The rest of a definition of kind k with this name. -/
def defK (F : Nat) (k : Int) (nm : ByteArray) : Rule Df := fun s =>
 if k = 1 then
  let c := enclosedS (listS F colS) s
  let h := schemeS c.2
  ({k, nm, sch := c.1, sc := h.1}, h.2)
 else if k = 2 then
  let h := schemeS s
  let i := listS F inputS (expectS [102, 114, 111, 109] h.2)
  let q := queryS F (expectS [100, 111] i.2)
  ({k, nm, sc := h.1, ins := i.1, pl := q.1}, q.2)
 else if k = 3 then
  let c := literalS s
  let m := listS F nameS (expectS [109, 97, 107, 101, 115] c.2)
  ({k, nm, cron := c.1, makes := m.1}, m.2)
 else ({k, nm}, s)
def defS (F : Nat) : Rule Df := fun s => defK F (oneOfS defWords s).1 (nameS (oneOfS defWords s).2).1 (nameS (oneOfS defWords s).2).2
def textG (F : Nat) : Nat → List Df → PSt → List Df × PSt
 | 0, l, s => (l, s)
 | n + 1, l, s => if s.L = [] then (l, s) else textG F n (l ++ [(defS F s).1]) (expectS [59] (defS F s).2)
def textS (F : Nat) : Rule (List Df) := fun s => textG F (F + 1) [] s
/-- Behind a rule: nothing may be left. -/
def endS (s : PSt) : PSt := if s.L = [] then s else failS 51 s
end Go.Proofs.YtljoajjlkjjgeaaGreatDoor
namespace Go.Proofs.YtljoajjlkjjgeaaGreatDoor
open Go.RowKit Go.Sort LM

def Wf (s : PSt) : Prop := s.b ≠ none → s.L = []
structure Tr (s t : PSt) : Prop where
 d : t.d = s.d
 suf : t.L <:+ s.L
 keep : s.b ≠ none → t.b = s.b
 new : ∀ e k, s.b = none → t.b = some (e, k) → (e = 51 ∨ e = 52) ∧ k ≤ s.L.length
 wf : Wf t
theorem Tr.refl {s : PSt} (h : Wf s) : Tr s s := ⟨rfl, List.suffix_refl _, fun _ => rfl, fun e k h1 h2 => (by rw [h1] at h2; cases h2), h⟩
theorem Tr.len {s t : PSt} (h : Tr s t) : t.L.length ≤ s.L.length := h.suf.length_le
theorem Tr.trans {s t u : PSt} (h : Tr s t) (k : Tr t u) : Tr s u := by
 refine ⟨k.d.trans h.d, k.suf.trans h.suf, fun hb => ?_, fun e n h1 h2 => ?_, k.wf⟩
 ·have := h.keep hb
  rw [← this]
  exact k.keep (by rw [this]; exact hb)
 ·cases ht : t.b with
  | none =>
   have := k.new e n ht h2
   exact ⟨this.1, Nat.le_trans this.2 h.len⟩
  | some x =>
   have h3 := k.keep (by rw [ht]; simp)
   rw [h2, ht] at h3
   obtain ⟨e', n'⟩ := x
   injection h3 with h3
   injection h3 with h4 h5
   subst h4; subst h5
   exact h.new _ _ h1 ht
theorem Tr.none {s t : PSt} (h : Tr s t) (hb : t.b = none) : s.b = none := by
 cases hs : s.b with
 | none => rfl
 | some x =>
  have := h.keep (by rw [hs]; simp)
  rw [hb, hs] at this; cases this
theorem Tr.ne {s t : PSt} (h : Tr s t) (hb : t.L ≠ []) : s.L ≠ [] := by
 intro e
 have h1 := h.suf
 rw [e] at h1
 exact hb (List.suffix_nil.1 h1)
def appS (s : PSt) (R : List T3) : PSt := ⟨s.L ++ R, s.d, s.b⟩
/-- A rule that keeps all that, and reads the same ahead of more tokens. -/
structure Nice {α : Type} (r : Rule α) : Prop where
 tr : ∀ s, Wf s → Tr s (r s).2
 loc : ∀ s R, Wf s → (r s).2.b = none → (r s).2.L ≠ [] → r (appS s R) = ((r s).1, appS (r s).2 R)
def pureR {α : Type} (a : α) : Rule α := fun s => (a, s)
def bindR {α β : Type} (r : Rule α) (f : α → Rule β) : Rule β := fun s => f (r s).1 (r s).2
theorem nice_pure {α : Type} (a : α) : Nice (pureR a) := ⟨fun _ h => Tr.refl h, fun _ _ _ _ _ => rfl⟩
theorem nice_bind {α β : Type} {r : Rule α} {f : α → Rule β} (hr : Nice r) (hf : ∀ a, Nice (f a)) : Nice (bindR r f) := by
 refine ⟨fun s h => (hr.tr s h).trans ((hf _).tr _ (hr.tr s h).wf), fun s R h hb hL => ?_⟩
 have h1 := hr.tr s h
 have h2 := (hf (r s).1).tr _ h1.wf
 have e := hr.loc s R h (h2.none hb) (h2.ne hL)
 show f (r (appS s R)).1 (r (appS s R)).2 = _
 rw [e]
 exact (hf _).loc _ R h1.wf hb hL
theorem ahead_app {s : PSt} (R : List T3) {i : Nat} (h : i < s.L.length) : aheadS i (appS s R) = aheadS i s := by
 unfold aheadS appS
 simp only [List.getD_eq_getElem?_getD]
 rw [List.getElem?_append_left h]
theorem ahead0_app {s : PSt} (R : List T3) (h : s.L ≠ []) : aheadS 0 (appS s R) = aheadS 0 s := ahead_app R (List.length_pos_iff.2 h)
theorem nice_if {α : Type} {r q : Rule α} (c : T3 → Bool) (hr : Nice r) (hq : Nice q) : Nice (fun s => if c (aheadS 0 s) = true then r s else q s) := by
 refine ⟨fun s h => ?_, fun s R h hb hL => ?_⟩
 ·by_cases hc : c (aheadS 0 s) = true
  ·simp only [hc, if_true]; exact hr.tr s h
  ·simp only [hc]; exact hq.tr s h
 ·by_cases hc : c (aheadS 0 s) = true
  ·simp only [hc, if_true] at hb hL ⊢
   rw [ahead0_app R ((hr.tr s h).ne hL), hc, if_pos rfl]
   exact hr.loc s R h hb hL
  ·simp only [hc] at hb hL ⊢
   rw [ahead0_app R ((hq.tr s h).ne hL), if_neg hc]
   exact hq.loc s R h hb hL
theorem nice_ifP {α : Type} {r q : Rule α} (c : T3 → Prop) [DecidablePred c] (hr : Nice r) (hq : Nice q) : Nice (fun s => if c (aheadS 0 s) then r s else q s) := by
 have h := nice_if (fun t => decide (c t)) hr hq
 simpa using h
theorem nice_ifC {α : Type} {r q : Rule α} (c : Prop) [Decidable c] (hr : Nice r) (hq : Nice q) : Nice (if c then r else q) := by
 split
 ·exact hr
 ·exact hq
theorem fail_tr {e : Int} {s : PSt} (he : e = 51 ∨ e = 52) (h : Wf s) : Tr s (failS e s) := by
 unfold failS
 cases hb : s.b with
 | some x => exact Tr.refl h
 | none =>
  refine ⟨rfl, List.nil_suffix, fun hc => absurd hb hc, fun e' k _ h2 => ?_, fun _ => rfl⟩
  injection h2 with h2
  injection h2 with h3 h4
  exact ⟨h3 ▸ he, Nat.le_of_eq h4.symm⟩
theorem fail_ne (e : Int) (s : PSt) : (failS e s).b ≠ none := by
 unfold failS
 cases hb : s.b with
 | some x => simp [hb]
 | none => simp
/-- A rule that only fails. -/
def failR (e : Int) : Rule Unit := fun s => ((), failS e s)
theorem nice_fail {e : Int} (he : e = 51 ∨ e = 52) : Nice (failR e) := ⟨fun _ h => fail_tr he h, fun s _ _ hb _ => absurd hb (fail_ne e s)⟩
theorem deep_tr {s : PSt} (h : Wf s) : Tr s (deepS s) := by
 unfold deepS
 split
 ·exact fail_tr (Or.inr rfl) h
 ·exact Tr.refl h
theorem take_eq (s : PSt) : (takeS s).2 = if (aheadS 0 (deepS s)).1 = 0 then deepS s else ⟨(deepS s).L.tail, (deepS s).d, (deepS s).b⟩ := rfl
theorem take_tr {s : PSt} (h : Wf s) : Tr s (takeS s).2 := by
 have h1 := deep_tr h
 refine h1.trans ?_
 rw [take_eq]
 split
 ·exact Tr.refl h1.wf
 ·refine ⟨rfl, List.tail_suffix _, fun _ => rfl, fun e k h2 h3 => ?_, fun hb => ?_⟩
  ·have h4 : (deepS s).b = some (e, k) := h3
   rw [h2] at h4; cases h4
  ·show (deepS s).L.tail = []
   rw [h1.wf hb]; rfl
def takeR : Rule T3 := takeS
theorem nice_take : Nice takeR := by
 refine ⟨fun s h => take_tr h, fun s R h hb hL => ?_⟩
 have hn : ¬ 32 < s.d := fun hd => by
  have : (deepS s).b ≠ none := by unfold deepS; rw [if_pos hd]; exact fail_ne _ _
  have hb' : (takeS s).2.b = none := hb
  rw [take_eq] at hb'
  split at hb' <;> exact this hb'
 have e1 : deepS s = s := if_neg hn
 have e2 : deepS (appS s R) = appS s R := if_neg hn
 have hne : s.L ≠ [] := (take_tr h).ne hL
 show takeS (appS s R) = ((takeS s).1, appS (takeS s).2 R)
 unfold takeS
 rw [e1, e2, ahead0_app R hne]
 refine Prod.ext rfl ?_
 simp only
 split
 ·rfl
 ·cases hs : s.L with
  | nil => exact absurd hs hne
  | cons x r => simp [appS, hs]
def acceptR (x : List UInt8) : Rule Bool := acceptS x
theorem nice_accept (x : List UInt8) : Nice (acceptR x) := nice_if (isT · x) (nice_bind nice_take fun _ => nice_pure true) (nice_pure false)
def expectR (x : List UInt8) : Rule Unit := fun s => ((), expectS x s)
theorem expect_eq (x : List UInt8) : expectR x = fun s => if isT (aheadS 0 s) x = true then bindR takeR (fun _ => pureR ()) s else failR 51 s := by
 funext s
 unfold expectR expectS
 split <;> rfl
theorem nice_expect (x : List UInt8) : Nice (expectR x) := by
 rw [expect_eq]
 exact nice_if (isT · x) (nice_bind nice_take fun _ => nice_pure ()) (nice_fail (Or.inl rfl))
theorem nice_which (xs : List (List UInt8)) : Nice (whichS xs) := by
 refine ⟨fun s h => ?_, fun s R h hb hL => ?_⟩
 ·unfold whichS
  split
  ·exact take_tr h
  ·exact Tr.refl h
 ·unfold whichS at hb hL ⊢
  cases hf : findW xs (aheadS 0 s) with
  | some i =>
   rw [hf] at hb hL
   rw [ahead0_app R ((take_tr h).ne hL), hf]
   have := nice_take.loc s R h hb hL
   show (some i, (takeR (appS s R)).2) = _
   rw [this]
   rfl
  | none =>
   rw [hf] at hb hL
   rw [ahead0_app R hL, hf]
theorem nice_opt {α : Type} {f : Nat → Rule α} {q : Rule α} {r : Rule (Option Nat)} (hr : Nice r) (hf : ∀ i, Nice (f i)) (hq : Nice q) :
  Nice (bindR r fun o => match o with | some i => f i | none => q) := nice_bind hr fun o => by
 cases o with
 | some i => exact hf i
 | none => exact hq
theorem nice_oneOf (xs : List (List UInt8)) : Nice (oneOfS xs) := by
 have h := nice_opt (nice_which xs) (f := fun i => pureR ((i : Int) + 1)) (q := bindR (failR 51) fun _ => pureR 0) (fun i => nice_pure _) (nice_bind (nice_fail (Or.inl rfl)) fun _ => nice_pure _)
 have e : oneOfS xs = (bindR (whichS xs) fun o => match o with | some i => pureR ((i : Int) + 1) | none => bindR (failR 51) fun _ => pureR 0) := by
  funext s
  unfold oneOfS bindR
  cases hw : whichS xs s with
  | mk o s1 => cases o <;> rfl
 rw [e]; exact h
theorem nice_token (k : Int) : Nice (tokenS k) := by
 have h : Nice (bindR (fun s => if (aheadS 0 s).1 = k then pureR () s else failR 51 s) fun _ => takeR) := nice_bind (nice_ifP (fun t : T3 => t.1 = k) (nice_pure ()) (nice_fail (Or.inl rfl))) fun _ => nice_take
 have e : tokenS k = (bindR (fun s => if (aheadS 0 s).1 = k then pureR () s else failR 51 s) fun _ => takeR) := by
  funext s
  unfold tokenS bindR
  simp only
  split <;> rfl
 rw [e]; exact h
theorem nice_name : Nice nameS := nice_bind (nice_token 1) fun t => nice_pure (ba t.2.1)
theorem nice_number : Nice numberS := nice_bind (nice_token 2) fun t => nice_pure t.2.2
theorem nice_literal : Nice literalS := nice_bind (nice_token 3) fun t => nice_pure (ba t.2.1)
section
variable {α : Type}
theorem nice_listG {r : Rule α} (hr : Nice r) : ∀ n l, Nice (listG r n l)
 | 0, l => nice_pure l
 | n + 1, l => by
  have e : listG r (n + 1) l = fun s => if isT (aheadS 0 s) [44] = true then bindR takeR (fun _ => bindR r fun x => listG r n (l ++ [x])) s else pureR l s := by
   funext s
   unfold listG
   split <;> rfl
  rw [e]
  exact nice_if (isT · [44]) (nice_bind nice_take fun _ => nice_bind hr fun x => nice_listG hr n _) (nice_pure l)
theorem nice_list (F : Nat) {r : Rule α} (hr : Nice r) : Nice (listS F r) := nice_bind hr fun x => nice_listG hr F [x]
theorem nice_nested {r : Rule α} (hr : Nice r) : Nice (nestedS r) := by
 refine ⟨fun s h => ?_, fun s R h hb hL => ?_⟩
 ·have := hr.tr ⟨s.L, s.d + 1, s.b⟩ h
  exact ⟨by show (r ⟨s.L, s.d + 1, s.b⟩).2.d - 1 = s.d; rw [this.d]; exact Int.add_sub_cancel _ _, this.suf, this.keep, this.new, this.wf⟩
 ·have := hr.loc ⟨s.L, s.d + 1, s.b⟩ R h hb hL
  show ((r (appS ⟨s.L, s.d + 1, s.b⟩ R)).1, (⟨(r (appS ⟨s.L, s.d + 1, s.b⟩ R)).2.L, (r (appS ⟨s.L, s.d + 1, s.b⟩ R)).2.d - 1, (r (appS ⟨s.L, s.d + 1, s.b⟩ R)).2.b⟩ : PSt)) = _
  rw [this]
  rfl
theorem nice_enclosed {r : Rule α} (hr : Nice r) : Nice (enclosedS r) := nice_bind (nice_expect _) fun _ => nice_bind hr fun x => nice_bind (nice_expect _) fun _ => nice_pure x
theorem nice_optional (F : Nat) {r : Rule α} (hr : Nice r) : Nice (optionalS F r) := nice_ifP (fun t : T3 => t.1 = 1) (nice_list F hr) (nice_pure [])
end
theorem nice_chainG {r : Rule XT} (hr : Nice r) (ops : List (List UInt8)) : ∀ n x, Nice (chainG r ops n x)
 | 0, x => nice_pure x
 | n + 1, x => by
  have e : chainG r ops (n + 1) x = bindR (whichS ops) fun o => match o with | some i => bindR r (fun y => chainG r ops n (binE (ba (ops.getD i [])) x y)) | none => pureR x := by
   funext s
   unfold chainG bindR
   cases hw : whichS ops s with
   | mk o s1 =>
    cases o with
    | some i => rfl
    | none =>
     have : s1 = s := by
      unfold whichS at hw
      split at hw
      ·cases hw
      ·injection hw with _ h; exact h.symm
     rw [this]; rfl
  rw [e]
  exact nice_opt (nice_which ops) (fun i => nice_bind hr fun y => nice_chainG hr ops n _) (nice_pure x)
theorem nice_chain (F : Nat) {r : Rule XT} (hr : Nice r) (ops : List (List UInt8)) : Nice (chainS F r ops) := nice_bind hr fun x => nice_chainG hr ops F x
theorem which_none {ops : List (List UInt8)} {s s1 : PSt} (hw : whichS ops s = (none, s1)) : s1 = s := by
 unfold whichS at hw
 split at hw
 ·cases hw
 ·injection hw with _ h; exact h.symm
theorem nice_compare {r : Rule XT} (hr : Nice r) : Nice (compareS r) := by
 have e : compareS r = bindR r fun x => bindR (whichS cmpOps) fun o => match o with | some i => bindR r (fun y => pureR (binE (ba (cmpOps.getD i [])) x y)) | none => pureR x := by
  funext s
  unfold compareS bindR
  simp only
  cases hw : whichS cmpOps (r s).2 with
  | mk o s1 =>
   cases o with
   | some i => rfl
   | none => rw [which_none hw]; rfl
 rw [e]
 exact nice_bind hr fun x => nice_opt (nice_which _) (fun i => nice_bind hr fun y => nice_pure _) (nice_pure x)
theorem nice_minusG {p : Rule XT} (hp : Nice p) : ∀ n, Nice (minusG p n)
 | 0 => hp
 | n + 1 => by
  have e : minusG p (n + 1) = fun s => if isT (aheadS 0 s) [45] = true then bindR takeR (fun _ => fun s => if (aheadS 0 s).1 = 2 ∧ 0 < (aheadS 0 s).2.2 then bindR numberS (fun n => pureR (conE (1, -n, z0))) s else bindR (nestedS (minusG p n)) (fun x => pureR (unE (ba [45]) x)) s) s else p s := by
   funext s
   rw [minusG]
   show (if isT (aheadS 0 s) [45] = true then _ else _) = (if isT (aheadS 0 s) [45] = true then _ else _)
   split
   ·split
    ·rename_i hc
     show _ = (if (aheadS 0 (takeS s).2).1 = 2 ∧ 0 < (aheadS 0 (takeS s).2).2.2 then bindR numberS (fun n => pureR (conE (1, -n, z0))) (takeS s).2 else bindR (nestedS (minusG p n)) (fun x => pureR (unE (ba [45]) x)) (takeS s).2)
     rw [if_pos hc]; rfl
    ·rename_i hc
     show _ = (if (aheadS 0 (takeS s).2).1 = 2 ∧ 0 < (aheadS 0 (takeS s).2).2.2 then bindR numberS (fun n => pureR (conE (1, -n, z0))) (takeS s).2 else bindR (nestedS (minusG p n)) (fun x => pureR (unE (ba [45]) x)) (takeS s).2)
     rw [if_neg hc]; rfl
   ·rfl
  rw [e]
  exact nice_if (isT · [45]) (nice_bind nice_take fun _ => nice_ifP (fun t : T3 => t.1 = 2 ∧ 0 < t.2.2) (nice_bind nice_number fun n => nice_pure _) (nice_bind (nice_nested (nice_minusG hp n)) fun x => nice_pure _)) hp
theorem nice_notG {p : Rule XT} (hp : Nice p) : ∀ n, Nice (notG p n)
 | 0 => hp
 | n + 1 => by
  have e : notG p (n + 1) = fun s => if isT (aheadS 0 s) [110, 111, 116] = true then bindR takeR (fun _ => bindR (nestedS (notG p n)) (fun x => pureR (unE (ba [110, 111, 116]) x))) s else p s := by
   funext s
   rw [notG]
   show (if isT (aheadS 0 s) [110, 111, 116] = true then _ else _) = (if isT (aheadS 0 s) [110, 111, 116] = true then _ else _)
   split <;> rfl
  rw [e]
  exact nice_if (isT · [110, 111, 116]) (nice_bind nice_take fun _ => nice_bind (nice_nested (nice_notG hp n)) fun x => nice_pure _) hp
/-- What primary does with a word that begins no call. -/
def restS : Rule XT := fun s => if isT (aheadS 0 s) [110, 117, 108, 108] then (conE (0, 0, z0), (takeS s).2)
 else if badWord (aheadS 0 s) then (colE (nameS (failS 51 s)).1, (nameS (failS 51 s)).2)
 else (colE (nameS s).1, (nameS s).2)
def callS (F : Nat) (E : Rule XT) : Rule XT := fun s => (callE (nameS s).1 (enclosedS (listS F (nestedS E)) (nameS s).2).1, (enclosedS (listS F (nestedS E)) (nameS s).2).2)
theorem nice_rest : Nice restS := by
 have e : restS = fun s => if isT (aheadS 0 s) [110, 117, 108, 108] = true then bindR takeR (fun _ => pureR (conE (0, 0, z0))) s else (fun s => if badWord (aheadS 0 s) = true then bindR (failR 51) (fun _ => bindR nameS fun n => pureR (colE n)) s else bindR nameS (fun n => pureR (colE n)) s) s := by
  funext s
  unfold restS bindR
  split
  ·rfl
  ·simp only
   split <;> rfl
 rw [e]
 exact nice_if (isT · [110, 117, 108, 108]) (nice_bind nice_take fun _ => nice_pure _) (nice_if badWord (nice_bind (nice_fail (Or.inl rfl)) fun _ => nice_bind nice_name fun n => nice_pure _) (nice_bind nice_name fun n => nice_pure _))
theorem take_short {s : PSt} (h : s.L.length ≤ 1) (hb : (takeS s).2.b = none) (hk : (aheadS 0 s).1 ≠ 0) : (takeS s).2.L = [] := by
 rw [take_eq] at hb ⊢
 have hd : deepS s = s := by
  unfold deepS
  split
  ·rename_i hd
   exfalso
   have e : deepS s = failS 52 s := if_pos hd
   rw [e] at hb
   split at hb <;> exact fail_ne _ _ hb
  ·rfl
 rw [hd, if_neg hk]
 cases hs : s.L with
 | nil => rfl
 | cons x r => rw [hs] at h; simp at h; subst h; rfl
theorem rest_short {s : PSt} (hw : Wf s) (h : s.L.length ≤ 1) (h1 : (aheadS 0 s).1 = 1) (hb : (restS s).2.b = none) : (restS s).2.L = [] := by
 have hk : (aheadS 0 s).1 ≠ 0 := by rw [h1]; decide
 unfold restS at hb ⊢
 split at hb
 ·rename_i hc
  rw [if_pos hc]; exact take_short h hb hk
 ·rename_i hc
  rw [if_neg hc]
  split at hb
  ·rename_i hc2
   exfalso
   exact fail_ne 51 s ((nice_name.tr _ (fail_tr (Or.inl rfl) hw).wf).none hb)
  ·rename_i hc2
   rw [if_neg hc2]
   show (tokenS 1 s).2.L = []
   have hb' : (tokenS 1 s).2.b = none := hb
   unfold tokenS at hb' ⊢
   rw [if_pos h1] at hb' ⊢
   exact take_short h hb' hk
theorem nice_call (F : Nat) {E : Rule XT} (hE : Nice E) : Nice (callS F E) := nice_bind nice_name fun n => nice_bind (nice_enclosed (nice_list F (nice_nested hE))) fun l => nice_pure (callE n l)
/-- What primary does with a word. -/
def wordS (F : Nat) (E : Rule XT) : Rule XT := fun s => if (aheadS 0 s).1 = 1 ∧ isT (aheadS 1 s) [40] then callS F E s else restS s
theorem nice_word (F : Nat) {E : Rule XT} (hE : Nice E) : Nice (wordS F E) := by
 refine ⟨fun s h => ?_, fun s R h hb hL => ?_⟩
 ·unfold wordS
  split
  ·exact (nice_call F hE).tr s h
  ·exact nice_rest.tr s h
 ·unfold wordS at hb hL ⊢
  by_cases hc : (aheadS 0 s).1 = 1 ∧ isT (aheadS 1 s) [40] = true
  ·rw [if_pos hc] at hb hL ⊢
   have hlen : 1 < s.L.length := by
    rcases Nat.lt_or_ge 1 s.L.length with h | h
    ·exact h
    ·exfalso
     have h2 := hc.2
     unfold aheadS at h2
     rw [List.getD_eq_getElem?_getD, List.getElem?_eq_none h] at h2
     revert h2; decide
   rw [if_pos (by rw [ahead_app R hlen, ahead_app R (by omega)]; exact hc)]
   exact (nice_call F hE).loc s R h hb hL
  ·rw [if_neg hc] at hb hL ⊢
   have hne := (nice_rest.tr s h).ne hL
   by_cases h1 : (aheadS 0 s).1 = 1
   ·have hlen : 1 < s.L.length := by
     rcases Nat.lt_or_ge 1 s.L.length with h' | h'
     ·exact h'
     ·exact absurd (rest_short h h' h1 hb) hL
    rw [if_neg (by rw [ahead_app R hlen, ahead_app R (by omega)]; exact hc)]
    exact nice_rest.loc s R h hb hL
   ·rw [if_neg (by rw [ahead0_app R hne]; exact fun hh => h1 hh.1)]
    exact nice_rest.loc s R h hb hL
theorem nice_prim (F : Nat) {E : Rule XT} (hE : Nice E) : Nice (primS F E) := by
 have e : primS F E = fun s => if (aheadS 0 s).1 = 2 then bindR numberS (fun n => pureR (conE (1, n, z0))) s else (fun s => if (aheadS 0 s).1 = 3 then bindR literalS (fun t => pureR (conE (2, 0, t))) s else (fun s => if isT (aheadS 0 s) [40] = true then nestedS (enclosedS E) s else wordS F E s) s) s := by
  funext s
  unfold primS wordS restS bindR
  split
  ·rfl
  ·simp only
   split
   ·rfl
   ·split
    ·rfl
    ·rfl
 rw [e]
 exact nice_ifP (fun t : T3 => t.1 = 2) (nice_bind nice_number fun n => nice_pure _) (nice_ifP (fun t : T3 => t.1 = 3) (nice_bind nice_literal fun n => nice_pure _) (nice_if (isT · [40]) (nice_nested (nice_enclosed hE)) (nice_word F hE)))
theorem nice_minus (F : Nat) {E : Rule XT} (hE : Nice E) : Nice (minusS F E) := nice_minusG (nice_prim F hE) F
theorem nice_product (F : Nat) {E : Rule XT} (hE : Nice E) : Nice (productS F E) := nice_chain F (nice_minus F hE) _
theorem nice_sum (F : Nat) {E : Rule XT} (hE : Nice E) : Nice (sumS F E) := nice_chain F (nice_product F hE) _
theorem nice_not (F : Nat) {E : Rule XT} (hE : Nice E) : Nice (notS F E) := nice_notG (nice_compare (nice_sum F hE)) F
theorem nice_and (F : Nat) {E : Rule XT} (hE : Nice E) : Nice (andS F E) := nice_chain F (nice_not F hE) _
theorem nice_expr (F : Nat) : ∀ n, Nice (exprG F n)
 | 0 => nice_pure (colE z0)
 | n + 1 => nice_chain F (nice_and F (nice_expr F n)) _
theorem nice_as : Nice asS := nice_bind (nice_expect _) fun _ => nice_name
theorem nice_kept {X : Rule XT} (hX : Nice X) : Nice (keptS X) := nice_bind hX fun x => nice_bind nice_as fun n => nice_pure (x, n)
theorem nice_pair : Nice pairS := nice_bind nice_name fun x => nice_bind (nice_expect _) fun _ => nice_bind nice_name fun n => nice_pure (x, n)
theorem nice_optName : Nice optNameS := nice_ifP (fun t : T3 => t.1 = 1) nice_name (nice_pure z0)
theorem nice_ahead {α : Type} {f : T3 → Rule α} (hf : ∀ t, Nice (f t)) : Nice (fun s => f (aheadS 0 s) s) := by
 refine ⟨fun s h => (hf _).tr s h, fun s R h hb hL => ?_⟩
 have hne := ((hf (aheadS 0 s)).tr s h).ne hL
 rw [ahead0_app R hne]
 exact (hf _).loc s R h hb hL
theorem nice_agg : Nice aggS := nice_ahead (f := fun t => bindR (oneOfS aggWords) fun _ => bindR (enclosedS optNameS) fun c => bindR asS fun n => pureR (ba t.2.1, c, n)) fun _ => nice_bind (nice_oneOf _) fun _ => nice_bind (nice_enclosed nice_optName) fun _ => nice_bind nice_as fun _ => nice_pure _
theorem nice_order : Nice orderS := by
 have e : orderS = bindR nameS fun n => bindR (acceptR [100, 111, 119, 110]) fun b => pureR (n, b) := by
  funext s
  unfold orderS bindR acceptR acceptS
  simp only
  split
  ·rename_i h; rw [h]; rfl
  ·rename_i h; rw [Bool.not_eq_true] at h; rw [h]; rfl
 rw [e]
 exact nice_bind nice_name fun n => nice_bind (nice_accept _) fun b => nice_pure _
theorem nice_part {Q : Rule Pl} (hQ : Nice Q) : Nice (partS Q) := nice_if (isT · [40]) (nice_nested (nice_enclosed hQ)) (nice_bind nice_name fun n => nice_pure (⟨1, n, [], .mk 0 z0 (0, 0, z0) z0 none 0 [], [], [], [], [], [], 0⟩ : Pl))
theorem nice_stepK (F : Nat) {X : Rule XT} {P : Rule Pl} (hX : Nice X) (hP : Nice P) (q : List Dt) (k : Int) : Nice (stepK F X P q k) := by
 have e : stepK F X P q k = if k = 2 then bindR X (fun x => pureR {k, args := [q], cond := x})
  else if k = 3 then bindR (listS F (keptS X)) (fun l => pureR {k, args := [q], exprs := l.map (·.1), names := l.map (·.2)})
  else if k = 4 ∨ k = 5 then bindR P (fun p => bindR (expectR [111, 110]) fun _ => bindR (listS F pairS) fun l => pureR {k, args := [q, p.enc], on := l})
  else if k = 6 then bindR (optionalS F nameS) (fun n => bindR (expectR [58]) fun _ => bindR (optionalS F aggS) fun a => pureR {k, args := [q], names := n, aggs := a})
  else if k = 7 then bindR P (fun p => pureR {k, args := [q, p.enc]})
  else if k = 9 then bindR numberS (fun n => fun s => if isT (aheadS 0 s) [98, 121] = true then bindR takeR (fun _ => bindR (listS F orderS) fun l => pureR {k, args := [q], cnt := n, ord := l}) s else pureR {k, args := [q], cnt := n} s)
  else pureR {k, args := [q]} := by
  funext s
  unfold stepK
  repeat' split
  all_goals (try rfl)
  all_goals
   rename_i hb
   show _ = (if isT (aheadS 0 (numberS s).2) [98, 121] = true then _ else _)
   first | (rw [if_pos hb]; rfl) | (rw [if_neg hb]; rfl)
 rw [e]
 exact nice_ifC _ (nice_bind hX fun x => nice_pure _) (nice_ifC _ (nice_bind (nice_list F (nice_kept hX)) fun l => nice_pure _) (nice_ifC _ (nice_bind hP fun p => nice_bind (nice_expect _) fun _ => nice_bind (nice_list F nice_pair) fun l => nice_pure _)
  (nice_ifC _ (nice_bind (nice_optional F nice_name) fun n => nice_bind (nice_expect _) fun _ => nice_bind (nice_optional F nice_agg) fun a => nice_pure _) (nice_ifC _ (nice_bind hP fun p => nice_pure _) (nice_ifC _ (nice_bind nice_number fun n => nice_if (isT · [98, 121]) (nice_bind nice_take fun _ => nice_bind (nice_list F nice_order) fun l => nice_pure _) (nice_pure _)) (nice_pure _))))))
theorem nice_step (F : Nat) {X : Rule XT} {P : Rule Pl} (hX : Nice X) (hP : Nice P) (q : List Dt) : Nice (stepS F X P q) := nice_bind (nice_oneOf _) fun k => nice_stepK F hX hP q (1 + k)
theorem nice_stepsG (F : Nat) {X : Rule XT} {P : Rule Pl} (hX : Nice X) (hP : Nice P) : ∀ n q, Nice (stepsG F X P n q)
 | 0, q => nice_pure q
 | n + 1, q => by
  have e : stepsG F X P (n + 1) q = fun s => if isT (aheadS 0 s) [124] = true then bindR takeR (fun _ => bindR (stepS F X P q.enc) fun p => stepsG F X P n p) s else pureR q s := by
   funext s
   rw [stepsG]
   split <;> rfl
  rw [e]
  exact nice_if (isT · [124]) (nice_bind nice_take fun _ => nice_bind (nice_step F hX hP _) fun p => nice_stepsG F hX hP n p) (nice_pure q)
theorem nice_queryG (F : Nat) : ∀ n, Nice (queryG F n)
 | 0 => nice_pure (⟨0, z0, [], .mk 0 z0 (0, 0, z0) z0 none 0 [], [], [], [], [], [], 0⟩ : Pl)
 | n + 1 => nice_bind (nice_part (nice_queryG F n)) fun q => nice_stepsG F (nice_expr F _) (nice_part (nice_queryG F n)) F q
theorem nice_query (F : Nat) : Nice (queryS F) := nice_queryG F _
theorem nice_col : Nice colS := nice_bind nice_name fun n => nice_bind (nice_oneOf _) fun t => nice_pure (n, t)
theorem nice_scheme : Nice schemeS := nice_bind (nice_oneOf _) fun k => nice_bind nice_number fun a => nice_bind (nice_expect _) fun _ => nice_bind nice_number fun z => nice_pure (k, a, z)
theorem nice_dist : Nice distS := nice_if (isT · [45]) (nice_bind nice_take fun _ => nice_bind nice_number fun n => nice_pure (-n)) nice_number
theorem nice_mapping : Nice mappingS := by
 have e : mappingS = bindR (oneOfS mapWords) fun k => if k = 2 then bindR numberS (fun n => pureR (k, n)) else if k = 3 then bindR distS (fun n => pureR (k, n)) else pureR (k, 0) := by
  funext s
  unfold mappingS bindR
  simp only
  repeat' split
  all_goals rfl
 rw [e]
 exact nice_bind (nice_oneOf _) fun k => nice_ifC _ (nice_bind nice_number fun n => nice_pure _) (nice_ifC _ (nice_bind nice_dist fun n => nice_pure _) (nice_pure _))
theorem nice_input : Nice inputS := nice_bind nice_name fun n => nice_bind nice_mapping fun m => nice_bind nice_as fun a => nice_pure (n, m, a)
theorem nice_defK (F : Nat) (k : Int) (nm : ByteArray) : Nice (defK F k nm) := by
 have e : defK F k nm = if k = 1 then bindR (enclosedS (listS F colS)) (fun c => bindR schemeS fun h => pureR {k, nm, sch := c, sc := h})
  else if k = 2 then bindR schemeS (fun h => bindR (expectR [102, 114, 111, 109]) fun _ => bindR (listS F inputS) fun i => bindR (expectR [100, 111]) fun _ => bindR (queryS F) fun q => pureR {k, nm, sc := h, ins := i, pl := q})
  else if k = 3 then bindR literalS (fun c => bindR (expectR [109, 97, 107, 101, 115]) fun _ => bindR (listS F nameS) fun m => pureR {k, nm, cron := c, makes := m})
  else pureR {k, nm} := by
  funext s
  unfold defK
  repeat' split
  all_goals rfl
 rw [e]
 exact nice_ifC _ (nice_bind (nice_enclosed (nice_list F nice_col)) fun c => nice_bind nice_scheme fun h => nice_pure _) (nice_ifC _ (nice_bind nice_scheme fun h => nice_bind (nice_expect _) fun _ => nice_bind (nice_list F nice_input) fun i => nice_bind (nice_expect _) fun _ => nice_bind (nice_query F) fun q => nice_pure _)
  (nice_ifC _ (nice_bind nice_literal fun c => nice_bind (nice_expect _) fun _ => nice_bind (nice_list F nice_name) fun m => nice_pure _) (nice_pure _)))
theorem nice_def (F : Nat) : Nice (defS F) := nice_bind (nice_oneOf _) fun k => nice_bind nice_name fun n => nice_defK F k n
end Go.Proofs.YtljoajjlkjjgeaaGreatDoor
