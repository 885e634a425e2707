/-
  Words that all walks of the schema seat share.
  Whether a column holds a value.
  Trees of expressions in memory: what lies where.
-/
import Derived.Test.YtljoajjlkjjgeaaGreatDoorProg
import Derived.WalkKit
import Derived.WalkSpells
import Derived.WalkLawsBesides
import Derived.Handy
import Derived.Deep.QuietTactic
import Derived.BigQuiet
import Derived.Lib.SmallJoins
import Derived.Lib.QuietBelow
import Derived.RegionTactic
import Derived.OwnWalk
namespace Go.Proofs.YtljoajjlkjjgeaaGreatDoor
open Go.RowKit

theorem hide {p : Prop} (h : p) : Hid p := h

abbrev vVal (k n : Int) (s : ByteArray) : Value := .agg #[.int .i64 k, .int .i64 n, .string s]
abbrev vCol (s : ByteArray) (n : Int) : Value := .agg #[.string s, .int .i64 n]

theorem ret_bool {a b : Bool} (h : a = b) : Ending.returned (.bool a) = .returned (.bool b) := by rw [h]
theorem ret_int {k : IntKind} {a b : Int} (h : a = b) : Ending.returned (.int k a) = .returned (.int k b) := by rw [h]
theorem bcell {W w1 : World} (hb : Below W.heap.size W w1) : (∀ b o, b < W.heap.size → w1.cell? ⟨b, o, none⟩ = W.cell? ⟨b, o, none⟩) ∧ (∀ b o, b < W.heap.size → w1.frozen? ⟨b, o, none⟩ = W.frozen? ⟨b, o, none⟩) :=
 ⟨fun b o h => hb.cell (p := ⟨b, o, none⟩) h, fun b o h => hb.frozen (p := ⟨b, o, none⟩) h⟩
theorem size_of (l : List UInt8) : (⟨l.toArray⟩ : ByteArray).size = l.length := by simp [ByteArray.size]
theorem list_of (l : List UInt8) : (⟨l.toArray⟩ : ByteArray).data.toList = l := by simp
theorem of_data {s : ByteArray} {l : List UInt8} (h : s.data.toList = l) : s = ⟨l.toArray⟩ := by
 rw [← h]
theorem take_snoc (s : ByteArray) (k : Nat) (h : k < s.size) : s.data.toList.take (k + 1) = s.data.toList.take k ++ [s[k]] := by
 rw [List.take_succ_eq_append_getElem (by simpa using h)]; rfl
theorem getD_at (s : ByteArray) (k : Nat) (h : k < s.size) : s.data.toList.getD k 0 = s[k] := by
 rw [List.getD_eq_getElem?_getD, List.getElem?_eq_getElem (by simpa using h)]; rfl
theorem below_drewN {B : Nat} {a w : World} (h : Below B a w) (n : Nat) : Below B a (w.drewN n) := ⟨h.os, h.tape, h.output, h.size, h.block⟩
theorem only_of_below {a w : World} (h : Below a.heap.size a w) (row : Option Nat) : a.grownBy w row := ⟨h.os, h.tape, h.output, h.size, fun i hi _ => h.block i hi⟩
/-- What a call does to blocks that were there, behind another call. -/
theorem then_below {a b c : World} (h : Below a.heap.size a b) (k : Below b.heap.size b c) : Below a.heap.size a c := h.trans (k.mono h.size)
/-- Nothing that was there has changed, and the tape was not asked less often. -/
def Up (w w' : World) : Prop := Below w.heap.size w w' ∧ w.drawn ≤ w'.drawn
theorem Up.refl (w : World) : Up w w := ⟨Below.refl _ _, Nat.le_refl _⟩
theorem Up.trans {a b c : World} (h : Up a b) (k : Up b c) : Up a c := ⟨then_below h.1 k.1, Nat.le_trans h.2 k.2⟩
theorem up_alloc (w : World) (o : Obj) : Up w (w.alloc o) := ⟨(Below.refl _ _).alloc (Nat.le_refl _) _, Nat.le_refl _⟩
theorem up_drew (w : World) : Up w w.drew := ⟨(Below.refl _ _).drew, Nat.le_succ _⟩
end Go.Proofs.YtljoajjlkjjgeaaGreatDoor
namespace Go.Proofs.YtljoajjlkjjgeaaGreatDoor
open Go.RowKit

theorem null_any (w : World) : Calls Tryz.prog 146 #[] w fun e w' => e = .returned (vVal 0 0 ⟨#[]⟩) ∧ Below w.heap.size w w' := by
 go_enter Tryz.func146, Tryz.ntmps146
 go_wp2
 go_returns
 exact ⟨rfl, by go_grown⟩

theorem val_fields : Tryz.prog.underlying 33 = some (.struct (Tryz.prog.fieldsOf 33)) := by kernel_rfl
theorem val_stood : Tryz.prog.stoodInHeld 33 = false := by kernel_rfl
theorem val_guard : Tryz.prog.eqGuardType Tryz.prog.depth 33 = false := by kernel_rfl
theorem val_fieldsL : (Tryz.prog.fieldsOf 33).toList.map (fun f => (f.type, f.offset, decide (f.name ≠ "_"))) = [(3, 0, true), (3, 1, true), (9, 2, true)] := by kernel_rfl
/-- == of two values. -/
theorem run_eql_val (k n l m : Int) (s t : ByteArray) (w : World) : (binOp .eql 33 (vVal k n s) (vVal l m t)).run Tryz.prog w = .ok (.bool (k == l && (n == m && s.toList == t.toList))) w := by
 have h2 := Tryz.underlying9
 have h3 := Tryz.underlying3
 have hf := val_fieldsL
 rw [run_eql_struct, run_equalIn_agg w 9999 33 _ _ val_fields val_stood]
 generalize (Tryz.prog.fieldsOf 33).toList = fs at hf
 rcases fs with _ | ⟨f, _ | ⟨g, _ | ⟨h, _ | ⟨_, _⟩⟩⟩⟩ <;> simp at hf
 obtain ⟨⟨f1, f2, f3⟩, ⟨g1, g2, g3⟩, k1, k2, k3⟩ := hf
 simp [Op.eqFields, f1, f2, f3, g1, g2, g3, k1, k2, k3, go_sem]
 split
 ·split
  ·split <;> simp_all
  ·simp_all
 ·simp_all
theorem run_guard_val (k n l m : Int) (s t : ByteArray) (u v : Operand) (w : World) : (eqGuard .eql 33 u v (vVal k n s) (vVal l m t)).run Tryz.prog w = .ok () w := run_eqGuard_agg w .eql _ u v _ _ val_guard
end Go.Proofs.YtljoajjlkjjgeaaGreatDoor
namespace Go.Proofs.YtljoajjlkjjgeaaGreatDoor
open Go.RowKit

/-- An expression, and where its arguments lie. -/
inductive XT where
 | mk (k : Int) (n : ByteArray) (v : Int × Int × ByteArray) (o : ByteArray) (A : Option Addr) (c : Nat) (ts : List XT)
namespace XT
def kind : XT → Int | mk k _ _ _ _ _ _ => k
def name : XT → ByteArray | mk _ n _ _ _ _ _ => n
def val : XT → Int × Int × ByteArray | mk _ _ v _ _ _ _ => v
def op : XT → ByteArray | mk _ _ _ o _ _ _ => o
def adr : XT → Option Addr | mk _ _ _ _ A _ _ => A
def cap : XT → Nat | mk _ _ _ _ _ c _ => c
def args : XT → List XT | mk _ _ _ _ _ _ ts => ts
end XT
def dX : XT := .mk 0 ⟨#[]⟩ (0, 0, ⟨#[]⟩) ⟨#[]⟩ none 0 []
abbrev eCells (k : Int) (n : ByteArray) (v : Int × Int × ByteArray) (o : ByteArray) (A : Option Addr) (m c : Nat) : Array Value :=
 #[.int .i64 k, .string n, .int .i64 v.1, .int .i64 v.2.1, .string v.2.2, .string o, .slice A m c]
def vX (x : XT) : Value := .agg (eCells x.kind x.name x.val x.op x.adr x.args.length x.cap)
/-- The seven cells of an expression. -/
def At7 (w : World) (b o : Nat) (x : XT) : Prop :=
 w.cell? ⟨b, o, none⟩ = some (.int .i64 x.kind) ∧ w.cell? ⟨b, o + 1, none⟩ = some (.string x.name) ∧ w.cell? ⟨b, o + 2, none⟩ = some (.int .i64 x.val.1) ∧ w.cell? ⟨b, o + 3, none⟩ = some (.int .i64 x.val.2.1) ∧
 w.cell? ⟨b, o + 4, none⟩ = some (.string x.val.2.2) ∧ w.cell? ⟨b, o + 5, none⟩ = some (.string x.op) ∧ w.cell? ⟨b, o + 6, none⟩ = some (.slice x.adr x.args.length x.cap)
theorem At7.below {w w' : World} {B b o : Nat} {x : XT} (h : At7 w b o x) (hb : Below B w w') (hlt : b < B) : At7 w' b o x := by
 obtain ⟨h0, h1, h2, h3, h4, h5, h6⟩ := h
 have c : ∀ i u, w.cell? ⟨b, i, none⟩ = some u → w'.cell? ⟨b, i, none⟩ = some u := fun i u hu => (hb.cell (p := ⟨b, i, none⟩) hlt).trans hu
 exact ⟨c _ _ h0, c _ _ h1, c _ _ h2, c _ _ h3, c _ _ h4, c _ _ h5, c _ _ h6⟩
/-- The expression's arguments, and theirs, lie below block B. -/
inductive LiesX (B : Nat) (w : World) : XT → Prop
 | mk {k : Int} {n : ByteArray} {v : Int × Int × ByteArray} {o : ByteArray} {A : Option Addr} {c : Nat} {ts : List XT} (hA : A = none → c = 0)
   (hc : ∀ j, j < ts.length → ∃ b off, A = some ⟨b, off, none⟩ ∧ b < B ∧ At7 w b (off + j * 7) (ts.getD j dX)) (hs : ∀ x ∈ ts, LiesX B w x) : LiesX B w (.mk k n v o A c ts)
theorem LiesX.keep {B : Nat} {w w' : World} {x : XT} (h : LiesX B w x) (hb : Below B w w') : LiesX B w' x := by
 induction h with
 | mk hA hc _ ih => exact .mk hA (fun j hj => by obtain ⟨b, off, e, hlt, h7⟩ := hc j hj; exact ⟨b, off, e, hlt, h7.below hb hlt⟩) ih
theorem LiesX.mono {B B' : Nat} {w : World} {x : XT} (h : LiesX B w x) (hB : B ≤ B') : LiesX B' w x := by
 induction h with
 | mk hA hc _ ih => exact .mk hA (fun j hj => by obtain ⟨b, off, e, hlt, h7⟩ := hc j hj; exact ⟨b, off, e, Nat.lt_of_lt_of_le hlt hB, h7⟩) ih
theorem LiesX.on {w w' : World} {x : XT} (h : LiesX w.heap.size w x) (hb : Below w.heap.size w w') : LiesX w'.heap.size w' x := (h.keep hb).mono hb.size
theorem LiesX.at {B : Nat} {w : World} {x : XT} (h : LiesX B w x) {j : Nat} (hj : j < x.args.length) : ∃ b off, x.adr = some ⟨b, off, none⟩ ∧ b < B ∧ At7 w b (off + j * 7) (x.args.getD j dX) ∧ LiesX B w (x.args.getD j dX) := by
 cases h with
 | mk hA hc hs =>
  obtain ⟨b, off, e, hlt, h7⟩ := hc j hj
  refine ⟨b, off, e, hlt, h7, hs _ ?_⟩
  have hj' := hj
  simp only [XT.args] at hj' ⊢
  rw [List.getD_eq_getElem?_getD, List.getElem?_eq_getElem hj']
  exact List.getElem_mem hj'

mutual
/-- How many expressions there are. -/
def szX : XT → Nat
 | .mk _ _ _ _ _ _ ts => 1 + szXs ts
def szXs : List XT → Nat
 | [] => 0
 | x :: r => szX x + szXs r
end
theorem szX_eq (x : XT) : szX x = 1 + szXs x.args := by cases x; rfl
theorem szX_pos (x : XT) : 1 ≤ szX x := by rw [szX_eq]; omega
theorem szXs_drop {l : List XT} {k : Nat} (h : k < l.length) : szXs (l.drop k) = szX (l.getD k dX) + szXs (l.drop (k + 1)) := by
 rw [List.drop_eq_getElem_cons h, List.getD_eq_getElem?_getD, List.getElem?_eq_getElem h]; rfl
theorem szX_arg {x : XT} {k : Nat} (h : k < x.args.length) : szX (x.args.getD k dX) < szX x := by
 rw [szX_eq x]
 have h1 : ∀ (l : List XT) (k : Nat), k < l.length → szX (l.getD k dX) ≤ szXs l := by
  intro l
  induction l with
  | nil => intro k h; simp at h
  | cons y r ih =>
   intro k h
   cases k with
   | zero => show szX y ≤ szX y + szXs r; omega
   | succ k => have := ih k (by simpa using h); show szX (r.getD k dX) ≤ szX y + szXs r; omega
 have := h1 x.args k h
 omega
theorem len_szXs (l : List XT) : l.length ≤ szXs l := by
 induction l with
 | nil => exact Nat.le_refl _
 | cons y r ih => have := szX_pos y; show r.length + 1 ≤ szX y + szXs r; omega

mutual
/-- What count tells. -/
def cntX : XT → Int → Int
 | .mk _ _ _ _ _ _ ts, m => cntXs ts 1 m
def cntXs : List XT → Int → Int → Int
 | [], n, _ => n
 | x :: r, n, m => if m < n then n else cntXs r (n + cntX x (m - n)) m
end
theorem cntX_eq (x : XT) (m : Int) : cntX x m = cntXs x.args 1 m := by cases x; rfl
mutual
theorem cntX_le : ∀ (x : XT) (m : Int), 1 ≤ cntX x m ∧ cntX x m ≤ szX x
 | .mk _ _ _ _ _ _ ts, m => by
  have := cntXs_le ts 1 m
  show 1 ≤ cntXs ts 1 m ∧ cntXs ts 1 m ≤ ((1 + szXs ts : Nat) : Int)
  omega
theorem cntXs_le : ∀ (l : List XT) (n m : Int), n ≤ cntXs l n m ∧ cntXs l n m ≤ n + szXs l
 | [], n, m => by show n ≤ n ∧ n ≤ n + ((0 : Nat) : Int); omega
 | x :: r, n, m => by
  have h1 := cntX_le x (m - n)
  have h2 := cntXs_le r (n + cntX x (m - n)) m
  have e : cntXs (x :: r) n m = if m < n then n else cntXs r (n + cntX x (m - n)) m := rfl
  have e2 : szXs (x :: r) = szX x + szXs r := rfl
  rw [e, e2]
  split <;> omega
end
theorem cntXs_drop {l : List XT} {k : Nat} (h : k < l.length) (n m : Int) : cntXs (l.drop k) n m = if m < n then n else cntXs (l.drop (k + 1)) (n + cntX (l.getD k dX) (m - n)) m := by
 rw [List.drop_eq_getElem_cons h, List.getD_eq_getElem?_getD, List.getElem?_eq_getElem h]; rfl
mutual
/-- Up to the bound the number is told. -/
theorem cntX_sz : ∀ (x : XT) (m : Int), (szX x ≤ m → cntX x m = szX x) ∧ (m < szX x → m < cntX x m)
 | .mk _ _ _ _ _ _ ts, m => by
  have := cntXs_sz ts 1 m
  show (((1 + szXs ts : Nat) : Int) ≤ m → cntXs ts 1 m = ((1 + szXs ts : Nat) : Int)) ∧ (m < ((1 + szXs ts : Nat) : Int) → m < cntXs ts 1 m)
  push_cast
  exact this
theorem cntXs_sz : ∀ (l : List XT) (n m : Int), (n + szXs l ≤ m → cntXs l n m = n + szXs l) ∧ (m < n + szXs l → m < cntXs l n m)
 | [], n, m => by
  have e : cntXs [] n m = n := rfl
  have e2 : szXs [] = 0 := rfl
  rw [e, e2]; omega
 | x :: r, n, m => by
  have h1 := cntX_sz x (m - n)
  have h2 := cntXs_sz r (n + cntX x (m - n)) m
  have h3 := cntXs_le r (n + cntX x (m - n)) m
  have e : cntXs (x :: r) n m = if m < n then n else cntXs r (n + cntX x (m - n)) m := rfl
  have e2 : szXs (x :: r) = szX x + szXs r := rfl
  rw [e, e2]
  by_cases hx : (szX x : Int) ≤ m - n
  ·rw [h1.1 hx] at h2 h3 ⊢
   split <;> omega
  ·have := h1.2 (by omega)
   split <;> omega
end
theorem expr_info : (Tryz.prog.info? 36).map (fun i => (i.zero, i.size, i.bytes)) = some (some (.agg #[.int .i64 0, .string ⟨#[]⟩, .int .i64 0, .int .i64 0, .string ⟨#[]⟩, .string ⟨#[]⟩, .slice none 0 0]), 7, 96) := by kernel_rfl
end Go.Proofs.YtljoajjlkjjgeaaGreatDoor
