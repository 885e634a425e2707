/-
  The reference's In and find.
  Expressions of the reference in memory: what lies where.
  The reference's Form: the walk; and that it is the form that the program asks.
  The reference's form is the form that the program asks.
-/
import Derived.Test.YteenhmniikloiaaDoorSCheckR
import Derived.Test.YteenhmniikloiaaDoorEType
import Derived.Test.YteenhmniikloiaaDoorMPlain
import Derived.Test.YteenhmniikloiaaDoorSRef
import Derived.Test.YteenhmniikloiaaDoorEFormed
namespace Go.Proofs.YteenhmniikloiaaDoor
open Go.RowKit

/-- Is a text one of some? -/
def inB (s : ByteArray) (l : List ByteArray) : Bool := l.any fun x => x.toList == s.toList
theorem inB_yes {s : ByteArray} {l : List ByteArray} {k : Nat} (hk : k < l.length) (h : ((l.getD k ⟨#[]⟩).toList == s.toList) = true) : inB s l = true := by
  unfold inB
  rw [List.any_eq_true]
  rw [List.getD_eq_getElem?_getD, List.getElem?_eq_getElem hk] at h
  exact ⟨_, List.getElem_mem hk, h⟩
theorem inB_no {s : ByteArray} {l : List ByteArray} (h : ∀ j, j < l.length → ((l.getD j ⟨#[]⟩).toList == s.toList) = false) : inB s l = false := by
  unfold inB
  rw [List.any_eq_false]
  intro x hx
  obtain ⟨j, hj, e⟩ := List.getElem_of_mem hx
  have := h j hj
  rw [List.getD_eq_getElem?_getD, List.getElem?_eq_getElem hj, Option.getD_some, e] at this
  simp [this]
/-- The slice at A reads as these texts. -/
def TextsAt (B : Nat) (w : World) (A : Option Addr) (l : List ByteArray) : Prop := ∀ j, j < l.length → ∃ b off, A = some ⟨b, off, none⟩ ∧ b < B ∧ w.cell? ⟨b, off + j, none⟩ = some (.string (l.getD j ⟨#[]⟩))
theorem TextsAt.below {B : Nat} {w w' : World} {A : Option Addr} {l : List ByteArray} (h : TextsAt B w A l) (hb : Below B w w') : TextsAt B w' A l := fun j hj => by
  obtain ⟨b, off, e, hlt, h0⟩ := h j hj
  exact ⟨b, off, e, hlt, (hb.cell (p := ⟨b, off + j, none⟩) hlt).trans h0⟩
set_option maxHeartbeats 1600000 in
set_option maxRecDepth 100000 in
theorem refIn_any (s : ByteArray) (A : Option Addr) (c : Nat) (l : List ByteArray) (w : World) (hT : TextsAt w.heap.size w A l) (hl : l.length ≤ 1000) :
    Calls Tryd.prog 57 #[.string s, .slice A l.length c] w fun e w' => e = .returned (.bool (inB s l)) ∧ Below w.heap.size w w' := by
  have HT := hide hT
  have HY := hide (fun k h1 h2 => inB_yes (s := s) (l := l) (k := k) h1 h2)
  have HN := hide (fun h => inB_no (s := s) (l := l) h)
  clear hT
  generalize inB s l = q at *
  go_enter Tryd.func57, Tryd.ntmps57
  go_wp2_with fail
  go_loopw [5] (fun i wr => ∃ k : Nat, k ≤ l.length ∧ i = .int .i64 k ∧ (∀ j, j < k → ((l.getD j ⟨#[]⟩).toList == s.toList) = false) ∧ Below w.heap.size w wr) (fun i _ => l.length - (intOf i).toNat)
  case atStart => exact ⟨0, Nat.zero_le _, rfl, fun j h => by omega, Below.refl _ _⟩
  case round =>
    obtain ⟨k, hk, rfl, hno, hbw⟩ := hrel
    have HNo := hide hno
    clear hno
    by_cases hlt : k < l.length
    · obtain ⟨b, off, rfl, hb, c0⟩ := (HT.out.below hbw) k hlt
      have HYk := hide (HY.out k hlt)
      have HS := hide (fun (h : ((l.getD k ⟨#[]⟩).toList == s.toList) = false) j (hj : j < k + 1) => (by
        by_cases e : j = k
        · rw [e]; exact h
        · exact HNo.out j (by omega) : ((l.getD j ⟨#[]⟩).toList == s.toList) = false))
      generalize l.getD k ⟨#[]⟩ = x at *
      clear HN HY
      cases he : (x.toList == s.toList)
      · have HSk := hide (HS.out he)
        go_wp2_with fail
        go_roundw
        case rel => exact ⟨k + 1, by omega, by go_num, HSk.out, hbw⟩
        case measure => simp [intOf]; omega
      · have HQ := hide (HYk.out he)
        go_wp2_with fail
        go_ret
        exact ⟨ret_bool HQ.out.symm, hbw⟩
    · obtain rfl : k = l.length := by omega
      have HQ := hide (HN.out HNo.out)
      clear HN HY
      go_wp2_with fail
      go_ret
      exact ⟨ret_bool HQ.out.symm, hbw⟩

/-- The type of a column by its name; 0: there is none. -/
def findT (cs : List (ByteArray × Int)) (s : ByteArray) : Int := if findK cs s < cs.length then (cs.getD (findK cs s) (⟨#[]⟩, 0)).2 else 0
set_option maxHeartbeats 1600000 in
set_option maxRecDepth 100000 in
theorem refFind_any (A : Option Addr) (c : Nat) (cs : List (ByteArray × Int)) (s : ByteArray) (w : World) (hC : ColsAt w.heap.size w A cs) (hl : cs.length ≤ maxLen) :
    Calls Tryd.prog 56 #[.slice A cs.length c, .string s] w fun e w' => e = .returned (.int .i64 (findT cs s)) ∧ Below w.heap.size w w' := by
  have HC := hide hC
  unfold maxLen at hl
  clear hC
  go_enter Tryd.func56, Tryd.ntmps56
  go_wp2_with fail
  go_loopw [5] (fun i wr => ∃ k : Nat, k ≤ cs.length ∧ i = .int .i64 k ∧ noneAhead cs s k ∧ Below w.heap.size w wr) (fun i _ => cs.length - (intOf i).toNat)
  case atStart => exact ⟨0, Nat.zero_le _, rfl, fun j h => by omega, Below.refl _ _⟩
  case round =>
    obtain ⟨k, hk, rfl, hp, hbw⟩ := hrel
    have HP := hide hp
    clear hp
    by_cases hlt : k < cs.length
    · obtain ⟨b, off, rfl, hb, h0, h1⟩ := (HC.out.below hbw) k hlt
      have HHit := hide (fun h => (findK_at hlt HP.out h : findK cs s = k))
      have HMiss := hide (fun h => (noneAhead_succ HP.out h : noneAhead cs s (k + 1)))
      have HF := hide (fun (h : findK cs s = k) => (by unfold findT; rw [h, if_pos hlt] : findT cs s = (cs.getD k (⟨#[]⟩, 0)).2))
      generalize cs.getD k (⟨#[]⟩, 0) = col at *
      cases he : (col.1.toList == s.toList)
      · have HM := hide (HMiss.out (by rw [Lib.toList_data, Lib.toList_data] at he; simpa using he))
        go_wp2_with fail
        go_roundw
        case rel => exact ⟨k + 1, by omega, by go_num, HM.out, hbw⟩
        case measure => simp [intOf]; omega
      · have HQ := hide (HF.out (HHit.out (by rw [Lib.toList_data, Lib.toList_data] at he; simpa using he)))
        clear HF HHit HMiss
        go_wp2_with fail
        go_ret
        exact ⟨ret_int HQ.out.symm, hbw⟩
    · have HQ := hide (show findT cs s = 0 by
        unfold findT
        rw [if_neg (by rw [findK_none (by have := HP.out; rw [show k = cs.length by omega] at this; exact this)]; exact Nat.lt_irrefl _)])
      go_wp2_with fail
      go_ret
      exact ⟨ret_int HQ.out.symm, hbw⟩
end Go.Proofs.YteenhmniikloiaaDoor
namespace Go.Proofs.YteenhmniikloiaaDoor
open Go.RowKit

/-- The seven cells of an expression of the reference. -/
abbrev rxCells (k : Int) (n : ByteArray) (v : Int × Int × ByteArray) (o : ByteArray) (A : Option Addr) (m c : Nat) : Array Value :=
  #[.int .i64 k, .string n, .string o, .int .i64 v.1, .int .i64 v.2.1, .string v.2.2, .slice A m c]
def vR (x : XT) : Value := .agg (rxCells x.kind x.name x.val x.op x.adr x.args.length x.cap)
def RAt7 (w : World) (b o : Nat) (x : XT) : Prop :=
  w.cell? ⟨b, o, none⟩ = some (.int .i64 x.kind) ∧ w.cell? ⟨b, o + 1, none⟩ = some (.string x.name) ∧ w.cell? ⟨b, o + 2, none⟩ = some (.string x.op) ∧ w.cell? ⟨b, o + 3, none⟩ = some (.int .i64 x.val.1) ∧
  w.cell? ⟨b, o + 4, none⟩ = some (.int .i64 x.val.2.1) ∧ w.cell? ⟨b, o + 5, none⟩ = some (.string x.val.2.2) ∧ w.cell? ⟨b, o + 6, none⟩ = some (.slice x.adr x.args.length x.cap)

theorem RAt7.below {w w' : World} {B b o : Nat} {x : XT} (h : RAt7 w b o x) (hb : Below B w w') (hlt : b < B) : RAt7 w' b o x := by
  obtain ⟨h0, h1, h2, h3, h4, h5, h6⟩ := h
  have c : ∀ i u, w.cell? ⟨b, i, none⟩ = some u → w'.cell? ⟨b, i, none⟩ = some u := fun i u hu => (hb.cell (p := ⟨b, i, none⟩) hlt).trans hu
  exact ⟨c _ _ h0, c _ _ h1, c _ _ h2, c _ _ h3, c _ _ h4, c _ _ h5, c _ _ h6⟩
/-- The expression's arguments, and theirs, lie below block B. -/
inductive LiesR (B : Nat) (w : World) : XT → Prop
  | mk {k : Int} {n : ByteArray} {v : Int × Int × ByteArray} {o : ByteArray} {A : Option Addr} {c : Nat} {ts : List XT} (hA : A = none → c = 0)
      (hc : ∀ j, j < ts.length → ∃ b off, A = some ⟨b, off, none⟩ ∧ b < B ∧ RAt7 w b (off + j * 7) (ts.getD j dX)) (hs : ∀ x ∈ ts, LiesR B w x) : LiesR B w (.mk k n v o A c ts)
theorem LiesR.keep {B : Nat} {w w' : World} {x : XT} (h : LiesR B w x) (hb : Below B w w') : LiesR B w' x := by
  induction h with
  | mk hA hc _ ih => exact .mk hA (fun j hj => by obtain ⟨b, off, e, hlt, h7⟩ := hc j hj; exact ⟨b, off, e, hlt, h7.below hb hlt⟩) ih
theorem LiesR.mono {B B' : Nat} {w : World} {x : XT} (h : LiesR B w x) (hB : B ≤ B') : LiesR B' w x := by
  induction h with
  | mk hA hc _ ih => exact .mk hA (fun j hj => by obtain ⟨b, off, e, hlt, h7⟩ := hc j hj; exact ⟨b, off, e, Nat.lt_of_lt_of_le hlt hB, h7⟩) ih
theorem LiesR.on {w w' : World} {x : XT} (h : LiesR w.heap.size w x) (hb : Below w.heap.size w w') : LiesR w'.heap.size w' x := (h.keep hb).mono hb.size
theorem LiesR.at {B : Nat} {w : World} {x : XT} (h : LiesR B w x) {j : Nat} (hj : j < x.args.length) : ∃ b off, x.adr = some ⟨b, off, none⟩ ∧ b < B ∧ RAt7 w b (off + j * 7) (x.args.getD j dX) ∧ LiesR B w (x.args.getD j dX) := by
  cases h with
  | mk hA hc hs =>
    obtain ⟨b, off, e, hlt, h7⟩ := hc j hj
    refine ⟨b, off, e, hlt, h7, hs _ ?_⟩
    have hj' := hj
    simp only [XT.args] at hj' ⊢
    rw [List.getD_eq_getElem?_getD, List.getElem?_eq_getElem hj']
    exact List.getElem_mem hj'


theorem RAt7.same {w w' : World} {b o : Nat} {x : XT} (h : RAt7 w b o x) (he : w'.heap[b]? = w.heap[b]?) : RAt7 w' b o x := by
  obtain ⟨h0, h1, h2, h3, h4, h5, h6⟩ := h
  have c : ∀ i u, w.cell? ⟨b, i, none⟩ = some u → w'.cell? ⟨b, i, none⟩ = some u := fun i u hu => by
    unfold World.cell? at hu ⊢
    simp only [he]
    exact hu
  exact ⟨c _ _ h0, c _ _ h1, c _ _ h2, c _ _ h3, c _ _ h4, c _ _ h5, c _ _ h6⟩
/-- It lies so in every world that has the same blocks from lo on. -/
theorem LiesR.off {lo B : Nat} {w w' : World} {x : XT} (h : LiesR B w x) : newX lo x → (∀ b, lo ≤ b → b < B → w'.heap[b]? = w.heap[b]?) → LiesR B w' x := by
  induction h with
  | mk hA hc hs ih =>
    intro hn hb
    rename_i ts
    refine .mk hA (fun j hj => ?_) (fun x hx => ?_)
    · obtain ⟨b, off, e, hlt, h7⟩ := hc j hj
      exact ⟨b, off, e, hlt, h7.same (hb b (hn.1 _ e) hlt)⟩
    · obtain ⟨j, hj, e⟩ := List.getElem_of_mem hx
      have := newXs_at (k := j) hn.2 hj
      rw [List.getD_eq_getElem?_getD, List.getElem?_eq_getElem hj, Option.getD_some, e] at this
      exact ih x hx this hb


/-- A list of expressions at an address: each one's cells, and what lies behind it, below block B. -/
def RArgsAt (B : Nat) (w : World) (A : Option Addr) (ts : List XT) : Prop :=
  ∀ j, j < ts.length → ∃ b off, A = some ⟨b, off, none⟩ ∧ b < B ∧ RAt7 w b (off + j * 7) (ts.getD j dX) ∧ LiesR B w (ts.getD j dX)
theorem RArgsAt.on {w w' : World} {A : Option Addr} {ts : List XT} (h : RArgsAt w.heap.size w A ts) (hb : Below w.heap.size w w') : RArgsAt w'.heap.size w' A ts := fun j hj => by
  obtain ⟨b, off, e, hlt, h7, hl⟩ := h j hj
  exact ⟨b, off, e, Nat.lt_of_lt_of_le hlt hb.size, h7.below hb hlt, hl.on hb⟩
theorem RArgsAt.of {B : Nat} {w : World} {x : XT} (h : LiesR B w x) : RArgsAt B w x.adr x.args := fun _ hj => h.at hj
theorem RArgsAt.lies {B : Nat} {w : World} {k : Int} {n : ByteArray} {v : Int × Int × ByteArray} {o : ByteArray} {A : Option Addr} {c : Nat} {ts : List XT} (h : RArgsAt B w A ts) (hA : A = none → c = 0) : LiesR B w (.mk k n v o A c ts) :=
  .mk hA (fun _ hj => by obtain ⟨b, off, e, hlt, h7, _⟩ := h _ hj; exact ⟨b, off, e, hlt, h7⟩) fun x hx => by
    obtain ⟨j, hj, e⟩ := List.getElem_of_mem hx
    obtain ⟨_, _, _, _, _, hl⟩ := h j hj
    rw [List.getD_eq_getElem?_getD, List.getElem?_eq_getElem hj, Option.getD_some, e] at hl
    exact hl

/-- It lies so in every world in which only block g may be another. -/
theorem LiesR.but {B g : Nat} {w w' : World} {x : XT} (h : LiesR B w x) : offX g x → (∀ b, b ≠ g → b < B → w'.heap[b]? = w.heap[b]?) → LiesR B w' x := by
  induction h with
  | mk hA hc hs ih =>
    intro hn hb
    refine .mk hA (fun j hj => ?_) (fun x hx => ?_)
    · obtain ⟨b, off, e, hlt, h7⟩ := hc j hj
      exact ⟨b, off, e, hlt, h7.same (hb b (hn.1 (by intro e'; rw [e'] at hj; simp at hj) _ e) hlt)⟩
    · obtain ⟨j, hj, e⟩ := List.getElem_of_mem hx
      have := offXs_at (k := j) hn.2 hj
      rw [List.getD_eq_getElem?_getD, List.getElem?_eq_getElem hj, Option.getD_some, e] at this
      exact ih x hx this hb

/-- What lies below block B is in no block from B on. -/
theorem LiesR.offX_of {B g : Nat} {w : World} {x : XT} (h : LiesR B w x) (hg : B ≤ g) : offX g x := by
  induction h with
  | mk hA hc hs ih =>
    rename_i A _ ts
    refine ⟨fun hne a ha => ?_, offXs_of ih⟩
    have hpos : 0 < ts.length := by cases ts; exact absurd rfl hne; simp
    obtain ⟨b, off, e, hlt, _⟩ := hc 0 hpos
    rw [ha] at e
    injection e with e
    rw [e]
    show b ≠ g
    omega

/-- The box of an expression of the reference. -/
def boxR (w : World) (x : XT) : World := w.alloc (.cells (rxCells x.kind x.name x.val x.op x.adr x.args.length x.cap) 45)
theorem boxR_below (w : World) (x : XT) : Below w.heap.size w (boxR w x) := Joins.below_alloc1 w _
theorem boxR_at {w : World} {x : XT} {w' : World} (h : Below (boxR w x).heap.size (boxR w x) w') :
    w'.cell? ⟨w.heap.size, 0, none⟩ = some (.int .i64 x.kind) ∧ w'.cell? ⟨w.heap.size, 1, none⟩ = some (.string x.name) ∧ w'.cell? ⟨w.heap.size, 2, none⟩ = some (.string x.op) ∧ w'.cell? ⟨w.heap.size, 3, none⟩ = some (.int .i64 x.val.1) ∧
    w'.cell? ⟨w.heap.size, 4, none⟩ = some (.int .i64 x.val.2.1) ∧ w'.cell? ⟨w.heap.size, 5, none⟩ = some (.string x.val.2.2) ∧ w'.cell? ⟨w.heap.size, 6, none⟩ = some (.slice x.adr x.args.length x.cap) ∧ w.heap.size < w'.heap.size := by
  have hz : (boxR w x).heap.size = w.heap.size + 1 := by simp [boxR]
  have hn : (boxR w x).heap[w.heap.size]? = some (.cells (rxCells x.kind x.name x.val x.op x.adr x.args.length x.cap) 45 (0, 0)) := heap_alloc_new w _
  have k := (h.block w.heap.size (by omega)).trans hn
  have := h.size
  exact ⟨Lib.cell_of_heap k 0, Lib.cell_of_heap k 1, Lib.cell_of_heap k 2, Lib.cell_of_heap k 3, Lib.cell_of_heap k 4, Lib.cell_of_heap k 5, Lib.cell_of_heap k 6, by omega⟩
/-- What the reference's Size does at expressions up to this size. -/
def RSizeOk (N : Nat) : Prop := ∀ (x : XT) (w : World), szX x ≤ N → szX x ≤ 1000000 → LiesR w.heap.size w x →
  Calls Tryd.prog 15 #[vR x] w fun e w' => e = .returned (.int .i64 (szX x : Nat)) ∧ Below w.heap.size w w'
theorem szXs_take {l : List XT} {k : Nat} (h : k < l.length) : szXs (l.take (k + 1)) = szXs (l.take k) + szX (l.getD k dX) := by
  induction l generalizing k with
  | nil => simp at h
  | cons y r ih =>
    cases k with
    | zero => show szX y + 0 = 0 + szX y; omega
    | succ k =>
      have := ih (k := k) (by simpa using h)
      show szX y + szXs (r.take (k + 1)) = szX y + szXs (r.take k) + szX (r.getD k dX)
      omega
theorem szXs_take_le : ∀ (l : List XT) (k : Nat), szXs (l.take k) ≤ szXs l
  | [], k => by simp
  | y :: r, 0 => Nat.zero_le _
  | y :: r, k + 1 => by have := szXs_take_le r k; show szX y + szXs (r.take k) ≤ szX y + szXs r; omega
set_option maxHeartbeats 1600000 in
set_option maxRecDepth 100000 in
theorem refSize_step (N : Nat) (hih : RSizeOk N) (kd : Int) (nm : ByteArray) (v : Int × Int × ByteArray) (o : ByteArray) (A : Option Addr) (c : Nat) (ts : List XT) (w : World) (hN : szX (.mk kd nm v o A c ts) ≤ N + 1) (hz : szX (.mk kd nm v o A c ts) ≤ 1000000) (hx : LiesR w.heap.size w (.mk kd nm v o A c ts)) :
    Calls Tryd.prog 15 #[.agg (rxCells kd nm v o A ts.length c)] w fun e w' => e = .returned (.int .i64 (szX (.mk kd nm v o A c ts) : Nat)) ∧ Below w.heap.size w w' := by
  have ih := hide hih
  have hal := boxR_below w (.mk kd nm v o A c ts)
  have HBox := hide (fun w' => boxR_at (w := w) (x := .mk kd nm v o A c ts) (w' := w'))
  have HWE := hide (show boxR w (.mk kd nm v o A c ts) = w.alloc (.cells (rxCells kd nm v o A ts.length c) 45) from rfl)
  have HX := hide (hx.on hal)
  have HL := hide hal
  have e1 : szX (.mk kd nm v o A c ts) = 1 + szXs ts := rfl
  rw [e1] at hN hz ⊢
  have hlen := len_szXs ts
  simp only [XT.kind, XT.name, XT.val, XT.op, XT.adr, XT.args, XT.cap] at HBox
  generalize boxR w (.mk kd nm v o A c ts) = W at *
  clear hx hal hih e1
  obtain ⟨c0, c1, c2, c3, c4, c5, c6, cz⟩ := HBox.out _ (Below.refl _ _)
  go_enter Tryd.func15, Tryd.ntmps15
  go_wp2_with fail
  rw [← HWE.out]
  go_loopw [3, 4] (fun n i wr => ∃ k : Nat, k ≤ ts.length ∧ i = .int .i64 k ∧ n = .int .i64 ((1 + szXs (ts.take k) : Nat) : Int) ∧ Below W.heap.size W wr) (fun _ i _ => ts.length - (intOf i).toNat)
  case atStart => exact ⟨0, Nat.zero_le _, rfl, rfl, Below.refl _ _⟩
  case round =>
    obtain ⟨k, hk, rfl, rfl, hbw⟩ := hrel
    have HB := hide hbw
    clear c0 c1 c2 c3 c4 c5 c6 cz
    obtain ⟨c0, c1, c2, c3, c4, c5, c6, cz⟩ := HBox.out _ hbw
    have hle := szXs_take_le ts k
    by_cases hlt : k < ts.length
    · obtain ⟨b, off, hadr, hb, h7, hly⟩ := (HX.out.keep hbw).at (j := k) hlt
      simp only [XT.adr, XT.args] at hadr h7 hly
      subst hadr
      have hT := szXs_take hlt
      have hle2 := szXs_take_le ts (k + 1)
      have HT := hide hT
      have hy := szXs_at hlt
      have HLy := hide (hly.mono hbw.size)
      generalize ts.getD k dX = y at *
      have HCall := hide (ih.out y wr (by omega) (by omega) HLy.out)
      have hb' : b < wr.heap.size := Nat.lt_of_lt_of_le hb hbw.size
      obtain ⟨g0, g1, g2, g3, g4, g5, g6⟩ := h7
      generalize szXs (ts.take k) = z at *
      generalize hzy : szX y = zy at *
      clear hly hbw
      go_wp2_with fail
      refine HCall.out.mono ?_
      rintro e w3 ⟨rfl, hb3⟩
      have HB3 := hide (then_below HB.out hb3)
      clear hb3 g0 g1 g2 g3 g4 g5 g6
      go_wp2_with fail
      go_roundw
      case rel => exact ⟨k + 1, by omega, by go_num, by rw [HT.out]; go_num, HB3.out⟩
      case measure => simp [intOf]; omega
    · obtain rfl : k = ts.length := by omega
      go_wp2_with fail
      go_ret
      exact ⟨by rw [List.take_length]; rfl, HL.out.trans (HB.out.mono HL.out.size)⟩
theorem refSize_ok (N : Nat) : RSizeOk N := by
  induction N with
  | zero => intro x _ hN; have := szX_pos x; omega
  | succ N ih =>
    intro x w hN hz hx
    obtain ⟨kd, nm, v, o, A, c, ts⟩ := x
    exact refSize_step N ih kd nm v o A c ts w hN hz hx
end Go.Proofs.YteenhmniikloiaaDoor
namespace Go.Proofs.YteenhmniikloiaaDoor
open Go.RowKit

def unL : List ByteArray := [⟨#[45]⟩, ⟨#[110, 111, 116]⟩]
def biL : List ByteArray := [⟨#[43]⟩, ⟨#[45]⟩, ⟨#[42]⟩, ⟨#[47]⟩, ⟨#[37]⟩, ⟨#[61]⟩, ⟨#[33, 61]⟩, ⟨#[60]⟩, ⟨#[60, 61]⟩, ⟨#[62]⟩, ⟨#[62, 61]⟩, ⟨#[97, 110, 100]⟩, ⟨#[111, 114]⟩]
def c1L : List ByteArray := [⟨#[108, 101, 110]⟩, ⟨#[97, 98, 115]⟩, ⟨#[105, 115, 110, 117, 108, 108]⟩]
def c2L : List ByteArray := [⟨#[99, 97, 116]⟩, ⟨#[101, 105, 116, 104, 101, 114]⟩]
def formR (x : XT) : Bool :=
  if x.kind = 1 then nullV x.val && (x.op.toList == [] && decide (x.args.length = 0))
  else if x.kind = 2 then x.name.toList == [] && (x.op.toList == [] && (decide (x.args.length = 0) && rightV x.val.1 x.val.2.1 x.val.2.2))
  else nullV x.val && (if x.kind = 3 then x.name.toList == [] && (decide (x.args.length = 1) && inB x.op unL)
  else if x.kind = 4 then x.name.toList == [] && (decide (x.args.length = 2) && inB x.op biL)
  else if x.kind = 5 then x.op.toList == [] && (decide (x.args.length = 1) && inB x.name c1L || (decide (x.args.length = 2) && inB x.name c2L || (decide (x.args.length = 3) && x.name.toList == [105, 102])))
  else false)
theorem lit0 : (⟨#[]⟩ : ByteArray).toList = [] := by rw [Lib.toList_data]
theorem texts_new (w : World) (l : List ByteArray) : TextsAt (w.alloc (.cells (l.map Value.string).toArray 9)).heap.size (w.alloc (.cells (l.map Value.string).toArray 9)) (some ⟨w.heap.size, 0, none⟩) l := fun j hj => by
  refine ⟨w.heap.size, 0, rfl, by simp, ?_⟩
  rw [Nat.zero_add, Lib.cell_of_heap (heap_alloc_new w _) j, List.getD_eq_getElem?_getD, List.getElem?_eq_getElem hj]
  simp [hj]

set_option maxHeartbeats 6400000 in
set_option maxRecDepth 100000 in
theorem refForm_any (x : XT) (w : World) (hv : x.val.2.2.size ≤ maxLen) (hlen : x.args.length ≤ 1000000) :
    Calls Tryd.prog 55 #[vR x] w fun e w' => e = .returned (.bool (formR x)) ∧ Below w.heap.size w w' := by
  have hal := boxR_below w x
  obtain ⟨kd, nm, ⟨v1, v2, v3⟩, o, A, c, ts⟩ := x
  obtain ⟨q, hq⟩ : ∃ q, q = formR (.mk kd nm (v1, v2, v3) o A c ts) := ⟨_, rfl⟩
  rw [← hq]
  unfold formR at hq
  simp only [XT.kind, XT.name, XT.val, XT.op, XT.args] at hq hv hlen
  have HX := hide hq
  clear hq
  have HNv := hide (show nullV (v1, v2, v3) = (v1 == 0 && (v2 == 0 && v3.toList == [])) by unfold nullV; rw [lit0])
  show Calls Tryd.prog 55 #[.agg (rxCells kd nm (v1, v2, v3) o A ts.length c)] w _
  have HL := hide (show Below w.heap.size w (w.alloc (.cells (rxCells kd nm (v1, v2, v3) o A ts.length c) 45)) from hal)
  have HRt := hide (fun w' => refRight_any v1 v2 v3 w' hv)
  generalize rightV v1 v2 v3 = rv at *
  generalize nullV (v1, v2, v3) = nv at *
  clear hal hv
  cases p1 : (v1 == 0)
  · have HNn := hide (show nv = false by rw [HNv.out]; simp [*])
    obtain rfl := HNn.out
    clear HNn HNv
    simp only [Bool.false_and] at HX
    by_cases k1 : kd = 1
    · have b1 : (kd == 1) = true := by rw [beq_iff_eq]; exact k1
      have HQ := hide (show q = false by rw [HX.out]; simp [k1])
      clear HX
      try clear z3
      try clear z2
      try clear z1
      try clear z0
      try clear k5
      try clear k4
      try clear k3
      try clear k2
      try clear k1
      go_enter Tryd.func55, Tryd.ntmps55
      go_wp2_with fail
      go_ret
      exact ⟨ret_bool HQ.out.symm, HL.out⟩
    · have b1 : (kd == 1) = false := by rw [beq_eq_false_iff_ne]; exact k1
      by_cases k2 : kd = 2
      · have b2 : (kd == 2) = true := by rw [beq_iff_eq]; exact k2
        cases hN : (nm.toList == [])
        · have HQ := hide (show q = false by rw [HX.out]; simp [k2, hN])
          clear HX
          try clear z3
          try clear z2
          try clear z1
          try clear z0
          try clear k5
          try clear k4
          try clear k3
          try clear k2
          try clear k1
          go_enter Tryd.func55, Tryd.ntmps55
          go_wp2_with fail
          go_ret
          exact ⟨ret_bool HQ.out.symm, HL.out⟩
        · cases hO : (o.toList == [])
          · have HQ := hide (show q = false by rw [HX.out]; simp [k2, hN, hO])
            clear HX
            try clear z3
            try clear z2
            try clear z1
            try clear z0
            try clear k5
            try clear k4
            try clear k3
            try clear k2
            try clear k1
            go_enter Tryd.func55, Tryd.ntmps55
            go_wp2_with fail
            go_ret
            exact ⟨ret_bool HQ.out.symm, HL.out⟩
          · by_cases z0 : ts.length = 0
            · have n0 : ((ts.length : Int) == 0) = true := by rw [beq_iff_eq]; omega
              have HQ := hide (show q = rv by rw [HX.out]; simp [k2, hN, hO, z0])
              clear HX
              try clear z3
              try clear z2
              try clear z1
              try clear z0
              try clear k5
              try clear k4
              try clear k3
              try clear k2
              try clear k1
              go_enter Tryd.func55, Tryd.ntmps55
              go_wp2_with fail
              refine (HRt.out _).mono ?_
              rintro e w2 ⟨rfl, hb2⟩
              have HB := hide (HL.out.trans (hb2.mono HL.out.size))
              clear hb2
              go_wp2_with fail
              go_ret
              exact ⟨ret_bool HQ.out.symm, HB.out⟩
            · have n0 : ((ts.length : Int) == 0) = false := by rw [beq_eq_false_iff_ne]; omega
              have HQ := hide (show q = false by rw [HX.out]; simp [k2, hN, hO, z0])
              clear HX
              try clear z3
              try clear z2
              try clear z1
              try clear z0
              try clear k5
              try clear k4
              try clear k3
              try clear k2
              try clear k1
              go_enter Tryd.func55, Tryd.ntmps55
              go_wp2_with fail
              go_ret
              exact ⟨ret_bool HQ.out.symm, HL.out⟩
      · have b2 : (kd == 2) = false := by rw [beq_eq_false_iff_ne]; exact k2
        have HQ := hide (show q = false by rw [HX.out]; simp [k1, k2])
        clear HX
        try clear z3
        try clear z2
        try clear z1
        try clear z0
        try clear k5
        try clear k4
        try clear k3
        try clear k2
        try clear k1
        go_enter Tryd.func55, Tryd.ntmps55
        go_wp2_with fail
        go_ret
        exact ⟨ret_bool HQ.out.symm, HL.out⟩
  · cases p2 : (v2 == 0)
    · have HNn := hide (show nv = false by rw [HNv.out]; simp [*])
      obtain rfl := HNn.out
      clear HNn HNv
      simp only [Bool.false_and] at HX
      by_cases k1 : kd = 1
      · have b1 : (kd == 1) = true := by rw [beq_iff_eq]; exact k1
        have HQ := hide (show q = false by rw [HX.out]; simp [k1])
        clear HX
        try clear z3
        try clear z2
        try clear z1
        try clear z0
        try clear k5
        try clear k4
        try clear k3
        try clear k2
        try clear k1
        go_enter Tryd.func55, Tryd.ntmps55
        go_wp2_with fail
        go_ret
        exact ⟨ret_bool HQ.out.symm, HL.out⟩
      · have b1 : (kd == 1) = false := by rw [beq_eq_false_iff_ne]; exact k1
        by_cases k2 : kd = 2
        · have b2 : (kd == 2) = true := by rw [beq_iff_eq]; exact k2
          cases hN : (nm.toList == [])
          · have HQ := hide (show q = false by rw [HX.out]; simp [k2, hN])
            clear HX
            try clear z3
            try clear z2
            try clear z1
            try clear z0
            try clear k5
            try clear k4
            try clear k3
            try clear k2
            try clear k1
            go_enter Tryd.func55, Tryd.ntmps55
            go_wp2_with fail
            go_ret
            exact ⟨ret_bool HQ.out.symm, HL.out⟩
          · cases hO : (o.toList == [])
            · have HQ := hide (show q = false by rw [HX.out]; simp [k2, hN, hO])
              clear HX
              try clear z3
              try clear z2
              try clear z1
              try clear z0
              try clear k5
              try clear k4
              try clear k3
              try clear k2
              try clear k1
              go_enter Tryd.func55, Tryd.ntmps55
              go_wp2_with fail
              go_ret
              exact ⟨ret_bool HQ.out.symm, HL.out⟩
            · by_cases z0 : ts.length = 0
              · have n0 : ((ts.length : Int) == 0) = true := by rw [beq_iff_eq]; omega
                have HQ := hide (show q = rv by rw [HX.out]; simp [k2, hN, hO, z0])
                clear HX
                try clear z3
                try clear z2
                try clear z1
                try clear z0
                try clear k5
                try clear k4
                try clear k3
                try clear k2
                try clear k1
                go_enter Tryd.func55, Tryd.ntmps55
                go_wp2_with fail
                refine (HRt.out _).mono ?_
                rintro e w2 ⟨rfl, hb2⟩
                have HB := hide (HL.out.trans (hb2.mono HL.out.size))
                clear hb2
                go_wp2_with fail
                go_ret
                exact ⟨ret_bool HQ.out.symm, HB.out⟩
              · have n0 : ((ts.length : Int) == 0) = false := by rw [beq_eq_false_iff_ne]; omega
                have HQ := hide (show q = false by rw [HX.out]; simp [k2, hN, hO, z0])
                clear HX
                try clear z3
                try clear z2
                try clear z1
                try clear z0
                try clear k5
                try clear k4
                try clear k3
                try clear k2
                try clear k1
                go_enter Tryd.func55, Tryd.ntmps55
                go_wp2_with fail
                go_ret
                exact ⟨ret_bool HQ.out.symm, HL.out⟩
        · have b2 : (kd == 2) = false := by rw [beq_eq_false_iff_ne]; exact k2
          have HQ := hide (show q = false by rw [HX.out]; simp [k1, k2])
          clear HX
          try clear z3
          try clear z2
          try clear z1
          try clear z0
          try clear k5
          try clear k4
          try clear k3
          try clear k2
          try clear k1
          go_enter Tryd.func55, Tryd.ntmps55
          go_wp2_with fail
          go_ret
          exact ⟨ret_bool HQ.out.symm, HL.out⟩
    · cases p3 : (v3.toList == [])
      · have HNn := hide (show nv = false by rw [HNv.out]; simp [*])
        obtain rfl := HNn.out
        clear HNn HNv
        simp only [Bool.false_and] at HX
        by_cases k1 : kd = 1
        · have b1 : (kd == 1) = true := by rw [beq_iff_eq]; exact k1
          have HQ := hide (show q = false by rw [HX.out]; simp [k1])
          clear HX
          try clear z3
          try clear z2
          try clear z1
          try clear z0
          try clear k5
          try clear k4
          try clear k3
          try clear k2
          try clear k1
          go_enter Tryd.func55, Tryd.ntmps55
          go_wp2_with fail
          go_ret
          exact ⟨ret_bool HQ.out.symm, HL.out⟩
        · have b1 : (kd == 1) = false := by rw [beq_eq_false_iff_ne]; exact k1
          by_cases k2 : kd = 2
          · have b2 : (kd == 2) = true := by rw [beq_iff_eq]; exact k2
            cases hN : (nm.toList == [])
            · have HQ := hide (show q = false by rw [HX.out]; simp [k2, hN])
              clear HX
              try clear z3
              try clear z2
              try clear z1
              try clear z0
              try clear k5
              try clear k4
              try clear k3
              try clear k2
              try clear k1
              go_enter Tryd.func55, Tryd.ntmps55
              go_wp2_with fail
              go_ret
              exact ⟨ret_bool HQ.out.symm, HL.out⟩
            · cases hO : (o.toList == [])
              · have HQ := hide (show q = false by rw [HX.out]; simp [k2, hN, hO])
                clear HX
                try clear z3
                try clear z2
                try clear z1
                try clear z0
                try clear k5
                try clear k4
                try clear k3
                try clear k2
                try clear k1
                go_enter Tryd.func55, Tryd.ntmps55
                go_wp2_with fail
                go_ret
                exact ⟨ret_bool HQ.out.symm, HL.out⟩
              · by_cases z0 : ts.length = 0
                · have n0 : ((ts.length : Int) == 0) = true := by rw [beq_iff_eq]; omega
                  have HQ := hide (show q = rv by rw [HX.out]; simp [k2, hN, hO, z0])
                  clear HX
                  try clear z3
                  try clear z2
                  try clear z1
                  try clear z0
                  try clear k5
                  try clear k4
                  try clear k3
                  try clear k2
                  try clear k1
                  go_enter Tryd.func55, Tryd.ntmps55
                  go_wp2_with fail
                  refine (HRt.out _).mono ?_
                  rintro e w2 ⟨rfl, hb2⟩
                  have HB := hide (HL.out.trans (hb2.mono HL.out.size))
                  clear hb2
                  go_wp2_with fail
                  go_ret
                  exact ⟨ret_bool HQ.out.symm, HB.out⟩
                · have n0 : ((ts.length : Int) == 0) = false := by rw [beq_eq_false_iff_ne]; omega
                  have HQ := hide (show q = false by rw [HX.out]; simp [k2, hN, hO, z0])
                  clear HX
                  try clear z3
                  try clear z2
                  try clear z1
                  try clear z0
                  try clear k5
                  try clear k4
                  try clear k3
                  try clear k2
                  try clear k1
                  go_enter Tryd.func55, Tryd.ntmps55
                  go_wp2_with fail
                  go_ret
                  exact ⟨ret_bool HQ.out.symm, HL.out⟩
          · have b2 : (kd == 2) = false := by rw [beq_eq_false_iff_ne]; exact k2
            have HQ := hide (show q = false by rw [HX.out]; simp [k1, k2])
            clear HX
            try clear z3
            try clear z2
            try clear z1
            try clear z0
            try clear k5
            try clear k4
            try clear k3
            try clear k2
            try clear k1
            go_enter Tryd.func55, Tryd.ntmps55
            go_wp2_with fail
            go_ret
            exact ⟨ret_bool HQ.out.symm, HL.out⟩
      · have HNn := hide (show nv = true by rw [HNv.out]; simp [*])
        obtain rfl := HNn.out
        clear HNn HNv
        simp only [Bool.true_and] at HX
        by_cases k1 : kd = 1
        · have b1 : (kd == 1) = true := by rw [beq_iff_eq]; exact k1
          cases hO : (o.toList == [])
          · have HQ := hide (show q = false by rw [HX.out]; simp [k1, hO])
            clear HX
            try clear z3
            try clear z2
            try clear z1
            try clear z0
            try clear k5
            try clear k4
            try clear k3
            try clear k2
            try clear k1
            go_enter Tryd.func55, Tryd.ntmps55
            go_wp2_with fail
            go_ret
            exact ⟨ret_bool HQ.out.symm, HL.out⟩
          · by_cases z0 : ts.length = 0
            · have n0 : ((ts.length : Int) == 0) = true := by rw [beq_iff_eq]; omega
              have HQ := hide (show q = true by rw [HX.out]; simp [k1, hO, z0])
              clear HX
              try clear z3
              try clear z2
              try clear z1
              try clear z0
              try clear k5
              try clear k4
              try clear k3
              try clear k2
              try clear k1
              go_enter Tryd.func55, Tryd.ntmps55
              go_wp2_with fail
              go_ret
              exact ⟨ret_bool HQ.out.symm, HL.out⟩
            · have n0 : ((ts.length : Int) == 0) = false := by rw [beq_eq_false_iff_ne]; omega
              have HQ := hide (show q = false by rw [HX.out]; simp [k1, hO, z0])
              clear HX
              try clear z3
              try clear z2
              try clear z1
              try clear z0
              try clear k5
              try clear k4
              try clear k3
              try clear k2
              try clear k1
              go_enter Tryd.func55, Tryd.ntmps55
              go_wp2_with fail
              go_ret
              exact ⟨ret_bool HQ.out.symm, HL.out⟩
        · have b1 : (kd == 1) = false := by rw [beq_eq_false_iff_ne]; exact k1
          by_cases k2 : kd = 2
          · have b2 : (kd == 2) = true := by rw [beq_iff_eq]; exact k2
            cases hN : (nm.toList == [])
            · have HQ := hide (show q = false by rw [HX.out]; simp [k2, hN])
              clear HX
              try clear z3
              try clear z2
              try clear z1
              try clear z0
              try clear k5
              try clear k4
              try clear k3
              try clear k2
              try clear k1
              go_enter Tryd.func55, Tryd.ntmps55
              go_wp2_with fail
              go_ret
              exact ⟨ret_bool HQ.out.symm, HL.out⟩
            · cases hO : (o.toList == [])
              · have HQ := hide (show q = false by rw [HX.out]; simp [k2, hN, hO])
                clear HX
                try clear z3
                try clear z2
                try clear z1
                try clear z0
                try clear k5
                try clear k4
                try clear k3
                try clear k2
                try clear k1
                go_enter Tryd.func55, Tryd.ntmps55
                go_wp2_with fail
                go_ret
                exact ⟨ret_bool HQ.out.symm, HL.out⟩
              · by_cases z0 : ts.length = 0
                · have n0 : ((ts.length : Int) == 0) = true := by rw [beq_iff_eq]; omega
                  have HQ := hide (show q = rv by rw [HX.out]; simp [k2, hN, hO, z0])
                  clear HX
                  try clear z3
                  try clear z2
                  try clear z1
                  try clear z0
                  try clear k5
                  try clear k4
                  try clear k3
                  try clear k2
                  try clear k1
                  go_enter Tryd.func55, Tryd.ntmps55
                  go_wp2_with fail
                  refine (HRt.out _).mono ?_
                  rintro e w2 ⟨rfl, hb2⟩
                  have HB := hide (HL.out.trans (hb2.mono HL.out.size))
                  clear hb2
                  go_wp2_with fail
                  go_ret
                  exact ⟨ret_bool HQ.out.symm, HB.out⟩
                · have n0 : ((ts.length : Int) == 0) = false := by rw [beq_eq_false_iff_ne]; omega
                  have HQ := hide (show q = false by rw [HX.out]; simp [k2, hN, hO, z0])
                  clear HX
                  try clear z3
                  try clear z2
                  try clear z1
                  try clear z0
                  try clear k5
                  try clear k4
                  try clear k3
                  try clear k2
                  try clear k1
                  go_enter Tryd.func55, Tryd.ntmps55
                  go_wp2_with fail
                  go_ret
                  exact ⟨ret_bool HQ.out.symm, HL.out⟩
          · have b2 : (kd == 2) = false := by rw [beq_eq_false_iff_ne]; exact k2
            by_cases k3 : kd = 3
            · have b3 : (kd == 3) = true := by rw [beq_iff_eq]; exact k3
              cases hN : (nm.toList == [])
              · have HQ := hide (show q = false by rw [HX.out]; simp [k3, hN])
                clear HX
                try clear z3
                try clear z2
                try clear z1
                try clear z0
                try clear k5
                try clear k4
                try clear k3
                try clear k2
                try clear k1
                go_enter Tryd.func55, Tryd.ntmps55
                go_wp2_with fail
                go_ret
                exact ⟨ret_bool HQ.out.symm, HL.out⟩
              · by_cases z1 : ts.length = 1
                · have n1 : ((ts.length : Int) == 1) = true := by rw [beq_iff_eq]; omega
                  have HIn := hide (show Calls Tryd.prog 57 #[.string o, .slice (some ⟨w.heap.size + 1, 0, none⟩) 2 2] ((w.alloc (.cells (rxCells kd nm (v1, v2, v3) o A ts.length c) 45)).alloc (.cells #[.string ⟨#[45]⟩, .string ⟨#[110, 111, 116]⟩] 9)) fun e w' => e = .returned (.bool (inB o unL)) ∧ Below ((w.alloc (.cells (rxCells kd nm (v1, v2, v3) o A ts.length c) 45)).alloc (.cells #[.string ⟨#[45]⟩, .string ⟨#[110, 111, 116]⟩] 9)).heap.size ((w.alloc (.cells (rxCells kd nm (v1, v2, v3) o A ts.length c) 45)).alloc (.cells #[.string ⟨#[45]⟩, .string ⟨#[110, 111, 116]⟩] 9)) w' from by
                    have s1 : (w.alloc (.cells (rxCells kd nm (v1, v2, v3) o A ts.length c) 45)).heap.size = w.heap.size + 1 := by simp
                    have h := refIn_any o (some ⟨(w.alloc (.cells (rxCells kd nm (v1, v2, v3) o A ts.length c) 45)).heap.size, 0, none⟩) 2 unL ((w.alloc (.cells (rxCells kd nm (v1, v2, v3) o A ts.length c) 45)).alloc (.cells (unL.map Value.string).toArray 9)) (texts_new _ _) (by decide)
                    rw [s1] at h
                    exact h)
                  have HAl := hide (HL.out.alloc HL.out.size (.cells #[.string ⟨#[45]⟩, .string ⟨#[110, 111, 116]⟩] 9))
                  have HQ := hide (show q = inB o unL by rw [HX.out]; simp [k3, hN, z1])
                  clear HX
                  try clear z3
                  try clear z2
                  try clear z1
                  try clear z0
                  try clear k5
                  try clear k4
                  try clear k3
                  try clear k2
                  try clear k1
                  generalize inB o unL = bi at *
                  go_enter Tryd.func55, Tryd.ntmps55
                  go_wp2_with fail
                  refine HIn.out.mono ?_
                  rintro e w2 ⟨rfl, hb2⟩
                  have HB := hide (HAl.out.trans (hb2.mono HAl.out.size))
                  clear hb2
                  go_wp2_with fail
                  go_ret
                  exact ⟨ret_bool HQ.out.symm, HB.out⟩
                · have n1 : ((ts.length : Int) == 1) = false := by rw [beq_eq_false_iff_ne]; omega
                  have HQ := hide (show q = false by rw [HX.out]; simp [k3, hN, z1])
                  clear HX
                  try clear z3
                  try clear z2
                  try clear z1
                  try clear z0
                  try clear k5
                  try clear k4
                  try clear k3
                  try clear k2
                  try clear k1
                  go_enter Tryd.func55, Tryd.ntmps55
                  go_wp2_with fail
                  go_ret
                  exact ⟨ret_bool HQ.out.symm, HL.out⟩
            · have b3 : (kd == 3) = false := by rw [beq_eq_false_iff_ne]; exact k3
              by_cases k4 : kd = 4
              · have b4 : (kd == 4) = true := by rw [beq_iff_eq]; exact k4
                cases hN : (nm.toList == [])
                · have HQ := hide (show q = false by rw [HX.out]; simp [k4, hN])
                  clear HX
                  try clear z3
                  try clear z2
                  try clear z1
                  try clear z0
                  try clear k5
                  try clear k4
                  try clear k3
                  try clear k2
                  try clear k1
                  go_enter Tryd.func55, Tryd.ntmps55
                  go_wp2_with fail
                  go_ret
                  exact ⟨ret_bool HQ.out.symm, HL.out⟩
                · by_cases z2 : ts.length = 2
                  · have n2 : ((ts.length : Int) == 2) = true := by rw [beq_iff_eq]; omega
                    have HIn := hide (show Calls Tryd.prog 57 #[.string o, .slice (some ⟨w.heap.size + 1, 0, none⟩) 13 13] ((w.alloc (.cells (rxCells kd nm (v1, v2, v3) o A ts.length c) 45)).alloc (.cells #[.string ⟨#[43]⟩, .string ⟨#[45]⟩, .string ⟨#[42]⟩, .string ⟨#[47]⟩, .string ⟨#[37]⟩, .string ⟨#[61]⟩, .string ⟨#[33, 61]⟩, .string ⟨#[60]⟩, .string ⟨#[60, 61]⟩, .string ⟨#[62]⟩, .string ⟨#[62, 61]⟩, .string ⟨#[97, 110, 100]⟩, .string ⟨#[111, 114]⟩] 9)) fun e w' => e = .returned (.bool (inB o biL)) ∧ Below ((w.alloc (.cells (rxCells kd nm (v1, v2, v3) o A ts.length c) 45)).alloc (.cells #[.string ⟨#[43]⟩, .string ⟨#[45]⟩, .string ⟨#[42]⟩, .string ⟨#[47]⟩, .string ⟨#[37]⟩, .string ⟨#[61]⟩, .string ⟨#[33, 61]⟩, .string ⟨#[60]⟩, .string ⟨#[60, 61]⟩, .string ⟨#[62]⟩, .string ⟨#[62, 61]⟩, .string ⟨#[97, 110, 100]⟩, .string ⟨#[111, 114]⟩] 9)).heap.size ((w.alloc (.cells (rxCells kd nm (v1, v2, v3) o A ts.length c) 45)).alloc (.cells #[.string ⟨#[43]⟩, .string ⟨#[45]⟩, .string ⟨#[42]⟩, .string ⟨#[47]⟩, .string ⟨#[37]⟩, .string ⟨#[61]⟩, .string ⟨#[33, 61]⟩, .string ⟨#[60]⟩, .string ⟨#[60, 61]⟩, .string ⟨#[62]⟩, .string ⟨#[62, 61]⟩, .string ⟨#[97, 110, 100]⟩, .string ⟨#[111, 114]⟩] 9)) w' from by
                      have s1 : (w.alloc (.cells (rxCells kd nm (v1, v2, v3) o A ts.length c) 45)).heap.size = w.heap.size + 1 := by simp
                      have h := refIn_any o (some ⟨(w.alloc (.cells (rxCells kd nm (v1, v2, v3) o A ts.length c) 45)).heap.size, 0, none⟩) 13 biL ((w.alloc (.cells (rxCells kd nm (v1, v2, v3) o A ts.length c) 45)).alloc (.cells (biL.map Value.string).toArray 9)) (texts_new _ _) (by decide)
                      rw [s1] at h
                      exact h)
                    have HAl := hide (HL.out.alloc HL.out.size (.cells #[.string ⟨#[43]⟩, .string ⟨#[45]⟩, .string ⟨#[42]⟩, .string ⟨#[47]⟩, .string ⟨#[37]⟩, .string ⟨#[61]⟩, .string ⟨#[33, 61]⟩, .string ⟨#[60]⟩, .string ⟨#[60, 61]⟩, .string ⟨#[62]⟩, .string ⟨#[62, 61]⟩, .string ⟨#[97, 110, 100]⟩, .string ⟨#[111, 114]⟩] 9))
                    have HQ := hide (show q = inB o biL by rw [HX.out]; simp [k4, hN, z2])
                    clear HX
                    try clear z3
                    try clear z2
                    try clear z1
                    try clear z0
                    try clear k5
                    try clear k4
                    try clear k3
                    try clear k2
                    try clear k1
                    generalize inB o biL = bi at *
                    go_enter Tryd.func55, Tryd.ntmps55
                    go_wp2_with fail
                    refine HIn.out.mono ?_
                    rintro e w2 ⟨rfl, hb2⟩
                    have HB := hide (HAl.out.trans (hb2.mono HAl.out.size))
                    clear hb2
                    go_wp2_with fail
                    go_ret
                    exact ⟨ret_bool HQ.out.symm, HB.out⟩
                  · have n2 : ((ts.length : Int) == 2) = false := by rw [beq_eq_false_iff_ne]; omega
                    have HQ := hide (show q = false by rw [HX.out]; simp [k4, hN, z2])
                    clear HX
                    try clear z3
                    try clear z2
                    try clear z1
                    try clear z0
                    try clear k5
                    try clear k4
                    try clear k3
                    try clear k2
                    try clear k1
                    go_enter Tryd.func55, Tryd.ntmps55
                    go_wp2_with fail
                    go_ret
                    exact ⟨ret_bool HQ.out.symm, HL.out⟩
              · have b4 : (kd == 4) = false := by rw [beq_eq_false_iff_ne]; exact k4
                by_cases k5 : kd = 5
                · have b5 : (kd == 5) = true := by rw [beq_iff_eq]; exact k5
                  cases hO : (o.toList == [])
                  · have HQ := hide (show q = false by rw [HX.out]; simp [k5, hO])
                    clear HX
                    try clear z3
                    try clear z2
                    try clear z1
                    try clear z0
                    try clear k5
                    try clear k4
                    try clear k3
                    try clear k2
                    try clear k1
                    go_enter Tryd.func55, Tryd.ntmps55
                    go_wp2_with fail
                    go_ret
                    exact ⟨ret_bool HQ.out.symm, HL.out⟩
                  · by_cases z1 : ts.length = 1
                    · have n1 : ((ts.length : Int) == 1) = true := by rw [beq_iff_eq]; omega
                      have n2 : ((ts.length : Int) == 2) = false := by rw [beq_eq_false_iff_ne]; omega
                      have n3 : ((ts.length : Int) == 3) = false := by rw [beq_eq_false_iff_ne]; omega
                      have HIn := hide (show Calls Tryd.prog 57 #[.string nm, .slice (some ⟨w.heap.size + 1, 0, none⟩) 3 3] ((w.alloc (.cells (rxCells kd nm (v1, v2, v3) o A ts.length c) 45)).alloc (.cells #[.string ⟨#[108, 101, 110]⟩, .string ⟨#[97, 98, 115]⟩, .string ⟨#[105, 115, 110, 117, 108, 108]⟩] 9)) fun e w' => e = .returned (.bool (inB nm c1L)) ∧ Below ((w.alloc (.cells (rxCells kd nm (v1, v2, v3) o A ts.length c) 45)).alloc (.cells #[.string ⟨#[108, 101, 110]⟩, .string ⟨#[97, 98, 115]⟩, .string ⟨#[105, 115, 110, 117, 108, 108]⟩] 9)).heap.size ((w.alloc (.cells (rxCells kd nm (v1, v2, v3) o A ts.length c) 45)).alloc (.cells #[.string ⟨#[108, 101, 110]⟩, .string ⟨#[97, 98, 115]⟩, .string ⟨#[105, 115, 110, 117, 108, 108]⟩] 9)) w' from by
                        have s1 : (w.alloc (.cells (rxCells kd nm (v1, v2, v3) o A ts.length c) 45)).heap.size = w.heap.size + 1 := by simp
                        have h := refIn_any nm (some ⟨(w.alloc (.cells (rxCells kd nm (v1, v2, v3) o A ts.length c) 45)).heap.size, 0, none⟩) 3 c1L ((w.alloc (.cells (rxCells kd nm (v1, v2, v3) o A ts.length c) 45)).alloc (.cells (c1L.map Value.string).toArray 9)) (texts_new _ _) (by decide)
                        rw [s1] at h
                        exact h)
                      have HAl := hide (HL.out.alloc HL.out.size (.cells #[.string ⟨#[108, 101, 110]⟩, .string ⟨#[97, 98, 115]⟩, .string ⟨#[105, 115, 110, 117, 108, 108]⟩] 9))
                      have HQ := hide (show q = inB nm c1L by rw [HX.out]; simp [k5, hO, z1])
                      clear HX
                      try clear z3
                      try clear z2
                      try clear z1
                      try clear z0
                      try clear k5
                      try clear k4
                      try clear k3
                      try clear k2
                      try clear k1
                      generalize inB nm c1L = bi at *
                      cases bi
                      all_goals
                        go_enter Tryd.func55, Tryd.ntmps55
                        go_wp2_with fail
                        refine HIn.out.mono ?_
                        rintro e w2 ⟨rfl, hb2⟩
                        have HB := hide (HAl.out.trans (hb2.mono HAl.out.size))
                        clear hb2
                        go_wp2_with fail
                        go_ret
                        exact ⟨ret_bool HQ.out.symm, HB.out⟩
                    · have n1 : ((ts.length : Int) == 1) = false := by rw [beq_eq_false_iff_ne]; omega
                      by_cases z2 : ts.length = 2
                      · have n2 : ((ts.length : Int) == 2) = true := by rw [beq_iff_eq]; omega
                        have n3 : ((ts.length : Int) == 3) = false := by rw [beq_eq_false_iff_ne]; omega
                        have HIn := hide (show Calls Tryd.prog 57 #[.string nm, .slice (some ⟨w.heap.size + 1, 0, none⟩) 2 2] ((w.alloc (.cells (rxCells kd nm (v1, v2, v3) o A ts.length c) 45)).alloc (.cells #[.string ⟨#[99, 97, 116]⟩, .string ⟨#[101, 105, 116, 104, 101, 114]⟩] 9)) fun e w' => e = .returned (.bool (inB nm c2L)) ∧ Below ((w.alloc (.cells (rxCells kd nm (v1, v2, v3) o A ts.length c) 45)).alloc (.cells #[.string ⟨#[99, 97, 116]⟩, .string ⟨#[101, 105, 116, 104, 101, 114]⟩] 9)).heap.size ((w.alloc (.cells (rxCells kd nm (v1, v2, v3) o A ts.length c) 45)).alloc (.cells #[.string ⟨#[99, 97, 116]⟩, .string ⟨#[101, 105, 116, 104, 101, 114]⟩] 9)) w' from by
                          have s1 : (w.alloc (.cells (rxCells kd nm (v1, v2, v3) o A ts.length c) 45)).heap.size = w.heap.size + 1 := by simp
                          have h := refIn_any nm (some ⟨(w.alloc (.cells (rxCells kd nm (v1, v2, v3) o A ts.length c) 45)).heap.size, 0, none⟩) 2 c2L ((w.alloc (.cells (rxCells kd nm (v1, v2, v3) o A ts.length c) 45)).alloc (.cells (c2L.map Value.string).toArray 9)) (texts_new _ _) (by decide)
                          rw [s1] at h
                          exact h)
                        have HAl := hide (HL.out.alloc HL.out.size (.cells #[.string ⟨#[99, 97, 116]⟩, .string ⟨#[101, 105, 116, 104, 101, 114]⟩] 9))
                        have HQ := hide (show q = inB nm c2L by rw [HX.out]; simp [k5, hO, z2])
                        clear HX
                        try clear z3
                        try clear z2
                        try clear z1
                        try clear z0
                        try clear k5
                        try clear k4
                        try clear k3
                        try clear k2
                        try clear k1
                        generalize inB nm c2L = bi at *
                        cases bi
                        all_goals
                          go_enter Tryd.func55, Tryd.ntmps55
                          go_wp2_with fail
                          refine HIn.out.mono ?_
                          rintro e w2 ⟨rfl, hb2⟩
                          have HB := hide (HAl.out.trans (hb2.mono HAl.out.size))
                          clear hb2
                          go_wp2_with fail
                          go_ret
                          exact ⟨ret_bool HQ.out.symm, HB.out⟩
                      · have n2 : ((ts.length : Int) == 2) = false := by rw [beq_eq_false_iff_ne]; omega
                        by_cases z3 : ts.length = 3
                        · have n3 : ((ts.length : Int) == 3) = true := by rw [beq_iff_eq]; omega
                          cases hI : (nm.toList == [105, 102])
                          · have HQ := hide (show q = false by rw [HX.out]; simp [k5, hO, z3, hI])
                            clear HX
                            try clear z3
                            try clear z2
                            try clear z1
                            try clear z0
                            try clear k5
                            try clear k4
                            try clear k3
                            try clear k2
                            try clear k1
                            go_enter Tryd.func55, Tryd.ntmps55
                            go_wp2_with fail
                            go_ret
                            exact ⟨ret_bool HQ.out.symm, HL.out⟩
                          · have HQ := hide (show q = true by rw [HX.out]; simp [k5, hO, z3, hI])
                            clear HX
                            try clear z3
                            try clear z2
                            try clear z1
                            try clear z0
                            try clear k5
                            try clear k4
                            try clear k3
                            try clear k2
                            try clear k1
                            go_enter Tryd.func55, Tryd.ntmps55
                            go_wp2_with fail
                            go_ret
                            exact ⟨ret_bool HQ.out.symm, HL.out⟩
                        · have n3 : ((ts.length : Int) == 3) = false := by rw [beq_eq_false_iff_ne]; omega
                          have HQ := hide (show q = false by rw [HX.out]; simp [k5, hO, z1, z2, z3])
                          clear HX
                          try clear z3
                          try clear z2
                          try clear z1
                          try clear z0
                          try clear k5
                          try clear k4
                          try clear k3
                          try clear k2
                          try clear k1
                          go_enter Tryd.func55, Tryd.ntmps55
                          go_wp2_with fail
                          go_ret
                          exact ⟨ret_bool HQ.out.symm, HL.out⟩
                · have b5 : (kd == 5) = false := by rw [beq_eq_false_iff_ne]; exact k5
                  have HQ := hide (show q = false by rw [HX.out]; simp [k1, k2, k3, k4, k5])
                  clear HX
                  try clear z3
                  try clear z2
                  try clear z1
                  try clear z0
                  try clear k5
                  try clear k4
                  try clear k3
                  try clear k2
                  try clear k1
                  go_enter Tryd.func55, Tryd.ntmps55
                  go_wp2_with fail
                  go_ret
                  exact ⟨ret_bool HQ.out.symm, HL.out⟩
end Go.Proofs.YteenhmniikloiaaDoor
namespace Go.Proofs.YteenhmniikloiaaDoor
open Go.RowKit

theorem find_n (p : RL → Bool) (n : Int) : ∀ l : List RL, (∀ r ∈ l, p r = true → r.n = n) → (l.find? p).map RL.n = if l.any p = true then some n else none
  | [], _ => rfl
  | r :: l, h => by
    rw [List.find?_cons, List.any_cons]
    cases hp : p r
    · rw [Bool.false_or]
      exact find_n p n l fun r hr => h r (List.mem_cons_of_mem _ hr)
    · rw [Bool.true_or, if_pos rfl]
      show some r.n = _
      rw [h r (List.mem_cons_self ..) hp]
theorem hit_k {kd : Int} {w : ByteArray} {r : RL} (h : hitR kd w r = true) : r.k = kd := by
  unfold hitR at h
  rw [Bool.and_eq_true, beq_iff_eq] at h
  exact h.1
theorem rule3 (w : ByteArray) : (ruleOf 3 w).map RL.n = if inB w unL = true then some 1 else none := by
  refine (find_n (hitR 3 w) 1 rulesL fun r hr h => ?_).trans ?_
  · have : ∀ r ∈ rulesL, r.k = 3 → r.n = 1 := by decide
    exact this r hr (hit_k h)
  · rw [show rulesL.any (hitR 3 w) = inB w unL from rfl]
theorem rule4 (w : ByteArray) : (ruleOf 4 w).map RL.n = if inB w biL = true then some 2 else none := by
  refine (find_n (hitR 4 w) 2 rulesL fun r hr h => ?_).trans ?_
  · have : ∀ r ∈ rulesL, r.k = 4 → r.n = 2 := by decide
    exact this r hr (hit_k h)
  · rw [show rulesL.any (hitR 4 w) = inB w biL from rfl]
theorem rule5 (w : ByteArray) : (ruleOf 5 w).map RL.n = if inB w c1L = true then some 1 else if inB w c2L = true then some 2 else if (w.toList == [105, 102]) = true then some 3 else none := by
  have e : ruleOf 5 w = ((rulesL.take 18).find? (hitR 5 w)).or ((((rulesL.drop 18).take 2).find? (hitR 5 w)).or ((rulesL.drop 20).find? (hitR 5 w))) := by
    rw [← List.find?_append, ← List.find?_append]
    rfl
  rw [e, Option.map_or, Option.map_or]
  rw [find_n (hitR 5 w) 1 (rulesL.take 18) (fun r hr h => (by decide : ∀ r ∈ rulesL.take 18, r.k = 5 → r.n = 1) r hr (hit_k h))]
  rw [find_n (hitR 5 w) 2 ((rulesL.drop 18).take 2) (fun r hr h => (by decide : ∀ r ∈ (rulesL.drop 18).take 2, r.k = 5 → r.n = 2) r hr (hit_k h))]
  rw [find_n (hitR 5 w) 3 (rulesL.drop 20) (fun r hr h => (by decide : ∀ r ∈ rulesL.drop 20, r.k = 5 → r.n = 3) r hr (hit_k h))]
  rw [show (rulesL.take 18).any (hitR 5 w) = inB w c1L from rfl, show ((rulesL.drop 18).take 2).any (hitR 5 w) = inB w c2L from rfl]
  rw [show (rulesL.drop 20).any (hitR 5 w) = ((⟨#[105, 102]⟩ : ByteArray).toList == w.toList || false) from rfl, Bool.or_false, Lib.toList_data ⟨#[105, 102]⟩, BEq.comm]
  cases inB w c1L <;> cases inB w c2L <;> cases hI : (w.toList == [105, 102]) <;> rfl
theorem c1_not {w : ByteArray} (h : inB w c1L = true) : inB w c2L = false ∧ (w.toList == [105, 102]) = false := by
  simp only [inB, c1L, c2L, List.any_cons, List.any_nil, Lib.toList_data, Bool.or_eq_true, beq_iff_eq] at h ⊢
  rcases h with h | h | h | h
  · rw [← h]; decide
  · rw [← h]; decide
  · rw [← h]; decide
  · exact absurd h (by decide)
theorem c2_not {w : ByteArray} (h : inB w c2L = true) : (w.toList == [105, 102]) = false := by
  simp only [inB, c2L, List.any_cons, List.any_nil, Lib.toList_data, Bool.or_eq_true, beq_iff_eq] at h ⊢
  rcases h with h | h | h
  · rw [← h]; decide
  · rw [← h]; decide
  · exact absurd h (by decide)
theorem rule_none (w : ByteArray) (kd : Int) (h3 : ¬ kd = 3) (h4 : ¬ kd = 4) (h5 : ¬ kd = 5) : ruleOf kd w = none := by
  refine List.find?_eq_none.2 fun r hr h => ?_
  have : ∀ r ∈ rulesL, r.k = 3 ∨ r.k = 4 ∨ r.k = 5 := by decide
  have hk := hit_k h
  rcases this r hr with e | e | e <;> omega
def isN (o : Option Int) (m : Int) : Bool := match o with
  | some n => m == n
  | none => false
/-- What the rules say of kind, word and number. -/
theorem ruleX_of {x : XT} {o : Option Int} (h1 : ¬ x.kind = 1) (h2 : ¬ x.kind = 2) (h : (ruleOf x.kind (wordX x)).map RL.n = o) (m : Int) :
    ((ruleX x).2 && (m == (ruleX x).1.n)) = isN o m := by
  unfold ruleX
  rw [if_neg (by omega)]
  subst h
  cases ruleOf x.kind (wordX x) <;> rfl
theorem len_beq (n m : Nat) : ((n : Int) == (m : Int)) = decide (n = m) := by
  rw [Bool.eq_iff_iff, beq_iff_eq, decide_eq_true_iff]
  omega
theorem len1 (n : Nat) : ((n : Int) == 1) = decide (n = 1) := len_beq n 1
theorem len2 (n : Nat) : ((n : Int) == 2) = decide (n = 2) := len_beq n 2
theorem len3 (n : Nat) : ((n : Int) == 3) = decide (n = 3) := len_beq n 3
theorem formR_formed (x : XT) : formR x = formedX x := by
  unfold formedX
  by_cases k1 : x.kind = 1
  · have e : ruleX x = (dR, true) := by unfold ruleX; rw [if_pos (Or.inl k1)]
    rw [e]
    unfold formR tailF
    rw [if_pos k1, if_neg (by omega), if_neg (by omega)]
    show _ = (true && (((x.args.length : Int) == ((0 : Nat) : Int)) && _))
    rw [len_beq]
    cases nullV x.val <;> cases (x.op.toList == []) <;> cases decide (x.args.length = 0) <;> rfl
  by_cases k2 : x.kind = 2
  · have e : ruleX x = (dR, true) := by unfold ruleX; rw [if_pos (Or.inr k2)]
    rw [e]
    unfold formR tailF
    rw [if_neg k1, if_pos k2, if_pos k2]
    show _ = (true && (((x.args.length : Int) == ((0 : Nat) : Int)) && _))
    rw [len_beq]
    cases (x.name.toList == []) <;> cases (x.op.toList == []) <;> cases decide (x.args.length = 0) <;> cases rightV x.val.1 x.val.2.1 x.val.2.2 <;> rfl
  rw [← Bool.and_assoc]
  by_cases k3 : x.kind = 3
  · rw [ruleX_of k1 k2 (show (ruleOf x.kind (wordX x)).map RL.n = if inB x.op unL = true then some 1 else none by rw [show wordX x = x.op by unfold wordX; exact if_neg (by omega), k3]; exact rule3 _)]
    unfold formR tailF
    rw [if_neg k1, if_neg k2, if_pos k3, if_neg k2, if_pos (Or.inl k3)]
    cases inB x.op unL <;> cases nullV x.val <;> cases (x.name.toList == []) <;> simp [isN, len1]
  by_cases k4 : x.kind = 4
  · rw [ruleX_of k1 k2 (show (ruleOf x.kind (wordX x)).map RL.n = if inB x.op biL = true then some 2 else none by rw [show wordX x = x.op by unfold wordX; exact if_neg (by omega), k4]; exact rule4 _)]
    unfold formR tailF
    rw [if_neg k1, if_neg k2, if_neg k3, if_pos k4, if_neg k2, if_pos (Or.inr k4)]
    cases inB x.op biL <;> cases nullV x.val <;> cases (x.name.toList == []) <;> simp [isN, len2]
  by_cases k5 : x.kind = 5
  · rw [ruleX_of k1 k2 (show (ruleOf x.kind (wordX x)).map RL.n = if inB x.name c1L = true then some 1 else if inB x.name c2L = true then some 2 else if (x.name.toList == [105, 102]) = true then some 3 else none by rw [show wordX x = x.name by unfold wordX; exact if_pos k5, k5]; exact rule5 _)]
    unfold formR tailF
    rw [if_neg k1, if_neg k2, if_neg k3, if_neg k4, if_pos k5, if_neg k2, if_neg (show ¬ (x.kind = 3 ∨ x.kind = 4) from by omega)]
    cases h1 : inB x.name c1L
    · cases h2 : inB x.name c2L
      · cases hI : (x.name.toList == [105, 102]) <;> cases nullV x.val <;> cases (x.op.toList == []) <;> simp [isN, len3]
      · rw [c2_not h2]
        cases nullV x.val <;> cases (x.op.toList == []) <;> simp [isN, len2]
    · rw [(c1_not h1).1, (c1_not h1).2]
      cases nullV x.val <;> cases (x.op.toList == []) <;> simp [isN, len1]
  · have e : (ruleX x).2 = false := by
      unfold ruleX
      rw [if_neg (by omega), rule_none _ _ k3 k4 k5]
    rw [e, Bool.false_and, Bool.false_and]
    unfold formR
    rw [if_neg k1, if_neg k2, if_neg k3, if_neg k4, if_neg k5, Bool.and_false]
end Go.Proofs.YteenhmniikloiaaDoor
