/-
  The law's ref: the same expression, in the reference's form.
  The law's typed: the type, or the error, that the document gives an expression over a schema.
  smallSchema: may a schema be gone through?
-/
import Derived.Test.YteenhmniikloiaaDoorMRefA
import Derived.Deep.AppendLies
import Derived.Deep.RegionLaw
import Derived.Test.YteenhmniikloiaaDoorMRefT
import Derived.Test.YteenhmniikloiaaDoorETop
import Derived.Test.YteenhmniikloiaaDoorEStrip
import Derived.Test.YteenhmniikloiaaDoorSCols
import Derived.BigQuiet
namespace Go.Proofs.YteenhmniikloiaaDoor
open Go.RowKit

/-- The cells of expressions of the reference, one behind the other. -/
def flatR (us : List XT) : List Value := us.flatMap fun u => [.int .i64 u.kind, .string u.name, .string u.op, .int .i64 u.val.1, .int .i64 u.val.2.1, .string u.val.2.2, .slice u.adr u.args.length u.cap]
theorem flatR_len (us : List XT) : (flatR us).length = us.length * 7 := by
  induction us with
  | nil => rfl
  | cons u r ih =>
    show (_ ++ flatR r).length = _
    rw [List.length_append, ih, List.length_cons]
    simp only [List.length_cons, List.length_nil]
    omega
theorem flatR_snoc (us : List XT) (u : XT) : flatR (us ++ [u]) = flatR us ++ [.int .i64 u.kind, .string u.name, .string u.op, .int .i64 u.val.1, .int .i64 u.val.2.1, .string u.val.2.2, .slice u.adr u.args.length u.cap] := by simp [flatR]
theorem flatR_at : ∀ (us : List XT) (j : Nat), j < us.length → ∀ i, i < 7 → (flatR us)[j * 7 + i]? = (rxCells (us.getD j dX).kind (us.getD j dX).name (us.getD j dX).val (us.getD j dX).op (us.getD j dX).adr (us.getD j dX).args.length (us.getD j dX).cap)[i]?
  | [], j, h, _, _ => by simp at h
  | u :: r, 0, _, i, hi => by
    show (_ ++ flatR r)[0 * 7 + i]? = _
    rw [Nat.zero_mul, Nat.zero_add, List.getElem?_append_left (by simpa using hi)]
    rcases (by omega : i = 0 ∨ i = 1 ∨ i = 2 ∨ i = 3 ∨ i = 4 ∨ i = 5 ∨ i = 6) with rfl | rfl | rfl | rfl | rfl | rfl | rfl <;> rfl
  | u :: r, j + 1, h, i, hi => by
    show (_ ++ flatR r)[(j + 1) * 7 + i]? = _
    rw [List.getElem?_append_right (by simp only [List.length_cons, List.length_nil]; omega)]
    have := flatR_at r j (by simpa using h) i hi
    rw [show (j + 1) * 7 + i - ([.int .i64 u.kind, .string u.name, .string u.op, .int .i64 u.val.1, .int .i64 u.val.2.1, .string u.val.2.2, .slice u.adr u.args.length u.cap] : List Value).length = j * 7 + i by simp only [List.length_cons, List.length_nil]; omega]
    exact this
/-- A row of the call's own that holds these expressions reads as them. -/
theorem rargs_of_row {w : World} {base : Nat} {v : Value} {us : List XT} (h : w.ownsRow base 45 7 v us.length (flatR us)) (hl : ∀ u ∈ us, LiesR w.heap.size w u) :
    ∃ A c, v = .slice A us.length c ∧ (A = none → c = 0) ∧ (∀ a, A = some a → base ≤ a.block) ∧ RArgsAt w.heap.size w A us := by
  rcases h.2 with ⟨rfl, hn⟩ | ⟨g, cap, cur, rfl, hb, hg, _, _, _, hx⟩
  · have : us = [] := List.eq_nil_of_length_eq_zero hn
    subst this
    exact ⟨none, 0, rfl, (fun _ => rfl), (fun a ha => by cases ha), (fun j hj => by simp at hj)⟩
  · refine ⟨some ⟨g, 0, none⟩, cap, rfl, (fun h => by cases h), (fun a ha => by injection ha with ha; rw [← ha]; exact hb), fun j hj => ?_⟩
    have hc : ∀ i, i < 7 → w.cell? ⟨g, 0 + j * 7 + i, none⟩ = (rxCells (us.getD j dX).kind (us.getD j dX).name (us.getD j dX).val (us.getD j dX).op (us.getD j dX).adr (us.getD j dX).args.length (us.getD j dX).cap)[i]? := fun i hi => by
      rw [Nat.zero_add, Lib.cell_of_heap hg, ← flatR_at us j hj i hi, ← hx, List.getElem?_take_of_lt (by omega)]
      simp
    refine ⟨g, 0, rfl, (Array.getElem?_eq_some_iff.1 hg).1, ⟨hc 0 (by omega), hc 1 (by omega), hc 2 (by omega), hc 3 (by omega), hc 4 (by omega), hc 5 (by omega), hc 6 (by omega)⟩, hl _ ?_⟩
    rw [List.getD_eq_getElem?_getD, List.getElem?_eq_getElem hj]
    exact List.getElem_mem hj
theorem rexpr_one (y : XT) : ∀ u ∈ ([.int .i64 y.kind, .string y.name, .string y.op, .int .i64 y.val.1, .int .i64 y.val.2.1, .string y.val.2.2, .slice y.adr y.args.length y.cap] : List Value), u.oneCell' = true := fun u hu => by
  simp only [List.mem_cons, List.not_mem_nil, or_false] at hu
  rcases hu with rfl | rfl | rfl | rfl | rfl | rfl | rfl <;> rfl
theorem rexpr_info : (Tryd.prog.info? 45).map (fun i => (i.zero, i.size, i.bytes)) = some (some (.agg #[.int .i64 0, .string ⟨#[]⟩, .string ⟨#[]⟩, .int .i64 0, .int .i64 0, .string ⟨#[]⟩, .slice none 0 0]), 7, 96) := by kernel_rfl
theorem stripXs_snoc {us ts : List XT} {y : XT} {k : Nat} (hk : k < ts.length) (h : stripXs us = stripXs (ts.take k)) (hy : stripX y = stripX (ts.getD k dX)) : stripXs (us ++ [y]) = stripXs (ts.take (k + 1)) := by
  rw [stripXs_append, h, List.take_add_one, List.getElem?_eq_getElem hk, stripXs_append]
  rw [List.getD_eq_getElem?_getD, List.getElem?_eq_getElem hk, Option.getD_some] at hy
  show stripXs (ts.take k) ++ [stripX y] = stripXs (ts.take k) ++ stripXs [ts[k]]
  rw [hy]
  rfl
abbrev rzero7 : Array Value := #[.int .i64 0, .string ⟨#[]⟩, .string ⟨#[]⟩, .int .i64 0, .int .i64 0, .string ⟨#[]⟩, .slice none 0 0]
abbrev rbox7 (x : XT) (v : Value) : Array Value := #[.int .i64 x.kind, .string x.name, .string x.op, .int .i64 x.val.1, .int .i64 x.val.2.1, .string x.val.2.2, v]
/-- What holds ahead of round k of ref's loop. -/
def RefI (w : World) (x : XT) (wr : World) (k : Nat) (v : Value) (us : List XT) : Prop :=
  wr.heap[w.heap.size]? = some (.cells (eCells x.kind x.name x.val x.op x.adr x.args.length x.cap) 32 (0, 0)) ∧ wr.heap[w.heap.size + 1]? = some (.cells rzero7 45 (0, 0)) ∧ wr.heap[w.heap.size + 2]? = some (.cells (rbox7 x v) 45 (0, 0)) ∧ wr.ownsRow (w.heap.size + 3) 45 7 v us.length (flatR us) ∧
  (∀ u ∈ us, LiesR wr.heap.size wr u ∧ newX (w.heap.size + 3) u ∧ ∀ g, v.ownBlock = some g → offX g u) ∧ stripXs us = stripXs (x.args.take k) ∧ k = us.length ∧ Below w.heap.size w wr
def refW (w : World) (x : XT) : World := ((w.alloc (.cells (eCells x.kind x.name x.val x.op x.adr x.args.length x.cap) 32)).alloc (.cells rzero7 45)).alloc (.cells (rbox7 x (.slice none 0 0)) 45)
theorem refW_size (w : World) (x : XT) : (refW w x).heap.size = w.heap.size + 3 := by simp [refW]
theorem refI_init (w : World) (x : XT) : RefI w x (refW w x) 0 (.slice none 0 0) [] := by
  have s1 : (w.alloc (.cells (eCells x.kind x.name x.val x.op x.adr x.args.length x.cap) 32)).heap.size = w.heap.size + 1 := by simp
  have s2 : ((w.alloc (.cells (eCells x.kind x.name x.val x.op x.adr x.args.length x.cap) 32)).alloc (.cells rzero7 45)).heap.size = w.heap.size + 2 := by simp
  have h1 := heap_alloc_new (w.alloc (.cells (eCells x.kind x.name x.val x.op x.adr x.args.length x.cap) 32)) (.cells rzero7 45)
  have h2 := heap_alloc_new ((w.alloc (.cells (eCells x.kind x.name x.val x.op x.adr x.args.length x.cap) 32)).alloc (.cells rzero7 45)) (.cells (rbox7 x (.slice none 0 0)) 45)
  rw [s1] at h1
  rw [s2] at h2
  refine ⟨?_, ?_, h2, World.ownsRow_nil _ _ _ _, fun u hu => by simp at hu, rfl, rfl, ?_⟩
  · show (refW w x).heap[w.heap.size]? = _
    unfold refW
    rw [Below.heap_alloc _ _ _ (by rw [s2]; omega), Below.heap_alloc _ _ _ (by rw [s1]; omega)]
    exact heap_alloc_new w _
  · show (refW w x).heap[w.heap.size + 1]? = _
    unfold refW
    rw [Below.heap_alloc _ _ _ (by rw [s2]; omega)]
    exact h1
  · exact (Joins.below_alloc2 w _ _).alloc (by rw [s2]; omega) _
theorem refI_step {w wr w2 w3 : World} {x : XT} {k : Nat} {v v' : Value} {us : List XT} {y : XT} {o1 : Obj} (hI : RefI w x wr k v us) (hk : k < x.args.length) (hst : stripX y = stripX (x.args.getD k dX))
    (hly : LiesR w2.heap.size w2 y) (hny : newX wr.heap.size y) (hb2 : Below wr.heap.size wr w2)
    (hown : w3.ownsRow (w.heap.size + 3) 45 7 v' (us.length + 1) (flatR us ++ [.int .i64 y.kind, .string y.name, .string y.op, .int .i64 y.val.1, .int .i64 y.val.2.1, .string y.val.2.2, .slice y.adr y.args.length y.cap]))
    (hg : (w2.alloc o1).grownBy w3 v.ownBlock) (hat : v'.ownBlock = v.ownBlock ∨ v'.ownBlock = some (w2.alloc o1).heap.size) :
    RefI w x (w3.setCell ⟨w.heap.size + 2, 6, none⟩ v') (k + 1) v' (us ++ [y]) := by
  obtain ⟨i0, iz, i1, i2, i3, i4, i5, i6⟩ := hI
  have hH : w.heap.size + 2 < wr.heap.size := (Array.getElem?_eq_some_iff.1 i1).1
  have hs2 := hb2.size
  have hW : (w2.alloc o1).heap.size = w2.heap.size + 1 := by simp
  have hs3 := hg.size
  have hown0 : ∀ g, v.ownBlock = some g → w.heap.size + 3 ≤ g ∧ g < wr.heap.size := i2.lt
  have hsame : ∀ b, b < w2.heap.size → (∀ g, v.ownBlock = some g → b ≠ g) → w3.heap[b]? = w2.heap[b]? := fun b hb hne => by
    rw [hg.block b (by omega) (fun e => hne b e.symm rfl)]
    rw [Below.heap_alloc _ _ _ hb]
  have hr3 : w3.heap[w.heap.size]? = some (.cells (eCells x.kind x.name x.val x.op x.adr x.args.length x.cap) 32 (0, 0)) := by
    rw [hsame _ (by omega) (fun g hgg e => by have := hown0 g hgg; omega), hb2.block _ (by omega)]
    exact i0
  have hz3 : w3.heap[w.heap.size + 1]? = some (.cells rzero7 45 (0, 0)) := by
    rw [hsame _ (by omega) (fun g hgg e => by have := hown0 g hgg; omega), hb2.block _ (by omega)]
    exact iz
  have hb3 : w3.heap[w.heap.size + 2]? = some (.cells (rbox7 x v) 45 (0, 0)) := by
    rw [hsame _ (by omega) (fun g hgg e => by have := hown0 g hgg; omega), hb2.block _ (by omega)]
    exact i1
  have hszf : (w3.setCell ⟨w.heap.size + 2, 6, none⟩ v').heap.size = w3.heap.size := by simp
  have hsetH : ∀ b, w.heap.size + 3 ≤ b → (w3.setCell ⟨w.heap.size + 2, 6, none⟩ v').heap[b]? = w3.heap[b]? := fun b hb => Below.heap_setCell _ _ _ _ (by simp only; omega)
  have hto : ∀ B u, B ≤ w2.heap.size → LiesR B w2 u → newX (w.heap.size + 3) u → (∀ g, v.ownBlock = some g → offX g u) → LiesR B (w3.setCell ⟨w.heap.size + 2, 6, none⟩ v') u := fun B u hB h1 h2 h3 => by
    have h4 : LiesR B w3 u := by
      rcases ho : v.ownBlock with _ | g
      · exact h1.off (lo := 0) (h2.mono (by omega)) (fun b _ hb => hsame b (by omega) (fun g hg => by rw [ho] at hg; cases hg))
      · exact h1.but (h3 g ho) (fun b hb hlt => hsame b (by omega) (fun g' hg' => by rw [ho] at hg'; injection hg' with hg'; omega))
    exact h4.off h2 (fun b hb _ => hsetH b hb)
  have hyN : newX (w.heap.size + 3) y := hny.mono (by omega)
  have hyO : ∀ g, v.ownBlock = some g → offX g y := fun g hg => hny.offX (hown0 g hg).2
  refine ⟨?_, ?_, ?_, ?_, ?_, stripXs_snoc hk i4 hst, ?_, ?_⟩
  · rw [Below.heap_setCell _ _ _ _ (by simp only; omega)]; exact hr3
  · rw [Below.heap_setCell _ _ _ _ (by simp only; omega)]; exact hz3
  · have := Joins.block_setCell (i := 6) hb3 v'
    rw [this]
    simp [rbox7]
  · rw [flatR_snoc, List.length_append]
    exact ownsRow_setCell_below hown (by simp only; omega) _
  · intro u hu
    rcases List.mem_append.1 hu with hu | hu
    · obtain ⟨a1, a2, a3⟩ := i3 u hu
      refine ⟨by rw [hszf]; exact (hto wr.heap.size u hs2 (a1.keep hb2) a2 a3).mono (by omega), a2, fun g hgg => ?_⟩
      rcases hat with h | h
      · exact a3 g (h.symm.trans hgg)
      · rw [hgg] at h
        injection h with h
        exact a1.offX_of (by omega)
    · have hu : u = y := by simpa using hu
      subst hu
      refine ⟨by rw [hszf]; exact (hto w2.heap.size u (Nat.le_refl _) hly hyN hyO).mono (by omega), hyN, fun g hgg => ?_⟩
      rcases hat with h | h
      · exact hyO g (h.symm.trans hgg)
      · rw [hgg] at h
        injection h with h
        exact hly.offX_of (by omega)
  · rw [List.length_append, i5]; rfl
  · have h6 := (i6.trans (hb2.mono (by omega)))
    have h7 := h6.alloc (by omega) o1
    exact (h7.grown hg (by omega) (fun g hgg => by have := hown0 g hgg; omega)).setCell (by simp only; omega) _
theorem ref_store {w wr w2 w3 : World} {x : XT} {k : Nat} {v v' : Value} {us : List XT} {o1 : Obj} {n : Nat} {xs : List Value} (hI : RefI w x wr k v us) (hb2 : Below wr.heap.size wr w2) (hown : w3.ownsRow (w.heap.size + 3) 45 7 v' n xs) (hg : (w2.alloc o1).grownBy w3 v.ownBlock) :
    w3.cell? ⟨w.heap.size + 2, 6, none⟩ = some v ∧ w3.frozen? ⟨w.heap.size + 2, 6, none⟩ = false ∧ w.heap.size + 2 < w3.heap.size ∧ ∃ A m c, v' = .slice A m c := by
  obtain ⟨i0, _, i1, i2, i3, i4, i5, i6⟩ := hI
  have hH : w.heap.size + 2 < wr.heap.size := (Array.getElem?_eq_some_iff.1 i1).1
  have hs2 := hb2.size
  have hs3 := hg.size
  simp at hs3
  have hb3 : w3.heap[w.heap.size + 2]? = some (.cells (rbox7 x v) 45 (0, 0)) := by
    rw [hg.block _ (by simp; omega) (fun e => by have := i2.lt _ e.symm; omega), Below.heap_alloc _ _ _ (by omega), hb2.block _ (by omega)]
    exact i1
  refine ⟨?_, Lib.frozen_of_heap hb3 6, by omega, ?_⟩
  · have q6 := Lib.cell_of_heap hb3 6
    simpa only [rbox7, List.getElem?_toArray, List.getElem?_cons_zero, List.getElem?_cons_succ] using q6
  · rcases hown.2 with ⟨h, _⟩ | ⟨g, cap, cur, h, _⟩
    · exact ⟨_, _, _, h⟩
    · exact ⟨_, _, _, h⟩
/-- The seven stores of the result. -/
def set7R (w : World) (P : Nat) (x : XT) : World :=
  ((((((w.setCell ⟨P, 0, none⟩ (.int .i64 x.kind)).setCell ⟨P, 1, none⟩ (.string x.name)).setCell ⟨P, 2, none⟩ (.string x.op)).setCell ⟨P, 3, none⟩ (.int .i64 x.val.1)).setCell ⟨P, 4, none⟩ (.int .i64 x.val.2.1)).setCell ⟨P, 5, none⟩ (.string x.val.2.2)).setCell ⟨P, 6, none⟩ (.slice x.adr x.args.length x.cap)
theorem set7R_size (w : World) (P : Nat) (x : XT) : (set7R w P x).heap.size = w.heap.size := by simp [set7R]
theorem set7R_heap (w : World) {P b : Nat} (x : XT) (h : b ≠ P) : (set7R w P x).heap[b]? = w.heap[b]? := by
  unfold set7R
  rw [Below.heap_setCell _ _ _ _ h, Below.heap_setCell _ _ _ _ h, Below.heap_setCell _ _ _ _ h, Below.heap_setCell _ _ _ _ h, Below.heap_setCell _ _ _ _ h, Below.heap_setCell _ _ _ _ h, Below.heap_setCell _ _ _ _ h]
theorem set7R_below {w w0 : World} {P B : Nat} (x : XT) (h : Below B w0 w) (hP : B ≤ P) : Below B w0 (set7R w P x) := by
  unfold set7R
  exact ((((((h.setCell hP _).setCell hP _).setCell hP _).setCell hP _).setCell hP _).setCell hP _).setCell hP _
/-- What ref does at expressions up to this size. -/
def RefOk (N : Nat) : Prop := ∀ (x : XT) (w : World), szX x ≤ N → szX x ≤ 1000000 → LiesX w.heap.size w x →
  Calls Tryd.prog 16 #[vX x] w fun e w' => (∃ y, e = .returned (vR y) ∧ stripX y = stripX x ∧ LiesR w'.heap.size w' y ∧ newX w.heap.size y) ∧ Below w.heap.size w w'
set_option maxHeartbeats 3200000 in
set_option maxRecDepth 100000 in
theorem ref_step (N : Nat) (hih : RefOk N) (kd : Int) (nm : ByteArray) (v1 v2 : Int) (v3 : ByteArray) (o : ByteArray) (A : Option Addr) (c : Nat) (ts : List XT) (w : World)
    (hN : szX (.mk kd nm (v1, v2, v3) o A c ts) ≤ N + 1) (hz : szX (.mk kd nm (v1, v2, v3) o A c ts) ≤ 1000000) (hx : LiesX w.heap.size w (.mk kd nm (v1, v2, v3) o A c ts)) :
    Calls Tryd.prog 16 #[.agg (eCells kd nm (v1, v2, v3) o A ts.length c)] w fun e w' => (∃ y, e = .returned (vR y) ∧ stripX y = stripX (.mk kd nm (v1, v2, v3) o A c ts) ∧ LiesR w'.heap.size w' y ∧ newX w.heap.size y) ∧ Below w.heap.size w w' := by
  have ih := hide hih
  have e1 : szX (.mk kd nm (v1, v2, v3) o A c ts) = 1 + szXs ts := rfl
  have hlen := len_szXs ts
  have hal := boxE_below w (.mk kd nm (v1, v2, v3) o A c ts)
  have HX := hide (hx.on hal)
  have HL := hide hal
  rw [e1] at hN hz
  have HX0 := hide hx
  clear hx hal hih e1
  go_enter Tryd.func16, Tryd.ntmps16
  go_wp2_with fail
  have HI := hide (refI_init w (.mk kd nm (v1, v2, v3) o A c ts))
  have HWE := hide (show refW w (.mk kd nm (v1, v2, v3) o A c ts) = ((w.alloc (.cells (eCells kd nm (v1, v2, v3) o A ts.length c) 32)).alloc (.cells rzero7 45)).alloc (.cells #[.int .i64 kd, .string nm, .string o, .int .i64 v1, .int .i64 v2, .string v3, .slice none 0 0] 45) from rfl)
  rw [← HWE.out]
  generalize refW w (.mk kd nm (v1, v2, v3) o A c ts) = W at *
  clear HWE
  go_loopw [26] (fun vk wr => ∃ (k : Nat) (v : Value) (us : List XT), k ≤ ts.length ∧ vk = .int .i64 k ∧ RefI w (.mk kd nm (v1, v2, v3) o A c ts) wr k v us) (fun vk _ => ts.length - (intOf vk).toNat)
  case atStart => exact ⟨0, _, [], Nat.zero_le _, rfl, HI.out⟩
  case round =>
    obtain ⟨k, v, us, hkl, rfl, hI⟩ := hrel
    have HIk := hide hI
    obtain ⟨i0, iz, i1, i2, i3, i4, i5, i6⟩ := hI
    by_cases hlt : k < ts.length
    · obtain ⟨b, off, hadr, hb, h7, hly⟩ := (HX0.out.keep i6).at (j := k) hlt
      simp only [XT.adr, XT.args] at hadr h7 hly
      have hy := szXs_at hlt
      have hs6 := i6.size
      have HCall := hide (fun w' (h : Below wr.heap.size wr w') => ih.out (ts.getD k dX) w' (by omega) (by omega) ((hly.mono i6.size).on h))
      have HStrip := hide (show ∀ y, stripX y = stripX (ts.getD k dX) → stripX y = stripX ((XT.mk kd nm (v1, v2, v3) o A c ts).args.getD k dX) from fun y h => h)
      subst hadr
      generalize ts.getD k dX = y at *
      have hb' : b < wr.heap.size := Nat.lt_of_lt_of_le hb hs6
      obtain ⟨g0, g1, g2, g3, g4, g5, g6⟩ := h7
      have q6 := Lib.cell_of_heap i1 6
      have qf := Lib.frozen_of_heap i1 6
      simp only [rbox7, List.getElem?_toArray, List.getElem?_cons_zero, List.getElem?_cons_succ] at q6
      have hH : w.heap.size + 2 < wr.heap.size := (Array.getElem?_eq_some_iff.1 i1).1
      have HRow := hide i2
      clear hly i0 iz i1 i2 i3 i4 i5 i6
      have HK := hide hlt
      have hz0 : (wr.alloc (.cells (eCells y.kind y.name y.val y.op y.adr y.args.length y.cap) 32)).drew.heap.size = wr.heap.size + 1 := by simp
      have hbel : Below wr.heap.size wr (wr.alloc (.cells (eCells y.kind y.name y.val y.op y.adr y.args.length y.cap) 32)).drew := (Joins.below_alloc1 wr _).drew
      have HC2 := hide (show Calls Tryd.prog 16 #[.agg #[.int .i64 y.kind, .string y.name, .int .i64 y.val.1, .int .i64 y.val.2.1, .string y.val.2.2, .string y.op, .slice y.adr y.args.length y.cap]] (wr.alloc (.cells (eCells y.kind y.name y.val y.op y.adr y.args.length y.cap) 32)).drew fun e w2 => ∃ yr, e = .returned (.agg #[.int .i64 yr.kind, .string yr.name, .string yr.op, .int .i64 yr.val.1, .int .i64 yr.val.2.1, .string yr.val.2.2, .slice yr.adr yr.args.length yr.cap]) ∧ stripX yr = stripX y ∧ LiesR w2.heap.size w2 yr ∧ newX wr.heap.size yr ∧ Below wr.heap.size wr w2 ∧
          w2.cell? ⟨w.heap.size + 2, 6, none⟩ = some v ∧ w2.frozen? ⟨w.heap.size + 2, 6, none⟩ = false ∧ w.heap.size + 2 < w2.heap.size ∧ (w2.alloc (.cells #[.int .i64 yr.kind, .string yr.name, .string yr.op, .int .i64 yr.val.1, .int .i64 yr.val.2.1, .string yr.val.2.2, .slice yr.adr yr.args.length yr.cap] 45)).ownsRow (w.heap.size + 3) 45 7 v us.length (flatR us) from
        (HCall.out _ hbel).mono fun e w2 hh => by
          obtain ⟨⟨yr, h1, h2, h3, h4⟩, h5⟩ := hh
          have hb : Below wr.heap.size wr w2 := then_below hbel h5
          have hs := hb.size
          exact ⟨yr, h1, h2, h3, h4.mono (by omega), hb, (hb.cell (p := ⟨w.heap.size + 2, 6, none⟩) hH).trans q6, (hb.frozen (p := ⟨w.heap.size + 2, 6, none⟩) hH).trans qf, by omega, (HRow.out.kept (only_of_below hb none) (by cases v.ownBlock <;> simp)).alloc _⟩)
      obtain ⟨i0', hi, hy0, hy1, hy2⟩ := info_parts rexpr_info
      have hus : us.length ≤ 1000000 := by have := HIk.out.2.2.2.2.2.2.1; omega
      clear HCall hbel
      go_wp2_with fail
      go_region_law (first
        | (refine step_append_lies _ (by rfl) _ _ _ (by rfl) (w.heap.size + 3) 45 i0' (.agg #[.int .i64 0, .string ⟨#[]⟩, .string ⟨#[]⟩, .int .i64 0, .int .i64 0, .string ⟨#[]⟩, .slice none 0 0]) 7 96 Tryd.underlying43 hi hy0 hy1 hy2 rfl (by decide) v us.length (flatR us) (by rfl) HOwn.out ⟨w2.heap.size, 0, none⟩ 1 1 [.int .i64 yr.kind, .string yr.name, .string yr.op, .int .i64 yr.val.1, .int .i64 yr.val.2.1, .string yr.val.2.2, .slice yr.adr yr.args.length yr.cap] (by rfl) (by rfl) (cells_new _ _ _ _ rfl) (rexpr_one yr) (by decide) (by unfold maxLen; omega) (by omega) (by simp; omega) _ rfl ?_; intro gg cg w3 hown3 hgrow3 hat3 hlt3; have HStep := hide (refI_step HIk.out hlt (HStrip.out _ HSt.out) HLy.out HNy.out HB2.out hown3 hgrow3 (hat3.elim (fun h => Or.inl h.symm) (fun h => Or.inr (congrArg some h)))); obtain ⟨r6, rf, hs3, -⟩ := ref_store HIk.out HB2.out hown3 hgrow3; clear hown3 hgrow3 hat3)
        | (go_simp; go_at_call 16; refine HC2.out.mono ?_; rintro e w2 ⟨yr, rfl, hst, hly, hny, hb2, p6, pf, hs2, hown2⟩; have HSt := hide hst; have HLy := hide hly; have HNy := hide hny; have HB2 := hide hb2; have HOwn := hide hown2; clear hst hly hny hb2 hown2))
      all_goals
        go_wp2_with fail
        go_roundw
        case rel => exact ⟨k + 1, _, us ++ [yr], HK.out, by go_num, HStep.out⟩
        case measure => have hk1 := HK.out; simp only [intOf]; omega
    · obtain rfl : k = ts.length := by omega
      obtain ⟨A', c', rfl, hnn, hnb, hargs⟩ := rargs_of_row i2 (fun u hu => (i3 u hu).1)
      have e0 := Lib.cell_of_heap i1 0; have e1 := Lib.cell_of_heap i1 1; have e2 := Lib.cell_of_heap i1 2; have e3 := Lib.cell_of_heap i1 3; have e4 := Lib.cell_of_heap i1 4; have e5 := Lib.cell_of_heap i1 5; have e6 := Lib.cell_of_heap i1 6
      have r0 := Lib.cell_of_heap iz 0; have r1 := Lib.cell_of_heap iz 1; have r2 := Lib.cell_of_heap iz 2; have r3 := Lib.cell_of_heap iz 3; have r4 := Lib.cell_of_heap iz 4; have r5 := Lib.cell_of_heap iz 5; have r6 := Lib.cell_of_heap iz 6
      have f0 := Lib.frozen_of_heap iz 0; have f1 := Lib.frozen_of_heap iz 1; have f2 := Lib.frozen_of_heap iz 2; have f3 := Lib.frozen_of_heap iz 3; have f4 := Lib.frozen_of_heap iz 4; have f5 := Lib.frozen_of_heap iz 5; have f6 := Lib.frozen_of_heap iz 6
      simp only [rbox7, rzero7, XT.kind, XT.name, XT.val, XT.op, List.getElem?_toArray, List.getElem?_cons_zero, List.getElem?_cons_succ] at e0 e1 e2 e3 e4 e5 e6 r0 r1 r2 r3 r4 r5 r6
      have hnx : newX (w.heap.size + 3) (.mk kd nm (v1, v2, v3) o A' c' us) := ⟨fun a ha => hnb a ha, newXs_of fun j hj => (i3 _ (by rw [List.getD_eq_getElem?_getD, List.getElem?_eq_getElem hj]; exact List.getElem_mem hj)).2.1⟩
      have hz1 : w.heap.size + 1 < wr.heap.size := (Array.getElem?_eq_some_iff.1 iz).1
      have hz2 : w.heap.size + 2 < wr.heap.size := (Array.getElem?_eq_some_iff.1 i1).1
      have HLi := hide (show LiesR (set7R wr (w.heap.size + 1) (.mk kd nm (v1, v2, v3) o A' c' us)).heap.size (set7R wr (w.heap.size + 1) (.mk kd nm (v1, v2, v3) o A' c' us)) (.mk kd nm (v1, v2, v3) o A' c' us) by
        rw [set7R_size]
        exact (hargs.lies hnn).off hnx fun b hb _ => set7R_heap _ _ (by omega))
      have HSt := hide (show stripX (.mk kd nm (v1, v2, v3) o A' c' us) = stripX (.mk kd nm (v1, v2, v3) o A c ts) by
        have h4 := i4
        simp only [XT.args, List.take_length] at h4
        show XT.mk kd nm (v1, v2, v3) o none 0 (stripXs us) = XT.mk kd nm (v1, v2, v3) o none 0 (stripXs ts)
        rw [h4])
      have HNw := hide (show newX w.heap.size (.mk kd nm (v1, v2, v3) o A' c' us) from hnx.mono (by omega))
      have HBl := hide (show Below w.heap.size w (set7R wr (w.heap.size + 1) (.mk kd nm (v1, v2, v3) o A' c' us)) from set7R_below _ i6 (by omega))
      clear i0 iz i1 i2 i3 i4 i5 i6 hnn hnb hargs hnx HIk HX HX0 HI HL ih
      go_wp2_with fail
      refine bodyPost_ret (v := vR (.mk kd nm (v1, v2, v3) o A' c' us)) (by simp [results, Tryd.results16, go_sem, r0, r1, r2, r3, r4, r5, r6, vR, XT.kind, XT.name, XT.val, XT.op, XT.adr, XT.args, XT.cap]) rfl ?_
      exact ⟨⟨.mk kd nm (v1, v2, v3) o A' c' us, rfl, HSt.out, HLi.out, HNw.out⟩, HBl.out⟩
/-- ref gives the same expression in the reference's form. -/
theorem ref_ok (N : Nat) : RefOk N := by
  induction N with
  | zero => intro x w hN; have := szX_pos x; omega
  | succ N ih =>
    intro x w hN hz hx
    obtain ⟨kd, nm, ⟨v1, v2, v3⟩, o, A, c, ts⟩ := x
    exact ref_step N ih kd nm v1 v2 v3 o A c ts w hN hz hx
end Go.Proofs.YteenhmniikloiaaDoor
namespace Go.Proofs.YteenhmniikloiaaDoor
open Go.RowKit

theorem types_ok {cs : List (ByteArray × Int)} (h : checkC cs = 0) : ∀ j, j < cs.length → ¬ (cs.getD j (⟨#[]⟩, 0)).2 = 0 := fun j hj e => by
  have := (badC_name ((checkC_ok h).2.2 j hj)).2.1
  omega
theorem same_typeX {cs : List (ByteArray × Int)} {x y : XT} {d : Int} (h : stripX y = stripX x) : typeX cs y d = typeX cs x d := by rw [← typeX_strip cs y, h, typeX_strip]
theorem after_below {a b c : World} (k : Below b.heap.size b c) (h : Below a.heap.size a b) : Below a.heap.size a c := then_below h k
theorem refBox_at {w w' : World} {y : XT} (h : Below (boxR w y).heap.size (boxR w y) w') : w'.cell? ⟨w.heap.size, 0, none⟩ = some (.int .i64 y.kind) ∧ w'.cell? ⟨w.heap.size, 1, none⟩ = some (.string y.name) ∧ w'.cell? ⟨w.heap.size, 2, none⟩ = some (.string y.op) ∧ w'.cell? ⟨w.heap.size, 3, none⟩ = some (.int .i64 y.val.1) ∧ w'.cell? ⟨w.heap.size, 4, none⟩ = some (.int .i64 y.val.2.1) ∧ w'.cell? ⟨w.heap.size, 5, none⟩ = some (.string y.val.2.2) ∧ w'.cell? ⟨w.heap.size, 6, none⟩ = some (.slice y.adr y.args.length y.cap) ∧ w.heap.size < w'.heap.size := boxR_at h
set_option maxHeartbeats 3200000 in
set_option maxRecDepth 100000 in
theorem typed_any (S : Option Addr) (c : Nat) (cs : List (ByteArray × Int)) (x : XT) (w : World) (hw : Wf cs) (hl : cs.length ≤ 65536) (hz : szX x ≤ 1000000) (hx : LiesX w.heap.size w x) (hwf : wfX x) (hC : ColsAt w.heap.size w S cs) :
    Calls Tryd.prog 13 #[.agg #[.int .i64 x.kind, .string x.name, .int .i64 x.val.1, .int .i64 x.val.2.1, .string x.val.2.2, .string x.op, .slice x.adr x.args.length x.cap], .slice S cs.length c] w fun e w' => e = .returned (tyV (typeTop cs x)) ∧ Below w.heap.size w w' := by
  have hal := boxE_below w x
  have HBox := hide (fun w' => boxE_at (w := w) (x := x) (w' := w'))
  have HSc := hide (fun w' (h : Below (boxE w x).heap.size (boxE w x) w') => refSchema_any S c cs w' ((hC.on hal).on h) hl)
  have HCk := hide (fun A' c' w' h => refCheck_any A' c' cs w' h hw)
  have HRf := hide (fun w' (h : Below (boxE w x).heap.size (boxE w x) w') => ref_ok (szX x) x w' (Nat.le_refl _) hz ((hx.on hal).on h))
  have HSz := hide (fun (y : XT) w' (hs : stripX y = stripX x) (h : LiesR w'.heap.size w' y) => (refSize_ok (szX x) y w' (by rw [← szX_strip y, hs, szX_strip]; exact Nat.le_refl _) (by rw [← szX_strip y, hs, szX_strip]; exact hz) h).mono fun e w1 (hh : e = .returned (.int .i64 (szX y : Nat)) ∧ Below w'.heap.size w' w1) => (⟨by rw [hh.1, ← szX_strip y, hs, szX_strip], hh.2⟩ : e = .returned (.int .i64 (szX x : Nat)) ∧ Below w'.heap.size w' w1))
  have HTy := hide (fun (h0 : checkC cs = 0) A' c' (y : XT) w' (hs : stripX y = stripX x) (h : LiesR w'.heap.size w' y) (hc : ColsAt w'.heap.size w' A' cs) => (refType_ok A' c' cs hw.1 (types_ok h0) (szX x) y 1 w' (by rw [← szX_strip y, hs, szX_strip]; exact Nat.le_refl _) (by rw [← szX_strip y, hs, szX_strip]; exact hz) h ((same_wf hs).1 hwf) hc (by omega) (by omega)).mono fun e w1 (hh : e = .returned (tyV (typeX cs y 1)) ∧ Below w'.heap.size w' w1) => (⟨by rw [hh.1, same_typeX hs], hh.2⟩ : e = .returned (tyV (typeX cs x 1)) ∧ Below w'.heap.size w' w1))
  have HT := hide (show typeTop cs x = if checkC cs = 0 then (if 256 < szX x then (0, 31) else typeX cs x 1) else (0, checkC cs) from rfl)
  have HL := hide hal
  have HWE := hide (show boxE w x = w.alloc (.cells #[.int .i64 x.kind, .string x.name, .int .i64 x.val.1, .int .i64 x.val.2.1, .string x.val.2.2, .string x.op, .slice x.adr x.args.length x.cap] 32) from rfl)
  generalize typeTop cs x = q at HT ⊢
  generalize typeX cs x 1 = tx at *
  generalize boxE w x = W at *
  clear hal hx hwf hC
  obtain ⟨c0, c1, c2, c3, c4, c5, c6, cz⟩ := HBox.out _ (Below.refl _ _)
  by_cases h0 : checkC cs = 0
  · have hk0 : (checkC cs != 0) = false := by rw [bne_eq_false_iff_eq]; exact h0
    have HTy2 := hide (HTy.out h0)
    rw [if_pos h0] at HT
    rw [h0] at HCk
    clear h0 HTy
    go_enter Tryd.func13, Tryd.ntmps13
    go_wp2_with fail
    rw [← HWE.out]
    refine (HSc.out _ (Below.refl _ _)).mono ?_
    rintro e w1 ⟨⟨A1, k1, rfl, hc1⟩, hb1⟩
    have HB1 := hide hb1
    have HC1 := hide hc1
    clear hb1 hc1 c0 c1 c2 c3 c4 c5 c6 cz
    go_wp2_with fail
    refine (HCk.out _ _ _ HC1.out).mono ?_
    rintro e w2 ⟨rfl, hb2⟩
    have HB2 := hide (then_below HB1.out hb2)
    obtain ⟨c0, c1, c2, c3, c4, c5, c6, cz⟩ := HBox.out _ HB2.out
    clear hb2
    go_wp2_with fail
    refine (HRf.out _ HB2.out).mono ?_
    rintro e w3 ⟨⟨y, rfl, hst, hly, -⟩, hb3⟩
    have HB3 := hide (then_below HB2.out hb3)
    have HSt := hide hst
    have HLy := hide (hly.on (boxR_below w3 y))
    have HWR := hide (show boxR w3 y = w3.alloc (.cells #[.int .i64 y.kind, .string y.name, .string y.op, .int .i64 y.val.1, .int .i64 y.val.2.1, .string y.val.2.2, .slice y.adr y.args.length y.cap] 45) from rfl)
    have HBR := hide (fun w' => refBox_at (w := w3) (y := y) (w' := w'))
    have HB4 := hide (then_below HB3.out (boxR_below w3 y))
    rw [show vR y = .agg #[.int .i64 y.kind, .string y.name, .string y.op, .int .i64 y.val.1, .int .i64 y.val.2.1, .string y.val.2.2, .slice y.adr y.args.length y.cap] from rfl]
    clear hb3 hst hly c0 c1 c2 c3 c4 c5 c6 cz
    obtain ⟨g0, g1, g2, g3, g4, g5, g6, gz⟩ := HBR.out _ (Below.refl _ _)
    go_wp2_with fail
    rw [← HWR.out]
    generalize boxR w3 y = W4 at *
    clear HWR
    refine (HSz.out y _ HSt.out HLy.out).mono ?_
    rintro e w5 ⟨rfl, hb5⟩
    have HB5 := hide hb5
    clear hb5 g0 g1 g2 g3 g4 g5 g6 gz
    obtain ⟨g0, g1, g2, g3, g4, g5, g6, gz⟩ := HBR.out _ HB5.out
    by_cases hn : 256 < szX x
    · have hn' : (256 : Int) < (szX x : Nat) := by omega
      have HQ := hide (show q = (0, 31) by rw [HT.out, if_pos hn])
      clear HT hn
      go_wp2_with fail
      go_ret2
      exact ⟨by rw [HQ.out]; rfl, HL.out.trans ((then_below HB4.out HB5.out).mono HL.out.size)⟩
    · have hn' : ¬ (256 : Int) < (szX x : Nat) := by omega
      have HQ := hide (show q = tx by rw [HT.out, if_neg hn])
      clear HT hn
      have HS2 := hide (show Calls Tryd.prog 35 #[.slice S cs.length c] w5.drew fun e w6 => ∃ A6 k6, e = .returned (.slice A6 cs.length k6) ∧ w6.cell? ⟨w3.heap.size, 0, none⟩ = some (.int .i64 y.kind) ∧ w6.cell? ⟨w3.heap.size, 1, none⟩ = some (.string y.name) ∧ w6.cell? ⟨w3.heap.size, 2, none⟩ = some (.string y.op) ∧ w6.cell? ⟨w3.heap.size, 3, none⟩ = some (.int .i64 y.val.1) ∧ w6.cell? ⟨w3.heap.size, 4, none⟩ = some (.int .i64 y.val.2.1) ∧ w6.cell? ⟨w3.heap.size, 5, none⟩ = some (.string y.val.2.2) ∧ w6.cell? ⟨w3.heap.size, 6, none⟩ = some (.slice y.adr y.args.length y.cap) ∧
          Hid (Calls Tryd.prog 36 #[.agg #[.int .i64 y.kind, .string y.name, .string y.op, .int .i64 y.val.1, .int .i64 y.val.2.1, .string y.val.2.2, .slice y.adr y.args.length y.cap], .slice A6 cs.length k6, .int .i64 1] w6 fun e w7 => e = .returned (tyV tx) ∧ Below w.heap.size w w7) from
        (HSc.out _ (then_below HB4.out (HB5.out.drew))).mono fun e w6 hh => by
          obtain ⟨⟨A6, k6, h1, h2⟩, h3⟩ := hh
          have h4 : Below W4.heap.size W4 w6 := then_below HB5.out.drew h3
          obtain ⟨p0, p1, p2, p3, p4, p5, p6, -⟩ := HBR.out _ h4
          exact ⟨A6, k6, h1, p0, p1, p2, p3, p4, p5, p6, hide ((HTy2.out _ _ y w6 HSt.out (HLy.out.on h4) h2).mono fun e w7 h7 => ⟨h7.1, HL.out.trans ((then_below (then_below HB4.out h4) h7.2).mono HL.out.size)⟩)⟩)
      go_wp2_with fail
      go_region_with (first
        | (go_at_call 36; refine HTz.out.mono ?_; rintro e w7 ⟨rfl, hb7⟩; have HB7 := hide hb7; clear hb7)
        | (go_at_call 35; refine HS2.out.mono ?_; rintro e w6 ⟨A6, k6, rfl, p0, p1, p2, p3, p4, p5, p6, HTz⟩))
      all_goals
        go_wp2_with fail
        go_ret2
        exact ⟨by rw [HQ.out]; rfl, HB7.out⟩
  · have hk0 : (checkC cs != 0) = true := by rw [bne_iff_ne]; exact h0
    have HQ := hide (show q = (0, checkC cs) by rw [HT.out, if_neg h0])
    generalize checkC cs = ck at *
    clear HT HTy h0 HRf HSz
    go_enter Tryd.func13, Tryd.ntmps13
    go_wp2_with fail
    rw [← HWE.out]
    refine (HSc.out _ (Below.refl _ _)).mono ?_
    rintro e w1 ⟨⟨A1, k1, rfl, hc1⟩, hb1⟩
    have HB1 := hide hb1
    have HC1 := hide hc1
    clear hb1 hc1 c0 c1 c2 c3 c4 c5 c6 cz
    go_wp2_with fail
    refine (HCk.out _ _ _ HC1.out).mono ?_
    rintro e w2 ⟨rfl, hb2⟩
    have HB2 := hide (then_below HB1.out hb2)
    clear hb2
    go_wp2_with fail
    go_ret2
    exact ⟨by rw [HQ.out]; rfl, HL.out.trans (HB2.out.mono HL.out.size)⟩
end Go.Proofs.YteenhmniikloiaaDoor
namespace Go.Proofs.YteenhmniikloiaaDoor
open Go.RowKit

def okC (c : ByteArray × Int) : Bool := decide (c.1.size ≤ 50)
def smallC (cs : List (ByteArray × Int)) : Bool := cs.all okC && decide (cs.length ≤ 20)
theorem smallC_no {cs : List (ByteArray × Int)} {k : Nat} (hk : k < cs.length) (h : okC (cs.getD k (⟨#[]⟩, 0)) = false) : smallC cs = false := by
  unfold smallC
  have : cs.all okC = false := by
    rw [List.all_eq_false]
    rw [List.getD_eq_getElem?_getD, List.getElem?_eq_getElem hk] at h
    exact ⟨_, List.getElem_mem hk, by simpa using h⟩
  rw [this]; rfl
theorem smallC_all {cs : List (ByteArray × Int)} (h : ∀ j, j < cs.length → okC (cs.getD j (⟨#[]⟩, 0)) = true) : smallC cs = decide (cs.length ≤ 20) := by
  unfold smallC
  have : cs.all okC = true := by
    rw [List.all_eq_true]
    intro x hx
    obtain ⟨j, hj, e⟩ := List.getElem_of_mem hx
    have := h j hj
    rw [List.getD_eq_getElem?_getD, List.getElem?_eq_getElem hj, Option.getD_some, e] at this
    exact this
  rw [this]; rfl
theorem smallC_len {cs : List (ByteArray × Int)} (h : smallC cs = true) : cs.length ≤ 20 := by
  unfold smallC at h
  simp only [Bool.and_eq_true, decide_eq_true_eq] at h
  exact h.2

set_option maxHeartbeats 1600000 in
set_option maxRecDepth 100000 in
theorem smallSchema_any (A : Option Addr) (c : Nat) (cs : List (ByteArray × Int)) (w : World) (hC : ColsAt w.heap.size w A cs) (hl : cs.length ≤ maxLen) (hs : ∀ j, j < cs.length → (cs.getD j (⟨#[]⟩, 0)).1.size ≤ maxLen) :
    Calls Tryd.prog 9 #[.slice A cs.length c] w fun e w' => e = .returned (.bool (smallC cs)) ∧ Below w.heap.size w w' := by
  have HP := hide hC
  have HW := hide hs
  have HNo := hide (fun k h1 h2 => smallC_no (cs := cs) (k := k) h1 h2)
  have HAll := hide (fun h => smallC_all (cs := cs) h)
  unfold maxLen at hl
  clear hC hs
  generalize smallC cs = q at *
  go_enter Tryd.func9, Tryd.ntmps9
  go_wp2_with fail
  go_loopw [7] (fun i wr => ∃ k : Nat, k ≤ cs.length ∧ i = .int .i64 k ∧ (∀ j, j < k → okC (cs.getD j (⟨#[]⟩, 0)) = true) ∧ Below w.heap.size w wr) (fun i _ => cs.length - (intOf i).toNat)
  case atStart => exact ⟨0, Nat.zero_le _, rfl, fun j h => by omega, Below.refl _ _⟩
  case round =>
    obtain ⟨k, hk, rfl, hno, hbw⟩ := hrel
    have HNs := hide hno
    clear hno
    by_cases hlt : k < cs.length
    · obtain ⟨b, off, rfl, hb, c0, c1⟩ := HP.out k hlt
      have hbr : b < wr.heap.size := Nat.lt_of_lt_of_le hb hbw.size
      have g0 := (hbw.cell (p := ⟨b, off + k * 2, none⟩) hb).trans c0
      have g1 := (hbw.cell (p := ⟨b, off + k * 2 + 1, none⟩) hb).trans c1
      clear c0 c1
      have HN := hide (HNo.out k hlt)
      have HS := hide (fun (h : okC (cs.getD k (⟨#[]⟩, 0)) = true) j (hj : j < k + 1) => (by
        by_cases e : j = k
        · rw [e]; exact h
        · exact HNs.out j (by omega) : okC (cs.getD j (⟨#[]⟩, 0)) = true))
      have hsz := HW.out k hlt
      generalize cs.getD k (⟨#[]⟩, 0) = p at *
      obtain ⟨p1, p2⟩ := p
      unfold maxLen at hsz
      simp only at g0 g1 hsz
      have HAl := hide (hbw.alloc hbw.size (.cells #[.string p1, .int .i64 p2] 64))
      unfold okC at HN HS
      clear HNs
      by_cases h1 : p1.size ≤ 50
      · have h1' : ¬ (50 : Int) < (p1.size : Int) := by omega
        have HY := hide (HS.out (by simp [h1]))
        clear HN HS h1
        go_wp2_with fail
        go_roundw
        case rel => exact ⟨k + 1, by omega, by go_num, HY.out, HAl.out⟩
        case measure => simp [intOf]; omega
      · have h1' : (50 : Int) < (p1.size : Int) := by omega
        have HY := hide (HN.out (by simp [h1]))
        clear HN HS h1
        go_wp2_with fail
        go_ret
        exact ⟨ret_bool HY.out.symm, HAl.out⟩
    · obtain rfl : k = cs.length := by omega
      have HY := hide (HAll.out HNs.out)
      clear HAll HNo HNs
      by_cases h2 : cs.length ≤ 20
      · have h2' : (cs.length : Int) ≤ 20 := by omega
        have HZ := hide (show q = true by rw [HY.out]; simp [h2])
        clear HY h2
        go_wp2_with fail
        go_ret
        exact ⟨ret_bool HZ.out.symm, hbw⟩
      · have h2' : ¬ (cs.length : Int) ≤ 20 := by omega
        have HZ := hide (show q = false by rw [HY.out]; simp [h2])
        clear HY h2
        go_wp2_with fail
        go_ret
        exact ⟨ret_bool HZ.out.symm, hbw⟩
end Go.Proofs.YteenhmniikloiaaDoor
