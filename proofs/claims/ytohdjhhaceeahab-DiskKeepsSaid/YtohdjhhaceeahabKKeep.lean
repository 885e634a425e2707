/-
  What one file keeps behind a crash.
-/
import Derived.Test.YtohdjhhaceeahabKHeads
namespace Go.Proofs.Ytohdjhhaceeahab
open Go.RowKit

theorem addP_same {p : PD} {i : Nat} {ys : List UInt8} : (addP p i ys).xs i = p.xs i ++ ys := upd_same _ _ _
theorem addP_other {p : PD} {i j : Nat} {ys : List UInt8} (h : j ≠ i) : (addP p i ys).xs j = p.xs j := upd_other _ _ h
theorem addP_s {p : PD} {i : Nat} {ys : List UInt8} : (addP p i ys).s = p.s := upd_self _ _
theorem cutP_same {p : PD} {i n : Nat} : (cutP p i n).xs i = (p.xs i).take n := upd_same _ _ _
theorem cutP_other {p : PD} {i j n : Nat} (h : j ≠ i) : (cutP p i n).xs j = p.xs j := upd_other _ _ h
theorem cutP_s {p : PD} {i n : Nat} : (cutP p i n).s i = n := upd_same _ _ _
structure Kp (p : PD) (X : List UInt8) (s : Nat) : Prop where
  calm : Calm p 1048576 X.length
  x0 : p.xs 0 = []
  x1 : p.xs 1 = []
  x3 : p.xs 3 = []
  x2 : p.xs 2 = X
  s2 : p.s 2 = s
theorem kp_new : Kp (newP 1048576) [] 0 := ⟨calm_new rfl, rfl, rfl, rfl, rfl, rfl⟩
theorem kp_app {p : PD} {X : List UInt8} {s : Nat} (h : Kp p X s) (ys : List UInt8) (hl : X.length + ys.length ≤ 1048576) : appE p 2 ys.length = 0 ∧ Kp (appP p 2 ys) (X ++ ys) s ∧ (appP p 2 ys).done = p.done + 1 := by
  have h1 := (calm_app h.calm (n := 2) rfl ys).2 (by omega)
  refine ⟨h1.1, ?_, h1.2.2⟩
  have e : appP p 2 ys = cmdP (addP p 2 ys) := by
    unfold appP
    rw [if_pos (h.calm.check rfl), if_neg (by rw [h.calm.capE, h.calm.used]; omega)]
    rfl
  have hx := (cmd_xs (addP p 2 ys)).1
  have hs := (cmd_xs (addP p 2 ys)).2.1
  refine ⟨by rw [List.length_append]; exact h1.2.1, ?_, ?_, ?_, ?_, ?_⟩
  · rw [e, hx, addP_other (by decide)]; exact h.x0
  · rw [e, hx, addP_other (by decide)]; exact h.x1
  · rw [e, hx, addP_other (by decide)]; exact h.x3
  · rw [e, hx, addP_same, h.x2]
  · rw [e, hs, addP_s]; exact h.s2
theorem kp_syn {p : PD} {X : List UInt8} {s : Nat} (h : Kp p X s) : synE p 2 = 0 ∧ Kp (synP p 2) X X.length ∧ (synP p 2).done = p.done + 1 := by
  have hc := h.calm.check (n := 2) rfl
  obtain ⟨e1, h2, e3⟩ := calm_cmd h.calm
  have hx : (cmdP p).xs = p.xs := (cmd_xs p).1
  have e : synP p 2 = cutP (cmdP p) 2 X.length := by
    unfold synP
    rw [if_pos hc]
    unfold secP
    rw [if_pos e1]
    show cutP (cmdP p) 2 (p.xs 2).length = _
    rw [h.x2]
  have ht : ((cmdP p).xs 2).take X.length = X := by rw [hx, h.x2, List.take_length]
  refine ⟨by unfold synE; rw [if_pos hc]; exact e1, ?_, by rw [e]; exact e3⟩
  rw [e]
  refine ⟨⟨cut_ok h2.ok (by rw [hx, h.x2]; exact Nat.le_refl _), h2.down, h2.left, h2.capE, ?_⟩, ?_, ?_, ?_, ?_, ?_⟩
  · unfold PD.used
    rw [cutP_same, ht, cutP_other (by decide), cutP_other (by decide), cutP_other (by decide), hx, h.x0, h.x1, h.x3]
    simp
  · rw [cutP_other (by decide), hx]; exact h.x0
  · rw [cutP_other (by decide), hx]; exact h.x1
  · rw [cutP_other (by decide), hx]; exact h.x3
  · rw [cutP_same, ht]
  · rw [cutP_s]
def kN (s n : Nat) (keep : Int) : Nat := s + (min (max keep 0) ((n : Int) - s)).toNat
theorem kN_le {s n : Nat} (h : s ≤ n) (keep : Int) : kN s n keep ≤ n := by unfold kN; omega
theorem empty_s {p : PD} (h : p.Ok) {i : Nat} (hi : i < 4) (hx : p.xs i = []) : p.s i = 0 := by
  have h0 := h.s0 i hi
  have h1 := h.s1 i hi
  rw [hx] at h1
  have : ((([] : List UInt8).length : Nat) : Int) = 0 := rfl
  omega
theorem crN_empty {p : PD} (h : p.Ok) (ks : List Int) {i : Nat} (hi : i < 4) (hx : p.xs i = []) : crN p ks i = 0 := by
  have := (crI_ok h ks hi).2
  rw [hx] at this
  simpa using this
theorem cut_empty {p : PD} (h : p.Ok) {i : Nat} (hi : i < 4) (hx : p.xs i = []) : cutP p i 0 = p := by
  have hs := empty_s h hi hx
  have e1 : upd p.xs i ((p.xs i).take 0) = p.xs := by rw [hx]; show upd p.xs i [] = _; rw [← hx]; exact upd_self _ _
  have e2 : upd p.s i ((0 : Nat) : Int) = p.s := by rw [show ((0 : Nat) : Int) = p.s i by rw [hs]; rfl]; exact upd_self _ _
  unfold cutP
  rw [e1, e2]
theorem kp_crash {p : PD} {X : List UInt8} {s : Nat} (h : Kp p X s) (keep : Int) (hs : s ≤ X.length) :
    checkE (crashP p [9, 9, keep]) 2 = 0 ∧ rdL (crashP p [9, 9, keep]) 2 = X.take (kN s X.length keep) ∧ safeD (crashP p [9, 9, keep]) 2 = kN s X.length keep ∧ (crashP p [9, 9, keep]).used = kN s X.length keep := by
  have ho := h.calm.ok
  have c1 : crK p [9, 9, keep] 1 = p := by
    show cutP p 0 (crN p [9, 9, keep] 0) = p
    rw [crN_empty ho _ (by decide) h.x0]
    exact cut_empty ho (by decide) h.x0
  have c2 : crK p [9, 9, keep] 2 = p := by
    show cutP (crK p [9, 9, keep] 1) 1 (crN (crK p [9, 9, keep] 1) [9, 9, keep] 1) = p
    rw [c1, crN_empty ho _ (by decide) h.x1]
    exact cut_empty ho (by decide) h.x1
  have hn : crN p [9, 9, keep] 2 = kN s X.length keep := by
    unfold crN crI kN
    rw [if_pos (by simp), h.x2, h.s2]
    show ((s : Int) + min (max keep 0) ((X.length : Int) - s)).toNat = _
    omega
  have hle := kN_le hs keep
  have c3 : crK p [9, 9, keep] 3 = cutP p 2 (kN s X.length keep) := by
    show cutP (crK p [9, 9, keep] 2) 2 (crN (crK p [9, 9, keep] 2) [9, 9, keep] 2) = _
    rw [c2, hn]
  have ho3 : (cutP p 2 (kN s X.length keep)).Ok := cut_ok ho (by rw [h.x2]; exact hle)
  have hx3 : (cutP p 2 (kN s X.length keep)).xs 3 = [] := by rw [cutP_other (by decide)]; exact h.x3
  have c4 : crK p [9, 9, keep] 4 = cutP p 2 (kN s X.length keep) := by
    show cutP (crK p [9, 9, keep] 3) 3 (crN (crK p [9, 9, keep] 3) [9, 9, keep] 3) = _
    rw [c3, crN_empty ho3 _ (by decide) hx3]
    exact cut_empty ho3 (by decide) hx3
  have e : crashP p [9, 9, keep] = { cutP p 2 (kN s X.length keep) with left := -1, down := false } := by unfold crashP; rw [c4]
  generalize kN s X.length keep = n at *
  have hc : checkE (crashP p [9, 9, keep]) 2 = 0 := by rw [e]; rfl
  refine ⟨hc, ?_, ?_, ?_⟩
  · unfold rdL
    rw [if_pos hc, e]
    show upd p.xs 2 ((p.xs 2).take n) 2 = _
    rw [upd_same, h.x2]
  · rw [e]
    show upd p.s 2 (n : Int) 2 = _
    rw [upd_same]
  · rw [e]
    unfold PD.used
    show (upd p.xs 2 ((p.xs 2).take n) 0).length + (upd p.xs 2 ((p.xs 2).take n) 1).length + (upd p.xs 2 ((p.xs 2).take n) 2).length + (upd p.xs 2 ((p.xs 2).take n) 3).length = _
    rw [upd_same, upd_other _ _ (by decide), upd_other _ _ (by decide), upd_other _ _ (by decide), h.x0, h.x1, h.x3, h.x2, List.length_take]
    simp
    omega
theorem kApp {base g : Nat} {D : DS} {X : List UInt8} {s : Nat} {A : Option Addr} {c : Nat} {ys : List UInt8} {w : World} (hD : DiskAt base g w D) (h : Kp D.p X s) (hd : D.p.done ≤ 1000000000) (hl : X.length + ys.length ≤ 1048576) (hy : BytesAt w.heap.size w A ys) (hn : A = none → c = 0) :
    Calls Try.prog 20 #[vD g, .int .i64 2, .slice A ys.length c] w fun e w' => e = .returned (.int .i64 0) ∧ ∃ D' : DS, Kp D'.p (X ++ ys) s ∧ D'.p.done = D.p.done + 1 ∧ DiskAt base g w' D' ∧ Turned g D D' w w' := by
  have h1 := kp_app h ys hl
  refine (append_any 2 A c ys w hD h.calm.ok (by omega) hy hn (by omega)).mono ?_
  rintro e w' ⟨rfl, D', e1, e2, e3⟩
  exact ⟨by rw [h1.1], D', by rw [e1]; exact h1.2.1, by rw [e1]; exact h1.2.2, e2, e3⟩
theorem kSyn {base g : Nat} {D : DS} {X : List UInt8} {s : Nat} {w : World} (hD : DiskAt base g w D) (h : Kp D.p X s) (hd : D.p.done ≤ 1000000000) :
    Calls Try.prog 19 #[vD g, .int .i64 2] w fun e w' => e = .returned (.int .i64 0) ∧ ∃ D' : DS, Kp D'.p X X.length ∧ D'.p.done = D.p.done + 1 ∧ DiskAt base g w' D' ∧ Turned g D D' w w' := by
  have h1 := kp_syn h
  refine (sync_any 2 w hD h.calm.ok (by omega)).mono ?_
  rintro e w' ⟨rfl, D', e1, e2, e3⟩
  exact ⟨by rw [h1.1], D', by rw [e1]; exact h1.2.1, by rw [e1]; exact h1.2.2, e2, e3⟩
/-- All bytes of a list of byte slices. -/
def catH (hs : List BH) : List UInt8 := hs.flatMap fun h => h.l
theorem catH_take {hs : List BH} {k : Nat} (hk : k < hs.length) : catH (hs.take (k + 1)) = catH (hs.take k) ++ (hs.getD k dH).l := by
  unfold catH
  rw [List.take_add_one, List.getElem?_eq_getElem hk, List.flatMap_append, List.getD_eq_getElem?_getD, List.getElem?_eq_getElem hk]
  simp
theorem getD_left {a b : List BH} {k : Nat} (hk : k < a.length) : (a ++ b).getD k dH = a.getD k dH := by
  rw [List.getD_eq_getElem?_getD, List.getD_eq_getElem?_getD, List.getElem?_append_left hk]
theorem getD_right {a b : List BH} {k : Nat} (hk : a.length ≤ k) : (a ++ b).getD k dH = b.getD (k - a.length) dH := by
  rw [List.getD_eq_getElem?_getD, List.getD_eq_getElem?_getD, List.getElem?_append_right hk]
theorem str_add (a b : List UInt8) : (⟨a.toArray⟩ : ByteArray) ++ ⟨b.toArray⟩ = ⟨(a ++ b).toArray⟩ := by
  apply ByteArray.ext
  simp
/-- A row of slices that the disk's calls leave as it is. -/
structure Seen (A : Option Addr) (g : Nat) (D : DS) (w3 w : World) : Prop where
  size : w3.heap.size ≤ w.heap.size
  kept : ∀ a, A = some a → w.heap[a.block]? = w3.heap[a.block]?
  lt : ∀ a, A = some a → a.block < w3.heap.size
  ne : ∀ a, A = some a → a.block ≠ g ∧ ∀ i, i < 4 → (D.v i).ownBlock ≠ some a.block
theorem Seen.turn {A : Option Addr} {g : Nat} {D D' : DS} {w3 w w' : World} (h : Seen A g D w3 w) (hT : Turned g D D' w w') : Seen A g D' w3 w' := by
  refine ⟨Nat.le_trans h.size hT.size, fun a e => ?_, h.lt, fun a e => ⟨(h.ne a e).1, fun i hi e2 => ?_⟩⟩
  · rw [hT.block a.block (Nat.lt_of_lt_of_le (h.lt a e) h.size) (h.ne a e).1 (h.ne a e).2]
    exact h.kept a e
  · rcases hT.own i hi a.block e2 with ⟨j, hj, e3⟩ | e3
    · exact (h.ne a e).2 j hj e3
    · have := h.lt a e
      have := h.size
      omega
theorem Seen.below {A : Option Addr} {g : Nat} {D : DS} {w3 w w' : World} (h : Seen A g D w3 w) (hb : Below w.heap.size w w') : Seen A g D w3 w' := h.turn (Turned.of_below hb)
/-- A row of the call's own that holds these headers reads as them. -/
theorem heads_of_row {w : World} {base n : Nat} {e : TypeId} {v : Value} {hs : List BH} (h : w.ownsRow base e 1 v n (hs.map hdr)) :
    n = hs.length ∧ ∃ A c, v = .slice A n c ∧ (∀ a, A = some a → base ≤ a.block ∧ a.block < w.heap.size) ∧ ∀ j, j < hs.length → ∃ b, A = some ⟨b, 0, none⟩ ∧ w.cell? ⟨b, j, none⟩ = some (hdr (hs.getD j dH)) := by
  have hl := h.1
  rw [List.length_map, Nat.mul_one] at hl
  refine ⟨hl.symm, ?_⟩
  rcases h.2 with ⟨rfl, h0⟩ | ⟨g, cap, cur, rfl, hb, hg, hn, _, hsz, htk⟩
  · exact ⟨none, 0, by rw [h0], (fun a e => by cases e), (fun j hj => by omega)⟩
  · refine ⟨some ⟨g, 0, none⟩, cap, rfl, (fun a e => by injection e with e; rw [← e]; exact ⟨hb, (Array.getElem?_eq_some_iff.1 hg).1⟩), fun j hj => ⟨g, rfl, ?_⟩⟩
    rw [Lib.cell_of_heap hg]
    have hc := hdrs_at hj
    rw [← htk, List.getElem?_take_of_lt (by omega)] at hc
    simpa using hc
theorem Seen.cell {A : Option Addr} {g : Nat} {D : DS} {w3 w : World} (h : Seen A g D w3 w) {b j : Nat} {v : Value} (e : A = some ⟨b, 0, none⟩) (hc : w3.cell? ⟨b, j, none⟩ = some v) : w.cell? ⟨b, j, none⟩ = some v ∧ b < w.heap.size :=
  ⟨(World.cell?_of_block (w := w3) (a := ⟨b, j, none⟩) (show w.heap[b]? = w3.heap[b]? from h.kept ⟨b, 0, none⟩ e)).trans hc, Nat.lt_of_lt_of_le (h.lt ⟨b, 0, none⟩ e) h.size⟩
end Go.Proofs.Ytohdjhhaceeahab
