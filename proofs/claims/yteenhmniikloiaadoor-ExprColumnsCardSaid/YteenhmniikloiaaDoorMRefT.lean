/-
  The type that the reference gives for arguments of these types is what the rules give.
  The reference's Type where no argument is asked.
  The type of an expression whose arguments all have one is what the reference gives for these.
  The reference's Type where arguments are asked.
-/
import Derived.Test.YteenhmniikloiaaDoorMRefA
import Derived.Test.YteenhmniikloiaaDoorEType
import Derived.Test.YteenhmniikloiaaDoorMEval
import Derived.Test.YteenhmniikloiaaDoorETypeAt
import Derived.Maps.AppendAt
namespace Go.Proofs.YteenhmniikloiaaDoor
open Go.RowKit

def eiL : List ByteArray := [⟨#[101, 105, 116, 104, 101, 114]⟩, ⟨#[105, 102]⟩]
def eqL : List ByteArray := [⟨#[61]⟩, ⟨#[33, 61]⟩, ⟨#[60]⟩, ⟨#[60, 61]⟩, ⟨#[62]⟩, ⟨#[62, 61]⟩]
def lcL : List ByteArray := [⟨#[108, 101, 110]⟩, ⟨#[99, 97, 116]⟩]
def arL : List ByteArray := [⟨#[45]⟩, ⟨#[43]⟩, ⟨#[42]⟩, ⟨#[47]⟩, ⟨#[37]⟩]
/-- The type that the reference needs; 0: any. -/
def needR (k : Int) (nm o : ByteArray) : Int := if (k == 5 && inB nm lcL) = true then 2 else if (k == 5 && nm.toList == [97, 98, 115] || !(k == 5) && inB o arL) = true then 1 else 0
def badR (need t : Int) : Bool := !(need == 0) && (!(t == 0) && !(t == need))
def lastR (a b : Int) : Int × Int := if (!(a == 0) && (!(b == 0) && !(a == b))) = true then (0, 12) else if (a == 0) = true then (b, 0) else (a, 0)
def resR (k : Int) (nm o : ByteArray) (t : List Int) : Int × Int :=
  if (k == 5 && inB nm eiL) = true then lastR (t.getD (t.length - 2) 0) (t.getD (t.length - 1) 0)
  else if (k == 4 && inB o eqL) = true then (if (!(t.getD 0 0 == 0) && (!(t.getD 1 0 == 0) && !(t.getD 0 0 == t.getD 1 0))) = true then (0, 12) else (1, 0))
  else if t.any (badR (needR k nm o)) = true then (0, 12)
  else if (k == 5 && nm.toList == [99, 97, 116]) = true then (2, 0) else (1, 0)

set_option maxHeartbeats 3200000 in
theorem resR_resX {r : RL} {nm o : ByteArray} {t : List Int} (hr : r ∈ rulesL) (h5 : r.k = 5 → nm = r.w) (h4 : ¬ r.k = 5 → o = r.w) (hl : (t.length : Int) = r.n) :
    resR r.k nm o t = if (resX r [t.getD 0 0, t.getD 1 0, t.getD 2 0]).2 = true then ((resX r [t.getD 0 0, t.getD 1 0, t.getD 2 0]).1, 0) else (0, 12) := by
  have hl1 : r.n = 1 → ∃ a, t = [a] := fun h => by
    rw [h] at hl
    exact List.length_eq_one_iff.1 (by omega)
  have hl2 : r.n = 2 → ∃ a b, t = [a, b] := fun h => by
    rw [h] at hl
    match t, hl with
    | [a, b], _ => exact ⟨a, b, rfl⟩
    | [], hl => exact absurd hl (by decide)
    | [_], hl => simp only [List.length_cons, List.length_nil] at hl; omega
    | _ :: _ :: _ :: l, hl => simp only [List.length_cons] at hl; omega
  have hl3 : r.n = 3 → ∃ a b c, t = [a, b, c] := fun h => by
    rw [h] at hl
    match t, hl with
    | [a, b, c], _ => exact ⟨a, b, c, rfl⟩
    | [], hl => exact absurd hl (by decide)
    | [_], hl => simp only [List.length_cons, List.length_nil] at hl; omega
    | [_, _], hl => simp only [List.length_cons, List.length_nil] at hl; omega
    | _ :: _ :: _ :: _ :: l, hl => simp only [List.length_cons] at hl; omega
  clear hl
  simp only [rulesL, List.mem_cons, List.not_mem_nil, or_false] at hr
  rcases hr with rfl | rfl | rfl | rfl | rfl | rfl | rfl | rfl | rfl | rfl | rfl | rfl | rfl | rfl | rfl | rfl | rfl | rfl | rfl | rfl | rfl
  all_goals
    first
    | obtain ⟨a, rfl⟩ := hl1 rfl
    | obtain ⟨a, b, rfl⟩ := hl2 rfl
    | obtain ⟨a, b, c, rfl⟩ := hl3 rfl
    first
    | obtain rfl := h5 rfl
    | obtain rfl := h4 (by decide)
    clear h5 h4 hl1 hl2 hl3
    simp [resR, lastR, badR, needR, resX, resF, stepR, inB, eiL, eqL, lcL, arL, Lib.toList_data]
  all_goals grind
end Go.Proofs.YteenhmniikloiaaDoor
namespace Go.Proofs.YteenhmniikloiaaDoor
open Go.RowKit

theorem typeOf_find {cs : List (ByteArray × Int)} {s : ByteArray} (ht : ∀ j, j < cs.length → ¬ (cs.getD j (⟨#[]⟩, 0)).2 = 0) : typeOfX cs s = if findT cs s = 0 then (0, 13) else (findT cs s, 0) := by
  unfold typeOfX findT
  by_cases h : findK cs s < cs.length
  · rw [if_pos h, if_pos h, if_neg (ht _ h)]
  · rw [if_neg h, if_neg h, if_pos rfl]
/-- What Type gives, as a value. -/
abbrev tyV (p : Int × Int) : Value := .tuple #[.int .i64 p.1, .int .i64 p.2]
set_option maxHeartbeats 1600000 in
set_option maxRecDepth 100000 in
theorem refType_leaf (x : XT) (S : Option Addr) (cap : Nat) (cs : List (ByteArray × Int)) (d : Int) (w : World) (hC : ColsAt w.heap.size w S cs) (hl : cs.length ≤ maxLen)
    (ht : ∀ j, j < cs.length → ¬ (cs.getD j (⟨#[]⟩, 0)).2 = 0) (hv : x.val.2.2.size ≤ maxLen) (hlen : x.args.length ≤ 1000000)
    (h : 32 < d ∨ formedX x = false ∨ x.kind = 1 ∨ x.kind = 2) :
    Calls Tryd.prog 36 #[vR x, .slice S cs.length cap, .int .i64 d] w fun e w' => e = .returned (tyV (typeX cs x d)) ∧ Below w.heap.size w w' := by
  have hal := boxR_below w x
  have HF := hide (fun w' => refForm_any x w' hv hlen)
  rw [formR_formed] at HF
  have HFi := hide (fun s w' (hb : Below w.heap.size w w') => refFind_any S cap cs s w' (hC.on hb) hl)
  obtain ⟨kd, nm, ⟨v1, v2, v3⟩, o, A, c, ts⟩ := x
  have HX := hide (show typeX cs (.mk kd nm (v1, v2, v3) o A c ts) d = _ from by unfold typeX; exact rfl)
  simp only [XT.kind, XT.val, XT.args] at hv hlen h
  rw [typeOf_find ht] at HX
  have HVx : vR (.mk kd nm (v1, v2, v3) o A c ts) = .agg (rxCells kd nm (v1, v2, v3) o A ts.length c) := rfl
  rw [HVx] at HF ⊢
  have HWE : boxR w (.mk kd nm (v1, v2, v3) o A c ts) = w.alloc (.cells (rxCells kd nm (v1, v2, v3) o A ts.length c) 45) := rfl
  rw [HWE] at hal
  have HL := hide hal
  clear hal hC HWE HVx ht
  generalize typeX cs (.mk kd nm (v1, v2, v3) o A c ts) d = q at *
  generalize formedX (.mk kd nm (v1, v2, v3) o A c ts) = fx at *
  by_cases hd : 32 < d
  · have HQ := hide (show q = (0, 52) by rw [HX.out, if_pos hd])
    clear HX h HF HFi
    go_enter Tryd.func36, Tryd.ntmps36
    go_wp2_with fail
    go_ret2
    exact ⟨by rw [HQ.out]; rfl, HL.out⟩
  cases fx
  · have HQ := hide (show q = (0, 20) by rw [HX.out, if_neg hd, if_pos rfl])
    clear HX h HFi
    go_enter Tryd.func36, Tryd.ntmps36
    go_wp2_with fail
    refine (HF.out _).mono ?_
    rintro e w2 ⟨rfl, hb2⟩
    have HB := hide (HL.out.trans (hb2.mono HL.out.size))
    clear hb2
    go_wp2_with fail
    go_ret2
    exact ⟨by rw [HQ.out]; rfl, HB.out⟩
  rw [if_neg hd, if_neg (by decide)] at HX
  by_cases k1 : kd = 1
  · have b2 : (kd == 2) = false := by rw [beq_eq_false_iff_ne]; omega
    have b1 : (kd == 1) = true := by rw [beq_iff_eq]; exact k1
    rw [if_pos k1] at HX
    clear h k1
    have HF2 := hide (HFi.out nm)
    clear HFi
    generalize findT cs nm = t at *
    by_cases h0 : t = 0
    · have b0 : (t == 0) = true := by rw [beq_iff_eq]; exact h0
      have HQ := hide (show q = (0, 13) by rw [HX.out, if_pos h0])
      clear HX h0
      go_enter Tryd.func36, Tryd.ntmps36
      go_wp2_with fail
      refine (HF.out _).mono ?_
      rintro e w2 ⟨rfl, hb2⟩
      have HBx := hide (boxR_at (x := .mk kd nm (v1, v2, v3) o A c ts) (w := w) hb2)
      have HB := hide (HL.out.trans (hb2.mono HL.out.size))
      clear hb2
      obtain ⟨c0, c1, c2, c3, c4, c5, c6, cz⟩ := HBx.out
      simp only [XT.kind, XT.name, XT.val, XT.op, XT.adr, XT.args, XT.cap] at c0 c1 c2 c3 c4 c5 c6
      go_wp2_with fail
      refine (HF2.out _ HB.out).mono ?_
      rintro e w3 ⟨rfl, hb3⟩
      have HB3 := hide (HB.out.trans (hb3.mono HB.out.size))
      clear hb3
      go_wp2_with fail
      go_ret2
      exact ⟨by rw [HQ.out]; rfl, HB3.out⟩
    · have b0 : (t == 0) = false := by rw [beq_eq_false_iff_ne]; exact h0
      have HQ := hide (show q = (t, 0) by rw [HX.out, if_neg h0])
      clear HX h0
      go_enter Tryd.func36, Tryd.ntmps36
      go_wp2_with fail
      refine (HF.out _).mono ?_
      rintro e w2 ⟨rfl, hb2⟩
      have HBx := hide (boxR_at (x := .mk kd nm (v1, v2, v3) o A c ts) (w := w) hb2)
      have HB := hide (HL.out.trans (hb2.mono HL.out.size))
      clear hb2
      obtain ⟨c0, c1, c2, c3, c4, c5, c6, cz⟩ := HBx.out
      simp only [XT.kind, XT.name, XT.val, XT.op, XT.adr, XT.args, XT.cap] at c0 c1 c2 c3 c4 c5 c6
      go_wp2_with fail
      refine (HF2.out _ HB.out).mono ?_
      rintro e w3 ⟨rfl, hb3⟩
      have HB3 := hide (HB.out.trans (hb3.mono HB.out.size))
      clear hb3
      go_wp2_with fail
      go_ret2
      exact ⟨by rw [HQ.out]; rfl, HB3.out⟩
  by_cases k2 : kd = 2
  · have b2 : (kd == 2) = true := by rw [beq_iff_eq]; exact k2
    have HQ := hide (show q = (v1, 0) by rw [HX.out, if_neg k1, if_pos k2])
    clear HX h HFi k1 k2
    go_enter Tryd.func36, Tryd.ntmps36
    go_wp2_with fail
    refine (HF.out _).mono ?_
    rintro e w2 ⟨rfl, hb2⟩
    have HBx := hide (boxR_at (x := .mk kd nm (v1, v2, v3) o A c ts) (w := w) hb2)
    have HB := hide (HL.out.trans (hb2.mono HL.out.size))
    clear hb2
    obtain ⟨c0, c1, c2, c3, c4, c5, c6, cz⟩ := HBx.out
    simp only [XT.kind, XT.name, XT.val, XT.op, XT.adr, XT.args, XT.cap] at c0 c1 c2 c3 c4 c5 c6
    go_wp2_with fail
    go_ret2
    exact ⟨by rw [HQ.out]; rfl, HB.out⟩
  · exfalso
    rcases h with h | h | h | h
    · exact hd h
    · cases h
    · exact k1 h
    · exact k2 h
end Go.Proofs.YteenhmniikloiaaDoor
namespace Go.Proofs.YteenhmniikloiaaDoor
open Go.RowKit

def tysOf (cs : List (ByteArray × Int)) (ts : List XT) (d : Int) : List Int := (typesX cs ts d).map Prod.fst
theorem tysOf_len (cs : List (ByteArray × Int)) (ts : List XT) (d : Int) : (tysOf cs ts d).length = ts.length := by unfold tysOf; rw [List.length_map, typesX_len]
theorem tysOf_at (cs : List (ByteArray × Int)) (ts : List XT) (d : Int) (j : Nat) : (tysOf cs ts d).getD j 0 = tyAt (typesX cs ts d) j := by
  unfold tysOf tyAt
  rw [List.getD_eq_getElem?_getD, List.getD_eq_getElem?_getD, List.getElem?_map]
  cases (typesX cs ts d)[j]? <;> rfl
theorem typeX_resR {cs : List (ByteArray × Int)} {kd : Int} {nm : ByteArray} {v : Int × Int × ByteArray} {o : ByteArray} {A : Option Addr} {c : Nat} {ts : List XT} {d : Int} (hd : ¬ 32 < d) (hf : formedX (.mk kd nm v o A c ts) = true) (k1 : ¬ kd = 1) (k2 : ¬ kd = 2)
    (h : ∀ j, j < ts.length → (typeX cs (ts.getD j dX) (d + 1)).2 = 0) : typeX cs (.mk kd nm v o A c ts) d = resR kd nm o (tysOf cs ts (d + 1)) := by
  have e : errOf (typesX cs ts (d + 1)) = 0 := errOf_none _ fun j hj => by
    rw [typesX_len] at hj
    rw [typesX_at _ _ _ _ hj]
    exact h j hj
  have hru : (ruleX (.mk kd nm v o A c ts)).2 = true ∧ (ts.length : Int) = (ruleX (.mk kd nm v o A c ts)).1.n := by
    have := hf
    unfold formedX at this
    rw [Bool.and_eq_true, Bool.and_eq_true, beq_iff_eq] at this
    exact ⟨this.1, this.2.1⟩
  obtain ⟨hm, hk, hw⟩ := rule_mem (x := .mk kd nm v o A c ts) (by simp only [XT.kind]; omega) hru.1
  simp only [XT.kind] at hk
  have hR := resR_resX (nm := nm) (o := o) (t := tysOf cs ts (d + 1)) hm (fun h5 => hw ▸ (if_pos (show XT.kind (.mk kd nm v o A c ts) = 5 from hk.symm.trans h5)).symm) (fun h5 => hw ▸ (if_neg (show ¬ XT.kind (.mk kd nm v o A c ts) = 5 from fun e => h5 (hk.trans e))).symm) (by rw [tysOf_len]; exact hru.2)
  rw [hk, tysOf_at, tysOf_at, tysOf_at] at hR
  rw [hR]
  conv => lhs; unfold typeX
  rw [if_neg hd, if_neg (by rw [hf]; decide), if_neg k1, if_neg k2, if_pos e]
end Go.Proofs.YteenhmniikloiaaDoor
namespace Go.Proofs.YteenhmniikloiaaDoor
open Go.RowKit

def intCells (l : List Int) : List Value := l.map (Value.int .i64)
theorem int_new (w : World) (t : TypeId) (n : Int) (H : Nat) (hH : w.heap.size = H) : ∀ j u, ([.int .i64 n] : List Value)[j]? = some u → (w.alloc (.cells #[.int .i64 n] t)).cell? ((⟨H, 0, none⟩ : Addr).add j) = some u := fun j u hj => by
  subst hH
  match j, hj with
  | 0, hj => simp at hj; subst hj; simp [Addr.add]
theorem int_one (n : Int) : ∀ u ∈ ([.int .i64 n] : List Value), u.oneCell' = true := fun u hu => by
  simp at hu; subst hu; rfl

theorem int_info : (Tryd.prog.info? 3).map (fun i => (i.zero, i.size, i.bytes)) = some (some (.int .i64 0), 1, 8) := by kernel_rfl
/-- The slice at A reads as these integers, and lies below block B. -/
def IntsAt (B : Nat) (w : World) (A : Option Addr) (l : List Int) : Prop :=
  ∀ j, j < l.length → ∃ b off, A = some ⟨b, off, none⟩ ∧ b < B ∧ w.cell? ⟨b, off + j, none⟩ = some (.int .i64 (l.getD j 0))
theorem IntsAt.below {B : Nat} {w w' : World} {A : Option Addr} {l : List Int} (h : IntsAt B w A l) (hb : Below B w w') : IntsAt B w' A l := fun j hj => by
  obtain ⟨b, off, e, hlt, h0⟩ := h j hj
  exact ⟨b, off, e, hlt, (hb.cell (p := ⟨b, off + j, none⟩) hlt).trans h0⟩
theorem IntsAt.on {w w' : World} {A : Option Addr} {l : List Int} (h : IntsAt w.heap.size w A l) (hb : Below w.heap.size w w') : IntsAt w'.heap.size w' A l := fun j hj => by
  obtain ⟨b, off, e, hlt, h0⟩ := h j hj
  exact ⟨b, off, e, Nat.lt_of_lt_of_le hlt hb.size, (hb.cell (p := ⟨b, off + j, none⟩) hlt).trans h0⟩
theorem IntsAt.spot {B : Nat} {w : World} {b off : Nat} {l : List Int} (h : IntsAt B w (some ⟨b, off, none⟩) l) (j : Nat) (hj : j < l.length) : w.cell? ⟨b, off + j, none⟩ = some (.int .i64 (l.getD j 0)) := by
  obtain ⟨b', o', e, _, h'⟩ := h j hj
  rw [Option.some.injEq, Addr.mk.injEq] at e
  rw [e.1, e.2.1]
  exact h'
theorem ints_of_row {w : World} {base : Nat} {e : TypeId} {v : Value} {l : List Int} (h : w.ownsRow base e 1 v l.length (intCells l)) :
    ∃ A cap, v = .slice A l.length cap ∧ IntsAt w.heap.size w A l := by
  rcases h.2 with ⟨rfl, h0⟩ | ⟨g, cap, cur, rfl, _, hg, hn, _, hsz, htk⟩
  · rw [h0]; exact ⟨none, 0, rfl, fun j hj => by omega⟩
  · refine ⟨some ⟨g, 0, none⟩, cap, rfl, fun j hj => ⟨g, 0, rfl, ?_, ?_⟩⟩
    · rcases Nat.lt_or_ge g w.heap.size with h' | h'
      · exact h'
      · simp [Array.getElem?_eq_none h'] at hg
    · rw [Nat.zero_add, Lib.cell_of_heap hg]
      have hc : (intCells l)[j]? = some (.int .i64 (l.getD j 0)) := by
        unfold intCells; rw [List.getElem?_map, List.getElem?_eq_getElem hj, List.getD_eq_getElem?_getD, List.getElem?_eq_getElem hj]; rfl
      rw [← htk, List.getElem?_take_of_lt (by omega)] at hc
      simpa using hc
/-- In of a new list. -/
theorem refIn_new (s : ByteArray) (l : List ByteArray) (n : Nat) (hn : l.length = n) (hl : l.length ≤ 1000) (cells : Array Value) (hc : cells = (l.map Value.string).toArray) (wx : World) :
    Calls Tryd.prog 57 #[.string s, .slice (some ⟨wx.heap.size, 0, none⟩) n n] (wx.alloc (.cells cells 9)) fun e w' => e = .returned (.bool (inB s l)) ∧ Below wx.heap.size wx w' := by
  subst hn hc
  refine (refIn_any s (some ⟨wx.heap.size, 0, none⟩) l.length l _ (texts_new _ _) hl).mono ?_
  rintro e w' ⟨h1, h2⟩
  exact ⟨h1, then_below (Joins.below_alloc1 wx _) h2⟩
theorem formX_len {kd : Int} {nm : ByteArray} {v : Int × Int × ByteArray} {o : ByteArray} {A : Option Addr} {c : Nat} {ts : List XT} (hf : formedX (.mk kd nm v o A c ts) = true) (k1 : ¬ kd = 1) (k2 : ¬ kd = 2) :
    (kd = 3 ∧ ts.length = 1) ∨ (kd = 4 ∧ ts.length = 2) ∨ (kd = 5 ∧ (inB nm eiL = true → ts.length = 2 ∨ ts.length = 3)) := by
  rw [← formR_formed] at hf
  unfold formR at hf
  rw [if_neg (show ¬ XT.kind (.mk kd nm v o A c ts) = 1 from k1), if_neg (show ¬ XT.kind (.mk kd nm v o A c ts) = 2 from k2), Bool.and_eq_true] at hf
  have h := hf.2
  clear hf
  by_cases k3 : kd = 3
  · rw [if_pos (show XT.kind (.mk kd nm v o A c ts) = 3 from k3), Bool.and_eq_true, Bool.and_eq_true, decide_eq_true_iff] at h
    exact Or.inl ⟨k3, h.2.1⟩
  by_cases k4 : kd = 4
  · rw [if_neg (show ¬ XT.kind (.mk kd nm v o A c ts) = 3 from k3), if_pos (show XT.kind (.mk kd nm v o A c ts) = 4 from k4), Bool.and_eq_true, Bool.and_eq_true, decide_eq_true_iff] at h
    exact Or.inr (Or.inl ⟨k4, h.2.1⟩)
  by_cases k5 : kd = 5
  · rw [if_neg (show ¬ XT.kind (.mk kd nm v o A c ts) = 3 from k3), if_neg (show ¬ XT.kind (.mk kd nm v o A c ts) = 4 from k4), if_pos (show XT.kind (.mk kd nm v o A c ts) = 5 from k5), Bool.and_eq_true, Bool.or_eq_true, Bool.or_eq_true, Bool.and_eq_true, Bool.and_eq_true, Bool.and_eq_true, decide_eq_true_iff, decide_eq_true_iff, decide_eq_true_iff] at h
    refine Or.inr (Or.inr ⟨k5, fun he => ?_⟩)
    rcases h.2 with h1 | h1 | h1
    · exfalso
      have h2 : inB nm c1L = true := h1.2
      simp only [inB, eiL, c1L, List.any_cons, List.any_nil, Bool.or_false, Bool.or_eq_true, beq_iff_eq] at he h2
      rcases he with he | he <;> rcases h2 with h2 | h2 | h2 <;> (rw [← he, Lib.toList_data, Lib.toList_data] at h2; simp at h2)
    · exact Or.inl h1.1
    · exact Or.inr h1.1
  · rw [if_neg (show ¬ XT.kind (.mk kd nm v o A c ts) = 3 from k3), if_neg (show ¬ XT.kind (.mk kd nm v o A c ts) = 4 from k4), if_neg (show ¬ XT.kind (.mk kd nm v o A c ts) = 5 from k5)] at h
    cases h
theorem any_bad {need : Int} {t : List Int} {k : Nat} (hk : k < t.length) (h : badR need (t.getD k 0) = true) : t.any (badR need) = true := by
  rw [List.any_eq_true]
  rw [List.getD_eq_getElem?_getD, List.getElem?_eq_getElem hk] at h
  exact ⟨_, List.getElem_mem hk, h⟩
theorem any_good {need : Int} {t : List Int} (h : ∀ j, j < t.length → badR need (t.getD j 0) = false) : t.any (badR need) = false := by
  rw [List.any_eq_false]
  intro x hx
  obtain ⟨j, hj, e⟩ := List.getElem_of_mem hx
  have := h j hj
  rw [List.getD_eq_getElem?_getD, List.getElem?_eq_getElem hj, Option.getD_some, e] at this
  simp [this]
/-- What the reference's Type does at expressions up to this size. -/
def RTypeOk (S : Option Addr) (cap : Nat) (cs : List (ByteArray × Int)) (N : Nat) : Prop := ∀ (x : XT) (d : Int) (w : World), szX x ≤ N → szX x ≤ 1000000 → LiesR w.heap.size w x → wfX x → ColsAt w.heap.size w S cs → 0 ≤ d → d ≤ 33 →
  Calls Tryd.prog 36 #[vR x, .slice S cs.length cap, .int .i64 d] w fun e w' => e = .returned (tyV (typeX cs x d)) ∧ Below w.heap.size w w'
theorem tys_take {cs : List (ByteArray × Int)} {ts : List XT} {d : Int} {k : Nat} (hk : k < ts.length) : intCells ((tysOf cs ts d).take (k + 1)) = intCells ((tysOf cs ts d).take k) ++ [.int .i64 (typeX cs (ts.getD k dX) d).1] := by
  unfold tysOf intCells
  have h := typesX_at cs d ts k hk
  have hk' : k < (typesX cs ts d).length := by rw [typesX_len]; exact hk
  rw [List.getD_eq_getElem?_getD, List.getElem?_eq_getElem hk'] at h
  simp only [Option.getD_some] at h
  rw [← h, List.take_add_one, List.getElem?_map, List.getElem?_eq_getElem hk']
  simp

set_option maxHeartbeats 3200000 in
set_option maxRecDepth 100000 in
theorem refType_node (S : Option Addr) (cap : Nat) (cs : List (ByteArray × Int)) (N : Nat) (hih : RTypeOk S cap cs N) (kd : Int) (nm : ByteArray) (v1 v2 : Int) (v3 : ByteArray) (o : ByteArray) (A : Option Addr) (c : Nat) (ts : List XT) (d : Int) (w : World)
    (hN : szX (.mk kd nm (v1, v2, v3) o A c ts) ≤ N + 1) (hz : szX (.mk kd nm (v1, v2, v3) o A c ts) ≤ 1000000) (hx : LiesR w.heap.size w (.mk kd nm (v1, v2, v3) o A c ts)) (hw : wfX (.mk kd nm (v1, v2, v3) o A c ts)) (hC : ColsAt w.heap.size w S cs) (hd0 : 0 ≤ d) (hd : d ≤ 32)
    (hf : formedX (.mk kd nm (v1, v2, v3) o A c ts) = true) (k1 : ¬ kd = 1) (k2 : ¬ kd = 2) :
    Calls Tryd.prog 36 #[.agg (rxCells kd nm (v1, v2, v3) o A ts.length c), .slice S cs.length cap, .int .i64 d] w fun e w' => e = .returned (tyV (typeX cs (.mk kd nm (v1, v2, v3) o A c ts) d)) ∧ Below w.heap.size w w' := by
  have ih := hide hih
  have e1 : szX (.mk kd nm (v1, v2, v3) o A c ts) = 1 + szXs ts := rfl
  have hlen := len_szXs ts
  have HF := hide (fun w' => refForm_any (.mk kd nm (v1, v2, v3) o A c ts) w' hw.1 (by show ts.length ≤ _; omega))
  rw [formR_formed, hf] at HF
  have hal := boxR_below w (.mk kd nm (v1, v2, v3) o A c ts)
  have HBox := hide (fun w' => boxR_at (w := w) (x := .mk kd nm (v1, v2, v3) o A c ts) (w' := w'))
  have HWE := hide (show boxR w (.mk kd nm (v1, v2, v3) o A c ts) = w.alloc (.cells (rxCells kd nm (v1, v2, v3) o A ts.length c) 45) from rfl)
  have HX := hide (hx.on hal)
  have HC := hide (hC.on hal)
  have HL := hide hal
  have HWs := hide hw
  have HT : Hid (typeX cs (.mk kd nm (v1, v2, v3) o A c ts) d = if errOf (typesX cs ts (d + 1)) = 0 then
      (if (resX (ruleX (.mk kd nm (v1, v2, v3) o A c ts)).1 [tyAt (typesX cs ts (d + 1)) 0, tyAt (typesX cs ts (d + 1)) 1, tyAt (typesX cs ts (d + 1)) 2]).2 = true then ((resX (ruleX (.mk kd nm (v1, v2, v3) o A c ts)).1 [tyAt (typesX cs ts (d + 1)) 0, tyAt (typesX cs ts (d + 1)) 1, tyAt (typesX cs ts (d + 1)) 2]).1, 0) else (0, 12))
      else (0, errOf (typesX cs ts (d + 1)))) := hide (by
    conv => lhs; unfold typeX
    rw [if_neg (by omega), if_neg (by rw [hf]; decide), if_neg k1, if_neg k2])
  have HR := hide (fun h => typeX_resR (cs := cs) (kd := kd) (nm := nm) (v := (v1, v2, v3)) (o := o) (A := A) (c := c) (ts := ts) (d := d) (by omega) hf k1 k2 h)
  have HLen := hide (formX_len hf k1 k2)
  rw [e1] at hN hz
  generalize typeX cs (.mk kd nm (v1, v2, v3) o A c ts) d = q at *
  simp only [XT.kind, XT.name, XT.val, XT.op, XT.adr, XT.args, XT.cap] at HBox
  rw [show vR (.mk kd nm (v1, v2, v3) o A c ts) = .agg (rxCells kd nm (v1, v2, v3) o A ts.length c) from rfl] at HF
  generalize boxR w (.mk kd nm (v1, v2, v3) o A c ts) = W at *
  have b1 : (kd == 1) = false := by rw [beq_eq_false_iff_ne]; exact k1
  have b2 : (kd == 2) = false := by rw [beq_eq_false_iff_ne]; exact k2
  clear hx hal hih e1 hC hw k1 k2
  obtain ⟨i1, hi', hy0, hy1, hy2⟩ := info_parts int_info
  obtain ⟨c0, c1, c2, c3, c4, c5, c6, cz⟩ := HBox.out _ (Below.refl _ _)
  go_enter Tryd.func36, Tryd.ntmps36
  go_wp2_with fail
  rw [← HWE.out]
  refine (HF.out _).mono ?_
  rintro e w2 ⟨rfl, hb2⟩
  clear c0 c1 c2 c3 c4 c5 c6 cz
  obtain ⟨c0, c1, c2, c3, c4, c5, c6, cz⟩ := HBox.out _ hb2
  have HB2 := hide hb2
  clear hb2
  go_wp2_with fail
  go_loopw [9, 10] (fun v i wr => ∃ k : Nat, k ≤ ts.length ∧ i = .int .i64 k ∧ (∀ j, j < k → (typeX cs (ts.getD j dX) (d + 1)).2 = 0) ∧ wr.ownsRow W.heap.size 3 1 v k (intCells ((tysOf cs ts (d + 1)).take k)) ∧ Below W.heap.size W wr) (fun _ i _ => ts.length - (intOf i).toNat)
  case atStart => exact ⟨0, Nat.zero_le _, rfl, fun j h => by omega, World.ownsRow_nil _ _ _ _, HB2.out⟩
  case round =>
    obtain ⟨k, hk, rfl, hno, hrow, hbw⟩ := hrel
    have HNs := hide hno
    have HB := hide hbw
    clear c0 c1 c2 c3 c4 c5 c6 cz hno
    obtain ⟨c0, c1, c2, c3, c4, c5, c6, cz⟩ := HBox.out _ hbw
    by_cases hlt : k < ts.length
    · obtain ⟨b, off, hadr, hb, h7, hly⟩ := (HX.out.keep hbw).at (j := k) hlt
      simp only [XT.adr, XT.args] at hadr h7 hly
      have hy := szXs_at hlt
      have HCall := hide (ih.out (ts.getD k dX) (d + 1) wr (by omega) (by omega) (hly.mono hbw.size) (wfXs_at HWs.out.2 hlt) (HC.out.on hbw) (by omega) (by omega))
      have HTk := hide (show (typeX cs (ts.getD k dX) (d + 1)).2 = 0 → (∀ j, j < k + 1 → (typeX cs (ts.getD j dX) (d + 1)).2 = 0) ∧ intCells ((tysOf cs ts (d + 1)).take (k + 1)) = intCells ((tysOf cs ts (d + 1)).take k) ++ [.int .i64 (typeX cs (ts.getD k dX) (d + 1)).1] from fun h => ⟨fun j hj => by
        by_cases e : j = k
        · rw [e]; exact h
        · exact HNs.out j (by omega), tys_take hlt⟩)
      have HEk := hide (show ¬ (typeX cs (ts.getD k dX) (d + 1)).2 = 0 → q = (0, (typeX cs (ts.getD k dX) (d + 1)).2) from fun h => by
        have e : errOf (typesX cs ts (d + 1)) = (typeX cs (ts.getD k dX) (d + 1)).2 := by
          rw [errOf_hit _ k (by rw [typesX_len]; exact hlt) (fun j hj => by rw [typesX_at _ _ _ _ (by omega)]; exact HNs.out j hj) (by rw [typesX_at _ _ _ _ hlt]; exact h), typesX_at _ _ _ _ hlt]
        rw [HT.out, e, if_neg h])
      subst hadr
      generalize ts.getD k dX = y at *
      have hb' : b < wr.heap.size := Nat.lt_of_lt_of_le hb hbw.size
      obtain ⟨g0, g1, g2, g3, g4, g5, g6⟩ := h7
      generalize hty : typeX cs y (d + 1) = ty at *
      clear hly hbw
      go_wp2_with fail
      refine HCall.out.mono ?_
      rintro e w3 ⟨rfl, hb3⟩
      have HB3 := hide (then_below HB.out hb3)
      have r1 := hrow.kept (only_of_below hb3 none) (by cases hv : u9.ownBlock <;> simp)
      have hs3 := hb3.size
      clear hb3 g0 g1 g2 g3 g4 g5 g6
      obtain ⟨t1, t2⟩ := ty
      by_cases h2 : t2 = 0
      · have n2 : (t2 != 0) = false := by rw [bne_eq_false_iff_eq]; exact h2
        have HT1 := hide (HTk.out h2)
        clear HTk HEk h2 HT
        have hWr := HB.out.size
        go_wp2_with (at_builtin; go_must (refine wpList_append_own _ rfl _ _ 107 rfl W.heap.size 3 i1 (.int .i64 0) 1 8 Tryd.underlying107 hi' hy0 hy1 hy2 rfl (by decide) _ _ _ rfl (r1.alloc _) ⟨w3.heap.size, 0, none⟩ 1 1 [.int .i64 t1] rfl rfl (int_new _ _ _ _ (by simp)) (int_one _) (by unfold maxLen; omega) (by omega) (by simp; omega) ?_))
        intro v' w4 hown' hgrow _
        have hs4 := hgrow.size
        simp at hs4
        have HO := hide hown'
        have HB4 := hide ((HB3.out.alloc (by have := HB.out.size; omega) (.cells #[.int .i64 t1] 3)).grown hgrow (by have := HB.out.size; simp; omega) (fun j hj => (hrow.lt j hj).1))
        clear hgrow hown' r1
        go_wp2_with fail
        go_roundw
        case rel =>
          refine ⟨k + 1, by omega, by go_num, HT1.out.1, ?_, HB4.out⟩
          rw [HT1.out.2]; exact HO.out
        case measure => simp [intOf]; omega
      · have n2 : (t2 != 0) = true := by rw [bne_iff_ne]; exact h2
        have HQ := hide (HEk.out h2)
        clear HTk HEk h2 HT
        go_wp2_with fail
        go_ret2
        exact ⟨by rw [HQ.out]; rfl, HL.out.trans (HB3.out.mono HL.out.size)⟩
    · obtain rfl : k = ts.length := by omega
      obtain ⟨tys, hty⟩ : ∃ t, t = tysOf cs ts (d + 1) := ⟨_, rfl⟩
      have hl : tys.length = ts.length := by rw [hty, tysOf_len]
      have HQ := hide (HR.out HNs.out)
      rw [← hty] at HQ hrow
      rw [← hl, List.take_length] at hrow
      obtain ⟨A2, n2, rfl, hI⟩ := ints_of_row hrow
      have HI := hide hI
      have HBZ := HB
      clear hI hrow hbw HR HNs HT HB HB2 HF ih hty HX HC HWs
      generalize ts.length = n at *
      subst hl
      rcases HLen.out with ⟨rfl, hl1⟩ | ⟨rfl, hl2⟩ | ⟨rfl, hl5⟩
      · clear HLen hl1
        go_wp2_with fail
        refine (refIn_new o arL 5 rfl (by decide) #[.string ⟨#[45]⟩, .string ⟨#[43]⟩, .string ⟨#[42]⟩, .string ⟨#[47]⟩, .string ⟨#[37]⟩] rfl _).mono ?_
        rintro e w4 ⟨rfl, hb3⟩
        have HBN := hide (then_below HBZ.out hb3)
        have HIN := hide (HI.out.on hb3)
        clear HBZ HI hb3 c0 c1 c2 c3 c4 c5 c6 cz
        have HBZ := HBN
        have HI := HIN
        clear HBN HIN
        obtain ⟨c0, c1, c2, c3, c4, c5, c6, cz⟩ := HBox.out _ HBZ.out
        cases hA : inB o arL
        · go_wp2_with fail
          have HZ0 := hide HBZ.out
          go_loopw [16] (fun i wz => ∃ k : Nat, k ≤ tys.length ∧ i = .int .i64 k ∧ (∀ j, j < k → badR 0 (tys.getD j 0) = false) ∧ Below W.heap.size W wz ∧ IntsAt wz.heap.size wz A2 tys) (fun i _ => tys.length - (intOf i).toNat)
          case atStart => exact ⟨0, Nat.zero_le _, rfl, fun j h => by omega, HBZ.out, HI.out⟩
          case round =>
            clear HBZ HI HZ0 c0 c1 c2 c3 c4 c5 c6 cz
            obtain ⟨k, hk, rfl, hno, hbz, hi⟩ := hrel
            have HNz := hide hno
            have HBZ := hide hbz
            have HI := hide hi
            clear hno hbz hi
            obtain ⟨c0, c1, c2, c3, c4, c5, c6, cz⟩ := HBox.out _ HBZ.out
            by_cases hlt : k < tys.length
            · obtain ⟨bA, oA, rfl, hbA, g0⟩ := HI.out k hlt
              have HBad := hide (fun h => any_bad (need := 0) hlt h)
              have HNk := hide (fun (h : badR 0 (tys.getD k 0) = false) j (hj : j < k + 1) => (by
                by_cases e : j = k
                · rw [e]; exact h
                · exact HNz.out j (by omega) : badR 0 (tys.getD j 0) = false))
              generalize tys.getD k 0 = x at *
              have HNn := hide (HNk.out (by simp [badR]))
              clear HBad HNk
              go_wp2_with fail
              go_roundw
              case rel => exact ⟨k + 1, by omega, by go_num, HNn.out, HBZ.out, HI.out⟩
              case measure => simp [intOf]; omega
            · obtain rfl : k = tys.length := by omega
              have HAny := hide (any_good HNz.out)
              clear HNz
              have HQ2 := hide (show q = (1, 0) by rw [HQ.out]; simp [resR, needR, HAny.out, hA])
              clear HQ
              go_wp2_with fail
              go_ret2
              exact ⟨by rw [HQ2.out]; rfl, HL.out.trans (HBZ.out.mono HL.out.size)⟩
        · go_wp2_with fail
          have HZ0 := hide HBZ.out
          go_loopw [16] (fun i wz => ∃ k : Nat, k ≤ tys.length ∧ i = .int .i64 k ∧ (∀ j, j < k → badR 1 (tys.getD j 0) = false) ∧ Below W.heap.size W wz ∧ IntsAt wz.heap.size wz A2 tys) (fun i _ => tys.length - (intOf i).toNat)
          case atStart => exact ⟨0, Nat.zero_le _, rfl, fun j h => by omega, HBZ.out, HI.out⟩
          case round =>
            clear HBZ HI HZ0 c0 c1 c2 c3 c4 c5 c6 cz
            obtain ⟨k, hk, rfl, hno, hbz, hi⟩ := hrel
            have HNz := hide hno
            have HBZ := hide hbz
            have HI := hide hi
            clear hno hbz hi
            obtain ⟨c0, c1, c2, c3, c4, c5, c6, cz⟩ := HBox.out _ HBZ.out
            by_cases hlt : k < tys.length
            · obtain ⟨bA, oA, rfl, hbA, g0⟩ := HI.out k hlt
              have HBad := hide (fun h => any_bad (need := 1) hlt h)
              have HNk := hide (fun (h : badR 1 (tys.getD k 0) = false) j (hj : j < k + 1) => (by
                by_cases e : j = k
                · rw [e]; exact h
                · exact HNz.out j (by omega) : badR 1 (tys.getD j 0) = false))
              generalize tys.getD k 0 = x at *
              by_cases x0 : x = 0
              · have HNn := hide (HNk.out (by rw [x0]; simp [badR]))
                have xb : (x != 0) = false := by rw [bne_eq_false_iff_eq]; exact x0
                clear HBad HNk x0
                go_wp2_with fail
                go_roundw
                case rel => exact ⟨k + 1, by omega, by go_num, HNn.out, HBZ.out, HI.out⟩
                case measure => simp [intOf]; omega
              · have xb : (x != 0) = true := by rw [bne_iff_ne]; exact x0
                by_cases xn : x = 1
                · have HNn := hide (HNk.out (by rw [xn]; simp [badR]))
                  have xc : (x != 1) = false := by rw [bne_eq_false_iff_eq]; exact xn
                  clear HBad HNk x0 xn
                  go_wp2_with fail
                  go_roundw
                  case rel => exact ⟨k + 1, by omega, by go_num, HNn.out, HBZ.out, HI.out⟩
                  case measure => simp [intOf]; omega
                · have HAny := hide (HBad.out (by simp [badR, x0, xn]))
                  have xc : (x != 1) = true := by rw [bne_iff_ne]; exact xn
                  have HQ2 := hide (show q = (0, 12) by rw [HQ.out]; simp [resR, needR, HAny.out, hA])
                  clear HBad HNk x0 xn HQ
                  go_wp2_with fail
                  go_ret2
                  exact ⟨by rw [HQ2.out]; rfl, HL.out.trans (HBZ.out.mono HL.out.size)⟩
            · obtain rfl : k = tys.length := by omega
              have HAny := hide (any_good HNz.out)
              clear HNz
              have HQ2 := hide (show q = (1, 0) by rw [HQ.out]; simp [resR, needR, HAny.out, hA])
              clear HQ
              go_wp2_with fail
              go_ret2
              exact ⟨by rw [HQ2.out]; rfl, HL.out.trans (HBZ.out.mono HL.out.size)⟩
      · clear HLen
        go_wp2_with fail
        refine (refIn_new o eqL 6 rfl (by decide) #[.string ⟨#[61]⟩, .string ⟨#[33, 61]⟩, .string ⟨#[60]⟩, .string ⟨#[60, 61]⟩, .string ⟨#[62]⟩, .string ⟨#[62, 61]⟩] rfl _).mono ?_
        rintro e w3 ⟨rfl, hb3⟩
        have HBN := hide (then_below HBZ.out hb3)
        have HIN := hide (HI.out.on hb3)
        clear HBZ HI hb3 c0 c1 c2 c3 c4 c5 c6 cz
        have HBZ := HBN
        have HI := HIN
        clear HBN HIN
        obtain ⟨c0, c1, c2, c3, c4, c5, c6, cz⟩ := HBox.out _ HBZ.out
        cases hE : inB o eqL
        · go_wp2_with fail
          refine (refIn_new o arL 5 rfl (by decide) #[.string ⟨#[45]⟩, .string ⟨#[43]⟩, .string ⟨#[42]⟩, .string ⟨#[47]⟩, .string ⟨#[37]⟩] rfl _).mono ?_
          rintro e w4 ⟨rfl, hb3⟩
          have HBN := hide (then_below HBZ.out hb3)
          have HIN := hide (HI.out.on hb3)
          clear HBZ HI hb3 c0 c1 c2 c3 c4 c5 c6 cz
          have HBZ := HBN
          have HI := HIN
          clear HBN HIN
          obtain ⟨c0, c1, c2, c3, c4, c5, c6, cz⟩ := HBox.out _ HBZ.out
          cases hA : inB o arL
          · go_wp2_with fail
            have HZ0 := hide HBZ.out
            go_loopw [16] (fun i wz => ∃ k : Nat, k ≤ tys.length ∧ i = .int .i64 k ∧ (∀ j, j < k → badR 0 (tys.getD j 0) = false) ∧ Below W.heap.size W wz ∧ IntsAt wz.heap.size wz A2 tys) (fun i _ => tys.length - (intOf i).toNat)
            case atStart => exact ⟨0, Nat.zero_le _, rfl, fun j h => by omega, HBZ.out, HI.out⟩
            case round =>
              clear HBZ HI HZ0 c0 c1 c2 c3 c4 c5 c6 cz
              obtain ⟨k, hk, rfl, hno, hbz, hi⟩ := hrel
              have HNz := hide hno
              have HBZ := hide hbz
              have HI := hide hi
              clear hno hbz hi
              obtain ⟨c0, c1, c2, c3, c4, c5, c6, cz⟩ := HBox.out _ HBZ.out
              by_cases hlt : k < tys.length
              · obtain ⟨bA, oA, rfl, hbA, g0⟩ := HI.out k hlt
                have HBad := hide (fun h => any_bad (need := 0) hlt h)
                have HNk := hide (fun (h : badR 0 (tys.getD k 0) = false) j (hj : j < k + 1) => (by
                  by_cases e : j = k
                  · rw [e]; exact h
                  · exact HNz.out j (by omega) : badR 0 (tys.getD j 0) = false))
                generalize tys.getD k 0 = x at *
                have HNn := hide (HNk.out (by simp [badR]))
                clear HBad HNk
                go_wp2_with fail
                go_roundw
                case rel => exact ⟨k + 1, by omega, by go_num, HNn.out, HBZ.out, HI.out⟩
                case measure => simp [intOf]; omega
              · obtain rfl : k = tys.length := by omega
                have HAny := hide (any_good HNz.out)
                clear HNz
                have HQ2 := hide (show q = (1, 0) by rw [HQ.out]; simp [resR, needR, HAny.out, hE, hA])
                clear HQ
                go_wp2_with fail
                go_ret2
                exact ⟨by rw [HQ2.out]; rfl, HL.out.trans (HBZ.out.mono HL.out.size)⟩
          · go_wp2_with fail
            have HZ0 := hide HBZ.out
            go_loopw [16] (fun i wz => ∃ k : Nat, k ≤ tys.length ∧ i = .int .i64 k ∧ (∀ j, j < k → badR 1 (tys.getD j 0) = false) ∧ Below W.heap.size W wz ∧ IntsAt wz.heap.size wz A2 tys) (fun i _ => tys.length - (intOf i).toNat)
            case atStart => exact ⟨0, Nat.zero_le _, rfl, fun j h => by omega, HBZ.out, HI.out⟩
            case round =>
              clear HBZ HI HZ0 c0 c1 c2 c3 c4 c5 c6 cz
              obtain ⟨k, hk, rfl, hno, hbz, hi⟩ := hrel
              have HNz := hide hno
              have HBZ := hide hbz
              have HI := hide hi
              clear hno hbz hi
              obtain ⟨c0, c1, c2, c3, c4, c5, c6, cz⟩ := HBox.out _ HBZ.out
              by_cases hlt : k < tys.length
              · obtain ⟨bA, oA, rfl, hbA, g0⟩ := HI.out k hlt
                have HBad := hide (fun h => any_bad (need := 1) hlt h)
                have HNk := hide (fun (h : badR 1 (tys.getD k 0) = false) j (hj : j < k + 1) => (by
                  by_cases e : j = k
                  · rw [e]; exact h
                  · exact HNz.out j (by omega) : badR 1 (tys.getD j 0) = false))
                generalize tys.getD k 0 = x at *
                by_cases x0 : x = 0
                · have HNn := hide (HNk.out (by rw [x0]; simp [badR]))
                  have xb : (x != 0) = false := by rw [bne_eq_false_iff_eq]; exact x0
                  clear HBad HNk x0
                  go_wp2_with fail
                  go_roundw
                  case rel => exact ⟨k + 1, by omega, by go_num, HNn.out, HBZ.out, HI.out⟩
                  case measure => simp [intOf]; omega
                · have xb : (x != 0) = true := by rw [bne_iff_ne]; exact x0
                  by_cases xn : x = 1
                  · have HNn := hide (HNk.out (by rw [xn]; simp [badR]))
                    have xc : (x != 1) = false := by rw [bne_eq_false_iff_eq]; exact xn
                    clear HBad HNk x0 xn
                    go_wp2_with fail
                    go_roundw
                    case rel => exact ⟨k + 1, by omega, by go_num, HNn.out, HBZ.out, HI.out⟩
                    case measure => simp [intOf]; omega
                  · have HAny := hide (HBad.out (by simp [badR, x0, xn]))
                    have xc : (x != 1) = true := by rw [bne_iff_ne]; exact xn
                    have HQ2 := hide (show q = (0, 12) by rw [HQ.out]; simp [resR, needR, HAny.out, hE, hA])
                    clear HBad HNk x0 xn HQ
                    go_wp2_with fail
                    go_ret2
                    exact ⟨by rw [HQ2.out]; rfl, HL.out.trans (HBZ.out.mono HL.out.size)⟩
              · obtain rfl : k = tys.length := by omega
                have HAny := hide (any_good HNz.out)
                clear HNz
                have HQ2 := hide (show q = (1, 0) by rw [HQ.out]; simp [resR, needR, HAny.out, hE, hA])
                clear HQ
                go_wp2_with fail
                go_ret2
                exact ⟨by rw [HQ2.out]; rfl, HL.out.trans (HBZ.out.mono HL.out.size)⟩
        · obtain ⟨t0, t1, rfl⟩ : ∃ t0 t1, tys = [t0, t1] := by
            match tys, hl2 with
            | [t0, t1], _ => exact ⟨t0, t1, rfl⟩
          obtain ⟨bA, oA, rfl, hbA, _⟩ := HI.out 0 (by simp)
          have g0 : w3.cell? ⟨bA, oA, none⟩ = some (.int .i64 t0) := HI.out.spot 0 (by simp)
          have g1 : w3.cell? ⟨bA, oA + 1, none⟩ = some (.int .i64 t1) := HI.out.spot 1 (by simp)
          clear HI hl2
          simp only [List.length_cons, List.length_nil, Nat.zero_add, Nat.reduceAdd] at *
          by_cases a0 : t0 = 0
          · have A0 : (t0 != 0) = false := by rw [bne_eq_false_iff_eq]; exact a0
            have HQ2 := hide (show q = (1, 0) by rw [HQ.out]; simp [resR, hE, a0])
            clear HQ a0
            go_wp2_with fail
            go_region
            all_goals go_wp2_with fail
            all_goals go_ret2
            all_goals exact ⟨by rw [HQ2.out]; rfl, (HL.out.trans (HBZ.out.mono HL.out.size)).drew⟩
          · have A0 : (t0 != 0) = true := by rw [bne_iff_ne]; exact a0
            by_cases b0 : t1 = 0
            · have B0 : (t1 != 0) = false := by rw [bne_eq_false_iff_eq]; exact b0
              have HQ2 := hide (show q = (1, 0) by rw [HQ.out]; simp [resR, hE, b0])
              clear HQ a0 b0
              go_wp2_with fail
              go_region
              all_goals go_wp2_with fail
              all_goals go_ret2
              all_goals exact ⟨by rw [HQ2.out]; rfl, (HL.out.trans (HBZ.out.mono HL.out.size)).drew⟩
            · have B0 : (t1 != 0) = true := by rw [bne_iff_ne]; exact b0
              by_cases ab : t0 = t1
              · have AB : (t0 != t1) = false := by rw [bne_eq_false_iff_eq]; exact ab
                have HQ2 := hide (show q = (1, 0) by rw [HQ.out]; simp [resR, hE, ab])
                clear HQ a0 b0 ab
                go_wp2_with fail
                go_region
                all_goals go_wp2_with fail
                all_goals go_ret2
                all_goals exact ⟨by rw [HQ2.out]; rfl, (HL.out.trans (HBZ.out.mono HL.out.size)).drew⟩
              · have AB : (t0 != t1) = true := by rw [bne_iff_ne]; exact ab
                have HQ2 := hide (show q = (0, 12) by rw [HQ.out]; simp [resR, hE, a0, b0, ab])
                clear HQ a0 b0 ab
                go_wp2_with fail
                go_region
                all_goals go_wp2_with fail
                all_goals go_ret2
                all_goals exact ⟨by rw [HQ2.out]; rfl, (HL.out.trans (HBZ.out.mono HL.out.size)).drew⟩
      · clear HLen
        go_wp2_with fail
        refine (refIn_new nm eiL 2 rfl (by decide) #[.string ⟨#[101, 105, 116, 104, 101, 114]⟩, .string ⟨#[105, 102]⟩] rfl _).mono ?_
        rintro e w3 ⟨rfl, hb3⟩
        have HBN := hide (then_below HBZ.out hb3)
        have HIN := hide (HI.out.on hb3)
        clear HBZ HI hb3 c0 c1 c2 c3 c4 c5 c6 cz
        have HBZ := HBN
        have HI := HIN
        clear HBN HIN
        obtain ⟨c0, c1, c2, c3, c4, c5, c6, cz⟩ := HBox.out _ HBZ.out
        cases hE : inB nm eiL
        · go_wp2_with fail
          refine (refIn_new nm lcL 2 rfl (by decide) #[.string ⟨#[108, 101, 110]⟩, .string ⟨#[99, 97, 116]⟩] rfl _).mono ?_
          rintro e w4 ⟨rfl, hb3⟩
          have HBN := hide (then_below HBZ.out hb3)
          have HIN := hide (HI.out.on hb3)
          clear HBZ HI hb3 c0 c1 c2 c3 c4 c5 c6 cz
          have HBZ := HBN
          have HI := HIN
          clear HBN HIN
          obtain ⟨c0, c1, c2, c3, c4, c5, c6, cz⟩ := HBox.out _ HBZ.out
          cases hL : inB nm lcL
          · cases hA : (nm.toList == [97, 98, 115])
            · go_wp2_with fail
              have HZ0 := hide HBZ.out
              go_loopw [16] (fun i wz => ∃ k : Nat, k ≤ tys.length ∧ i = .int .i64 k ∧ (∀ j, j < k → badR 0 (tys.getD j 0) = false) ∧ Below W.heap.size W wz ∧ IntsAt wz.heap.size wz A2 tys) (fun i _ => tys.length - (intOf i).toNat)
              case atStart => exact ⟨0, Nat.zero_le _, rfl, fun j h => by omega, HBZ.out, HI.out⟩
              case round =>
                clear HBZ HI HZ0 c0 c1 c2 c3 c4 c5 c6 cz
                obtain ⟨k, hk, rfl, hno, hbz, hi⟩ := hrel
                have HNz := hide hno
                have HBZ := hide hbz
                have HI := hide hi
                clear hno hbz hi
                obtain ⟨c0, c1, c2, c3, c4, c5, c6, cz⟩ := HBox.out _ HBZ.out
                by_cases hlt : k < tys.length
                · obtain ⟨bA, oA, rfl, hbA, g0⟩ := HI.out k hlt
                  have HBad := hide (fun h => any_bad (need := 0) hlt h)
                  have HNk := hide (fun (h : badR 0 (tys.getD k 0) = false) j (hj : j < k + 1) => (by
                    by_cases e : j = k
                    · rw [e]; exact h
                    · exact HNz.out j (by omega) : badR 0 (tys.getD j 0) = false))
                  generalize tys.getD k 0 = x at *
                  have HNn := hide (HNk.out (by simp [badR]))
                  clear HBad HNk
                  go_wp2_with fail
                  go_roundw
                  case rel => exact ⟨k + 1, by omega, by go_num, HNn.out, HBZ.out, HI.out⟩
                  case measure => simp [intOf]; omega
                · obtain rfl : k = tys.length := by omega
                  have HAny := hide (any_good HNz.out)
                  clear HNz
                  cases hC : (nm.toList == [99, 97, 116])
                  · have HQ2 := hide (show q = (1, 0) by rw [HQ.out]; simp [resR, needR, HAny.out, hC, hE, hL, hA])
                    clear HQ
                    go_wp2_with fail
                    go_ret2
                    exact ⟨by rw [HQ2.out]; rfl, HL.out.trans (HBZ.out.mono HL.out.size)⟩
                  · have HQ2 := hide (show q = (2, 0) by rw [HQ.out]; simp [resR, needR, HAny.out, hC, hE, hL, hA])
                    clear HQ
                    go_wp2_with fail
                    go_ret2
                    exact ⟨by rw [HQ2.out]; rfl, HL.out.trans (HBZ.out.mono HL.out.size)⟩
            · go_wp2_with fail
              have HZ0 := hide HBZ.out
              go_loopw [16] (fun i wz => ∃ k : Nat, k ≤ tys.length ∧ i = .int .i64 k ∧ (∀ j, j < k → badR 1 (tys.getD j 0) = false) ∧ Below W.heap.size W wz ∧ IntsAt wz.heap.size wz A2 tys) (fun i _ => tys.length - (intOf i).toNat)
              case atStart => exact ⟨0, Nat.zero_le _, rfl, fun j h => by omega, HBZ.out, HI.out⟩
              case round =>
                clear HBZ HI HZ0 c0 c1 c2 c3 c4 c5 c6 cz
                obtain ⟨k, hk, rfl, hno, hbz, hi⟩ := hrel
                have HNz := hide hno
                have HBZ := hide hbz
                have HI := hide hi
                clear hno hbz hi
                obtain ⟨c0, c1, c2, c3, c4, c5, c6, cz⟩ := HBox.out _ HBZ.out
                by_cases hlt : k < tys.length
                · obtain ⟨bA, oA, rfl, hbA, g0⟩ := HI.out k hlt
                  have HBad := hide (fun h => any_bad (need := 1) hlt h)
                  have HNk := hide (fun (h : badR 1 (tys.getD k 0) = false) j (hj : j < k + 1) => (by
                    by_cases e : j = k
                    · rw [e]; exact h
                    · exact HNz.out j (by omega) : badR 1 (tys.getD j 0) = false))
                  generalize tys.getD k 0 = x at *
                  by_cases x0 : x = 0
                  · have HNn := hide (HNk.out (by rw [x0]; simp [badR]))
                    have xb : (x != 0) = false := by rw [bne_eq_false_iff_eq]; exact x0
                    clear HBad HNk x0
                    go_wp2_with fail
                    go_roundw
                    case rel => exact ⟨k + 1, by omega, by go_num, HNn.out, HBZ.out, HI.out⟩
                    case measure => simp [intOf]; omega
                  · have xb : (x != 0) = true := by rw [bne_iff_ne]; exact x0
                    by_cases xn : x = 1
                    · have HNn := hide (HNk.out (by rw [xn]; simp [badR]))
                      have xc : (x != 1) = false := by rw [bne_eq_false_iff_eq]; exact xn
                      clear HBad HNk x0 xn
                      go_wp2_with fail
                      go_roundw
                      case rel => exact ⟨k + 1, by omega, by go_num, HNn.out, HBZ.out, HI.out⟩
                      case measure => simp [intOf]; omega
                    · have HAny := hide (HBad.out (by simp [badR, x0, xn]))
                      have xc : (x != 1) = true := by rw [bne_iff_ne]; exact xn
                      have HQ2 := hide (show q = (0, 12) by rw [HQ.out]; simp [resR, needR, HAny.out, hE, hL, hA])
                      clear HBad HNk x0 xn HQ
                      go_wp2_with fail
                      go_ret2
                      exact ⟨by rw [HQ2.out]; rfl, HL.out.trans (HBZ.out.mono HL.out.size)⟩
                · obtain rfl : k = tys.length := by omega
                  have HAny := hide (any_good HNz.out)
                  clear HNz
                  cases hC : (nm.toList == [99, 97, 116])
                  · have HQ2 := hide (show q = (1, 0) by rw [HQ.out]; simp [resR, needR, HAny.out, hC, hE, hL, hA])
                    clear HQ
                    go_wp2_with fail
                    go_ret2
                    exact ⟨by rw [HQ2.out]; rfl, HL.out.trans (HBZ.out.mono HL.out.size)⟩
                  · have HQ2 := hide (show q = (2, 0) by rw [HQ.out]; simp [resR, needR, HAny.out, hC, hE, hL, hA])
                    clear HQ
                    go_wp2_with fail
                    go_ret2
                    exact ⟨by rw [HQ2.out]; rfl, HL.out.trans (HBZ.out.mono HL.out.size)⟩
          · go_wp2_with fail
            have HZ0 := hide HBZ.out
            go_loopw [16] (fun i wz => ∃ k : Nat, k ≤ tys.length ∧ i = .int .i64 k ∧ (∀ j, j < k → badR 2 (tys.getD j 0) = false) ∧ Below W.heap.size W wz ∧ IntsAt wz.heap.size wz A2 tys) (fun i _ => tys.length - (intOf i).toNat)
            case atStart => exact ⟨0, Nat.zero_le _, rfl, fun j h => by omega, HBZ.out, HI.out⟩
            case round =>
              clear HBZ HI HZ0 c0 c1 c2 c3 c4 c5 c6 cz
              obtain ⟨k, hk, rfl, hno, hbz, hi⟩ := hrel
              have HNz := hide hno
              have HBZ := hide hbz
              have HI := hide hi
              clear hno hbz hi
              obtain ⟨c0, c1, c2, c3, c4, c5, c6, cz⟩ := HBox.out _ HBZ.out
              by_cases hlt : k < tys.length
              · obtain ⟨bA, oA, rfl, hbA, g0⟩ := HI.out k hlt
                have HBad := hide (fun h => any_bad (need := 2) hlt h)
                have HNk := hide (fun (h : badR 2 (tys.getD k 0) = false) j (hj : j < k + 1) => (by
                  by_cases e : j = k
                  · rw [e]; exact h
                  · exact HNz.out j (by omega) : badR 2 (tys.getD j 0) = false))
                generalize tys.getD k 0 = x at *
                by_cases x0 : x = 0
                · have HNn := hide (HNk.out (by rw [x0]; simp [badR]))
                  have xb : (x != 0) = false := by rw [bne_eq_false_iff_eq]; exact x0
                  clear HBad HNk x0
                  go_wp2_with fail
                  go_roundw
                  case rel => exact ⟨k + 1, by omega, by go_num, HNn.out, HBZ.out, HI.out⟩
                  case measure => simp [intOf]; omega
                · have xb : (x != 0) = true := by rw [bne_iff_ne]; exact x0
                  by_cases xn : x = 2
                  · have HNn := hide (HNk.out (by rw [xn]; simp [badR]))
                    have xc : (x != 2) = false := by rw [bne_eq_false_iff_eq]; exact xn
                    clear HBad HNk x0 xn
                    go_wp2_with fail
                    go_roundw
                    case rel => exact ⟨k + 1, by omega, by go_num, HNn.out, HBZ.out, HI.out⟩
                    case measure => simp [intOf]; omega
                  · have HAny := hide (HBad.out (by simp [badR, x0, xn]))
                    have xc : (x != 2) = true := by rw [bne_iff_ne]; exact xn
                    have HQ2 := hide (show q = (0, 12) by rw [HQ.out]; simp [resR, needR, HAny.out, hE, hL])
                    clear HBad HNk x0 xn HQ
                    go_wp2_with fail
                    go_ret2
                    exact ⟨by rw [HQ2.out]; rfl, HL.out.trans (HBZ.out.mono HL.out.size)⟩
              · obtain rfl : k = tys.length := by omega
                have HAny := hide (any_good HNz.out)
                clear HNz
                cases hC : (nm.toList == [99, 97, 116])
                · have HQ2 := hide (show q = (1, 0) by rw [HQ.out]; simp [resR, needR, HAny.out, hC, hE, hL])
                  clear HQ
                  go_wp2_with fail
                  go_ret2
                  exact ⟨by rw [HQ2.out]; rfl, HL.out.trans (HBZ.out.mono HL.out.size)⟩
                · have HQ2 := hide (show q = (2, 0) by rw [HQ.out]; simp [resR, needR, HAny.out, hC, hE, hL])
                  clear HQ
                  go_wp2_with fail
                  go_ret2
                  exact ⟨by rw [HQ2.out]; rfl, HL.out.trans (HBZ.out.mono HL.out.size)⟩
        · rcases hl5 hE with hl3 | hl3
          · obtain ⟨t0, t1, rfl⟩ : ∃ t0 t1, tys = [t0, t1] := by
              match tys, hl3 with
              | [t0, t1], _ => exact ⟨t0, t1, rfl⟩
            obtain ⟨bA, oA, rfl, hbA, _⟩ := HI.out 0 (by simp)
            have g0 : w3.cell? ⟨bA, oA, none⟩ = some (.int .i64 t0) := HI.out.spot 0 (by simp)
            have g1 : w3.cell? ⟨bA, oA + 1, none⟩ = some (.int .i64 t1) := HI.out.spot 1 (by simp)
            clear HI hl3
            simp only [List.length_cons, List.length_nil, Nat.zero_add, Nat.reduceAdd] at *
            by_cases a0 : t0 = 0
            · have A0 : (t0 != 0) = false := by rw [bne_eq_false_iff_eq]; exact a0
              have A1 : (t0 == 0) = true := by rw [beq_iff_eq]; exact a0
              have HQ2 := hide (show q = (t1, 0) by rw [HQ.out]; simp [resR, lastR, hE, a0])
              clear HQ a0
              go_wp2_with fail
              go_region
              all_goals go_wp2_with fail
              all_goals go_ret2
              all_goals exact ⟨by rw [HQ2.out]; rfl, (HL.out.trans (HBZ.out.mono HL.out.size)).drew⟩
            · have A0 : (t0 != 0) = true := by rw [bne_iff_ne]; exact a0
              have A1 : (t0 == 0) = false := by rw [beq_eq_false_iff_ne]; exact a0
              by_cases b0 : t1 = 0
              · have B0 : (t1 != 0) = false := by rw [bne_eq_false_iff_eq]; exact b0
                have HQ2 := hide (show q = (t0, 0) by rw [HQ.out]; simp [resR, lastR, hE, a0, b0])
                clear HQ a0 b0
                go_wp2_with fail
                go_region
                all_goals go_wp2_with fail
                all_goals go_ret2
                all_goals exact ⟨by rw [HQ2.out]; rfl, (HL.out.trans (HBZ.out.mono HL.out.size)).drew⟩
              · have B0 : (t1 != 0) = true := by rw [bne_iff_ne]; exact b0
                by_cases ab : t0 = t1
                · have AB : (t0 != t1) = false := by rw [bne_eq_false_iff_eq]; exact ab
                  have HQ2 := hide (show q = (t0, 0) by rw [HQ.out]; simp [resR, lastR, hE, b0, ab])
                  clear HQ a0 b0 ab
                  go_wp2_with fail
                  go_region
                  all_goals go_wp2_with fail
                  all_goals go_ret2
                  all_goals exact ⟨by rw [HQ2.out]; rfl, (HL.out.trans (HBZ.out.mono HL.out.size)).drew⟩
                · have AB : (t0 != t1) = true := by rw [bne_iff_ne]; exact ab
                  have HQ2 := hide (show q = (0, 12) by rw [HQ.out]; simp [resR, lastR, hE, a0, b0, ab])
                  clear HQ a0 b0 ab
                  go_wp2_with fail
                  go_region
                  all_goals go_wp2_with fail
                  all_goals go_ret2
                  all_goals exact ⟨by rw [HQ2.out]; rfl, (HL.out.trans (HBZ.out.mono HL.out.size)).drew⟩
          · obtain ⟨t0, t1, t2, rfl⟩ : ∃ t0 t1 t2, tys = [t0, t1, t2] := by
              match tys, hl3 with
              | [t0, t1, t2], _ => exact ⟨t0, t1, t2, rfl⟩
            obtain ⟨bA, oA, rfl, hbA, _⟩ := HI.out 0 (by simp)
            have g0 : w3.cell? ⟨bA, oA, none⟩ = some (.int .i64 t0) := HI.out.spot 0 (by simp)
            have g1 : w3.cell? ⟨bA, oA + 1, none⟩ = some (.int .i64 t1) := HI.out.spot 1 (by simp)
            have g2 : w3.cell? ⟨bA, oA + 2, none⟩ = some (.int .i64 t2) := HI.out.spot 2 (by simp)
            clear HI hl3
            simp only [List.length_cons, List.length_nil, Nat.zero_add, Nat.reduceAdd] at *
            by_cases a0 : t1 = 0
            · have A0 : (t1 != 0) = false := by rw [bne_eq_false_iff_eq]; exact a0
              have A1 : (t1 == 0) = true := by rw [beq_iff_eq]; exact a0
              have HQ2 := hide (show q = (t2, 0) by rw [HQ.out]; simp [resR, lastR, hE, a0])
              clear HQ a0
              go_wp2_with fail
              go_region
              all_goals go_wp2_with fail
              all_goals go_ret2
              all_goals exact ⟨by rw [HQ2.out]; rfl, (HL.out.trans (HBZ.out.mono HL.out.size)).drew⟩
            · have A0 : (t1 != 0) = true := by rw [bne_iff_ne]; exact a0
              have A1 : (t1 == 0) = false := by rw [beq_eq_false_iff_ne]; exact a0
              by_cases b0 : t2 = 0
              · have B0 : (t2 != 0) = false := by rw [bne_eq_false_iff_eq]; exact b0
                have HQ2 := hide (show q = (t1, 0) by rw [HQ.out]; simp [resR, lastR, hE, a0, b0])
                clear HQ a0 b0
                go_wp2_with fail
                go_region
                all_goals go_wp2_with fail
                all_goals go_ret2
                all_goals exact ⟨by rw [HQ2.out]; rfl, (HL.out.trans (HBZ.out.mono HL.out.size)).drew⟩
              · have B0 : (t2 != 0) = true := by rw [bne_iff_ne]; exact b0
                by_cases ab : t1 = t2
                · have AB : (t1 != t2) = false := by rw [bne_eq_false_iff_eq]; exact ab
                  have HQ2 := hide (show q = (t1, 0) by rw [HQ.out]; simp [resR, lastR, hE, b0, ab])
                  clear HQ a0 b0 ab
                  go_wp2_with fail
                  go_region
                  all_goals go_wp2_with fail
                  all_goals go_ret2
                  all_goals exact ⟨by rw [HQ2.out]; rfl, (HL.out.trans (HBZ.out.mono HL.out.size)).drew⟩
                · have AB : (t1 != t2) = true := by rw [bne_iff_ne]; exact ab
                  have HQ2 := hide (show q = (0, 12) by rw [HQ.out]; simp [resR, lastR, hE, a0, b0, ab])
                  clear HQ a0 b0 ab
                  go_wp2_with fail
                  go_region
                  all_goals go_wp2_with fail
                  all_goals go_ret2
                  all_goals exact ⟨by rw [HQ2.out]; rfl, (HL.out.trans (HBZ.out.mono HL.out.size)).drew⟩
/-- The reference's Type is the type that the document gives. -/
theorem refType_ok (S : Option Addr) (cap : Nat) (cs : List (ByteArray × Int)) (hl : cs.length ≤ maxLen) (ht : ∀ j, j < cs.length → ¬ (cs.getD j (⟨#[]⟩, 0)).2 = 0) (N : Nat) : RTypeOk S cap cs N := by
  induction N with
  | zero => intro x d w hN; have := szX_pos x; omega
  | succ N ih =>
    intro x d w hN hz hx hw hC hd0 hd
    by_cases h : 32 < d ∨ formedX x = false ∨ x.kind = 1 ∨ x.kind = 2
    · have hlen : x.args.length ≤ 1000000 := by
        have := szX_eq x
        have := len_szXs x.args
        omega
      obtain ⟨kd, nm, v, o, A, c, ts⟩ := x
      exact refType_leaf _ S cap cs d w hC hl ht hw.1 hlen h
    · obtain ⟨kd, nm, ⟨v1, v2, v3⟩, o, A, c, ts⟩ := x
      have h1 : ¬ 32 < d := fun e => h (Or.inl e)
      have h2 : formedX (.mk kd nm (v1, v2, v3) o A c ts) = true := by
        cases e : formedX (.mk kd nm (v1, v2, v3) o A c ts)
        · exact absurd (Or.inr (Or.inl e)) h
        · rfl
      exact refType_node S cap cs N ih kd nm v1 v2 v3 o A c ts d w hN hz hx hw hC hd0 (by omega) h2 (fun e => h (Or.inr (Or.inr (Or.inl e)))) (fun e => h (Or.inr (Or.inr (Or.inr e))))
end Go.Proofs.YteenhmniikloiaaDoor
