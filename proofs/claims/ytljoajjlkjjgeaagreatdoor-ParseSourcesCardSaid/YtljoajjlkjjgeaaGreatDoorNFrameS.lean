/-
  A scheme, an asset and a query's steps that come in.
-/
import Derived.Test.YtljoajjlkjjgeaaGreatDoorNFrameL
namespace Go.Proofs.YtljoajjlkjjgeaaGreatDoor
open Go.ChangeShapes Go.WideShapes Go.ChangeAt Go.RowKit Go.Joins Go.Deep LM

/-- A row of pairs of numbers; a row of numbers. -/
def MapL (w : World) (l : List (Int × Int)) (v : Value) : Prop := ∃ A c, v = .slice A l.length c ∧ ∀ wr, Below w.heap.size w wr → ∀ j (h : j < l.length), ∃ b off, A = some ⟨b, off, none⟩ ∧ b < w.heap.size ∧ wr.cell? ⟨b, off + j * 2, none⟩ = some (.int .i64 l[j].1) ∧ wr.cell? ⟨b, off + j * 2 + 1, none⟩ = some (.int .i64 l[j].2)
def IntL (w : World) (l : List Int) (v : Value) : Prop := ∃ A c, v = .slice A l.length c ∧ ∀ wr, Below w.heap.size w wr → ∀ j (h : j < l.length), ∃ b off, A = some ⟨b, off, none⟩ ∧ b < w.heap.size ∧ wr.cell? ⟨b, off + j, none⟩ = some (.int .i64 l[j])
theorem int_oneS : Tryz.prog.cellsOf 3 = 1 := by kernel_rfl
theorem sch_fieldsS : Tryz.prog.underlying 24 = some (.struct (Tryz.prog.fieldsOf 24)) := by kernel_rfl
theorem cells_schS : Tryz.prog.cellsOf 24 = 3 := by kernel_rfl
theorem sch_offS : (Tryz.prog.fieldsOf 24).toList.map (fun f => (f.type, f.offset)) = [(3, 0), (3, 1), (3, 2)] := by kernel_rfl
theorem list3S {α : Type} {l : List α} (h : l.length = 3) : ∃ a b c, l = [a, b, c] := by
  match l, h with
  | [a, b, c], _ => exact ⟨a, b, c, rfl⟩
theorem list4S {α : Type} {l : List α} (h : l.length = 4) : ∃ a b c d, l = [a, b, c, d] := by
  match l, h with
  | [a, b, c, d], _ => exact ⟨a, b, c, d, rfl⟩
theorem list6S {α : Type} {l : List α} (h : l.length = 6) : ∃ a b c d e f, l = [a, b, c, d, e, f] := by
  match l, h with
  | [a, b, c, d, e, f], _ => exact ⟨a, b, c, d, e, f, rfl⟩
section
variable {H : Type} {enc : TypeId × Value → H} {w : World} {base fuel : Nat} {sp : Nat → Bool} {held : Bool}
theorem some_intS {cs : List Value} {y : DataW H × List MemPlace} (h : DataW.trod enc Tryz.prog w base sp held fuel 3 cs = some y) : ∃ k : Int, cs = [.int .i64 k] ∧ -9223372036854775808 ≤ k ∧ k ≤ 9223372036854775807 := by
  obtain ⟨n, e, _, hw⟩ := DataW.trod_int Tryz.underlying3 h
  have hb := bounds_i64 hw
  exact ⟨n, e, hb.1, hb.2⟩
set_option maxRecDepth 100000 in
theorem sch_cellsS {cs : List Value} {y : DataW H × List MemPlace} (h : DataW.trod enc Tryz.prog w base sp held fuel 24 cs = some y) : ∃ a b c : Int, cs = [.int .i64 a, .int .i64 b, .int .i64 c] ∧ b ≤ 9223372036854775807 ∧ c ≤ 9223372036854775807 := by
  obtain ⟨xs, m, _, hx, hl, hn, hat⟩ := DataW.trod_struct sch_fieldsS h
  have hfs := sch_offS
  generalize Tryz.prog.fieldsOf 24 = fs at *
  obtain ⟨fl⟩ := fs
  simp only at hfs
  rw [cells_schS] at hl
  have hfl : fl.length = 3 := by have := congrArg List.length hfs; simpa using this
  obtain ⟨f0, f1, f2, rfl⟩ := list3S hfl
  simp only [List.map_cons, List.map_nil, List.cons.injEq, Prod.mk.injEq, and_true] at hfs
  obtain ⟨⟨t0, o0⟩, ⟨t1, o1⟩, t2, o2⟩ := hfs
  obtain ⟨x0, x1, x2, rfl⟩ := list3S (hn.trans (by simp))
  obtain ⟨c0, c1, c2, rfl⟩ := list3S hl
  have h0 := hat 0 f0 rfl
  have h1 := hat 1 f1 rfl
  have h2 := hat 2 f2 rfl
  rw [t0, o0, int_oneS] at h0
  rw [t1, o1, int_oneS] at h1
  rw [t2, o2, int_oneS] at h2
  obtain ⟨k0, e0, _⟩ := some_intS (cs := [c0]) (y := x0) (by simpa using h0)
  obtain ⟨k1, e1, b1⟩ := some_intS (cs := [c1]) (y := x1) (by simpa using h1)
  obtain ⟨k2, e2, b2⟩ := some_intS (cs := [c2]) (y := x2) (by simpa using h2)
  simp only [List.cons.injEq, and_true] at e0 e1 e2
  exact ⟨k0, k1, k2, by rw [e0, e1, e2], b1.2, b2.2⟩
end
set_option maxRecDepth 100000 in
theorem openS {H : Type} {enc : TypeId × Value → H} {w : World} {b0 base : Nat} {v : Value} {d : DataW H} {p : List MemPlace} (hv : Value.okWide Tryz.prog w .any b0 24 v) (h : DataW.Trod enc Tryz.prog w base (fun _ => true) true 24 v d p) :
    ∃ a b c : Int, v = .agg #[.int .i64 a, .int .i64 b, .int .i64 c] ∧ (b ≤ 9223372036854775807 ∧ c ≤ 9223372036854775807) := by
  obtain ⟨cs, rfl, _⟩ := okWide_struct sch_fieldsS hv
  obtain ⟨l⟩ := cs
  obtain ⟨fuel, hf⟩ := h
  obtain ⟨a, b, c, he, h1, h2⟩ := sch_cellsS hf
  have he' : l = [.int .i64 a, .int .i64 b, .int .i64 c] := by simpa [Value.cells] using he
  exact ⟨a, b, c, by rw [he'], h1, h2⟩
section
variable {H : Type} {enc : TypeId × Value → H} {w : World} {base fuel : Nat}
set_option maxRecDepth 100000 in
theorem openLS {v : Value} {y : DataW H × List MemPlace} (hf : DataW.trod enc Tryz.prog w base (fun _ => true) true fuel 22 [v] = some y) :
    ∃ A cap ss, v = .slice A ss.length cap ∧ StrL w ss (.slice A ss.length cap) ∧ (A = none → cap = 0) ∧ ss.length ≤ maxLen ∧ ∀ k, ∀ hk : k < ss.length, ss[k].size ≤ maxLen := by
  rcases open_strings Tryz.underlying22 Tryz.underlying9 cells_str hf with ⟨hc, _⟩ | ⟨a, len', cap', ss, hc, _, hl, hm, hz, _, hcell, hwz⟩
  · simp at hc
    subst hc
    exact ⟨none, 0, [], rfl, ⟨none, 0, rfl, fun wr _ j hj => by simp at hj⟩, fun _ => rfl, Nat.zero_le _, fun k hk => by simp at hk⟩
  · simp at hc
    subst hc
    simp only [if_true] at hz
    have hlt : (ss.take len').length = len' := by rw [List.length_take]; omega
    refine ⟨some a, cap', ss.take len', by rw [hlt], ⟨some a, cap', rfl, fun wr hb j hj => ?_⟩, (fun e => by cases e), by rw [hlt]; exact Nat.le_trans hl hm, fun k hk => hwz _ (List.mem_of_mem_take (List.getElem_mem hk))⟩
    rw [hlt] at hj
    have h0 := hcell j (by omega)
    obtain ⟨b, off, spot⟩ := a
    have hspot : spot = none := by simpa [Addr.add] using World.cell?_spot (hcell 0 (by omega))
    subst hspot
    have hbk := cell_ltN h0
    rw [add_plainN] at h0 hbk
    refine ⟨b, off, rfl, hbk, ?_⟩
    rw [hb.cell (p := ⟨b, off + j, none⟩) hbk, h0, List.getElem_take, List.getD_eq_getElem?_getD, List.getElem?_eq_getElem (by omega)]
    rfl
set_option maxRecDepth 100000 in
theorem openIS {v : Value} {y : DataW H × List MemPlace} (hf : DataW.trod enc Tryz.prog w base (fun _ => true) true fuel 61 [v] = some y) :
    ∃ A cap l, v = .slice A l.length cap ∧ IntL w l (.slice A l.length cap) ∧ l.length ≤ maxLen := by
  rcases open_ints Tryz.underlying61 Tryz.underlying3 int_oneS hf with ⟨hc, _⟩ | ⟨a, len', cap', zs, hc, _, hl, hm, hz, _, hcell, hwz⟩
  · simp at hc
    subst hc
    exact ⟨none, 0, [], rfl, ⟨none, 0, rfl, fun wr _ j hj => by simp at hj⟩, Nat.zero_le _⟩
  · simp at hc
    subst hc
    simp only [if_true] at hz
    have hlt : (zs.take len').length = len' := by rw [List.length_take]; omega
    refine ⟨some a, cap', zs.take len', by rw [hlt], ⟨some a, cap', rfl, fun wr hb j hj => ?_⟩, by rw [hlt]; exact Nat.le_trans hl hm⟩
    rw [hlt] at hj
    have h0 := hcell j (by omega)
    obtain ⟨b, off, spot⟩ := a
    have hspot : spot = none := by simpa [Addr.add] using World.cell?_spot (hcell 0 (by omega))
    subst hspot
    have hbk := cell_ltN h0
    rw [add_plainN] at h0 hbk
    refine ⟨b, off, rfl, hbk, ?_⟩
    rw [hb.cell (p := ⟨b, off + j, none⟩) hbk, h0, List.getElem_take, List.getD_eq_getElem?_getD, List.getElem?_eq_getElem (by omega)]
    rfl
theorem cells_map : Tryz.prog.cellsOf 54 = 2 := by kernel_rfl
set_option maxRecDepth 100000 in
theorem openMS {v : Value} {y : DataW H × List MemPlace} (hf : DataW.trod enc Tryz.prog w base (fun _ => true) true fuel 50 [v] = some y) :
    ∃ A cap l, v = .slice A l.length cap ∧ MapL w l (.slice A l.length cap) ∧ l.length ≤ maxLen := by
  rcases open_slice Tryz.underlying50 hf with ⟨hc, _⟩ | ⟨a, len, cap, m, n, D, Pl, hc, _, hl, hm, hmm, _, hi⟩
  · simp at hc
    subst hc
    exact ⟨none, 0, [], rfl, ⟨none, 0, rfl, fun wr _ j hj => by simp at hj⟩, Nat.zero_le _⟩
  · simp at hc
    subst hc
    have hml : m = cap := by simpa using hmm
    have each : ∀ i, i < len → ∃ c : Int × Int, w.cell? (a.add (i * 2)) = some (.int .i64 c.1) ∧ w.cell? (a.add (i * 2 + 1)) = some (.int .i64 c.2) := fun i hil => by
      obtain ⟨cs', hcs, ht⟩ := hi i (by omega)
      rw [cells_map] at hcs
      obtain ⟨_, hlen, hat⟩ := World.cells?_some hcs
      match cs', hlen with
      | [c0, c1], _ =>
        obtain ⟨y0, y1, n', _, _, h0, h1⟩ := trod_struct2 Tryz.underlying54 ht
        obtain ⟨s, e0, _, ws⟩ := DataW.trod_int Tryz.underlying3 h0
        obtain ⟨k, e1, _, wk⟩ := DataW.trod_int Tryz.underlying3 h1
        have q0 : [c0] = [Value.int .i64 s] := e0
        have q1 : [c1] = [Value.int .i64 k] := e1
        simp at q0 q1
        subst q0 q1
        have g0 := hat 0 (by omega)
        have g1 := hat 1 (by omega)
        rw [add_add] at g0 g1
        exact ⟨(s, k), by simpa using g0, by simpa using g1⟩
    obtain ⟨f, hfn⟩ := choose_lt each
    refine ⟨some a, cap, (List.range len).map f, by simp, ⟨some a, cap, by simp, fun wr hb j hj => ?_⟩, by rw [List.length_map, List.length_range]; exact Nat.le_trans hl hm⟩
    rw [List.length_map, List.length_range] at hj
    obtain ⟨h0, h1⟩ := hfn j hj
    obtain ⟨b, off, spot⟩ := a
    have hspot : spot = none := by
      have := World.cell?_spot (hfn 0 (by omega)).1
      simpa [Addr.add] using this
    subst hspot
    rw [add_plainN] at h0 h1
    have hbk := cell_ltN h0
    have hbk' : b < w.heap.size := hbk
    refine ⟨b, off, rfl, hbk', ?_, ?_⟩
    · rw [hb.cell (p := ⟨b, off + j * 2, none⟩) hbk', h0]; simp
    · rw [hb.cell (p := ⟨b, off + j * 2 + 1, none⟩) hbk', Nat.add_assoc, h1]; simp
end
theorem ass_fields : Tryz.prog.underlying 52 = some (.struct (Tryz.prog.fieldsOf 52)) := by kernel_rfl
theorem cells_ass : Tryz.prog.cellsOf 52 = 6 := by kernel_rfl
theorem ass_off : (Tryz.prog.fieldsOf 52).toList.map (fun f => (f.type, f.offset)) = [(9, 0), (24, 1), (22, 4), (50, 5)] := by kernel_rfl
theorem stp_fields : Tryz.prog.underlying 63 = some (.struct (Tryz.prog.fieldsOf 63)) := by kernel_rfl
theorem cells_stp : Tryz.prog.cellsOf 63 = 4 := by kernel_rfl
theorem stp_off : (Tryz.prog.fieldsOf 63).toList.map (fun f => (f.type, f.offset)) = [(9, 0), (61, 1), (22, 2), (3, 3)] := by kernel_rfl
theorem cells_Ls : Tryz.prog.cellsOf 22 = 1 := by kernel_rfl
theorem cells_Li : Tryz.prog.cellsOf 61 = 1 := by kernel_rfl
theorem cells_Lm : Tryz.prog.cellsOf 50 = 1 := by kernel_rfl
set_option maxRecDepth 100000 in
/-- An asset that comes in. -/
theorem openAs {H : Type} {enc : TypeId × Value → H} {w : World} {b0 base : Nat} {v : Value} {d : DataW H} {p : List MemPlace} (hv : Value.okWide Tryz.prog w .any b0 52 v) (h : DataW.Trod enc Tryz.prog w base (fun _ => true) true 52 v d p) :
    ∃ (s : ByteArray) (k a z : Int) (A : Option Addr) (c : Nat) (l : List ByteArray) (B : Option Addr) (e : Nat) (m : List (Int × Int)), v = .agg #[.string s, .int .i64 k, .int .i64 a, .int .i64 z, .slice A l.length c, .slice B m.length e] ∧ s.size ≤ maxLen ∧ (a ≤ 9223372036854775807 ∧ z ≤ 9223372036854775807) ∧
      StrL w l (.slice A l.length c) ∧ l.length ≤ maxLen ∧ (∀ k, ∀ hk : k < l.length, l[k].size ≤ maxLen) ∧ MapL w m (.slice B m.length e) ∧ m.length ≤ maxLen := by
  obtain ⟨cs, rfl, _⟩ := okWide_struct ass_fields hv
  obtain ⟨cl⟩ := cs
  obtain ⟨fuel, hf⟩ := h
  obtain ⟨xs, m, _, hx, hl, hn, hat⟩ := DataW.trod_struct ass_fields hf
  have hfs := ass_off
  generalize Tryz.prog.fieldsOf 52 = fs at *
  obtain ⟨fl⟩ := fs
  simp only at hfs
  rw [cells_ass] at hl
  have hfl : fl.length = 4 := by have := congrArg List.length hfs; simpa using this
  obtain ⟨f0, f1, f2, f3, rfl⟩ := list4S hfl
  simp only [List.map_cons, List.map_nil, List.cons.injEq, Prod.mk.injEq, and_true] at hfs
  obtain ⟨⟨t0, o0⟩, ⟨t1, o1⟩, ⟨t2, o2⟩, t3, o3⟩ := hfs
  obtain ⟨x0, x1, x2, x3, rfl⟩ := list4S (hn.trans (by simp))
  have hl' : cl.length = 6 := by simpa [Value.cells] using hl
  obtain ⟨c0, c1, c2, c3, c4, c5, rfl⟩ := list6S hl'
  have h0 := hat 0 f0 rfl
  have h1 := hat 1 f1 rfl
  have h2 := hat 2 f2 rfl
  have h3 := hat 3 f3 rfl
  rw [t0, o0, cells_str] at h0
  rw [t1, o1, cells_schS] at h1
  rw [t2, o2, cells_Ls] at h2
  rw [t3, o3, cells_Lm] at h3
  obtain ⟨s, e0, _, ws⟩ := DataW.trod_string (cs := [c0]) (x := x0) Tryz.underlying9 (by simpa [Value.cells] using h0)
  obtain ⟨k, a, z, e1, b1, b2⟩ := sch_cellsS (cs := [c1, c2, c3]) (y := x1) (by simpa [Value.cells] using h1)
  obtain ⟨A, c, l, e2, g2, _, n2, z2⟩ := openLS (v := c4) (y := x2) (by simpa [Value.cells] using h2)
  obtain ⟨B, e, mm, e3, g3, n3⟩ := openMS (v := c5) (y := x3) (by simpa [Value.cells] using h3)
  simp only [List.cons.injEq, and_true] at e0 e1
  obtain ⟨q1, q2, q3⟩ := e1
  exact ⟨s, k, a, z, A, c, l, B, e, mm, by rw [e0, q1, q2, q3, e2, e3], ws, ⟨b1, b2⟩, g2, n2, z2, g3, n3⟩
set_option maxRecDepth 100000 in
/-- A query's steps that come in. -/
theorem openSt {H : Type} {enc : TypeId × Value → H} {w : World} {b0 base : Nat} {v : Value} {d : DataW H} {p : List MemPlace} (hv : Value.okWide Tryz.prog w .any b0 63 v) (h : DataW.Trod enc Tryz.prog w base (fun _ => true) true 63 v d p) :
    ∃ (s : ByteArray) (B : Option Addr) (e : Nat) (ks : List Int) (A : Option Addr) (c : Nat) (l : List ByteArray) (n : Int), v = .agg #[.string s, .slice B ks.length e, .slice A l.length c, .int .i64 n] ∧ s.size ≤ maxLen ∧ n ≤ 9223372036854775807 ∧
      IntL w ks (.slice B ks.length e) ∧ ks.length ≤ maxLen ∧ StrL w l (.slice A l.length c) ∧ l.length ≤ maxLen ∧ (∀ k, ∀ hk : k < l.length, l[k].size ≤ maxLen) := by
  obtain ⟨cs, rfl, _⟩ := okWide_struct stp_fields hv
  obtain ⟨cl⟩ := cs
  obtain ⟨fuel, hf⟩ := h
  obtain ⟨xs, m, _, hx, hl, hn, hat⟩ := DataW.trod_struct stp_fields hf
  have hfs := stp_off
  generalize Tryz.prog.fieldsOf 63 = fs at *
  obtain ⟨fl⟩ := fs
  simp only at hfs
  rw [cells_stp] at hl
  have hfl : fl.length = 4 := by have := congrArg List.length hfs; simpa using this
  obtain ⟨f0, f1, f2, f3, rfl⟩ := list4S hfl
  simp only [List.map_cons, List.map_nil, List.cons.injEq, Prod.mk.injEq, and_true] at hfs
  obtain ⟨⟨t0, o0⟩, ⟨t1, o1⟩, ⟨t2, o2⟩, t3, o3⟩ := hfs
  obtain ⟨x0, x1, x2, x3, rfl⟩ := list4S (hn.trans (by simp))
  have hl' : cl.length = 4 := by simpa [Value.cells] using hl
  obtain ⟨c0, c1, c2, c3, rfl⟩ := list4S hl'
  have h0 := hat 0 f0 rfl
  have h1 := hat 1 f1 rfl
  have h2 := hat 2 f2 rfl
  have h3 := hat 3 f3 rfl
  rw [t0, o0, cells_str] at h0
  rw [t1, o1, cells_Li] at h1
  rw [t2, o2, cells_Ls] at h2
  rw [t3, o3, int_oneS] at h3
  obtain ⟨s, e0, _, ws⟩ := DataW.trod_string (cs := [c0]) (x := x0) Tryz.underlying9 (by simpa [Value.cells] using h0)
  obtain ⟨B, e, ks, e1, g1, n1⟩ := openIS (v := c1) (y := x1) (by simpa [Value.cells] using h1)
  obtain ⟨A, c, l, e2, g2, _, n2, z2⟩ := openLS (v := c2) (y := x2) (by simpa [Value.cells] using h2)
  obtain ⟨n, e3, _, b3⟩ := some_intS (cs := [c3]) (y := x3) (by simpa [Value.cells] using h3)
  simp only [List.cons.injEq, and_true] at e0 e3
  exact ⟨s, B, e, ks, A, c, l, n, by rw [e0, e1, e2, e3], ws, b3, g1, n1, g2, n2, z2⟩
end Go.Proofs.YtljoajjlkjjgeaaGreatDoor
