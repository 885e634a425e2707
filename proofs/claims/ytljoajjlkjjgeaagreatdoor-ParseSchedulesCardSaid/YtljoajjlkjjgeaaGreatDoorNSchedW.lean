/-
  ParseSchedules: its walk.
-/
import Derived.Test.YtljoajjlkjjgeaaGreatDoorNSched
import Derived.Test.YtljoajjlkjjgeaaGreatDoorMV1
namespace Go.Proofs.YtljoajjlkjjgeaaGreatDoor
open Go.RowKit Go.Sort LM Go

/-- The text that the law writes. -/
def schB (s0 s1 : ByteArray) (l : List (List UInt8)) : ByteArray := (⟨#[115, 99, 104, 101, 100, 117, 108, 101, 32]⟩ ++ s0 ++ ⟨#[32]⟩ ++ ⟨(showV 2 0 s1).toArray⟩ ++ ⟨#[32, 109, 97, 107, 101, 115, 32]⟩ ++ ba (joinU [32, 44, 32] l l.length) ++ ⟨#[32, 59]⟩ : ByteArray)
theorem showV_text {s : ByteArray} (h : rightV 2 0 s = true) : showV 2 0 s = quoteL s.data.toList := by unfold showV; rw [h]; rfl
theorem rightV_text {s : ByteArray} (h : rightV 2 0 s = true) : s.size ≤ 64 ∧ s.data.toList.all okByte = true := by
  unfold rightV rightT at h
  simp at h
  exact ⟨h.1, by simpa using h.2⟩
theorem schB_eq (s0 s1 : ByteArray) (u : List UInt8) (l : List (List UInt8)) (h : rightV 2 0 s1 = true) : schB s0 s1 (u :: l) = ba (schT s0.data.toList s1.data.toList u l [32, 59]) := by
  unfold schB
  rw [showV_text h, joinU_all]
  have e1 : (⟨#[115, 99, 104, 101, 100, 117, 108, 101, 32]⟩ : ByteArray) = ba [115, 99, 104, 101, 100, 117, 108, 101, 32] := rfl
  have e2 : (⟨#[32]⟩ : ByteArray) = ba [32] := rfl
  have e3 : (⟨#[32, 109, 97, 107, 101, 115, 32]⟩ : ByteArray) = ba [32, 109, 97, 107, 101, 115, 32] := rfl
  have e4 : (⟨#[32, 59]⟩ : ByteArray) = ba [32, 59] := rfl
  have e5 : (⟨(quoteL s1.data.toList).toArray⟩ : ByteArray) = ba (quoteL s1.data.toList) := rfl
  obtain ⟨n, rfl⟩ : ∃ n, s0 = ba n := ⟨_, (ba_data s0).symm⟩
  have e6 : (ba n).data.toList = n := by unfold ba; simp
  rw [e1, e2, e3, e4, e5, e6]
  simp only [cat_ba]
  unfold schT quoteL
  simp
theorem ba_cut (t : List UInt8) (x : UInt8) : (ba (t ++ [x])).extract 0 ((ba (t ++ [x])).size - 1) = ba t := by
  apply ByteArray.ext
  rw [ba_size]
  unfold ba
  simp
theorem schT_snoc (nm cron u : List UInt8) (l : List (List UInt8)) : schT nm cron u l [32, 59] = schT nm cron u l [32] ++ [59] := by unfold schT; simp
theorem sch_one {s0 s1 : ByteArray} {u : List UInt8} {l : List (List UInt8)} {wv : List Value} {P : Nat → Prop} {w : World} (hL : Lw w) (h0 : Nm s0.data.toList) (h1 : rightV 2 0 s1 = true) (h2 : Nm u) (h3 : ∀ x ∈ l, Nm x) (h4 : l.length ≤ 20) (hw : RepC P w (schD s0.data.toList s1.data.toList u l).enc wv) :
    Calls Tryz.prog 13 #[.string (schB s0 s1 (u :: l)), .agg wv.toArray] w fun e w' => e = .returned (.bool true) ∧ Below w.heap.size w w' := by
  obtain ⟨r1, r2⟩ := rightV_text h1
  have hl : s1.data.toList.length = s1.size := Array.length_toList
  have hlen := schT_len (R := [32, 59]) h0.len (by omega : s1.data.toList.length ≤ 64) h2.len (fun x hx => (h3 x hx).len) h4 (by decide)
  obtain ⟨k1, k2⟩ := sch_reads (F := 16384) (by decide) h0 r2 (by omega) h2 h3 h4 (by omega)
  rw [schB_eq s0 s1 u l h1]
  refine one_any (by decide) (by decide) _ (ba (schT s0.data.toList s1.data.toList u l [32])) _ wv w hL (by rw [ba_size]; omega) (by rw [ba_size, schT_snoc]; simp) ?_ hw (sch_ok h4) k1 k2
  rw [schT_snoc, ba_cut]
theorem sch_cells {w : World} {s0 s1 : ByteArray} {v : Value} {l : List ByteArray} {P : Nat → Prop} (h : Rep P w (dStrs l) v) : RepC P w ({k := 3, nm := s0, cron := s1, makes := l} : Df).enc ([.int .i64 3, .string s0, .slice none 0 0, .int .i64 0, .int .i64 0, .int .i64 0, .slice none 0 0] ++ [.int .i64 0, .string ⟨#[]⟩, .slice none 0 0, .int .i64 0, .string ⟨#[]⟩, .int .i64 0, .int .i64 0, .string ⟨#[]⟩, .string ⟨#[]⟩, .slice none 0 0, .slice none 0 0, .slice none 0 0, .slice none 0 0, .slice none 0 0, .slice none 0 0, .int .i64 0] ++ [.string s1, v]) :=
  rep_def (d := {k := 3, nm := s0, cron := s1, makes := l}) (rep_nil _ _ _) (rep_nil _ _ _) (rep_zeroP _ _) h
theorem schD_eq (s0 s1 x : ByteArray) (r : List ByteArray) : schD s0.data.toList s1.data.toList x.data.toList (r.map fun s => s.data.toList) = {k := 3, nm := s0, cron := s1, makes := x :: r} := by
  unfold schD
  rw [ba_data, ba_data, ba_data, ba_map]
set_option maxHeartbeats 8000000 in
set_option maxRecDepth 100000 in
theorem parseSchedules_walk (s0 s1 : ByteArray) (l : List ByteArray) (A : Option Addr) (c : Nat) (w : World) (fs0 : s0.size ≤ maxLen) (fs1 : s1.size ≤ maxLen) (hv : StrL w l (.slice A l.length c)) (hn : A = none → c = 0) (hl : l.length ≤ maxLen) (hz : ∀ k, ∀ hk : k < l.length, l[k].size ≤ maxLen) (hL : Lw w) :
    Calls Tryz.prog 5 #[.string s0, .string s1, .slice A l.length c] w fun e w' => e = .returned (.bool true) ∧ Below w.heap.size w w' := by
  have HT := hide (fun w => text_any s1 w)
  have HW0 := hide (fun w => lword_any s0 w fs0)
  have HWs := hide (fun w1 (hb : Below w.heap.size w w1) => words_any l (.slice A l.length c) w1 (by
    obtain ⟨A', c', e, h⟩ := hv
    exact ⟨A', c', e, fun wr hr j hj => by
      obtain ⟨b, off, e1, hlt, hc⟩ := h wr (then_below hb hr) j hj
      exact ⟨b, off, e1, Nat.lt_of_lt_of_le hlt hb.size, hc⟩⟩) hl hz)
  have HR := hide (fun w => right_any 2 0 s1 w fs1)
  have HAw := hide (fun w1 (hb : Below w.heap.size w w1) => awake_any w1 (hL.on hb))
  have HJ := hide (fun w1 (hb : Below w.heap.size w w1) (h20 : l.length ≤ 1000) (h16 : ∀ x ∈ l, x.size ≤ 1000) => join_any (l.map fun s => s.data.toList) [32, 44, 32] (.slice A l.length c) w1 (by
    rw [ba_map]
    obtain ⟨A', c', e, h⟩ := hv
    exact ⟨A', c', e, fun wr hr j hj => by
      obtain ⟨b, off, e1, hlt, hc⟩ := h wr (then_below hb hr) j hj
      exact ⟨b, off, e1, Nat.lt_of_lt_of_le hlt hb.size, hc⟩⟩) (by simpa using h20) (by decide) (fun x hx => by
        obtain ⟨y, hy, rfl⟩ := List.mem_map.1 hx
        have := h16 y hy
        have : y.data.toList.length = y.size := Array.length_toList
        omega))
  have HSh := hide (fun w1 (hb : Below w.heap.size w w1) => show_any 2 0 s1 w1 fs1 ⟨by decide, by decide⟩ (hL.on hb).tab)
  by_cases h0 : wordB s0 = true
  · by_cases h1 : wordsB l = true
    · by_cases h2 : rightV 2 0 s1 = true
      · obtain ⟨hall, hpos, h20⟩ := words_all h1
        have hsz : ∀ x ∈ l, x.size ≤ 16 := fun x hx => by
          have := (nm_word' (hall x hx)).len
          have h : x.data.toList.length = x.size := Array.length_toList
          omega
        have hn0 := nm_word' h0
        have hs0 : s0.size ≤ 16 := by
          have := hn0.len
          have h : s0.data.toList.length = s0.size := Array.length_toList
          omega
        have HRep := hide (fun w1 (hb : Below w.heap.size w w1) => (hv.rep (fun c' e => by injection e with e1 _ e3; rw [← e3]; exact hn e1)).stay (Stay.below hb))
        have hOne : ∀ w1, Below w.heap.size w w1 → Calls Tryz.prog 13 #[.string (schB s0 s1 (l.map fun s => s.data.toList)), .agg #[.int .i64 3, .string s0, .slice none 0 0, .int .i64 0, .int .i64 0, .int .i64 0, .slice none 0 0, .int .i64 0, .string ⟨#[]⟩, .slice none 0 0, .int .i64 0, .string ⟨#[]⟩, .int .i64 0, .int .i64 0, .string ⟨#[]⟩, .string ⟨#[]⟩, .slice none 0 0, .slice none 0 0, .slice none 0 0, .slice none 0 0, .slice none 0 0, .slice none 0 0, .int .i64 0, .string s1, .slice A l.length c]] w1 fun e w' => e = .returned (.bool true) ∧ Below w1.heap.size w1 w' := fun w1 hb => by
          obtain ⟨x, r, rfl⟩ : ∃ x r, l = x :: r := by
            cases l with
            | nil => simp at hpos
            | cons x r => exact ⟨x, r, rfl⟩
          have hk := HRep.out w1 hb
          have hc := sch_cells (s0 := s0) (s1 := s1) hk
          rw [← schD_eq] at hc
          rw [List.map_cons]
          exact sch_one (hL.on hb) hn0 h2 (nm_word' (hall x (by simp))) (fun y hy => by
            obtain ⟨z, hz1, rfl⟩ := List.mem_map.1 hy
            exact nm_word' (hall z (by simp [hz1]))) (by simp at h20 ⊢; omega) hc
        have HOne := hide hOne
        have HJn := hide (fun w1 hb => HJ.out w1 hb (by omega) (fun x hx => by have := hsz x hx; omega))
        have hjl : (ba (joinU [32, 44, 32] (l.map fun s => s.data.toList) (l.map fun s => s.data.toList).length)).size ≤ 25000 := by
          rw [ba_size]
          have := joinU_len (by' := [32, 44, 32]) (l := l.map fun s => s.data.toList) (by decide) (fun x hx => by
            obtain ⟨y, hy, rfl⟩ := List.mem_map.1 hx
            have := hsz y hy
            have h : y.data.toList.length = y.size := Array.length_toList
            omega) _ (Nat.le_refl _)
          simp only [List.length_map] at this ⊢
          omega
        have hsl : (⟨(showV 2 0 s1).toArray⟩ : ByteArray).size ≤ 200 := by
          show (ba (showV 2 0 s1)).size ≤ 200
          rw [ba_size, showV_text h2]
          obtain ⟨r1, -⟩ := rightV_text h2
          have he := esc_len s1.data.toList
          have h : s1.data.toList.length = s1.size := Array.length_toList
          unfold quoteL
          simp only [List.length_cons, List.length_append, List.length_nil]
          omega
        unfold schB at HOne
        simp only [List.length_map] at HOne HJn hjl
        generalize ba (joinU [32, 44, 32] (l.map fun s => s.data.toList) l.length) = J at *
        generalize (⟨(showV 2 0 s1).toArray⟩ : ByteArray) = SH at *
        clear HJ HRep hOne hsz hall hpos h20 hn0 hv hn
        rw [h0] at HW0
        rw [h1] at HWs
        rw [h2] at HR
        have HB0 := hide (Below.refl w.heap.size w)
        clear h0 h1 h2 hz
        go_enter Tryz.func5, Tryz.ntmps5
        go_wp2_with fail
        refine (HT.out _).mono ?_
        rintro e w1 ⟨rfl, hb⟩
        have HB1 := hide (HB0.out.trans hb)
        clear hb HT
        go_wp2_with fail
        obtain ⟨W1, hW1⟩ : ∃ W, W = w1.alloc (.cells #[.int .i64 2, .int .i64 0, .string s1] 33) := ⟨_, rfl⟩
        have hb1 : Below w1.heap.size w1 W1 := by rw [hW1]; exact Joins.below_alloc1 w1 _
        have hX : HoldB w1.heap.size 33 [.int .i64 2, .int .i64 0, .string s1] W1 := by rw [hW1]; exact heap_alloc_new _ _
        have hlt1 : w1.heap.size < W1.heap.size := by rw [hW1]; simp
        have HC := hide (fun w' (hb : Below W1.heap.size W1 w') => (by
          have hh : HoldB w1.heap.size 33 [.int .i64 2, .int .i64 0, .string s1] w' := (hb.block _ hlt1).trans hX
          exact ⟨by rw [Lib.cell_of_heap hh 0]; rfl, by rw [Lib.cell_of_heap hh 1]; rfl, by rw [Lib.cell_of_heap hh 2]; rfl, holds_size hh⟩ : w'.cell? ⟨w1.heap.size, 0, none⟩ = some (.int .i64 2) ∧ w'.cell? ⟨w1.heap.size, 1, none⟩ = some (.int .i64 0) ∧ w'.cell? ⟨w1.heap.size, 2, none⟩ = some (.string s1) ∧ w1.heap.size < w'.heap.size))
        have HBW := hide (then_below HB1.out hb1)
        have HD0 := hide (Below.refl W1.heap.size W1)
        have HG := hide (fun w' (hb : Below W1.heap.size W1 w') => then_below HBW.out hb)
        rw [← hW1]
        clear hW1 hb1 hX hlt1
        refine (HW0.out _).mono ?_
        rintro e w2 ⟨rfl, hb⟩
        have HD2 := hide (then_below HD0.out hb)
        clear hb
        go_wp2_with fail
        refine (HWs.out _ (HG.out _ HD2.out)).mono ?_
        rintro e w3 ⟨rfl, hb⟩
        have HD3 := hide (then_below HD2.out hb)
        clear hb
        obtain ⟨y0, y1, y2, ys⟩ := HC.out w3 HD3.out
        go_wp2_with fail
        refine (HR.out _).mono ?_
        rintro e w4 ⟨rfl, hb⟩
        have HD4 := hide (then_below HD3.out hb)
        clear hb y0 y1 y2 ys
        obtain ⟨y0, y1, y2, ys⟩ := HC.out w4 HD4.out
        go_wp2_with fail
        refine (HSh.out _ (HG.out _ HD4.out)).mono ?_
        rintro e w5 ⟨rfl, hb⟩
        have HD5 := hide (then_below HD4.out hb)
        clear hb y0 y1 y2 ys
        go_wp2_with fail
        refine (HJn.out _ (HG.out _ HD5.out)).mono ?_
        rintro e w6 ⟨rfl, hb⟩
        have HD6 := hide (then_below HD5.out hb)
        clear hb
        go_wp2_with fail
        refine (HOne.out _ (HG.out _ HD6.out)).mono ?_
        rintro e w7 ⟨rfl, hb⟩
        have HD7 := hide (then_below HD6.out hb)
        clear hb
        go_wp2_with fail
        refine (HAw.out _ (HG.out _ HD7.out)).mono ?_
        rintro e w8 ⟨rfl, hb⟩
        have HD8 := hide (then_below HD7.out hb)
        clear hb
        go_wp2_with fail
        go_ret
        exact ⟨rfl, HG.out _ HD8.out⟩
      · have hf := h2
        rw [Bool.not_eq_true] at hf
        have HB0 := hide (Below.refl w.heap.size w)
        rw [h0] at HW0
        rw [h1] at HWs
        rw [hf] at HR
        clear h0 h1 h2 hf
        clear HJ HSh hv hn hz
        go_enter Tryz.func5, Tryz.ntmps5
        go_wp2_with fail
        refine (HT.out _).mono ?_
        rintro e w1 ⟨rfl, hb⟩
        have HB1 := hide (HB0.out.trans hb)
        clear hb HT
        go_wp2_with fail
        obtain ⟨W1, hW1⟩ : ∃ W, W = w1.alloc (.cells #[.int .i64 2, .int .i64 0, .string s1] 33) := ⟨_, rfl⟩
        have hb1 : Below w1.heap.size w1 W1 := by rw [hW1]; exact Joins.below_alloc1 w1 _
        have hX : HoldB w1.heap.size 33 [.int .i64 2, .int .i64 0, .string s1] W1 := by rw [hW1]; exact heap_alloc_new _ _
        have hlt1 : w1.heap.size < W1.heap.size := by rw [hW1]; simp
        have HC := hide (fun w' (hb : Below W1.heap.size W1 w') => (by
          have hh : HoldB w1.heap.size 33 [.int .i64 2, .int .i64 0, .string s1] w' := (hb.block _ hlt1).trans hX
          exact ⟨by rw [Lib.cell_of_heap hh 0]; rfl, by rw [Lib.cell_of_heap hh 1]; rfl, by rw [Lib.cell_of_heap hh 2]; rfl, holds_size hh⟩ : w'.cell? ⟨w1.heap.size, 0, none⟩ = some (.int .i64 2) ∧ w'.cell? ⟨w1.heap.size, 1, none⟩ = some (.int .i64 0) ∧ w'.cell? ⟨w1.heap.size, 2, none⟩ = some (.string s1) ∧ w1.heap.size < w'.heap.size))
        have HBW := hide (then_below HB1.out hb1)
        have HD0 := hide (Below.refl W1.heap.size W1)
        have HG := hide (fun w' (hb : Below W1.heap.size W1 w') => then_below HBW.out hb)
        rw [← hW1]
        clear hW1 hb1 hX hlt1
        refine (HW0.out _).mono ?_
        rintro e w2 ⟨rfl, hb⟩
        have HD2 := hide (then_below HD0.out hb)
        clear hb
        go_wp2_with fail
        refine (HWs.out _ (HG.out _ HD2.out)).mono ?_
        rintro e w3 ⟨rfl, hb⟩
        have HD3 := hide (then_below HD2.out hb)
        clear hb
        obtain ⟨y0, y1, y2, ys⟩ := HC.out w3 HD3.out
        go_wp2_with fail
        refine (HR.out _).mono ?_
        rintro e w4 ⟨rfl, hb⟩
        have HD4 := hide (then_below HD3.out hb)
        clear hb y0 y1 y2 ys
        obtain ⟨y0, y1, y2, ys⟩ := HC.out w4 HD4.out
        go_wp2_with fail
        refine (HAw.out _ (HG.out _ HD4.out)).mono ?_
        rintro e w8 ⟨rfl, hb⟩
        have HD8 := hide (then_below HD4.out hb)
        clear hb
        go_wp2_with fail
        go_ret
        exact ⟨rfl, HG.out _ HD8.out⟩
    · have hf := h1
      rw [Bool.not_eq_true] at hf
      have HB0 := hide (Below.refl w.heap.size w)
      rw [h0] at HW0
      rw [hf] at HWs
      clear h0 h1 hf HR
      clear HJ HSh hv hn hz
      go_enter Tryz.func5, Tryz.ntmps5
      go_wp2_with fail
      refine (HT.out _).mono ?_
      rintro e w1 ⟨rfl, hb⟩
      have HB1 := hide (HB0.out.trans hb)
      clear hb HT
      go_wp2_with fail
      obtain ⟨W1, hW1⟩ : ∃ W, W = w1.alloc (.cells #[.int .i64 2, .int .i64 0, .string s1] 33) := ⟨_, rfl⟩
      have hb1 : Below w1.heap.size w1 W1 := by rw [hW1]; exact Joins.below_alloc1 w1 _
      have hX : HoldB w1.heap.size 33 [.int .i64 2, .int .i64 0, .string s1] W1 := by rw [hW1]; exact heap_alloc_new _ _
      have hlt1 : w1.heap.size < W1.heap.size := by rw [hW1]; simp
      have HC := hide (fun w' (hb : Below W1.heap.size W1 w') => (by
        have hh : HoldB w1.heap.size 33 [.int .i64 2, .int .i64 0, .string s1] w' := (hb.block _ hlt1).trans hX
        exact ⟨by rw [Lib.cell_of_heap hh 0]; rfl, by rw [Lib.cell_of_heap hh 1]; rfl, by rw [Lib.cell_of_heap hh 2]; rfl, holds_size hh⟩ : w'.cell? ⟨w1.heap.size, 0, none⟩ = some (.int .i64 2) ∧ w'.cell? ⟨w1.heap.size, 1, none⟩ = some (.int .i64 0) ∧ w'.cell? ⟨w1.heap.size, 2, none⟩ = some (.string s1) ∧ w1.heap.size < w'.heap.size))
      have HBW := hide (then_below HB1.out hb1)
      have HD0 := hide (Below.refl W1.heap.size W1)
      have HG := hide (fun w' (hb : Below W1.heap.size W1 w') => then_below HBW.out hb)
      rw [← hW1]
      clear hW1 hb1 hX hlt1
      refine (HW0.out _).mono ?_
      rintro e w2 ⟨rfl, hb⟩
      have HD2 := hide (then_below HD0.out hb)
      clear hb
      go_wp2_with fail
      refine (HWs.out _ (HG.out _ HD2.out)).mono ?_
      rintro e w3 ⟨rfl, hb⟩
      have HD3 := hide (then_below HD2.out hb)
      clear hb
      obtain ⟨y0, y1, y2, ys⟩ := HC.out w3 HD3.out
      go_wp2_with fail
      refine (HAw.out _ (HG.out _ HD3.out)).mono ?_
      rintro e w8 ⟨rfl, hb⟩
      have HD8 := hide (then_below HD3.out hb)
      clear hb
      go_wp2_with fail
      go_ret
      exact ⟨rfl, HG.out _ HD8.out⟩
  · have hf := h0
    rw [Bool.not_eq_true] at hf
    have HB0 := hide (Below.refl w.heap.size w)
    rw [hf] at HW0
    clear h0 hf HR HWs
    clear HJ HSh hv hn hz
    go_enter Tryz.func5, Tryz.ntmps5
    go_wp2_with fail
    refine (HT.out _).mono ?_
    rintro e w1 ⟨rfl, hb⟩
    have HB1 := hide (HB0.out.trans hb)
    clear hb HT
    go_wp2_with fail
    obtain ⟨W1, hW1⟩ : ∃ W, W = w1.alloc (.cells #[.int .i64 2, .int .i64 0, .string s1] 33) := ⟨_, rfl⟩
    have hb1 : Below w1.heap.size w1 W1 := by rw [hW1]; exact Joins.below_alloc1 w1 _
    have hX : HoldB w1.heap.size 33 [.int .i64 2, .int .i64 0, .string s1] W1 := by rw [hW1]; exact heap_alloc_new _ _
    have hlt1 : w1.heap.size < W1.heap.size := by rw [hW1]; simp
    have HC := hide (fun w' (hb : Below W1.heap.size W1 w') => (by
      have hh : HoldB w1.heap.size 33 [.int .i64 2, .int .i64 0, .string s1] w' := (hb.block _ hlt1).trans hX
      exact ⟨by rw [Lib.cell_of_heap hh 0]; rfl, by rw [Lib.cell_of_heap hh 1]; rfl, by rw [Lib.cell_of_heap hh 2]; rfl, holds_size hh⟩ : w'.cell? ⟨w1.heap.size, 0, none⟩ = some (.int .i64 2) ∧ w'.cell? ⟨w1.heap.size, 1, none⟩ = some (.int .i64 0) ∧ w'.cell? ⟨w1.heap.size, 2, none⟩ = some (.string s1) ∧ w1.heap.size < w'.heap.size))
    have HBW := hide (then_below HB1.out hb1)
    have HD0 := hide (Below.refl W1.heap.size W1)
    have HG := hide (fun w' (hb : Below W1.heap.size W1 w') => then_below HBW.out hb)
    rw [← hW1]
    clear hW1 hb1 hX hlt1
    refine (HW0.out _).mono ?_
    rintro e w2 ⟨rfl, hb⟩
    have HD2 := hide (then_below HD0.out hb)
    clear hb
    go_wp2_with fail
    refine (HAw.out _ (HG.out _ HD2.out)).mono ?_
    rintro e w8 ⟨rfl, hb⟩
    have HD8 := hide (then_below HD2.out hb)
    clear hb
    go_wp2_with fail
    go_ret
    exact ⟨rfl, HG.out _ HD8.out⟩
end Go.Proofs.YtljoajjlkjjgeaaGreatDoor
