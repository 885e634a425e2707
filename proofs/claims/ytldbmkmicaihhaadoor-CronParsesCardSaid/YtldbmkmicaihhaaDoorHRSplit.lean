/-
  The reference's split.
-/
import Derived.Test.YtldbmkmicaihhaaDoorHBetw
import Derived.Test.YtldbmkmicaihhaaDoorHPie
import Derived.Laws.OwnMore
import Derived.Deep.AppendLies
import Derived.Laws.Concat
namespace Go.Proofs.YtldbmkmicaihhaaDoor
open Go.RowKit CM HM

theorem pieces_snoc (c b : UInt8) : ∀ l : List UInt8, ∃ (r : List (List UInt8)) (p : List UInt8), pieces c l = r ++ [p] ∧ pieces c (l ++ [b]) = if b = c then r ++ [p] ++ [[]] else r ++ [p ++ [b]]
  | [] => ⟨[], [], rfl, by
    show pieces c [b] = _
    unfold pieces
    split <;> simp [pieces]⟩
  | a :: l => by
    obtain ⟨r, p, h1, h2⟩ := pieces_snoc c b l
    rw [List.cons_append]
    unfold pieces
    rw [h1, h2]
    by_cases ha : a = c
    · rw [if_pos ha, if_pos ha]
      refine ⟨[] :: r, p, rfl, ?_⟩
      split <;> rfl
    · rw [if_neg ha, if_neg ha]
      cases r with
      | nil =>
        refine ⟨[], a :: p, rfl, ?_⟩
        by_cases hb : b = c
        · rw [if_pos hb, if_pos hb]; rfl
        · rw [if_neg hb, if_neg hb]; rfl
      | cons q r =>
        refine ⟨(a :: q) :: r, p, rfl, ?_⟩
        by_cases hb : b = c
        · rw [if_pos hb, if_pos hb]; rfl
        · rw [if_neg hb, if_neg hb]; rfl
theorem piece_le (c : UInt8) : ∀ (l q : List UInt8), q ∈ pieces c l → q.length ≤ l.length
  | [], q, h => by simp [pieces] at h; simp [h]
  | b :: l, q, h => by
    unfold pieces at h
    split at h
    · rcases List.mem_cons.1 h with h | h
      · simp [h]
      · have := piece_le c l q h; simp; omega
    · split at h
      · rename_i hp
        simp at h; simp [h]
      · rename_i p r hp
        rcases List.mem_cons.1 h with h | h
        · have := piece_le c l p (by rw [hp]; exact List.mem_cons_self)
          simp [h]; exact this
        · have := piece_le c l q (by rw [hp]; exact List.mem_cons_of_mem _ h)
          simp; omega
def strCells (ts : List ByteArray) : List Value := ts.map Value.string
def bytesL (ts : List ByteArray) : List (List UInt8) := ts.map fun t => t.data.toList
theorem str_info : (Tryd.prog.info? 9).map (fun i => (i.zero, i.size, i.bytes)) = some (some (.string ⟨#[]⟩), 1, 16) := by kernel_rfl
theorem str_new (w : World) (t : TypeId) (s : ByteArray) (H : Nat) (hH : w.heap.size = H) : ∀ j u, ([.string s] : List Value)[j]? = some u → (w.alloc (.cells #[.string s] t)).cell? ((⟨H, 0, none⟩ : Addr).add j) = some u := fun j u hj => by
  subst hH
  match j, hj with
  | 0, hj => simp at hj; subst hj; simp [Addr.add]
theorem str_one' (s : ByteArray) : ∀ u ∈ ([.string s] : List Value), u.oneCell' = true := fun u hu => by
  simp at hu; subst hu; rfl
/-- What split tells. -/
def RSpl (c : UInt8) (l : List UInt8) (w : World) (e : Ending) (w' : World) : Prop :=
  (∃ v ts, e = .returned v ∧ bytesL ts = pieces c l ∧ w'.ownsRow w.heap.size 9 1 v ts.length (strCells ts)) ∧ Below w.heap.size w w'
theorem row_snoc {w : World} {base : Nat} {v : Value} {ts : List ByteArray} (h : w.ownsRow base 9 1 v ts.length (strCells ts)) (hn : ts ≠ []) :
    ∃ g cap r p, ts = r ++ [p] ∧ v = .slice (some ⟨g, 0, none⟩) (r.length + 1) cap ∧ base ≤ g ∧ w.cell? ⟨g, r.length, none⟩ = some (.string p) ∧ w.frozen? ⟨g, r.length, none⟩ = false := by
  obtain ⟨r, p, rfl⟩ : ∃ r p, ts = r ++ [p] := ⟨ts.dropLast, ts.getLast hn, (List.dropLast_concat_getLast hn).symm⟩
  have hl : (r ++ [p]).length = r.length + 1 := by simp
  rw [hl] at h
  rcases h.2 with ⟨rfl, h0⟩ | ⟨g, cap, cur, rfl, hb, -⟩
  · omega
  · refine ⟨g, cap, r, p, rfl, rfl, hb, ?_, h.frozenAt _⟩
    rw [h.cellAt r.length (by omega)]
    simp [strCells]
set_option maxRecDepth 100000 in
set_option maxHeartbeats 4000000 in
theorem rsplit_any (s : ByteArray) (c : UInt8) (w : World) (hs : s.size ≤ 1000000) : Calls Tryd.prog 28 #[.string s, .int .u8 c.toNat] w (RSpl c s.data.toList w) := by
  obtain ⟨i0, hi, hz0, hz1, hz2⟩ := info_parts str_info
  have HLn : Hid (s.data.toList.length = s.size) := hide (by simp)
  have HT : Hid (∀ k (h : k < s.size), s.data.toList.take (k + 1) = s.data.toList.take k ++ [s[k]'h]) := hide (fun k h => by
    rw [List.take_succ_eq_append_getElem (by rw [Array.length_toList]; exact h)]; rfl)
  have HLast : Hid (s.data.toList.take s.size = s.data.toList) := hide (by rw [← HLn.out, List.take_length])
  go_enter Tryd.func28, Tryd.ntmps28
  go_wp2_with fail
  go_loopw [5, 6] (fun v i wr => ∃ (ts : List ByteArray) (k : Nat), k ≤ s.size ∧ i = .int .i64 (k : Nat) ∧ ts.length ≤ k + 1 ∧ bytesL ts = pieces c (s.data.toList.take k) ∧ wr.ownsRow w.heap.size 9 1 v ts.length (strCells ts) ∧ Below w.heap.size w wr) (fun _ i _ => s.size - (intOf i).toNat)
  case atStart => exact ⟨[⟨#[]⟩], 0, by omega, rfl, by simp, by simp [bytesL, pieces], World.ownsRow_lit w #[.string ⟨#[]⟩] 1 (Nat.le_refl _) (by decide) rfl, (Below.refl _ _).alloc (Nat.le_refl _) _⟩
  case round =>
    obtain ⟨ts, k, hk, rfl, hln, hpc, hrow, hb⟩ := hrel
    have HPC := hide hpc
    have HB := hide hb
    clear hpc hb
    by_cases hlt : k < s.size
    · obtain ⟨b, hbe⟩ : ∃ b : UInt8, s[k]'hlt = b := ⟨_, rfl⟩
      have HTk := hide (HT.out k hlt)
      rw [hbe] at HTk
      by_cases hbc : b = c
      · subst hbc
        have hzr := HB.out.size
        go_wp2_with (at_builtin; go_must (refine wpList_append_own_at _ rfl _ _ 55 rfl w.heap.size 9 i0 (.string ⟨#[]⟩) 1 16 Tryd.underlying55 hi hz0 hz1 hz2 rfl (by decide) _ _ _ rfl (hrow.alloc _) ⟨wr.heap.size, 0, none⟩ 1 1 [.string ⟨#[]⟩] rfl rfl (str_new _ _ _ _ rfl) (str_one' _) (by unfold maxLen; omega) (by omega) (by simp; omega) ?_))
        intro v1 w3 hown3 hgrow3 _ hat3
        have HO3 : Hid (w3.ownsRow w.heap.size 9 1 v1 (ts ++ [(⟨#[]⟩ : ByteArray)]).length (strCells (ts ++ [(⟨#[]⟩ : ByteArray)]))) := hide (by
          have e1 : (ts ++ [(⟨#[]⟩ : ByteArray)]).length = ts.length + 1 := by simp
          have e2 : strCells (ts ++ [(⟨#[]⟩ : ByteArray)]) = strCells ts ++ [.string ⟨#[]⟩] := by simp [strCells]
          rw [e1, e2]; exact hown3)
        have HB3 : Hid (Below w.heap.size w w3) := hide ((HB.out.alloc HB.out.size _).grown hgrow3 (by simp; omega) (fun j hj => (hrow.lt j hj).1))
        have HP3 : Hid (bytesL (ts ++ [(⟨#[]⟩ : ByteArray)]) = pieces b (s.data.toList.take (k + 1))) := hide (by
          obtain ⟨r, p, h1, h2⟩ := pieces_snoc b b (s.data.toList.take k)
          rw [HTk.out, h2, if_pos rfl, ← h1, ← HPC.out]; simp [bytesL])
        have HL3 : Hid ((ts ++ [(⟨#[]⟩ : ByteArray)]).length ≤ k + 1 + 1) := hide (by simp; omega)
        clear hown3 hgrow3 hat3 hrow hln
        go_wp2_with fail
        go_roundw
        case rel => exact ⟨ts ++ [(⟨#[]⟩ : ByteArray)], k + 1, by omega, by first | rfl | simp, HL3.out, HP3.out, HO3.out, HB3.out⟩
        case measure => simp [intOf]; omega
      · have hbc2 : ((b.toNat : Int) == (c.toNat : Int)) = false := by
          rw [beq_eq_false_iff_ne]
          intro h
          exact hbc (UInt8.toNat_inj.1 (by omega))
        have hne : ts ≠ [] := fun e => by
          have := HPC.out
          rw [e] at this
          exact pieces_ne c _ this.symm
        obtain ⟨g, cap, r, p, rfl, rfl, hbg, hcell, hfz⟩ := row_snoc hrow hne
        have HROW := hide hrow
        clear hrow hne
        have hrl : r.length ≤ 1000000 := by rw [List.length_append, List.length_singleton] at hln; omega
        have HPs : Hid (p.size ≤ 1000000) := hide (by
          have h1 := piece_le c (s.data.toList.take k) p.data.toList (by rw [← HPC.out]; simp [bytesL])
          rw [Array.length_toList, List.length_take] at h1
          have h2 : p.data.size = p.size := rfl
          omega)
        obtain ⟨x, hx⟩ : ∃ x, s.extract k (k + 1) = x := ⟨_, rfl⟩
        have HXb : Hid (x.data.toList = [b]) := hide (by
          rw [← hx, ByteArray.data_extract, Array.toList_extract, List.extract_eq_take_drop, show k + 1 - k = 1 by omega, ← hbe, List.drop_eq_getElem_cons (by rw [Array.length_toList]; exact hlt), List.take_succ_cons, List.take_zero]
          rfl)
        have hadd : ∀ w, (Op.stringOp .add p x).run Tryd.prog w = .ok (.string (p ++ x)) w := fun w => run_string_add_sum w p x (by
          have h1 : x.data.toList.length = x.size := by simp
          rw [HXb.out] at h1
          have := HPs.out
          simp at h1
          omega)
        have hrI : (r.length : Int) ≤ 1000000 := by omega
        have hr1 : (0 : Int) ≤ (r.length : Int) := by omega
        have hr0 : (r.length : Int) < (r.length : Int) + 1 := by omega
        have hkI : (k : Int) + 1 ≤ (s.size : Int) := by omega
        go_wp2_with fail
        go_region
        have hrw0 := HROW.out
        rw [List.length_append, List.length_singleton] at hrw0
        have hst := hrw0.stored r.length (.string (p ++ x))
        have HO3 : Hid ((wr.setCell ⟨g, r.length, none⟩ (.string (p ++ x))).drew.ownsRow w.heap.size 9 1 (.slice (some ⟨g, 0, none⟩) (r.length + 1) cap) (r ++ [p ++ x]).length (strCells (r ++ [p ++ x]))) := hide (by
          have h1 := hst.1.drew
          have e : (strCells (r ++ [p])).set r.length (.string (p ++ x)) = strCells (r ++ [p ++ x]) := by simp [strCells]
          rw [List.length_append, List.length_singleton]
          rw [e] at h1
          exact h1)
        have HB3 : Hid (Below w.heap.size w (wr.setCell ⟨g, r.length, none⟩ (.string (p ++ x))).drew) := hide ((HB.out.setCell (p := ⟨g, r.length, none⟩) hbg _).drew)
        have HP3 : Hid (bytesL (r ++ [p ++ x]) = pieces c (s.data.toList.take (k + 1))) := hide (by
          obtain ⟨r', p', h1, h2⟩ := pieces_snoc c b (s.data.toList.take k)
          have h3 := HPC.out
          rw [h1] at h3
          have h4 : bytesL r ++ [p.data.toList] = r' ++ [p'] := by simpa [bytesL] using h3
          obtain ⟨h5, h6⟩ := List.append_inj' h4 rfl
          injection h6 with h6
          rw [HTk.out, h2, if_neg hbc, ← h5, ← h6]
          simp [bytesL, HXb.out])
        have HL3 : Hid ((r ++ [p ++ x]).length ≤ k + 1 + 1) := hide (by rw [List.length_append, List.length_singleton] at hln ⊢; omega)
        go_wp2_with fail
        go_roundw
        case rel => exact ⟨r ++ [p ++ x], k + 1, by omega, by first | rfl | simp, HL3.out, HP3.out, HO3.out, HB3.out⟩
        case measure => simp [intOf]; omega
    · obtain rfl : k = s.size := by omega
      have HF : Hid (bytesL ts = pieces c s.data.toList) := hide (by rw [HPC.out, HLast.out])
      have HROW := hide hrow
      clear hrow
      go_wp2_with fail
      go_ret
      exact ⟨⟨_, ts, rfl, HF.out, HROW.out⟩, HB.out⟩
end Go.Proofs.YtldbmkmicaihhaaDoor
