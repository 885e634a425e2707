/-
  Pick: the columns with these names, in order, and their places; or the error.
-/
import Derived.Test.YtheeihdbeefkkaaDoorSFind
import Derived.Test.YtheeihdbeefkkaaDoorSParse
import Derived.Maps.AppendAt
namespace Go.Proofs.YtheeihdbeefkkaaDoor
open Go.RowKit

/-- The slice at A reads as these integers, and lies below block B. -/
def IntsAt (B : Nat) (w : World) (A : Option Addr) (l : List Int) : Prop :=
  ∀ j, j < l.length → ∃ b off, A = some ⟨b, off, none⟩ ∧ b < B ∧ w.cell? ⟨b, off + j, none⟩ = some (.int .i64 (l.getD j 0))
theorem IntsAt.below {B : Nat} {w w' : World} {A : Option Addr} {l : List Int} (h : IntsAt B w A l) (hb : Below B w w') : IntsAt B w' A l := fun j hj => by
  obtain ⟨b, off, e, hlt, h0⟩ := h j hj
  exact ⟨b, off, e, hlt, (hb.cell (p := ⟨b, off + j, none⟩) hlt).trans h0⟩
theorem IntsAt.mono {B B' : Nat} {w : World} {A : Option Addr} {l : List Int} (h : IntsAt B w A l) (hB : B ≤ B') : IntsAt B' w A l := fun j hj => by
  obtain ⟨b, off, e, hlt, r⟩ := h j hj
  exact ⟨b, off, e, Nat.lt_of_lt_of_le hlt hB, r⟩
def intCells (l : List Int) : List Value := l.map (Value.int .i64)
theorem ints_of_row {w : World} {base : Nat} {e : TypeId} {v : Value} {l : List Int} (h : w.ownsRow base e 1 v l.length (intCells l)) :
    ∃ A cap, v = .slice A l.length cap ∧ IntsAt w.heap.size w A l := by
  rcases h.2 with ⟨rfl, h0⟩ | ⟨g, cap, cur, rfl, _, hg, hn, _, hsz, htk⟩
  · rw [h0]; exact ⟨none, 0, rfl, fun j hj => by omega⟩
  · refine ⟨some ⟨g, 0, none⟩, cap, rfl, fun j hj => ⟨g, 0, rfl, ?_, ?_⟩⟩
    · rcases Nat.lt_or_ge g w.heap.size with h' | h'
      · exact h'
      · simp [Array.getElem?_eq_none h'] at hg
    · rw [Nat.zero_add, Lib.cell_of_heap hg]
      have hc : (intCells l)[j]? = some (.int .i64 (l.getD j 0)) := by
        unfold intCells; rw [List.getElem?_map, List.getElem?_eq_getElem hj, List.getD_eq_getElem?_getD, List.getElem?_eq_getElem hj]; rfl
      rw [← htk, List.getElem?_take_of_lt (by omega)] at hc
      simpa using hc

def foundAll (cs : List (ByteArray × Int)) (ns : List ByteArray) : Prop := ∀ n ∈ ns, findK cs n < cs.length
instance foundAll.dec (cs : List (ByteArray × Int)) (ns : List ByteArray) : Decidable (foundAll cs ns) := by unfold foundAll; infer_instance
def pickL (cs : List (ByteArray × Int)) (ns : List ByteArray) : List (ByteArray × Int) := ns.map fun n => cs.getD (findK cs n) (⟨#[]⟩, 0)
def pickI (cs : List (ByteArray × Int)) (ns : List ByteArray) : List Int := ns.map fun n => (findK cs n : Int)
def pickE (cs : List (ByteArray × Int)) (ns : List ByteArray) : Int := if foundAll cs ns then checkC (pickL cs ns) else 13
def PickV (cs : List (ByteArray × Int)) (ns : List ByteArray) (w : World) (e : Ending) (w' : World) : Prop :=
  (if pickE cs ns = 0 then ∃ A c A' c', e = .returned (.tuple #[.slice A (pickL cs ns).length c, .slice A' (pickI cs ns).length c', .int .i64 0]) ∧ ColsAt w'.heap.size w' A (pickL cs ns) ∧ IntsAt w'.heap.size w' A' (pickI cs ns)
    else e = .returned (.tuple #[.slice none 0 0, .slice none 0 0, .int .i64 (pickE cs ns)])) ∧ Below w.heap.size w w'

theorem pickE_not {cs : List (ByteArray × Int)} {ns : List ByteArray} {k : Nat} (hk : k < ns.length) (h : ¬ findK cs (ns.getD k ⟨#[]⟩) < cs.length) : pickE cs ns = 13 := by
  unfold pickE
  rw [if_neg]
  intro ha
  refine h (ha _ ?_)
  rw [List.getD_eq_getElem?_getD, List.getElem?_eq_getElem hk]; exact List.getElem_mem hk
def preF (cs : List (ByteArray × Int)) (ns : List ByteArray) (k : Nat) : Prop := ∀ j, j < k → findK cs (ns.getD j ⟨#[]⟩) < cs.length
theorem preF_succ {cs : List (ByteArray × Int)} {ns : List ByteArray} {k : Nat} (h : preF cs ns k) (hm : findK cs (ns.getD k ⟨#[]⟩) < cs.length) : preF cs ns (k + 1) := fun j hj => by
  by_cases e : j = k
  · subst e; exact hm
  · exact h j (by omega)
theorem foundAll_of {cs : List (ByteArray × Int)} {ns : List ByteArray} (h : preF cs ns ns.length) : foundAll cs ns := fun n hn => by
  obtain ⟨j, hj, e⟩ := List.getElem_of_mem hn
  have := h j hj
  rw [List.getD_eq_getElem?_getD, List.getElem?_eq_getElem hj] at this
  rw [← e]; exact this
theorem pickL_take {cs : List (ByteArray × Int)} {ns : List ByteArray} {k : Nat} (hk : k < ns.length) : colCells ((pickL cs ns).take (k + 1)) = colCells ((pickL cs ns).take k) ++ [.string (cs.getD (findK cs (ns.getD k ⟨#[]⟩)) (⟨#[]⟩, 0)).1, .int .i64 (cs.getD (findK cs (ns.getD k ⟨#[]⟩)) (⟨#[]⟩, 0)).2] := by
  unfold pickL
  rw [take_col (by rw [List.length_map]; exact hk), colCells_snoc]
  rw [List.getD_eq_getElem?_getD (i := k), List.getElem?_map, List.getElem?_eq_getElem hk, List.getD_eq_getElem?_getD (l := ns), List.getElem?_eq_getElem hk]; rfl
theorem pickI_take {cs : List (ByteArray × Int)} {ns : List ByteArray} {k : Nat} (hk : k < ns.length) : intCells ((pickI cs ns).take (k + 1)) = intCells ((pickI cs ns).take k) ++ [.int .i64 (findK cs (ns.getD k ⟨#[]⟩) : Int)] := by
  unfold pickI intCells
  rw [List.take_succ_eq_append_getElem (by rw [List.length_map]; exact hk), List.map_append, List.map_singleton, List.getElem_map, List.getD_eq_getElem?_getD, List.getElem?_eq_getElem hk]; rfl
theorem pickL_wf {cs : List (ByteArray × Int)} {ns : List ByteArray} (hw : Wf cs) (hf : foundAll cs ns) (hl : ns.length ≤ maxLen) : Wf (pickL cs ns) := by
  refine ⟨by unfold pickL; rw [List.length_map]; exact hl, fun c hc => ?_⟩
  unfold pickL at hc
  obtain ⟨n, hn, rfl⟩ := List.mem_map.1 hc
  exact hw.at (hf n hn)
theorem int_info : (Tryd.prog.info? 3).map (fun i => (i.zero, i.size, i.bytes)) = some (some (.int .i64 0), 1, 8) := by kernel_rfl
theorem int_new (w : World) (t : TypeId) (n : Int) (H : Nat) (hH : w.heap.size = H) : ∀ j u, ([.int .i64 n] : List Value)[j]? = some u → (w.alloc (.cells #[.int .i64 n] t)).cell? ((⟨H, 0, none⟩ : Addr).add j) = some u := fun j u hj => by
  subst hH
  match j, hj with
  | 0, hj => simp at hj; subst hj; simp [Addr.add]
theorem int_one (n : Int) : ∀ u ∈ ([.int .i64 n] : List Value), u.oneCell' = true := fun u hu => by
  simp at hu; subst hu; rfl
theorem apart_step {o7 o8 o7' o8' : Option Nat} {H H' : Nat} (hap : ∀ g, o7 = some g → ¬ o8 = some g) (l8 : ∀ g, o8 = some g → g < H) (l7' : ∀ g, o7' = some g → g < H') (h7 : o7' = o7 ∨ o7' = some H) (h8 : o8' = o8 ∨ o8' = some H') : ∀ g, o7' = some g → ¬ o8' = some g := by
  intro g h1 h2
  rcases h8 with h8 | h8
  · rcases h7 with h7 | h7
    · exact hap g (h7.symm.trans h1) (h8.symm.trans h2)
    · have := l8 g (h8.symm.trans h2); rw [h1] at h7; injection h7 with h7; omega
  · have := l7' g h1; rw [h2] at h8; injection h8 with h8; omega

set_option maxHeartbeats 3200000 in
set_option maxRecDepth 100000 in
theorem pick_any (A B : Option Addr) (cap cap' : Nat) (cs : List (ByteArray × Int)) (ns : List ByteArray) (w : World) (hC : ColsAt w.heap.size w A cs) (hS : StrsAt w.heap.size w B ns) (hw : Wf cs) (hl : cs.length ≤ 65536) (hn : ns.length ≤ 65536) :
    Calls Tryd.prog 28 #[.slice A cs.length cap, .slice B ns.length cap'] w (PickV cs ns w) := by
  have HC := hide hC; have HS := hide hS; have HW := hide hw; clear hC hS hw
  obtain ⟨i0, hi, hz0, hz1, hz2⟩ := info_parts col_info
  obtain ⟨i1, hi', hy0, hy1, hy2⟩ := info_parts int_info
  have HLL : Hid ((pickL cs ns).length = ns.length) := hide (by unfold pickL; rw [List.length_map])
  have HLI : Hid ((pickI cs ns).length = ns.length) := hide (by unfold pickI; rw [List.length_map])
  go_enter Tryd.func28, Tryd.ntmps28
  go_wp2
  go_loopw [7, 8, 16] (fun v u i wr => ∃ k : Nat, k ≤ ns.length ∧ i = .int .i64 k ∧ preF cs ns k ∧ wr.ownsRow w.heap.size 33 2 v k (colCells ((pickL cs ns).take k)) ∧ wr.ownsRow w.heap.size 3 1 u k (intCells ((pickI cs ns).take k)) ∧
      (∀ g, v.ownBlock = some g → ¬ u.ownBlock = some g) ∧ Below w.heap.size w wr) (fun _ _ i _ => ns.length - (intOf i).toNat)
  case atStart => exact ⟨0, Nat.zero_le _, rfl, fun j h => by omega, World.ownsRow_nil _ _ _ _, World.ownsRow_nil _ _ _ _, fun g h => by simp [Value.ownBlock] at h, Below.refl _ _⟩
  case round =>
    obtain ⟨k, hk, rfl, hf, hrow, hrow2, hap, hbw⟩ := hrel
    have HF := hide hf; have HAP := hide hap; clear hf hap
    by_cases hlt : k < ns.length
    · obtain ⟨b, off, rfl, hb, c0⟩ := HS.out.below hbw k hlt
      have HFind := hide (find_any A cap cs (ns.getD k ⟨#[]⟩) wr ((HC.out.below hbw).mono hbw.size) (by unfold maxLen; omega))
      have HTL := hide (pickL_take (cs := cs) hlt)
      have HTI := hide (pickI_take (cs := cs) hlt)
      have HNo := hide (fun h => pickE_not (cs := cs) hlt h)
      have HYes := hide (fun h => preF_succ HF.out h)
      generalize ns.getD k ⟨#[]⟩ = nm at c0 HFind HTL HTI HNo HYes
      have hs1 := hbw.size
      by_cases hfk : findK cs nm < cs.length
      · have HY := hide (HYes.out hfk)
        have HFV := hide (foundV_at hfk rfl)
        obtain ⟨b', off', rfl, hb', d0, d1⟩ := HC.out.below hbw (findK cs nm) hfk
        generalize cs.getD (findK cs nm) (⟨#[]⟩, 0) = q at d0 d1 HTL
        generalize findK cs nm = m at *
        go_wp2_with fail
        refine HFind.out.mono ?_
        rintro e w2 ⟨rfl, hb2⟩
        rw [HFV.out]
        have e0 := (hb2.cell (p := ⟨b', off' + m * 2, none⟩) (Nat.lt_of_lt_of_le hb' hs1)).trans d0
        have e1 := (hb2.cell (p := ⟨b', off' + m * 2 + 1, none⟩) (Nat.lt_of_lt_of_le hb' hs1)).trans d1
        have r1 := hrow.kept (only_of_below hb2 none) (by cases hv : u7.ownBlock <;> simp)
        have r2 := hrow2.kept (only_of_below hb2 none) (by cases hv : u8.ownBlock <;> simp)
        have hs2 := hb2.size
        clear HFind d0 d1
        go_wp2_with (at_builtin; go_must (refine wpList_append_own_at _ rfl _ _ 23 rfl w.heap.size 33 i0 (.agg #[.string ⟨#[]⟩, .int .i64 0]) 2 24 Tryd.underlying23 hi hz0 hz1 hz2 rfl (by decide) _ _ _ rfl (r1.alloc _) ⟨w2.heap.size, 0, none⟩ 1 1 [.string q.1, .int .i64 q.2] rfl rfl (col_new _ _ q _ (by simp)) (col_one q) (by unfold maxLen; omega) (by omega) (by simp; omega) ?_))
        intro v1 w3 hown3 hgrow3 _ hat3
        have r3 := (r2.alloc (.cells #[.string q.1, .int .i64 q.2] 33)).kept hgrow3 (by
          rcases hu : u8.ownBlock with _ | g
          · exact .inl rfl
          · exact .inr (fun e => HAP.out g e.symm hu))
        have hs3 := hgrow3.size
        simp at hs3
        have HG3 := hide hgrow3; have HAT3 := hide hat3; have HO3 := hide hown3
        clear hgrow3 hat3 hown3
        go_wp2_with (at_builtin; go_must (refine wpList_append_own_at _ rfl _ _ 36 rfl w.heap.size 3 i1 (.int .i64 0) 1 8 Tryd.underlying36 hi' hy0 hy1 hy2 rfl (by decide) _ _ _ rfl (r3.alloc _) ⟨w3.heap.size, 0, none⟩ 1 1 [.int .i64 m] rfl rfl (int_new _ _ _ _ (by simp)) (int_one _) (by unfold maxLen; omega) (by omega) (by simp; omega) ?_))
        intro v2 w4 hown4 hgrow4 _ hat4
        have hs4 := hgrow4.size
        simp at hs4
        have r5 := (HO3.out.alloc (.cells #[.int .i64 m] 3)).kept hgrow4 (by
          rcases hu : v1.ownBlock with _ | g
          · exact .inl rfl
          · refine .inr (fun e => ?_)
            rcases HAT3.out with h | h
            · exact HAP.out g (h.symm.trans hu) e.symm
            · have := (hrow2.lt g e.symm).2; rw [hu] at h; injection h with h; omega)
        have HG4 := hide hgrow4; have HAT4 := hide hat4; have HO4 := hide hown4; have HR5 := hide r5
        clear hgrow4 hat4 hown4 r5
        go_wp2
        go_roundw
        case rel =>
          refine ⟨k + 1, by omega, by go_num, HY.out, ?_, ?_, ?_, ?_⟩
          · rw [HTL.out]; exact HR5.out
          · rw [HTI.out]; exact HO4.out
          · exact apart_step HAP.out (fun g hg => Nat.lt_of_lt_of_le (hrow2.lt g hg).2 (by omega : wr.heap.size ≤ w2.heap.size + 1)) (fun g hg => Nat.lt_of_lt_of_le (HO3.out.lt g hg).2 (by omega : w3.heap.size ≤ w3.heap.size + 1)) HAT3.out HAT4.out
          · exact ((((hbw.trans (hb2.mono hs1)).alloc (by omega) _).grown HG3.out (by simp; omega) (fun j hj => (hrow.lt j hj).1)).alloc (by omega) _).grown HG4.out (by simp; omega) (fun j hj => (hrow2.lt j hj).1)
        case measure => simp [intOf]; omega
      · have HE := hide (HNo.out hfk)
        have hle := findK_le cs nm
        have HFV := hide (foundV_none (cs := cs) (s := nm) (by omega))
        have HP' := hide (show ∀ e w', ((if pickE cs ns = 0 then ∃ A c A' c', e = Ending.returned (.tuple #[.slice A (pickL cs ns).length c, .slice A' (pickI cs ns).length c', .int .i64 0]) ∧ ColsAt w'.heap.size w' A (pickL cs ns) ∧ IntsAt w'.heap.size w' A' (pickI cs ns)
          else e = .returned (.tuple #[.slice none 0 0, .slice none 0 0, .int .i64 (pickE cs ns)])) ∧ Below w.heap.size w w') → PickV cs ns w e w' from fun _ _ h => h)
        go_wp2_with fail
        refine HFind.out.mono ?_
        rintro e w2 ⟨rfl, hb2⟩
        rw [HFV.out]
        go_wp2
        go_ret3
        refine HP'.out _ _ ⟨?_, hbw.trans (hb2.mono hs1)⟩
        rw [HE.out]
        rfl
    · obtain rfl : k = ns.length := by omega
      have hwf := pickL_wf HW.out (foundAll_of HF.out) (by unfold maxLen; omega)
      have HE := hide (show pickE cs ns = checkC (pickL cs ns) by unfold pickE; rw [if_pos (foundAll_of HF.out)])
      have HP' := hide (show ∀ e w', ((if pickE cs ns = 0 then ∃ A c A' c', e = Ending.returned (.tuple #[.slice A (pickL cs ns).length c, .slice A' (pickI cs ns).length c', .int .i64 0]) ∧ ColsAt w'.heap.size w' A (pickL cs ns) ∧ IntsAt w'.heap.size w' A' (pickI cs ns)
          else e = .returned (.tuple #[.slice none 0 0, .slice none 0 0, .int .i64 (pickE cs ns)])) ∧ Below w.heap.size w w') → PickV cs ns w e w' from fun _ _ h => h)
      generalize pickL cs ns = L at hrow HLL HE HP' hwf
      generalize pickI cs ns = I at hrow2 HLI HP'
      generalize pickE cs ns = E at HE HP'
      rw [← HLL.out, List.take_length] at hrow
      rw [← HLI.out, List.take_length] at hrow2
      obtain ⟨A1, c1, rfl, hA⟩ := cols_of_row hrow
      obtain ⟨A2, c2, rfl, hI⟩ := ints_of_row hrow2
      have HC := hide (check_any A1 c1 L wr hA hwf)
      have HA := hide hA; have HI := hide hI
      have hs1 := hbw.size
      clear hrow hrow2 hA hI hwf
      by_cases hz : checkC L = 0
      · have hk0 : (checkC L != 0) = false := by rw [bne_eq_false_iff_eq]; exact hz
        have HZ := hide hz; clear hz
        go_wp2_with (go_at_call 12; refine HC.out.mono ?_; rintro e w2 ⟨rfl, hb2⟩)
        go_ret3
        refine HP'.out _ _ ⟨?_, hbw.trans (hb2.mono hs1)⟩
        rw [if_pos (by rw [HE.out, HZ.out])]
        exact ⟨A1, c1, A2, c2, rfl, (HA.out.below hb2).mono hb2.size, (HI.out.below hb2).mono hb2.size⟩
      · have hk0 : (checkC L != 0) = true := by rw [bne_iff_ne]; exact hz
        have HZ := hide hz; clear hz
        go_wp2_with (go_at_call 12; refine HC.out.mono ?_; rintro e w2 ⟨rfl, hb2⟩)
        go_ret3
        refine HP'.out _ _ ⟨?_, hbw.trans (hb2.mono hs1)⟩
        rw [if_neg (by rw [HE.out]; exact HZ.out), HE.out]
        rfl
end Go.Proofs.YtheeihdbeefkkaaDoor
