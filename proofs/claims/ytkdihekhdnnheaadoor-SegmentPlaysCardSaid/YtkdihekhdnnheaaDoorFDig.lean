/-
  The decoder's digits: the bytes of an integer that is not negative.
-/
import Derived.Test.YtkdihekhdnnheaaDoorFBack
import Derived.Laws.BitsAll
import Derived.IntWalk
namespace Go.Proofs.YtkdihekhdnnheaaDoor
open Go.RowKit Go.Shelf

attribute [local go_sem] Oper.semAt_some

/-- What take gives: these bytes; what is left. -/
def TakeRes (lo : Nat → Prop) (g : Nat) (w : World) (bl l2 : List UInt8) (b2 : Bool) (e : Ending) (w' : World) : Prop :=
  ∃ A c, e = .returned (.slice A bl.length c) ∧ Reads lo g w' A bl ∧ InAt lo g w' l2 b2 ∧ OnlyG g w w'
def DigRes (lo : Nat → Prop) (g : Nat) (w : World) (bl l2 : List UInt8) (b2 : Bool) (e : Ending) (w' : World) : Prop :=
  ((lastB bl ≠ 0 ∧ valL bl < 9223372036854775808) → e = .returned (.int .i64 (valL bl : Nat)) ∧ InAt lo g w' l2 b2) ∧
  (¬ (lastB bl ≠ 0 ∧ valL bl < 9223372036854775808) → e = .returned (.int .i64 0) ∧ InAt lo g w' [] true) ∧ OnlyG g w w'

theorem accB_bd (pre : List (Nat × UInt8)) : accB pre < 256 ^ pre.length := by
  have key : ∀ (l : List (Nat × UInt8)) (n k : Nat), n < 256 ^ k → l.foldl (fun n x => n * 256 + x.2.toNat) n < 256 ^ (k + l.length) := fun l => by
    induction l with
    | nil => intro n k h; exact h
    | cons x l ih =>
      intro n k h
      have hx := x.2.toNat_lt
      rw [List.foldl_cons, List.length_cons, show k + (l.length + 1) = k + 1 + l.length by omega]
      refine ih _ (k + 1) ?_
      rw [Nat.pow_succ]
      omega
  have := key pre 0 0 (by simp)
  rwa [Nat.zero_add] at this
theorem lastB_get {l : List UInt8} (h : l ≠ []) : lastB l = (l.getD (l.length - 1) 0).toNat := by
  unfold lastB
  rw [List.getLast?_eq_getElem?, List.getD_eq_getElem?_getD, List.getElem?_eq_getElem (by have := List.length_pos_iff.2 h; omega)]
  rfl
theorem OnlyG.then {g : Nat} {a b c : World} (h : OnlyG g a b) (k : Below a.heap.size b c) : OnlyG g a c :=
  ⟨k.os.trans h.os, k.tape.trans h.tape, k.output.trans h.output, Nat.le_trans h.size k.size, fun i hi hg => (k.block i hi).trans (h.block i hi hg)⟩
theorem InAt.empty {lo : Nat → Prop} {g : Nat} {w w' : World} (h : InAt lo g w [] true) (hb : w'.heap[g]? = w.heap[g]?) : InAt lo g w' [] true := by
  obtain ⟨hg, h0, A, c, hbx, h1, h2, h3, h4, h5⟩ := h
  exact ⟨hg, h0, A, c, hb.trans hbx, h1, h2, h3, h4, Reads.nil _ _ _ _⟩
theorem or_byte (N c : Nat) (hN : N < 72057594037927936) (hc : c < 256) : bits .or .u64 ((N : Int) * 256) (c : Int) = ((N * 256 + c : Nat) : Int) := by
  rw [show (N : Int) * 256 = ((N * 256 : Nat) : Int) by omega, u64_or_nat _ _ (by omega) (by omega)]
  congr 1
  rw [Nat.mul_comm]
  exact (Nat.two_pow_add_eq_or_of_lt (i := 8) hc N).symm

set_option maxRecDepth 100000 in
set_option maxHeartbeats 4000000 in
theorem dig_walk {lo : Nat → Prop} {g : Nat} {bl l2 : List UInt8} {b2 : Bool} (n : Nat) (w : World) (hn : n ≤ 8) (hbl : bl.length ≤ 8)
    (hT : Calls Tryd.prog 74 #[vI g, .int .i64 n] w (TakeRes lo g w bl l2 b2)) :
    Calls Tryd.prog 77 #[vI g, .int .i64 n] w (DigRes lo g w bl l2 b2) := by
  have HT := hide hT
  clear hT
  refine (callsIn_wide (n := 3)).1 ?_
  refine callsIn_of_wp_marks Tryd.func77 rfl trivial ?_ rfl
  simp only [Tryd.ntmps77, List.size_toArray, List.length_cons, List.length_nil, Nat.reduceAdd, Nat.reduceSub, Array.replicate_succ, Array.replicate_zero, List.push_toArray, List.append_toArray, List.nil_append, List.cons_append]
  have hd8 : decide (8 < (n : Int)) = false := by simp; omega
  gi_wp2_with (refine ⟨trivial, ?_⟩; gi_at_call 74; refine (callsIn_wide.2 HT.out).mono ?_; rintro e w2 ⟨A, c, rfl, hR2, hI2, ho2⟩)
  refine ⟨trivial, ?_⟩
  refine (back_in Fence.wide 2 trivial rfl _ _ _ _).mono ?_
  rintro e w3 ⟨rfl, rfl⟩
  have bN := Boxed.new w2 92 (.int .u64 0)
  have bS := Boxed.new (w2.alloc (.cells #[.int .u64 0] 92)) 28 (.slice A bl.length c)
  rw [World.size_alloc] at bS
  have hB0 : Below w2.heap.size w2 ((w2.alloc (.cells #[.int .u64 0] 92)).alloc (.cells #[.slice A bl.length c] 28)) := ((Below.refl _ w2).alloc (Nat.le_refl _) _).alloc (by simp) _
  have HR2 := hide hR2
  have HI2 := hide hI2
  have HO2 := hide ho2
  clear hR2 hI2 ho2
  gi_wp2
  have hBy : BytesAt w2.heap.size ((w2.alloc (.cells #[.int .u64 0] 92)).alloc (.cells #[.slice A bl.length c] 28)) A bl := HR2.out.bytes.below hB0
  have HB0 := hide hB0
  refine wpIn_rangeFunc_ownG rfl (by omega) (gf := 79) (lb := #[.pointer (some ⟨w2.heap.size + 1, 0, none⟩)]) rfl trivial (enters_of Tryd.func79 (by kernel_rfl) rfl)
    (back_stops Fence.wide 2 trivial rfl (by omega) (w2.heap.size + 1) w2.heap.size c A bl (by omega) _ (by simp) (by simp; omega) bS.cell hBy) (fun h k => h.trans k)
    (fun W l o o' hl h h1 h2 => ⟨belowK_b (w := w2) (Nat.le_refl _) W l o o' (by simp at hl; omega) h h1 h2, (belowK_b (n₀ := w2.heap.size + 1 + 1) (w := (w2.alloc (.cells #[.int .u64 0] 92)).alloc (.cells #[.slice A bl.length c] 28)) (by simp) W l o o' hl h h1 h2).block _ (by omega)⟩)
    (Below.refl _ _) (fun _ => rfl)
    (fun pre W => (W.cell? ⟨w2.heap.size, 0, none⟩ = some (.int .u64 (accB pre : Nat)) ∧ W.frozen? ⟨w2.heap.size, 0, none⟩ = false) ∧ Below w2.heap.size w2 W)
    (fun _ _ _ => False)
    (OwnFrom.and (Own.from (fun s A B row hs hg hr => ⟨cell_kept hs.1 hg hr, (frozen_kept hs.1 hg hr).trans hs.2⟩) _) (ownFrom_below (Nat.le_refl _) (by simp; omega)))
    (fun _ _ _ _ _ hs _ _ => hs)
    ⟨⟨(bN.alloc _).cell, (bN.alloc _).frozen⟩, hB0⟩
    (fun x => { tmps := #[vI g, .int .i64 n, undef, undef, .int .i64 0, .slice A bl.length c, .pointer (some ⟨w2.heap.size, 0, none⟩), undef, .int .u8 x.2.toNat, .int .i64 n, .bool false, undef, undef, vI g, .int .i64 n, .slice A bl.length c, .slice A bl.length c, .func (.func 79) #[] #[.pointer (some ⟨w2.heap.size + 1, 0, none⟩)], .int .i64 (x.1 : Int), .int .u8 x.2.toNat, undef, undef, undef, undef, undef, undef, undef, undef, undef, undef, undef, undef, undef, undef, undef, undef, undef, undef, undef, undef, undef, undef, undef, undef, undef], defers := [] }) ?assign ?body ?done ?stop
  case assign =>
    intro l x W K hK
    gi_wp2
    exact hK
  case body =>
    rintro l pre x W ⟨⟨hc, hf⟩, hB⟩ hlen
    have hN : accB pre < 72057594037927936 := Nat.lt_of_lt_of_le (accB_bd pre) (show 256 ^ pre.length ≤ 256 ^ 7 from Nat.pow_le_pow_right (by omega) (by omega))
    have hcx : x.2.toNat < 256 := x.2.toNat_lt
    have ho := or_byte (accB pre) x.2.toNat hN hcx
    have HS := hide (accB_snoc pre x)
    generalize accB pre = N at *
    gi_wp2
    exact ⟨(KeepsOthers.setCell _ _ _).from _, ⟨(Below.refl w2.heap.size W).setCell (p := ⟨w2.heap.size, 0, none⟩) (Nat.le_refl _) _, Below.heap_setCell _ _ _ _ (show w2.heap.size + 1 ≠ w2.heap.size by omega)⟩, ⟨by rw [HS.out]; exact World.cell?_setCell_same' _ _ _ (by rw [hc]; rfl), by rw [World.frozen?_setCell]; exact hf⟩, hB.setCell (p := ⟨w2.heap.size, 0, none⟩) (Nat.le_refl _) _⟩
  case done =>
    rintro D ys W hD rfl ⟨⟨hc, _⟩, hB⟩ hK
    rw [accB_all] at hc
    have hD2 : w2.heap.size ≤ D := by simp at hD; omega
    have HI := hide (HI2.out.below hB)
    have HO := hide (HO2.out.trans (OnlyG.of_below hB))
    have HFl := hide (fail_any W (HI2.out.below hB))
    have hgl := (HI2.out).lt
    have hv : valL bl < 18446744073709551616 := Nat.lt_of_lt_of_le (valL_lt bl) (show 256 ^ bl.length ≤ 256 ^ 8 from Nat.pow_le_pow_right (by omega) hbl)
    have HGood := hide (fun (h : lastB bl ≠ 0 ∧ valL bl < 9223372036854775808) => (by
      have hb2 := belowK_b (n₀ := w2.heap.size) (w := w2) (Nat.le_refl _) W D _ (.deferred none) hD2 hK rfl rfl
      exact ⟨fun _ => ⟨rfl, HI2.out.below (hB.trans hb2)⟩, fun hn => absurd h hn, HO.out.then (hb2.mono HO2.out.size)⟩ : DigRes lo g w bl l2 b2 (.returned (.int .i64 (valL bl : Nat))) (W.putObj D (.deferred none))))
    have HBad := hide (fun (W3 : World) (h : ¬ (lastB bl ≠ 0 ∧ valL bl < 9223372036854775808)) (hi : InAt lo g W3 [] true) (ho : OnlyG g W W3) => (by
      have hDlt : D < W.heap.size := (Array.getElem?_eq_some_iff.1 hK).1
      have hK3 : W3.heap[D]? = some (.deferred (some [])) := (ho.block D hDlt (by omega)).trans hK
      have hb2 := belowK_b (n₀ := w2.heap.size) (w := w2) (Nat.le_refl _) W3 D _ (.deferred none) hD2 hK3 rfl rfl
      exact ⟨hK3, fun hn => absurd hn h, fun _ => ⟨rfl, hi.empty (hb2.block g hgl)⟩, (HO.out.trans ho).then (hb2.mono HO2.out.size)⟩ : W3.heap[D]? = some (.deferred (some [])) ∧ DigRes lo g w bl l2 b2 (.returned (.int .i64 0)) (W3.putObj D (.deferred none))))
    by_cases h0 : bl = []
    · subst h0
      have hv0 : valL [] = 0 := rfl
      have HG := hide (show DigRes lo g w [] l2 b2 (.returned (.int .i64 0)) (W.putObj D (.deferred none)) from HGood.out (by decide))
      rw [hv0] at hc
      clear hv hB hBy HGood HBad HR2 hB0
      gi_wp2
      refine ⟨by simp, .inl ⟨_, _, rfl, run_takeDeferred hK, ?_⟩⟩
      refine ⟨_, results_tmp rfl _ _ _, ?_⟩
      exact HG.out
    · have hln : 0 < bl.length := List.length_pos_iff.2 h0
      obtain ⟨b, off, hA, hb, cl⟩ := (HR2.out.bytes.below hB) (bl.length - 1) (by omega)
      have HL := hide (lastB_get h0)
      have hci : (bl.length : Int) - 1 = ((bl.length - 1 : Nat) : Int) := by omega
      generalize bl.getD (bl.length - 1) 0 = z at *
      subst hA
      generalize valL bl = V at *
      have hz : z.toNat < 256 := z.toNat_lt
      clear hB hBy hB0 bN bS h0
      have hw1 : IntKind.i64.wrap ((bl.length : Int) - 1) = (bl.length : Int) - 1 := IntWalk.i64_in _ (by omega)
      by_cases hz0 : z.toNat = 0
      · have hzb : (((z.toNat : Nat) : Int) == 0) = true := by rw [hz0]; rfl
        rw [hci] at hw1
        have HB := hide (fun W3 => HBad.out W3 (fun h => h.1 (by rw [HL.out]; exact hz0)))
        clear HBad HGood
        gi_wp2
        refine ⟨trivial, (callsIn_wide.2 HFl.out).mono ?_⟩
        rintro e W3 ⟨rfl, hi3, ho3⟩
        obtain ⟨hK3, hF3⟩ := HB.out W3 hi3 ho3
        have HF3 := hide hF3
        clear hi3 ho3 hF3
        gi_wp2
        refine ⟨by simp, .inl ⟨_, _, rfl, run_takeDeferred hK3, ?_⟩⟩
        refine ⟨_, results_tmp rfl _ _ _, ?_⟩
        exact HF3.out
      · have hzb : (((z.toNat : Nat) : Int) == 0) = false := by rw [beq_eq_false_iff_ne]; omega
        rw [hci] at hw1
        by_cases hV : V < 9223372036854775808
        · have HG := hide (HGood.out ⟨by rw [HL.out]; exact hz0, hV⟩)
          clear HBad HGood hv
          gi_wp2
          refine ⟨by simp, .inl ⟨_, _, rfl, run_takeDeferred hK, ?_⟩⟩
          refine ⟨_, results_tmp rfl _ _ _, ?_⟩
          exact HG.out
        · have HB := hide (fun W3 => HBad.out W3 (fun h => hV h.2))
          have hV2 : (9223372036854775807 : Int) < V := by omega
          clear HBad HGood
          gi_wp2
          refine ⟨trivial, (callsIn_wide.2 HFl.out).mono ?_⟩
          rintro e W3 ⟨rfl, hi3, ho3⟩
          obtain ⟨hK3, hF3⟩ := HB.out W3 hi3 ho3
          have HF3 := hide hF3
          clear hi3 ho3 hF3
          gi_wp2
          refine ⟨by simp, .inl ⟨_, _, rfl, run_takeDeferred hK3, ?_⟩⟩
          refine ⟨_, results_tmp rfl _ _ _, ?_⟩
          exact HF3.out
  case stop =>
    rintro D c pre W _ _ h _
    exact h.elim
end Go.Proofs.YtkdihekhdnnheaaDoor
