/-
  The log's calls, whole.
-/
import Derived.Test.YtkdebebpnkjmdaaDoorGComp
namespace Go.Proofs.YtkdebebpnkjmdaaDoor
open Go.RowKit

def appendR (p : PD) (L : LV) (rs : List (List UInt8)) : Int × PD × LV := powR p L (appR p L rs)
def syncR (p : PD) (L : LV) : Int × PD × LV := powR p L (synR p L)
def compactR (p : PD) (L : LV) (cp : List UInt8) : Int × PD × LV := powR p L (compR p L cp)
def commitR (p : PD) (L : LV) (rs : List (List UInt8)) : Int × PD × LV := if (appendR p L rs).1 = 0 then syncR (appendR p L rs).2.1 (appendR p L rs).2.2 else appendR p L rs
theorem powR_g (p : PD) (L : LV) (r : Int × PD × LV) : (powR p L r).2.1 = p ∨ (powR p L r).2.1 = r.2.1 := by unfold powR; split <;> simp
theorem appR_ok {p : PD} (h : p.Ok) (L : LV) (rs : List (List UInt8)) : (appR p L rs).2.1.Ok ∧ p.done ≤ (appR p L rs).2.1.done ∧ (appR p L rs).2.1.done ≤ p.done + 1 := by
  unfold appR
  split
  · exact ⟨h, Int.le_refl _, by show p.done ≤ p.done + 1; omega⟩
  · split <;> exact ⟨app_ok h _ _, app_done p _ _⟩
theorem appendR_ok {p : PD} (h : p.Ok) (L : LV) (rs : List (List UInt8)) : (appendR p L rs).2.1.Ok ∧ p.done ≤ (appendR p L rs).2.1.done ∧ (appendR p L rs).2.1.done ≤ p.done + 1 := by
  rcases powR_g p L (appR p L rs) with e | e
  · unfold appendR; rw [e]; exact ⟨h, Int.le_refl _, by omega⟩
  · unfold appendR; rw [e]; exact appR_ok h L rs
theorem synR_ok {p : PD} (h : p.Ok) (L : LV) : (synR p L).2.1.Ok ∧ p.done ≤ (synR p L).2.1.done ∧ (synR p L).2.1.done ≤ p.done + 1 := by
  unfold synR
  split
  · exact ⟨syn_okG h _, syn_done p _⟩
  · exact ⟨h, Int.le_refl _, by show p.done ≤ p.done + 1; omega⟩
theorem syncR_ok {p : PD} (h : p.Ok) (L : LV) : (syncR p L).2.1.Ok ∧ p.done ≤ (syncR p L).2.1.done ∧ (syncR p L).2.1.done ≤ p.done + 1 := by
  rcases powR_g p L (synR p L) with e | e
  · unfold syncR; rw [e]; exact ⟨h, Int.le_refl _, by omega⟩
  · unfold syncR; rw [e]; exact synR_ok h L
theorem commitR_ok {p : PD} (h : p.Ok) (L : LV) (rs : List (List UInt8)) : (commitR p L rs).2.1.Ok ∧ p.done ≤ (commitR p L rs).2.1.done ∧ (commitR p L rs).2.1.done ≤ p.done + 2 := by
  have h1 := appendR_ok h L rs
  unfold commitR
  split
  · have h2 := syncR_ok h1.1 (appendR p L rs).2.2
    exact ⟨h2.1, by omega, by omega⟩
  · exact ⟨h1.1, h1.2.1, by omega⟩
theorem compR_ok {p : PD} (h : p.Ok) (L : LV) (cp : List UInt8) : (compR p L cp).2.1.Ok ∧ p.done ≤ (compR p L cp).2.1.done ∧ (compR p L cp).2.1.done ≤ p.done + 4 := by
  have h1 := rewR_ok h L (1 - L.f) (L.gen + 1) cp
  unfold compR
  split
  · have h2 := ct_done (rewR p L (1 - L.f) (L.gen + 1) cp).2.1 L.f 0
    exact ⟨ct_ok h1.1 _ _, by show p.done ≤ (ctP _ _ _).done; omega, by show (ctP _ _ _).done ≤ _; omega⟩
  · exact ⟨h1.1, h1.2.1, by omega⟩
theorem compactR_ok {p : PD} (h : p.Ok) (L : LV) (cp : List UInt8) : (compactR p L cp).2.1.Ok ∧ p.done ≤ (compactR p L cp).2.1.done ∧ (compactR p L cp).2.1.done ≤ p.done + 4 := by
  rcases powR_g p L (compR p L cp) with e | e
  · unfold compactR; rw [e]; exact ⟨h, Int.le_refl _, by omega⟩
  · unfold compactR; rw [e]; exact compR_ok h L cp
theorem LRes.after {base h g : Nat} {D : DS} {w w1 : World} {r : Int × PD × LV} {e : Ending} {w' : World} (hb : Below w.heap.size w w1) (k : LRes base h g D w1 r e w') : LRes base h g D w r e w' := by
  obtain ⟨h1, D', h2, h3, h4⟩ := k
  exact ⟨h1, D', h2, h3, (LTurn.of_below hb).trans h4⟩
set_option maxHeartbeats 3200000 in
set_option maxRecDepth 100000 in
theorem logAppend_any {base h g : Nat} {L : LV} {D : DS} (A : Option Addr) (c : Nat) (rs : List BH) (w : World) (H : LogAt base h g w L D) (hO : D.p.Ok) (hd : D.p.done ≤ 999999998000) (hz : L.size ≤ 1073741824) (hT : Tab w)
    (hR : RecsIn (Off h g D) w A rs) (hl : rs.length ≤ 2000) (hm : ∀ j, j < rs.length → (rs.getD j dH).l.length ≤ 2000) :
    Calls Tryd.prog 24 #[vD h, .slice A rs.length c] w (LRes base h g D w (appendR D.p L (lsOf rs))) := by
  have hmf : ∀ (fn : Fn) (first cap : Array Value) (w : World), (Instr.makeFunc fn first cap).run Tryd.prog w = .ok (.func fn first cap) w := fun _ _ _ _ => rfl
  have HB := hide (Joins.below_alloc2 w (.cells #[vD h] 32) (.cells #[.slice A rs.length c] 46))
  have hk1 : ((w.alloc (.cells #[vD h] 32)).alloc (.cells #[.slice A rs.length c] 46)).heap[w.heap.size]? = some (.cells #[vD h] 32 (0, 0)) := (Below.heap_alloc _ _ _ (by simp)).trans (heap_alloc_new w _)
  have hk2 : ((w.alloc (.cells #[vD h] 32)).alloc (.cells #[.slice A rs.length c] 46)).heap[w.heap.size + 1]? = some (.cells #[.slice A rs.length c] 46 (0, 0)) := by
    have h := heap_alloc_new (w.alloc (.cells #[vD h] 32)) (.cells #[.slice A rs.length c] 46)
    simpa using h
  have HP := hide (powA_any (.pointer (some ⟨w.heap.size + 1, 0, none⟩)) (.pointer (some ⟨w.heap.size, 0, none⟩)) _ (H.below HB.out) fun _ =>
    appC_any w.heap.size (w.heap.size + 1) A c rs _ (H.below HB.out) hO hd hz (hT.on HB.out) hk1 hk2 (H.off_new (Nat.le_refl _)) (hR.below HB.out) hl hm)
  have HLt := hide H.lt
  have HQ := hide (show appendR D.p L (lsOf rs) = powR D.p L (appR D.p L (lsOf rs)) from rfl)
  unfold LRes at HP
  have q1 := Lib.cell_of_heap hk1 0
  generalize appendR D.p L (lsOf rs) = r at *
  generalize powR D.p L (appR D.p L (lsOf rs)) = r2 at *
  obtain ⟨e2, p2, L2⟩ := r2
  clear H hO hd hz hT hR hl hm hk1 hk2
  go_enter Tryd.func24, Tryd.ntmps24
  go_wp2_with fail
  refine HP.out.mono ?_
  rintro e w2 ⟨rfl, D2, rfl, hL2, ht2⟩
  have HA := hide (And.intro hL2 ((LTurn.of_below (h := h) HB.out).trans ht2))
  clear hL2 ht2 q1
  go_wp2_with fail
  go_ret
  exact res_mk HQ.out rfl HA.out.1 HA.out.2
set_option maxHeartbeats 3200000 in
set_option maxRecDepth 100000 in
theorem logSync_any {base h g : Nat} {L : LV} {D : DS} (w : World) (H : LogAt base h g w L D) (hO : D.p.Ok) (hd : D.p.done ≤ 999999998000) :
    Calls Tryd.prog 26 #[vD h] w (LRes base h g D w (syncR D.p L)) := by
  have hmf : ∀ (fn : Fn) (first cap : Array Value) (w : World), (Instr.makeFunc fn first cap).run Tryd.prog w = .ok (.func fn first cap) w := fun _ _ _ _ => rfl
  have HB := hide ((Below.refl w.heap.size w).alloc (Nat.le_refl _) (.cells #[vD h] 32))
  have hk1 : (w.alloc (.cells #[vD h] 32)).heap[w.heap.size]? = some (.cells #[vD h] 32 (0, 0)) := heap_alloc_new w _
  have HP := hide (powS_any (.pointer (some ⟨w.heap.size, 0, none⟩)) _ (H.below HB.out) fun _ =>
    synC_any w.heap.size _ (H.below HB.out) hO hd hk1 (H.off_new (Nat.le_refl _)))
  have HQ := hide (show syncR D.p L = powR D.p L (synR D.p L) from rfl)
  unfold LRes at HP
  have q1 := Lib.cell_of_heap hk1 0
  generalize syncR D.p L = r at *
  generalize powR D.p L (synR D.p L) = r2 at *
  obtain ⟨e2, p2, L2⟩ := r2
  clear H hO hd hk1
  go_enter Tryd.func26, Tryd.ntmps26
  go_wp2_with fail
  refine HP.out.mono ?_
  rintro e w2 ⟨rfl, D2, rfl, hL2, ht2⟩
  have HA := hide (And.intro hL2 ((LTurn.of_below (h := h) HB.out).trans ht2))
  clear hL2 ht2 q1
  go_wp2_with fail
  go_ret
  exact res_mk HQ.out rfl HA.out.1 HA.out.2
set_option maxHeartbeats 3200000 in
set_option maxRecDepth 100000 in
theorem logCompact_any {base h g : Nat} {L : LV} {D : DS} (A : Option Addr) (c : Nat) (cp : List UInt8) (w : World) (H : LogAt base h g w L D) (hO : D.p.Ok) (hd : D.p.done ≤ 999999998000) (hf : L.f < 2) (hT : Tab w) (hTo : Off h g D 0) (hg0 : 0 ≤ L.gen) (hg1 : L.gen ≤ 1000000000000)
    (hB : BytesIn (Off h g D) w A cp) (hl : cp.length ≤ 1073741824) :
    Calls Tryd.prog 27 #[vD h, .slice A cp.length c] w (LRes base h g D w (compactR D.p L cp)) := by
  have hmf : ∀ (fn : Fn) (first cap : Array Value) (w : World), (Instr.makeFunc fn first cap).run Tryd.prog w = .ok (.func fn first cap) w := fun _ _ _ _ => rfl
  have HB := hide (Joins.below_alloc2 w (.cells #[vD h] 32) (.cells #[.slice A cp.length c] 22))
  have hk1 : ((w.alloc (.cells #[vD h] 32)).alloc (.cells #[.slice A cp.length c] 22)).heap[w.heap.size]? = some (.cells #[vD h] 32 (0, 0)) := (Below.heap_alloc _ _ _ (by simp)).trans (heap_alloc_new w _)
  have hk2 : ((w.alloc (.cells #[vD h] 32)).alloc (.cells #[.slice A cp.length c] 22)).heap[w.heap.size + 1]? = some (.cells #[.slice A cp.length c] 22 (0, 0)) := by
    have h := heap_alloc_new (w.alloc (.cells #[vD h] 32)) (.cells #[.slice A cp.length c] 22)
    simpa using h
  have HP := hide (powC_any (.pointer (some ⟨w.heap.size, 0, none⟩)) (.pointer (some ⟨w.heap.size + 1, 0, none⟩)) _ (H.below HB.out) fun _ =>
    compC_any w.heap.size (w.heap.size + 1) A c cp _ (H.below HB.out) hO hd hf (hT.on HB.out) hTo hg0 hg1 hk1 hk2 (H.off_new (Nat.le_refl _)) (H.off_new (by omega)) (hB.below HB.out) hl)
  have HQ := hide (show compactR D.p L cp = powR D.p L (compR D.p L cp) from rfl)
  unfold LRes at HP
  have q1 := Lib.cell_of_heap hk1 0
  generalize compactR D.p L cp = r at *
  generalize powR D.p L (compR D.p L cp) = r2 at *
  obtain ⟨e2, p2, L2⟩ := r2
  clear H hO hd hf hT hTo hg0 hg1 hB hl hk1 hk2
  go_enter Tryd.func27, Tryd.ntmps27
  go_wp2_with fail
  refine HP.out.mono ?_
  rintro e w2 ⟨rfl, D2, rfl, hL2, ht2⟩
  have HA := hide (And.intro hL2 ((LTurn.of_below (h := h) HB.out).trans ht2))
  clear hL2 ht2 q1
  go_wp2_with fail
  go_ret
  exact res_mk HQ.out rfl HA.out.1 HA.out.2
set_option maxHeartbeats 3200000 in
set_option maxRecDepth 100000 in
theorem logCommit_any {base h g : Nat} {L : LV} {D : DS} (A : Option Addr) (c : Nat) (rs : List BH) (w : World) (H : LogAt base h g w L D) (hO : D.p.Ok) (hd : D.p.done ≤ 999999997000) (hz : L.size ≤ 1073741824) (hT : Tab w)
    (hR : RecsIn (Off h g D) w A rs) (hl : rs.length ≤ 2000) (hm : ∀ j, j < rs.length → (rs.getD j dH).l.length ≤ 2000) :
    Calls Tryd.prog 25 #[vD h, .slice A rs.length c] w (LRes base h g D w (commitR D.p L (lsOf rs))) := by
  have HAp := hide (logAppend_any A c rs w H hO (by omega) hz hT hR hl hm)
  obtain ⟨ho1, -, hd1⟩ := appendR_ok hO L (lsOf rs)
  have HO1 := hide ho1
  have HD1 := hide (show (appendR D.p L (lsOf rs)).2.1.done ≤ 999999997001 by omega)
  have HR := hide (show commitR D.p L (lsOf rs) = if (appendR D.p L (lsOf rs)).1 = 0 then syncR (appendR D.p L (lsOf rs)).2.1 (appendR D.p L (lsOf rs)).2.2 else appendR D.p L (lsOf rs) from rfl)
  unfold LRes at HAp
  generalize commitR D.p L (lsOf rs) = r at *
  generalize appendR D.p L (lsOf rs) = r1 at *
  obtain ⟨e1, p1, L1⟩ := r1
  simp only at HR HAp HO1 HD1
  clear H hO hd hz hT hR hl hm ho1 hd1
  by_cases h1 : e1 = 0
  · have HQ := hide (HR.out.trans (if_pos h1))
    subst h1
    clear HR
    go_enter Tryd.func25, Tryd.ntmps25
    go_wp2_with fail
    refine HAp.out.mono ?_
    rintro e w1 ⟨rfl, D1, rfl, hL1, ht1⟩
    have HT1 := hide ht1
    have HS := hide (logSync_any w1 hL1 HO1.out (by have := HD1.out; omega))
    unfold LRes at HS
    generalize syncR D1.p L1 = r2 at *
    obtain ⟨e2, p2, L2⟩ := r2
    clear hL1 ht1 HAp
    go_wp2_with fail
    refine HS.out.mono ?_
    rintro e w2 ⟨rfl, D2, rfl, hL2, ht2⟩
    have HA := hide (And.intro hL2 (HT1.out.trans ht2))
    clear hL2 ht2
    go_wp2_with fail
    go_ret
    exact res_mk HQ.out rfl HA.out.1 HA.out.2
  · have HQ := hide (HR.out.trans (if_neg h1))
    have hb := ne_b h1
    clear HR h1
    go_enter Tryd.func25, Tryd.ntmps25
    go_wp2_with fail
    refine HAp.out.mono ?_
    rintro e w1 ⟨rfl, D1, rfl, hL1, ht1⟩
    have HA := hide (And.intro hL1 ht1)
    clear hL1 ht1 HAp
    go_wp2_with fail
    go_ret
    exact res_mk HQ.out rfl HA.out.1 HA.out.2
end Go.Proofs.YtkdebebpnkjmdaaDoor
