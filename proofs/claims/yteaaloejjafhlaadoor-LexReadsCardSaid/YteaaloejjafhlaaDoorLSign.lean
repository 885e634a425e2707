/-
  readSign: the longest sign.
-/
import Derived.Test.YteaaloejjafhlaaDoorLLit
namespace Go.Proofs.YteaaloejjafhlaaDoor
open Go.RowKit Go.Sort LM

/-- The variable signs holds the signs. -/
def Sg (w : World) : Prop := ∀ i, i < 18 → w.cell? ⟨0, i, none⟩ = some (txt (signsL.getD i []))
theorem Sg.lt {w : World} (h : Sg w) : 0 < w.heap.size := lt_of_cell (h 0 (by decide))
theorem Sg.on {w w' : World} (h : Sg w) (hb : Below w.heap.size w w') : Sg w' := fun i hi => (hb.cell (p := ⟨0, i, none⟩) h.lt).trans (h i hi)
theorem find_at {p : List UInt8 → Bool} : ∀ (L : List (List UInt8)) (j : Nat), j < L.length → (∀ i, i < j → p (L.getD i []) = false) → p (L.getD j []) = true → L.find? p = some (L.getD j [])
  | [], j, h, _, _ => by simp at h
  | a :: L, 0, _, _, h => by
    have h : p a = true := h
    rw [List.find?_cons, h]; rfl
  | a :: L, j + 1, hj, hn, h => by
    have h0 : p a = false := hn 0 (by omega)
    rw [List.find?_cons, h0]
    exact find_at L j (by simpa using hj) (fun i hi => hn (i + 1) (by omega)) h
theorem find_no {p : List UInt8 → Bool} : ∀ (L : List (List UInt8)), (∀ i, i < L.length → p (L.getD i []) = false) → L.find? p = none
  | [], _ => rfl
  | a :: L, h => by
    have h0 : p a = false := h 0 (by simp)
    rw [List.find?_cons, h0]
    exact find_no L (fun i hi => h (i + 1) (by simpa using hi))
def NoSign (s : ByteArray) (at' k : Nat) : Prop := ∀ j, j < k → (signsL.getD j []).isPrefixOf (rest s at') = false
theorem noSign_step {s : ByteArray} {at' k : Nat} (h : NoSign s at' k) (hp : (signsL.getD k []).isPrefixOf (rest s at') = false) : NoSign s at' (k + 1) := fun j hj => by
  by_cases e : j = k
  · subst e; exact hp
  · exact h j (by omega)
theorem sign_found {s : ByteArray} {at' j : Nat} (hj : j < signsL.length) (h : NoSign s at' j) (hp : (signsL.getD j []).isPrefixOf (rest s at') = true) : outR at' (sgnR (rest s at')) = .returned (.tuple #[vT 4 (signsL.getD j []) 0 0, .int .i64 ((at' + (signsL.getD j []).length : Nat) : Int), .int .i64 0]) := by
  unfold sgnR sgnL
  rw [find_at (p := fun g => g.isPrefixOf (rest s at')) signsL j hj h hp]
  rfl
theorem sign_none {s : ByteArray} {at' : Nat} (h : NoSign s at' 18) : outR at' (sgnR (rest s at')) = .returned (.tuple #[vT 0 [] 0 0, .int .i64 0, .int .i64 50]) := by
  unfold sgnR sgnL
  rw [find_no (p := fun g => g.isPrefixOf (rest s at')) signsL h]
  rfl
theorem rest_all (s : ByteArray) (at' : Nat) : (s.extract at' s.size).data.toList = rest s at' := by
  rw [Lib.extract_data]
  unfold rest
  rw [List.take_of_length_le]
  simp

theorem idx_und : Tryd.prog.underlying 63 = some (.array 18 9) := by kernel_rfl
theorem idx_arr (cs : Array Value) (j : Nat) (t : ByteArray) (w : World) (hj : j < 18) (hv : cs[j]? = some (.string t)) : (Instr.index 63 (.agg cs) (.int .i64 (j : Int))).run Tryd.prog w = .ok (.string t) w := by
  have h : (0 : Int) ≤ (j : Int) ∧ (j : Int) < 18 := by omega
  simp [Instr.index, asIntOf, run_underlying idx_und, h, go_sem]
  rw [if_pos hj, hv]
  rfl
/-- The array of the signs, as a value. -/
@[irreducible] def SGV : Value := .agg #[.string ⟨#[33, 61]⟩, .string ⟨#[60, 61]⟩, .string ⟨#[62, 61]⟩, .string ⟨#[46, 46]⟩, .string ⟨#[40]⟩, .string ⟨#[41]⟩, .string ⟨#[44]⟩, .string ⟨#[59]⟩, .string ⟨#[58]⟩, .string ⟨#[124]⟩, .string ⟨#[43]⟩, .string ⟨#[45]⟩, .string ⟨#[42]⟩, .string ⟨#[47]⟩, .string ⟨#[37]⟩, .string ⟨#[61]⟩, .string ⟨#[60]⟩, .string ⟨#[62]⟩]
theorem sg_fold : Value.agg #[.string ⟨#[33, 61]⟩, .string ⟨#[60, 61]⟩, .string ⟨#[62, 61]⟩, .string ⟨#[46, 46]⟩, .string ⟨#[40]⟩, .string ⟨#[41]⟩, .string ⟨#[44]⟩, .string ⟨#[59]⟩, .string ⟨#[58]⟩, .string ⟨#[124]⟩, .string ⟨#[43]⟩, .string ⟨#[45]⟩, .string ⟨#[42]⟩, .string ⟨#[47]⟩, .string ⟨#[37]⟩, .string ⟨#[61]⟩, .string ⟨#[60]⟩, .string ⟨#[62]⟩] = SGV := by unfold SGV; rfl
@[local go_sem] theorem idx_sgv (j : Nat) (w : World) (hj : j < 18) : (Instr.index 63 SGV (.int .i64 (j : Int))).run Tryd.prog w = .ok (txt (signsL.getD j [])) w := by
  unfold SGV
  refine idx_arr _ j _ w hj ?_
  have hc : j = 0 ∨ j = 1 ∨ j = 2 ∨ j = 3 ∨ j = 4 ∨ j = 5 ∨ j = 6 ∨ j = 7 ∨ j = 8 ∨ j = 9 ∨ j = 10 ∨ j = 11 ∨ j = 12 ∨ j = 13 ∨ j = 14 ∨ j = 15 ∨ j = 16 ∨ j = 17 := by omega
  rcases hc with rfl | rfl | rfl | rfl | rfl | rfl | rfl | rfl | rfl | rfl | rfl | rfl | rfl | rfl | rfl | rfl | rfl | rfl <;> rfl
set_option maxRecDepth 100000 in
set_option maxHeartbeats 20000000 in
theorem sign_any (s : ByteArray) (at' : Nat) (w : World) (hS : Sg w) (hs : s.size ≤ 140737488355328) (ha : at' < s.size) :
    Calls Tryd.prog 32 #[.string s, .int .i64 at'] w fun e w' => e = outR at' (sgnR (rest s at')) ∧ Below w.heap.size w w' := by
  have HB0 := hide (boxT_below w)
  have HS := hide (hS.on HB0.out)
  have HP : Hid (∀ (w1 : World) (g : List UInt8), Calls Tryd.prog 45 #[.string (s.extract at' s.size), .string ⟨g.toArray⟩] w1 fun e w' => e = .returned (.bool (g.isPrefixOf (rest s at'))) ∧ w1 = w') := hide fun w1 g => (Tryd.strings_HasPrefix (s.extract at' s.size) ⟨g.toArray⟩ w1).mono fun e w' h => by
    obtain ⟨rfl, rfl⟩ := h
    rw [rest_all, list_of]
    exact ⟨rfl, rfl⟩
  clear hS
  have k0 : (boxT w).cell? ⟨0, 0, none⟩ = some (.string ⟨#[33, 61]⟩) := HS.out 0 (by decide)
  have k1 : (boxT w).cell? ⟨0, 1, none⟩ = some (.string ⟨#[60, 61]⟩) := HS.out 1 (by decide)
  have k2 : (boxT w).cell? ⟨0, 2, none⟩ = some (.string ⟨#[62, 61]⟩) := HS.out 2 (by decide)
  have k3 : (boxT w).cell? ⟨0, 3, none⟩ = some (.string ⟨#[46, 46]⟩) := HS.out 3 (by decide)
  have k4 : (boxT w).cell? ⟨0, 4, none⟩ = some (.string ⟨#[40]⟩) := HS.out 4 (by decide)
  have k5 : (boxT w).cell? ⟨0, 5, none⟩ = some (.string ⟨#[41]⟩) := HS.out 5 (by decide)
  have k6 : (boxT w).cell? ⟨0, 6, none⟩ = some (.string ⟨#[44]⟩) := HS.out 6 (by decide)
  have k7 : (boxT w).cell? ⟨0, 7, none⟩ = some (.string ⟨#[59]⟩) := HS.out 7 (by decide)
  have k8 : (boxT w).cell? ⟨0, 8, none⟩ = some (.string ⟨#[58]⟩) := HS.out 8 (by decide)
  have k9 : (boxT w).cell? ⟨0, 9, none⟩ = some (.string ⟨#[124]⟩) := HS.out 9 (by decide)
  have k10 : (boxT w).cell? ⟨0, 10, none⟩ = some (.string ⟨#[43]⟩) := HS.out 10 (by decide)
  have k11 : (boxT w).cell? ⟨0, 11, none⟩ = some (.string ⟨#[45]⟩) := HS.out 11 (by decide)
  have k12 : (boxT w).cell? ⟨0, 12, none⟩ = some (.string ⟨#[42]⟩) := HS.out 12 (by decide)
  have k13 : (boxT w).cell? ⟨0, 13, none⟩ = some (.string ⟨#[47]⟩) := HS.out 13 (by decide)
  have k14 : (boxT w).cell? ⟨0, 14, none⟩ = some (.string ⟨#[37]⟩) := HS.out 14 (by decide)
  have k15 : (boxT w).cell? ⟨0, 15, none⟩ = some (.string ⟨#[61]⟩) := HS.out 15 (by decide)
  have k16 : (boxT w).cell? ⟨0, 16, none⟩ = some (.string ⟨#[60]⟩) := HS.out 16 (by decide)
  have k17 : (boxT w).cell? ⟨0, 17, none⟩ = some (.string ⟨#[62]⟩) := HS.out 17 (by decide)
  unfold boxT at k0 k1 k2 k3 k4 k5 k6 k7 k8 k9 k10 k11 k12 k13 k14 k15 k16 k17
  have HK0 : Hid (NoSign s at' 0) := hide fun j hj => absurd hj (Nat.not_lt_zero _)
  go_enter Tryd.func32, Tryd.ntmps32
  go_wp2_with fail
  clear k0 k1 k2 k3 k4 k5 k6 k7 k8 k9 k10 k11 k12 k13 k14 k15 k16 k17
  rw [sg_fold]
  go_loopw [10] (fun i wr => ∃ k : Nat, i = .int .i64 k ∧ k ≤ 18 ∧ Hid (NoSign s at' k) ∧ wr = boxT w) (fun i _ => 18 - (intOf i).toNat)
  case atStart => exact ⟨0, rfl, by omega, HK0, rfl⟩
  case round =>
    obtain ⟨k, rfl, hk, HK, rfl⟩ := hrel
    clear HK0
    unfold boxT
    by_cases hlt : k < 18
    · have HY := hide (fun hp => sign_found (s := s) (at' := at') (j := k) hlt HK.out hp)
      have HN := hide (fun hp => noSign_step HK.out hp)
      have hgl : (signsL.getD k []).length ≤ 2 := by
        have : ∀ g ∈ signsL, g.length ≤ 2 := by decide
        rw [List.getD_eq_getElem?_getD, List.getElem?_eq_getElem hlt]
        exact this _ (List.getElem_mem hlt)
      rw [List.getD_eq_getElem?_getD] at HY HN hgl
      clear HK
      go_wp2_with fail
      generalize signsL[k]?.getD [] = g at *
      refine (HP.out _ g).mono ?_
      rintro e w1 ⟨rfl, rfl⟩
      generalize hp : List.isPrefixOf g (rest s at') = b at *
      cases b
      · have HN2 := hide (HN.out rfl)
        clear HN HY
        go_wp2_with fail
        go_roundw
        case rel => exact ⟨k + 1, by go_num, by omega, HN2, by trivial⟩
        case measure => simp [intOf]; omega
      · have HY2 := hide (HY.out rfl)
        clear HN HY
        go_wp2_with fail
        refine bodyPost_ret (v := .tuple #[vT 4 g 0 0, .int .i64 ((at' + g.length : Nat) : Int), .int .i64 0]) (by simp [results, Tryd.results32, go_sem]) rfl ⟨HY2.out.symm, ?_⟩
        have := HB0.out
        go_grown
    · obtain rfl : k = 18 := by omega
      have HY := hide (sign_none HK.out)
      clear HK hlt hk
      go_wp2_with fail
      refine bodyPost_ret (v := .tuple #[vT 0 [] 0 0, .int .i64 0, .int .i64 50]) (by simp [results, Tryd.results32, go_sem]) rfl ⟨HY.out.symm, ?_⟩
      have := HB0.out
      go_grown
end Go.Proofs.YteaaloejjafhlaaDoor
