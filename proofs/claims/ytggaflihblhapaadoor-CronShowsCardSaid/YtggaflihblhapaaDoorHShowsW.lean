/-
  CronShows, walked.
-/
import Derived.Test.YtggaflihblhapaaDoorHAwake
import Derived.Test.YtggaflihblhapaaDoorHRight
import Derived.Test.YtggaflihblhapaaDoorHREq
import Derived.ChangeKeysEq
import Derived.Test.YtggaflihblhapaaDoorHShowQ
import Derived.Test.YtggaflihblhapaaDoorHRShow
import Derived.Deep.MidRow
namespace Go.Proofs.YtggaflihblhapaaDoor
open Go.RowKit Go.Sort CM HM

theorem sp_fields : Tryd.prog.underlying 26 = some (.struct (Tryd.prog.fieldsOf 26)) := by kernel_rfl
theorem sp_stood : Tryd.prog.stoodInHeld 26 = false := by kernel_rfl
theorem sp_guard : Tryd.prog.eqGuardType Tryd.prog.depth 26 = false := by kernel_rfl
theorem sp_fieldsL : (Tryd.prog.fieldsOf 26).toList.map (fun f => (f.type, f.offset, decide (f.name ≠ "_"))) = [(23, 0, true), (24, 5, true)] := by kernel_rfl
theorem u64_info : (Tryd.prog.info? 22).map (fun i => (i.zero, i.size, i.bytes)) = some (some (.int .u64 0), 1, 8) := by kernel_rfl
theorem bool_info : (Tryd.prog.info? 4).map (fun i => (i.zero, i.size, i.bytes)) = some (some (.bool false), 1, 1) := by kernel_rfl
theorem u64_cells : Tryd.prog.cellsOf 22 = 1 := by kernel_rfl
theorem bool_cells : Tryd.prog.cellsOf 4 = 1 := by kernel_rfl
theorem some_of_map {α β : Type} {p : Option α} {f : α → β} {b : β} (h : p.map f = some b) : ∃ a, p = some a ∧ f a = b := by
  cases p with
  | none => cases h
  | some a => exact ⟨a, rfl, by simpa using h⟩
set_option maxHeartbeats 1000000 in
theorem eq_sets (n : Nat) (a b c d e : Int) (w : World) : (Op.equalIn (n + 2) 23 (.agg #[.int .u64 a, .int .u64 b, .int .u64 c, .int .u64 d, .int .u64 e]) (.agg #[.int .u64 a, .int .u64 b, .int .u64 c, .int .u64 d, .int .u64 e])).run Tryd.prog w = .ok true w := by
  have h3 := Tryd.underlying22
  obtain ⟨i0, hi, _⟩ := some_of_map u64_info
  rw [run_equalIn_array w (n + 1) _ _ Tryd.underlying23 hi, u64_cells, show List.range 5 = [0, 1, 2, 3, 4] by decide]
  simp [Op.eqItems, h3, go_sem]
set_option maxHeartbeats 1000000 in
theorem eq_anys (n : Nat) (a b c d e : Bool) (w : World) : (Op.equalIn (n + 2) 24 (.agg #[.bool a, .bool b, .bool c, .bool d, .bool e]) (.agg #[.bool a, .bool b, .bool c, .bool d, .bool e])).run Tryd.prog w = .ok true w := by
  have h3 := Tryd.underlying4
  obtain ⟨i0, hi, _⟩ := some_of_map bool_info
  rw [run_equalIn_array w (n + 1) _ _ Tryd.underlying24 hi, bool_cells, show List.range 5 = [0, 1, 2, 3, 4] by decide]
  simp [Op.eqItems, h3, go_sem]
set_option maxHeartbeats 1000000 in
theorem run_eql_sp (c : Sp) (w : World) : (binOp .eql 26 (vC c) (vC c)).run Tryd.prog w = .ok (.bool true) w := by
  have e1 := eq_sets 9997 (c.S 0 : Nat) (c.S 1 : Nat) (c.S 2 : Nat) (c.S 3 : Nat) (c.S 4 : Nat) w
  have e2 := eq_anys 9997 (c.A 0) (c.A 1) (c.A 2) (c.A 3) (c.A 4) w
  have hf := sp_fieldsL
  rw [run_eql_struct, run_equalIn_agg w 9999 26 _ _ sp_fields sp_stood]
  generalize (Tryd.prog.fieldsOf 26).toList = fs at hf
  have hl : fs.length = 2 := by have := congrArg List.length hf; simpa using this
  obtain ⟨f0, f1, rfl⟩ : ∃ a b, fs = [a, b] := by match fs, hl with | [a, b], _ => exact ⟨a, b, rfl⟩
  simp only [List.map_cons, List.map_nil, List.cons.injEq, Prod.mk.injEq, and_true] at hf
  obtain ⟨⟨a0, b0, c0⟩, a1, b1, c1⟩ := hf
  simp only [decide_eq_true_eq] at c0 c1
  simp [Op.eqFields, a0, b0, c0, a1, b1, c1, e1, e2, go_sem]
theorem run_guard_sp (c : Sp) (u v : Operand) (w : World) : (eqGuard .eql 26 u v (vC c) (vC c)).run Tryd.prog w = .ok () w := run_eqGuard_agg w .eql _ u v _ _ sp_guard
theorem parse_show {c : Sp} (hc : c.wf) (hv : validB c = true) (w : World) (hB : Bnd w) : Calls Tryd.prog 16 #[txt (showC c)] w fun e w' => e = .returned (.tuple #[vC c, .int .i64 0]) ∧ Below w.heap.size w w' := by
  obtain ⟨h1, h2⟩ := spec_back hc hv
  have hl : (showC c).length ≤ 1000000 := by
    have h5 := joinL_len 32 400 (textsC c) (fun p hp => by
      simp only [textsC, List.mem_cons, List.not_mem_nil, or_false] at hp
      rcases hp with rfl | rfl | rfl | rfl | rfl
      all_goals exact showF_len _ _)
    have e : showC c = joinL 32 (textsC c) := rfl
    rw [e]
    have : (textsC c).length = 5 := rfl
    rw [this] at h5
    omega
  refine (par_any ⟨(showC c).toArray⟩ w (by show Array.size _ ≤ _; rw [List.size_toArray]; exact hl) hB).mono ?_
  rintro e w' ⟨⟨_, he⟩ | ⟨h, _⟩, hb⟩
  · refine ⟨?_, hb⟩
    have e1 : vC (parseC (showC c)) = vC c := by
      unfold vC
      rw [(h2 0 (by omega)).1, (h2 1 (by omega)).1, (h2 2 (by omega)).1, (h2 3 (by omega)).1, (h2 4 (by omega)).1, (h2 0 (by omega)).2, (h2 1 (by omega)).2, (h2 2 (by omega)).2, (h2 3 (by omega)).2, (h2 4 (by omega)).2]
    rw [he]
    exact congrArg (fun v => Ending.returned (.tuple #[v, .int .i64 0])) e1
  · exact absurd h1 h
set_option maxRecDepth 100000 in
set_option maxHeartbeats 4000000 in
theorem shows_bad (c : Sp) (w : World) (hc : c.wf) (hv : validB c = false) (hR : Rd w) : Calls Tryd.prog 3 #[vC c] w fun e w' => e = .returned (.bool true) ∧ Below w.heap.size w w' := by
  have HAw := hide awake_any
  have HR := hide hR
  have HS := hide (fun w (h : Rd w) => show_bad c w hc hv h.2.1)
  have HRt := hide (fun w => right_any c w hc)
  rw [hv] at HRt
  have HCk := hide (fun w (h : Rd w) => check_any c w hc h.2.1)
  rw [chk_no hv] at HCk
  have HB0 : Hid (Below w.heap.size w (boxC w c)) := hide ((Below.refl _ _).alloc (Nat.le_refl _) _)
  have HA0 := hide (AtC.box w c)
  clear hR hc hv
  go_enter Tryd.func3, Tryd.ntmps3
  go_wp2_with fail
  refine (HS.out _ (HR.out.on HB0.out)).mono ?_
  rintro e w1 ⟨rfl, hb⟩
  have HB1 := hide (HB0.out.trans (hb.mono HB0.out.size))
  have HA1 := hide (HA0.out.on hb)
  clear hb
  obtain ⟨z9, d0, d1, d2, d3, d4, d5, d6, d7, d8, d9⟩ := HA1.out
  go_wp2_with fail
  refine (HRt.out _).mono ?_
  rintro e w2 ⟨rfl, hb⟩
  have HB2 := hide (HB1.out.trans (hb.mono HB1.out.size))
  have HA2 := hide (HA1.out.on hb)
  clear hb z9 d0 d1 d2 d3 d4 d5 d6 d7 d8 d9
  obtain ⟨z9, d0, d1, d2, d3, d4, d5, d6, d7, d8, d9⟩ := HA2.out
  go_wp2_with fail
  refine (HCk.out _ (HR.out.on HB2.out)).mono ?_
  rintro e w3 ⟨rfl, hb⟩
  have HB3 := hide (HB2.out.trans (hb.mono HB2.out.size))
  clear hb z9 d0 d1 d2 d3 d4 d5 d6 d7 d8 d9
  go_wp2_with fail
  refine (HAw.out _ (HR.out.on HB3.out)).mono ?_
  rintro e w4 ⟨rfl, hb⟩
  have HB4 := hide (HB3.out.trans (hb.mono HB3.out.size))
  clear hb
  go_wp2_with fail
  go_ret
  exact ⟨rfl, HB4.out⟩
/-- The texts of the first fields, put together. -/
def wantL (c : Sp) (k : Nat) : List UInt8 := joinL 32 ((textsC c).take k)
set_option maxRecDepth 100000 in
set_option maxHeartbeats 4000000 in
theorem shows_good (c : Sp) (w : World) (hc : c.wf) (hv : validB c = true) (hR : Rd w) (ht : Tab w) : Calls Tryd.prog 3 #[vC c] w fun e w' => e = .returned (.bool true) ∧ Below w.heap.size w w' := by
  have HAw := hide awake_any
  have HR := hide hR
  have HT := hide ht
  have HS := hide (fun w (h : Rd w) (ht : Tab w) => show_good c w hc hv h.2.1 ht)
  have HRt := hide (fun w => right_any c w hc)
  rw [hv] at HRt
  have HCk := hide (fun w (h : Rd w) => check_any c w hc h.2.1)
  rw [chk_yes hv] at HCk
  have HRf := hide (fun w => ref_any c w hc)
  have HV := hide (fun f w hf => rshow_field c f w hc hf)
  have HP := hide (fun w (h : Rd w) => parse_show hc hv w h.2.1)
  have HB0 : Hid (Below w.heap.size w (boxC w c)) := hide ((Below.refl _ _).alloc (Nat.le_refl _) _)
  have HA0 := hide (AtC.box w c)
  have hz := row_zero
  clear hR hc hv ht
  go_enter Tryd.func3, Tryd.ntmps3
  go_wp2_with fail
  refine (HS.out _ (HR.out.on HB0.out) (HT.out.on HB0.out)).mono ?_
  rintro e w1 ⟨rfl, hb⟩
  have HB1 := hide (HB0.out.trans (hb.mono HB0.out.size))
  have HA1 := hide (HA0.out.on hb)
  clear hb
  obtain ⟨z9, d0, d1, d2, d3, d4, d5, d6, d7, d8, d9⟩ := HA1.out
  go_wp2_with fail
  refine (HRt.out _).mono ?_
  rintro e w2 ⟨rfl, hb⟩
  have HB2 := hide (HB1.out.trans (hb.mono HB1.out.size))
  have HA2 := hide (HA1.out.on hb)
  clear hb z9 d0 d1 d2 d3 d4 d5 d6 d7 d8 d9
  obtain ⟨z9, d0, d1, d2, d3, d4, d5, d6, d7, d8, d9⟩ := HA2.out
  go_wp2_with fail
  refine (HRf.out _).mono ?_
  rintro e w3 ⟨rfl, hb⟩
  have HB3 := hide (HB2.out.trans (hb.mono HB2.out.size))
  have HA3 := hide (HA2.out.on hb)
  have hi : (Tryd.prog.info? tF).map (·.size) = some (fCells c).size := by rw [fCells_size]; exact row_size
  have hsc := run_storeCells_new (P := Tryd.prog) w3 tF zCells (fCells c) hi (by rw [fCells_size, zCells_size]) (fCells_one c)
  have hsz := fCells_size c
  have HWr : Hid (Row (w3.alloc (.cells (fCells c) tF)) w3.heap.size c (fun i => i < 325)) := hide ⟨fCells c, fCells_size c, heap_alloc_last w3 _, fun i hi _ => fCells_at c hi⟩
  clear hb hi z9 d0 d1 d2 d3 d4 d5 d6 d7 d8 d9
  go_wp2_with fail
  obtain ⟨W, hW⟩ : ∃ W, W = w3.alloc (.cells (fCells c) tF) := ⟨_, rfl⟩
  have HWB : Hid (Below w.heap.size w W) := hide (by rw [hW]; exact HB3.out.alloc HB3.out.size _)
  have HWA : Hid (AtC W w.heap.size c) := hide (by rw [hW]; exact HA3.out.on ((Below.refl _ _).alloc (Nat.le_refl _) _))
  have HWR : Hid (Row W w3.heap.size c (fun i => i < 325)) := hide (by rw [hW]; exact HWr.out)
  have HN : Hid (W.heap.size = w3.heap.size + 1) := hide (by rw [hW]; simp)
  rw [← hW]
  clear hW hsc hsz hz
  have HBW : Hid (∀ w', Below W.heap.size W w' → Below w.heap.size w w') := hide fun w' h => HWB.out.trans (h.mono HWB.out.size)
  have HE : Hid (wantL c 5 = showC c) := hide rfl
  have HS1 : Hid (wantL c 1 = showF (c.S 0) (c.A 0)) := hide rfl
  have HSt : Hid (∀ k, 1 ≤ k → k < 5 → wantL c (k + 1) = wantL c k ++ 32 :: showF (c.S k) (c.A k)) := hide fun k h1 h2 => by
    obtain rfl | rfl | rfl | rfl : k = 1 ∨ k = 2 ∨ k = 3 ∨ k = 4 := by omega
    all_goals (unfold wantL textsC; simp [joinL])
  have HL : Hid (∀ k, k ≤ 5 → (wantL c k).length ≤ 2005) := hide fun k hk => by
    have h5 := joinL_len 32 400 ((textsC c).take k) (fun p hp => by
      have hp := List.mem_of_mem_take hp
      simp only [textsC, List.mem_cons, List.not_mem_nil, or_false] at hp
      rcases hp with rfl | rfl | rfl | rfl | rfl
      all_goals exact showF_len _ _)
    have h6 : ((textsC c).take k).length ≤ 5 := by rw [List.length_take]; have : (textsC c).length = 5 := rfl; omega
    have h7 : ((textsC c).take k).length * (400 + 1) ≤ 5 * (400 + 1) := Nat.mul_le_mul_right _ h6
    unfold wantL
    omega
  go_loopw [5, 26] (fun v t wr => ∃ k : Nat, k ≤ 5 ∧ v = txt (wantL c k) ∧ t = .int .i64 k ∧ Below W.heap.size W wr) (fun _ t _ => 5 - (intOf t).toNat)
  case atStart => exact ⟨0, Nat.zero_le _, rfl, rfl, Below.refl _ _⟩
  case round =>
    obtain ⟨k, hk, rfl, rfl, hb⟩ := hrel
    have HB := hide hb
    by_cases hlt : k < 5
    · have hr := row_range (HWR.out.below hb (by rw [HN.out]; omega)) hlt
      have HFL := hide (fL_len c k)
      have hsz : (Tryd.prog.info? 34).map (·.size) = some (fL c k).length := by rw [HFL.out]; exact fld_size
      have hun := fld_under
      have hlen := HL.out k hk
      have hFl := showF_len (c.S k) (c.A k)
      clear hb
      by_cases h0 : k = 0
      · subst h0
        have hsz0 : (Tryd.prog.info? 34).map (·.size) = some (fL c 0).length := hsz
        go_wp2_with (refine wpList_load_mid rfl 34 (.tmp 35) rfl w3.heap.size (0 * 65) rfl (fL c 0) _ hr hun rfl hsz0 ?_)
        refine (HV.out 0 wr (by omega)).mono ?_
        rintro e w4 ⟨rfl, hb4⟩
        have HB4 := hide (HB.out.trans (hb4.mono HB.out.size))
        have HX : Hid ((⟨(wantL c 0).toArray⟩ : ByteArray) ++ ⟨(showF (c.S 0) (c.A 0)).toArray⟩ = ⟨(wantL c 1).toArray⟩) := hide (by
          rw [HS1.out, show wantL c 0 = [] from rfl]
          apply ByteArray.ext; simp [ByteArray.data_append])
        have q1 : ¬ 9223372036854775807 < (wantL c 0).length + (showF (c.S 0) (c.A 0)).length := by omega
        clear hb4 hr hsz hsz0 hun
        generalize showF (c.S 0) (c.A 0) = F at *
        generalize wantL c 0 = A at *
        go_wp2_with fail
        go_roundw
        case rel => exact ⟨1, by omega, congrArg Value.string HX.out, by go_num, HB4.out⟩
        case measure => simp [intOf]
      · have hk0 : (0 : Int) < (k : Int) := by omega
        have q0 : ¬ 9223372036854775807 < (wantL c k).length + 1 := by omega
        have q1 : ¬ 9223372036854775807 < (wantL c k).length + 1 + (showF (c.S k) (c.A k)).length := by omega
        go_wp2_with (refine wpList_load_mid rfl 34 (.tmp 35) rfl w3.heap.size (k * 65) rfl (fL c k) _ hr hun rfl hsz ?_)
        refine (HV.out k wr hlt).mono ?_
        rintro e w4 ⟨rfl, hb4⟩
        have HB4 := hide (HB.out.trans (hb4.mono HB.out.size))
        have HX : Hid ((⟨(wantL c k).toArray⟩ : ByteArray) ++ ⟨#[32]⟩ ++ ⟨(showF (c.S k) (c.A k)).toArray⟩ = ⟨(wantL c (k + 1)).toArray⟩) := hide (by
          rw [HSt.out k (by omega) hlt]
          apply ByteArray.ext; simp [ByteArray.data_append])
        clear hb4 hr hsz hun
        generalize showF (c.S k) (c.A k) = F at *
        generalize wantL c k = A at *
        go_wp2_with fail
        go_roundw
        case rel => exact ⟨k + 1, by omega, congrArg Value.string HX.out, by go_num, HB4.out⟩
        case measure => simp [intOf]; omega
    · obtain rfl : k = 5 := by omega
      rw [HE.out]
      have HBr := hide (HBW.out wr HB.out)
      have HAr := hide (HWA.out.on hb)
      have HPr := hide (HP.out wr (HR.out.on HBr.out))
      have hq := run_eql_sp c
      have hu := run_guard_sp c
      clear hb
      generalize showC c = T at *
      go_wp2_with fail
      refine HPr.out.mono ?_
      rintro e w4 ⟨rfl, hb4⟩
      have HB4 := hide (HBr.out.trans (hb4.mono HBr.out.size))
      have HB5 : Hid (Below w.heap.size w (boxC w4 c)) := hide (HB4.out.alloc HB4.out.size _)
      have HA5 : Hid (AtC (boxC w4 c) w.heap.size c) := hide ((HAr.out.on hb4).on ((Below.refl _ _).alloc (Nat.le_refl _) _))
      have HP5 := hide (AtC.box w4 c)
      clear hb4
      obtain ⟨z9, d0, d1, d2, d3, d4, d5, d6, d7, d8, d9⟩ := HA5.out
      go_wp2_with fail
      refine (HCk.out _ (HR.out.on HB5.out)).mono ?_
      rintro e w6 ⟨rfl, hb6⟩
      have HB6 := hide (HB5.out.trans (hb6.mono HB5.out.size))
      have HA6 := hide (HA5.out.on hb6)
      have HP6 := hide (HP5.out.on hb6)
      clear hb6 z9 d0 d1 d2 d3 d4 d5 d6 d7 d8 d9
      obtain ⟨z9, d0, d1, d2, d3, d4, d5, d6, d7, d8, d9⟩ := HA6.out
      obtain ⟨y9, g0, g1, g2, g3, g4, g5, g6, g7, g8, g9⟩ := HP6.out
      go_wp2_with fail
      refine (HAw.out _ (HR.out.on HB6.out)).mono ?_
      rintro e w7 ⟨rfl, hb7⟩
      have HB7 := hide (HB6.out.trans (hb7.mono HB6.out.size))
      clear hb7 z9 d0 d1 d2 d3 d4 d5 d6 d7 d8 d9 y9 g0 g1 g2 g3 g4 g5 g6 g7 g8 g9 hq hu
      go_wp2_with fail
      go_ret
      exact ⟨rfl, HB7.out⟩
theorem cronShows_walk (c : Sp) (w : World) (hc : c.wf) (hR : Rd w ∧ Tab w) : Calls Tryd.prog 3 #[vC c] w fun e w' => e = .returned (.bool true) ∧ Below w.heap.size w w' := by
  cases hv : validB c
  · exact shows_bad c w hc hv hR.1
  · exact shows_good c w hc hv hR.1 hR.2
end Go.Proofs.YtggaflihblhapaaDoor
