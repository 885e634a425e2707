/-
  SplitSeq, and numbers of one or two digits.
-/
import Derived.Test.YtggaflihblhapaaDoorHBase
import Derived.Test.YtggaflihblhapaaDoorShelf
import Derived.Laws.IdiomStrings
import Derived.Lib.ConvBytes
namespace Go.Proofs.YtggaflihblhapaaDoor
open Go.RowKit HM

theorem splitSeq_any (s t : ByteArray) (w : World) : Calls Tryd.prog 65 #[.string s, .string t] w fun e w' => e = .returned (.func (.func 99) #[] #[.pointer (some ⟨w.heap.size + 1, 0, none⟩), .pointer (some ⟨w.heap.size, 0, none⟩), .pointer (some ⟨w.heap.size + 2, 0, none⟩)]) ∧ ((w.alloc (.cells #[.string s] 9)).alloc (.cells #[.string t] 9)).alloc (.cells #[.int .i64 0] 3) = w' := by
  have H : Hid (∀ w, Calls Tryd.prog 88 #[.string s, .string t, .int .i64 0] w fun e w' => e = .returned (.func (.func 99) #[] #[.pointer (some ⟨w.heap.size + 1, 0, none⟩), .pointer (some ⟨w.heap.size, 0, none⟩), .pointer (some ⟨w.heap.size + 2, 0, none⟩)]) ∧ ((w.alloc (.cells #[.string s] 9)).alloc (.cells #[.string t] 9)).alloc (.cells #[.int .i64 0] 3) = w') := hide (fun w => by
    go_enter Tryd.func88, Tryd.ntmps88
    go_wp2_with fail
    go_ret
    exact ⟨rfl, rfl⟩)
  go_enter Tryd.func65, Tryd.ntmps65
  go_wp2_with fail
  refine (H.out _).mono ?_
  rintro e w' ⟨rfl, rfl⟩
  go_wp2_with fail
  go_ret
  exact ⟨rfl, rfl⟩
/-- A number of one or two digits. -/
def dig? (b : UInt8) : Bool := decide (48 ≤ b.toNat) && decide (b.toNat ≤ 57)
def valD (l : List UInt8) : Nat := l.foldl (fun n b => 10 * n + (b.toNat - 48)) 0
def numB (l : List UInt8) : Bool := !(l.length == 0) && (decide (l.length ≤ 2) && l.all dig?)
/-- What parseNumber tells: the number, or nothing. -/
def numV (l : List UInt8) : Nat := if numB l = true then valD l else 0
theorem valD_snoc {l : List UInt8} {k : Nat} (h : k < l.length) : valD (l.take (k + 1)) = 10 * valD (l.take k) + ((l.getD k 0).toNat - 48) := by
  unfold valD
  rw [List.take_succ_eq_append_getElem h, List.foldl_append, List.getD_eq_getElem?_getD, List.getElem?_eq_getElem h]; rfl
theorem all_snoc {l : List UInt8} {k : Nat} (h : k < l.length) : (l.take (k + 1)).all dig? = ((l.take k).all dig? && dig? (l.getD k 0)) := by
  rw [List.take_succ_eq_append_getElem h, List.all_append, List.getD_eq_getElem?_getD, List.getElem?_eq_getElem h]; simp
theorem all_not {l : List UInt8} {k : Nat} (h : k < l.length) (hd : dig? (l.getD k 0) = false) : l.all dig? = false := by
  have h1 : l.getD k 0 = l[k] := by rw [List.getD_eq_getElem?_getD, List.getElem?_eq_getElem h]; rfl
  cases ha : l.all dig?
  · rfl
  · rw [List.all_eq_true] at ha
    have := ha l[k] (List.getElem_mem h)
    rw [← h1, hd] at this
    cases this
theorem below_bytes (w : World) (e : TypeId) (t : ByteArray) : Below w.heap.size w (Lib.bytesWorld w e t) :=
  ⟨by simp [Lib.bytesWorld, World.freeze, World.alloc, World.drew, -World.alloc_eq, -World.drew_eq], by simp [Lib.bytesWorld, World.freeze, World.alloc, World.drew, -World.alloc_eq, -World.drew_eq],
    by simp [Lib.bytesWorld, World.freeze, World.alloc, World.drew, -World.alloc_eq, -World.drew_eq], by simp [Lib.bytesWorld, World.freeze, World.alloc, World.drew, -World.alloc_eq, -World.drew_eq], fun k hk => Lib.bytesWorld_at_old w e t k hk⟩
theorem num_no {l : List UInt8} (h : numB l = false) : numV l = 0 := by unfold numV; rw [h, if_neg (by simp)]
theorem num_yes {l : List UInt8} (h : numB l = true) : numV l = valD l := by unfold numV; rw [if_pos h]
theorem valD_le {l : List UInt8} (h : numB l = true) : valD l ≤ 99 := by
  unfold numB at h
  simp only [Bool.and_eq_true, decide_eq_true_eq] at h
  obtain ⟨_, h2, h3⟩ := h
  match l, h2, h3 with
  | [], _, _ => simp [valD]
  | [a], _, h3 => simp [dig?] at h3; simp [valD]; omega
  | [a, b], _, h3 => simp [dig?] at h3; simp [valD]; omega
theorem numV_le (l : List UInt8) : numV l ≤ 99 := by
  cases h : numB l
  · rw [num_no h]; omega
  · rw [num_yes h]; exact valD_le h
set_option maxHeartbeats 2000000 in
theorem pn_any (s : ByteArray) (w : World) (hs : s.size ≤ 1000000) : Calls Tryd.prog 89 #[.string s] w fun e w' => e = .returned (.tuple #[.int .i64 (numV s.data.toList : Nat), .bool (numB s.data.toList)]) ∧ Below w.heap.size w w' := by
  have HL : Hid (s.data.toList.length = s.size) := hide (by simp)
  generalize hl : s.data.toList = l at *
  by_cases h0 : s.size = 0
  · have hB : numB l = false := by unfold numB; rw [HL.out, h0]; rfl
    have he : s.toList = [] := by rw [Lib.toList_data, hl]; exact List.length_eq_zero_iff.1 (HL.out.trans h0)
    have HV := hide (num_no hB)
    have HB := hide hB
    clear hB h0 hl
    go_enter Tryd.func89, Tryd.ntmps89
    go_wp2_with fail
    go_ret2
    rw [HV.out, HB.out]
    exact ⟨rfl, Below.refl _ _⟩
  · have he : s.toList.isEmpty = false := by
      rw [Lib.toList_data, hl]
      cases l with
      | nil => have := HL.out; simp at this; omega
      | cons => rfl
    by_cases h2 : 2 < s.size
    · have hB : numB l = false := by unfold numB; rw [HL.out]; simp; intro _ _; omega
      have HV := hide (num_no hB)
      have HB := hide hB
      have hd : decide ((2 : Int) < s.size) = true := by simp; omega
      clear hB h0 hl
      go_enter Tryd.func89, Tryd.ntmps89
      go_wp2_with fail
      go_ret2
      rw [HV.out, HB.out]
      exact ⟨rfl, Below.refl _ _⟩
    · have hd : decide ((2 : Int) < s.size) = false := by simp; omega
      have hcv := Lib.run_convert_string_bytes (P := Tryd.prog) w 9 79 5 s Tryd.underlying9 Tryd.underlying79 Tryd.underlying5
      have HCe := hide (fun j hj => Lib.bytesWorld_cell w 5 s j hj)
      have HBW := hide (below_bytes w 5 s)
      rw [hl] at HCe
      generalize Lib.bytesWorld w 5 s = W at *
      generalize grownCap w s.size 0 5 = cap at *
      go_enter Tryd.func89, Tryd.ntmps89
      go_wp2_with fail
      have HD := hide hd
      have HN0 := hide h0
      clear hd hcv he h0 hl
      go_loop [4, 17] (fun v i => ∃ k n : Nat, k ≤ s.size ∧ i = .int .i64 (k : Nat) ∧ v = .int .i64 (n : Nat) ∧ (l.take k).all dig? = true ∧ n = valD (l.take k) ∧ n ≤ 99 ∧ (k ≤ 1 → n ≤ 9) ∧ (k = 0 → n = 0)) (fun _ i => s.size - (intOf i).toNat)
      case atStart => exact ⟨0, 0, Nat.zero_le _, rfl, rfl, by simp, by simp [valD], by omega, by omega, fun _ => rfl⟩
      case round =>
        obtain ⟨k, n, hk, rfl, rfl, hal, hn, hn1, hn2, hn3⟩ := hrel
        have HA := hide hal
        have HN := hide hn
        clear hal hn
        by_cases hlt : k < s.size
        · have hc := HCe.out k hlt
          have HS := hide (valD_snoc (l := l) (k := k) (by rw [HL.out]; exact hlt))
          have HT := hide (all_snoc (l := l) (k := k) (by rw [HL.out]; exact hlt))
          have HX := hide (fun h => all_not (l := l) (k := k) (by rw [HL.out]; exact hlt) h)
          have hb1 : (l.getD k 0).toNat < 256 := (l.getD k 0).toNat_lt
          have HG : Hid (dig? (l.getD k 0) = (decide (48 ≤ (l.getD k 0).toNat) && decide ((l.getD k 0).toNat ≤ 57))) := hide rfl
          generalize l.getD k 0 = b at *
          by_cases hb : 48 ≤ b.toNat ∧ b.toNat ≤ 57
          · obtain ⟨g1, g2⟩ := hb
            have e1 : decide ((b.toNat : Int) < 48) = false := by simp; omega
            have e2 : decide ((57 : Int) < b.toNat) = false := by simp; omega
            have hk9 : n ≤ 9 := hn2 (by omega)
            have HE : Hid ((l.take (k + 1)).all dig? = true ∧ 10 * n + (b.toNat - 48) = valD (l.take (k + 1))) := hide ⟨by rw [HT.out, HA.out, HG.out, decide_eq_true g1, decide_eq_true g2]; rfl, by rw [HS.out, HN.out]⟩
            have HQ : Hid (k + 1 ≤ 1 → 10 * n + (b.toNat - 48) ≤ 9) := hide (fun h => by have := hn3 (by omega); omega)
            clear hn2 hn3
            go_wp2_with fail
            go_round
            case rel => exact ⟨k + 1, 10 * n + (b.toNat - 48), by omega, by go_num, by congr 1; omega, HE.out.1, HE.out.2, by omega, HQ.out, by omega⟩
            case measure => simp [intOf]; omega
          · have HB : Hid (numB l = false) := hide (by
              unfold numB
              rw [HX.out (by rw [HG.out]; simp; omega)]; simp)
            have HV := hide (num_no HB.out)
            clear hn2 hn3
            by_cases g1 : b.toNat < 48
            · have e1 : decide ((b.toNat : Int) < 48) = true := by simp; omega
              go_wp2_with fail
              go_ret2
              rw [HV.out, HB.out]
              exact ⟨rfl, HBW.out⟩
            · have e1 : decide ((b.toNat : Int) < 48) = false := by simp; omega
              have e2 : decide ((57 : Int) < b.toNat) = true := by simp; omega
              go_wp2_with fail
              go_ret2
              rw [HV.out, HB.out]
              exact ⟨rfl, HBW.out⟩
        · obtain rfl : k = s.size := by omega
          have HB : Hid (numB l = true) := hide (by
            have ha := HA.out
            rw [← HL.out, List.take_length] at ha
            unfold numB
            rw [ha, HL.out]
            have h0 := HN0.out
            simp only [Bool.and_true, Bool.and_eq_true, Bool.not_eq_true', beq_eq_false_iff_ne, ne_eq, decide_eq_true_eq]
            omega)
          have HV : Hid (numV l = n) := hide (by rw [num_yes HB.out, HN.out, ← HL.out, List.take_length])
          clear hn2 hn3
          go_wp2_with fail
          go_ret2
          rw [HV.out, HB.out]
          exact ⟨rfl, HBW.out⟩
end Go.Proofs.YtggaflihblhapaaDoor
