/-
  The text of valid columns is read back as them.
-/
import Derived.Test.YtheeihdbeefkkaaDoorSJoin0
import Derived.Test.YtheeihdbeefkkaaDoorSShow
namespace Go.Proofs.YtheeihdbeefkkaaDoor
open Go.RowKit

theorem index_after (a : UInt8) (sep rest : List UInt8) : ∀ (x : List UInt8), (∀ b ∈ x, b ≠ a) → Lib.index (x ++ (a :: sep ++ rest)) (a :: sep) = x.length
  | [], _ => by
    show Lib.index (a :: (sep ++ rest)) (a :: sep) = 0
    unfold Lib.index
    rw [if_pos]
    rw [List.isPrefixOf_iff_prefix]; exact ⟨rest, rfl⟩
  | b :: x, h => by
    have ih := index_after a sep rest x (fun c hc => h c (List.mem_cons_of_mem _ hc))
    have hb : b ≠ a := h b (List.mem_cons_self ..)
    show Lib.index (b :: (x ++ (a :: sep ++ rest))) (a :: sep) = _
    unfold Lib.index
    rw [if_neg (by
      rw [List.isPrefixOf_iff_prefix]
      rintro ⟨r, hr⟩
      simp only [List.cons_append, List.cons.injEq] at hr
      exact hb hr.1.symm), ih, if_neg (by rw [beq_iff_eq]; omega)]
    simp
theorem index_absent (a : UInt8) (sep : List UInt8) : ∀ (x : List UInt8), (∀ b ∈ x, b ≠ a) → Lib.index x (a :: sep) = -1
  | [], _ => rfl
  | b :: x, h => by
    have ih := index_absent a sep x (fun c hc => h c (List.mem_cons_of_mem _ hc))
    have hb : b ≠ a := h b (List.mem_cons_self ..)
    unfold Lib.index
    rw [if_neg (by
      rw [List.isPrefixOf_iff_prefix]
      rintro ⟨r, hr⟩
      simp only [List.cons_append, List.cons.injEq] at hr
      exact hb hr.1.symm), ih]
    rfl
theorem split_join (a : UInt8) (sep : List UInt8) : ∀ (l : List (List UInt8)) (k : Nat), l ≠ [] → l.length ≤ k + 1 → (∀ x ∈ l, ∀ b ∈ x, b ≠ a) → Lib.splitK (a :: sep) 0 k (joinL (a :: sep) l) = l
  | [], _, h, _, _ => absurd rfl h
  | [x], 0, _, _, _ => rfl
  | [x], k + 1, _, _, h => by
    show Lib.splitK (a :: sep) 0 (k + 1) x = [x]
    unfold Lib.splitK
    rw [index_absent a sep x (h x (by simp))]; rfl
  | x :: y :: r, 0, _, h, _ => by simp at h
  | x :: y :: r, k + 1, _, hl, h => by
    have hj : joinL (a :: sep) (x :: y :: r) = x ++ (a :: sep ++ joinL (a :: sep) (y :: r)) := rfl
    rw [hj]
    unfold Lib.splitK
    have hi := index_after a sep (joinL (a :: sep) (y :: r)) x (h x (by simp))
    rw [hi, if_neg (by rw [beq_iff_eq]; omega), Int.toNat_natCast, Nat.add_zero, List.take_left]
    congr 1
    have hd : (x ++ (a :: sep ++ joinL (a :: sep) (y :: r))).drop (x.length + (a :: sep).length) = joinL (a :: sep) (y :: r) := by
      rw [← List.append_assoc, ← List.length_append, List.drop_left]
    rw [hd]
    exact split_join a sep (y :: r) k (by simp) (by simpa using hl) (fun z hz => h z (List.mem_cons_of_mem _ hz))

theorem name_bytes {s : ByteArray} (h : nameB s = true) : ∀ b ∈ s.data.toList, b ≠ 44 ∧ b ≠ 32 := fun b hb => by
  unfold nameB at h
  simp only [Bool.and_eq_true, decide_eq_true_eq] at h
  obtain ⟨j, hj, e⟩ := List.getElem_of_mem hb
  have hk := h.2 j (by simpa using hj)
  rw [List.getD_eq_getElem?_getD, List.getElem?_eq_getElem hj] at hk
  simp only [Option.getD_some, e] at hk
  constructor
  · rintro rfl
    revert hk
    unfold okAt lowB digB
    simp
  · rintro rfl
    revert hk
    unfold okAt lowB digB
    simp
theorem tail_bytes (n : Int) : ∀ b ∈ tailC n, b ≠ (44 : UInt8) := by
  intro b hb
  unfold tailC at hb
  split at hb <;> simp at hb <;> rcases hb with rfl | rfl | rfl | rfl | rfl <;> decide
theorem readC_one {c : ByteArray × Int} (hn : nameB c.1 = true) (ht : c.2 = 1 ∨ c.2 = 2) : readC ⟨(oneC c).toArray⟩ = c := by
  obtain ⟨nm, ty⟩ := c
  have hi := index_after 32 [] (wordC ty) nm.data.toList (fun b hb => (name_bytes hn b hb).2)
  have ho : oneC (nm, ty) = nm.data.toList ++ (32 :: [] ++ wordC ty) := by unfold oneC; rw [tail_word]; rfl
  have hc : Lib.cut (⟨(oneC (nm, ty)).toArray⟩ : ByteArray).data.toList [32] = (nm.data.toList, wordC ty, true) := by
    rw [list_of, ho]
    unfold Lib.cut
    rw [hi, if_pos (by omega), Int.toNat_natCast, List.take_left]
    congr 2
    rw [show nm.data.toList ++ (32 :: [] ++ wordC ty) = (nm.data.toList ++ [32]) ++ wordC ty by simp, ← List.length_append, List.drop_left]
  unfold readC
  rw [hc]
  have hw : typeN ⟨(wordC ty).toArray⟩ = ty := by
    unfold typeN wordC
    rcases ht with h | h <;> simp only at h <;> subst h <;> rfl
  simp only [hw]

theorem joinL_len (sep : List UInt8) (hs : 1 ≤ sep.length) : ∀ l : List (List UInt8), l.length ≤ (joinL sep l).length + 1
  | [] => by simp
  | [x] => by simp
  | x :: y :: r => by
    have := joinL_len sep hs (y :: r)
    rw [joinL_cons (by simp)]
    simp only [List.length_append, List.length_cons] at this ⊢
    omega

theorem map_data {l m : List ByteArray} (h : l.map (·.data.toList) = m.map (·.data.toList)) : l = m :=
  List.map_inj_right (f := fun s : ByteArray => s.data.toList) (fun x y e => by rw [of_data e, ← of_data (s := y) rfl]) |>.1 h

theorem parsed_show {cs : List (ByteArray × Int)} (hz : checkC cs = 0) : parsedC ⟨(showC cs).toArray⟩ = some cs := by
  obtain ⟨h1, h2, hcl⟩ := checkC_ok hz
  have hb : ∀ c ∈ cs, nameB c.1 = true ∧ (c.2 = 1 ∨ c.2 = 2) := fun c hc => by
    obtain ⟨j, hj, e⟩ := List.getElem_of_mem hc
    have := badC_name (hcl j hj)
    rw [List.getD_eq_getElem?_getD, List.getElem?_eq_getElem hj] at this
    simp only [Option.getD_some, e] at this
    exact ⟨this.1, this.2.1⟩
  have hS := showC_join cs
  have hlen : (showC cs).length = (joinL [44, 32] (cs.map oneC)).length + 2 := by rw [hS]; simp
  have hsz : (⟨(showC cs).toArray⟩ : ByteArray).size = (joinL [44, 32] (cs.map oneC)).length + 2 := by rw [size_of, hlen]
  have hin : ((⟨(showC cs).toArray⟩ : ByteArray).extract 1 ((⟨(showC cs).toArray⟩ : ByteArray).size - 1)).data.toList = joinL [44, 32] (cs.map oneC) := by
    rw [Lib.extract_data, list_of, hsz, hS]
    show List.take _ (joinL [44, 32] (cs.map oneC) ++ [41]) = _
    rw [show (joinL [44, 32] (cs.map oneC)).length + 2 - 1 - 1 = (joinL [44, 32] (cs.map oneC)).length by omega, List.take_left]
  have hbr : bracketed ⟨(showC cs).toArray⟩ = true := by
    unfold bracketed
    rw [list_of, hsz, hS]
    simp
  have hne : cs.map oneC ≠ [] := by intro h; have := congrArg List.length h; rw [List.length_map, List.length_nil] at this; omega
  have hjl := joinL_len [44, 32] (by simp) (cs.map oneC)
  rw [List.length_map] at hjl
  have hparts : (partsOf ⟨(showC cs).toArray⟩).map (·.data.toList) = cs.map oneC := by
    unfold partsOf
    rw [Lib.splitB_data, hin]
    have hzz : ((⟨(showC cs).toArray⟩ : ByteArray).extract 1 ((⟨(showC cs).toArray⟩ : ByteArray).size - 1)).size = (joinL [44, 32] (cs.map oneC)).length := by
      rw [← hin, Array.length_toList]; rfl
    rw [hzz]
    exact split_join 44 [32] (cs.map oneC) _ hne (by rw [List.length_map]; omega) (fun x hx b hbx => by
      obtain ⟨c, hc, rfl⟩ := List.mem_map.1 hx
      unfold oneC at hbx
      rcases List.mem_append.1 hbx with h | h
      · exact (name_bytes (hb c hc).1 b h).1
      · exact tail_bytes _ b h)
  have hp : partsOf ⟨(showC cs).toArray⟩ = cs.map fun c => ⟨(oneC c).toArray⟩ := map_data (by rw [hparts, List.map_map]; exact List.map_congr_left fun c _ => (list_of _).symm)
  have hcols : colsOf ⟨(showC cs).toArray⟩ = cs := by
    unfold colsOf
    rw [hp, List.map_map]
    have : cs.map (readC ∘ fun c => (⟨(oneC c).toArray⟩ : ByteArray)) = cs.map id := List.map_congr_left fun c hc => readC_one (hb c hc).1 (hb c hc).2
    rw [this, List.map_id]
  unfold parsedC
  rw [if_pos ⟨hbr, by rw [hcols]; exact hz⟩, hcols]
end Go.Proofs.YtheeihdbeefkkaaDoor
