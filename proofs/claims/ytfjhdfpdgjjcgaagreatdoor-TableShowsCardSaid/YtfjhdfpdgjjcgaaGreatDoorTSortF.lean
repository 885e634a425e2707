/-
  slices.SortFunc of rows by CmpRows: the same rows in their order.
-/
import Derived.Test.YtfjhdfpdgjjcgaaGreatDoorTOrd
import Derived.Test.YtfjhdfpdgjjcgaaGreatDoorTRows
import Derived.Test.YtfjhdfpdgjjcgaaGreatDoorShelf
import Derived.Test.YtfjhdfpdgjjcgaaGreatDoorShelfB
import Derived.Shelf.SlSortCmp.Whole1
import Derived.Lib.QuietBelow
namespace Go.Proofs.YtfjhdfpdgjjcgaaGreatDoor
open Go.RowKit Go.Sort

theorem up_grow {w w' : World} (h : Up w w') : ∃ q os', w' = grow (w.drewN q) os' := by
  obtain ⟨⟨d, os⟩, rfl⟩ := regrown_of_below h.1
  have hd : w.drawn ≤ d := h.2
  refine ⟨d - w.drawn, os, ?_⟩
  congr 1
  show redrawn w d = _
  unfold redrawn World.drewN
  rw [Nat.add_sub_cancel' hd]

/-- The row lies in no cell of block blk. -/
def OutOf (blk : Nat) (w : World) (h : RH) : Prop := HdrOk w.heap.size w h ∧ (∀ a, h.1 = some a → a.block = blk → h.2.2 = []) ∧ h.2.2.length ≤ maxLen
abbrev SR (blk : Nat) (w : World) : Type := {h : RH // OutOf blk w h}
instance (blk : Nat) (w : World) : Inhabited (SR blk w) := ⟨⟨dH, ⟨RowAt.nil _ _ _, fun _ => rfl⟩, fun _ _ _ => rfl, Nat.zero_le _⟩⟩
def encS {blk : Nat} {w : World} (x : SR blk w) : Value := hdr x.1
def cfS {blk : Nat} {w : World} (x y : SR blk w) : Int := cmpR x.1.2.2 y.1.2.2
theorem swoS (blk : Nat) (w : World) : SWO (ltOf (cfS (blk := blk) (w := w))) where
  irrefl x := by unfold ltOf cfS; rw [cmpR_refl]; rfl
  trans x y z h1 h2 := by
    unfold ltOf cfS at *
    rw [decide_eq_true_iff] at *
    exact cmpR_trans _ _ _ h1 h2
  ntrans x y z h1 h2 := by
    unfold ltOf cfS at *
    rw [decide_eq_false_iff_not] at *
    have t1 := cmpR_turn x.1.2.2 y.1.2.2
    have t2 := cmpR_turn y.1.2.2 z.1.2.2
    have t3 := cmpR_turn x.1.2.2 z.1.2.2
    have := leR_trans (show cmpR z.1.2.2 y.1.2.2 ≤ 0 by omega) (show cmpR y.1.2.2 x.1.2.2 ≤ 0 by omega)
    omega
theorem hdrOk_sort {α : Type} [Inhabited α] {enc : α → Value} {w : World} {blk off m : Nat} {dk : Array α} {os : Array Obj} {h : RH} (k : OutOf blk w h) : HdrOk (sortWorld enc w blk off m dk os).heap.size (sortWorld enc w blk off m dk os) h := ⟨fun j hj => by
  obtain ⟨b, o, e, hlt, c0, c1, c2⟩ := k.1.1 j hj
  have hne : b ≠ blk := fun hb => by
    have := k.2.1 _ e hb
    rw [this] at hj; simp at hj
  have hc : ∀ i, (sortWorld enc w blk off m dk os).cell? ⟨b, i, none⟩ = w.cell? ⟨b, i, none⟩ := fun i => by
    unfold sortWorld
    rw [cell?_grow _ _ _ (by rw [Go.Sort.size_putRow]; exact hlt), cell?_putRow_other _ _ _ _ _ _ (Or.inl hne)]; rfl
  refine ⟨b, o, e, ?_, (hc _).trans c0, (hc _).trans c1, (hc _).trans c2⟩
  unfold sortWorld
  rw [size_grow, Go.Sort.size_putRow]
  exact Nat.lt_of_lt_of_le hlt (Nat.le_add_right _ _), k.1.2⟩
theorem grown_sort {α : Type} [Inhabited α] (enc : α → Value) (w : World) (blk off m : Nat) (dk : Array α) (os : Array Obj) : w.grownBy (sortWorld enc w blk off m dk os) (some blk) := by
  refine ⟨rfl, rfl, rfl, ?_, fun k hk hne => ?_⟩
  · unfold sortWorld; rw [size_grow, Go.Sort.size_putRow]; exact Nat.le_add_right _ _
  · unfold sortWorld
    rw [heap_grow_old _ _ (by rw [Go.Sort.size_putRow]; exact hk)]
    show ((Go.Sort.ahead w m).heap.modify blk _)[k]? = w.heap[k]?
    rw [Array.getElem?_modify, if_neg (fun e => hne (by rw [e]))]
    rfl
theorem cmpLays (blk off size : Nat) (w : World) : CmpLays1 Tryz.prog 49 #[] (encS (blk := blk) (w := w)) cfS blk off size w := fun m os dk _ x y => by
  rw [Array.append_empty]
  exact (cmpRows_up x.1.1 y.1.1 x.1.2.1 y.1.2.1 x.1.2.2 y.1.2.2 _ (hdrOk_sort x.2).1 (hdrOk_sort y.2).1 x.2.2.2).mono fun e w' ⟨he, hu⟩ => ⟨he, up_grow hu⟩

def toS {blk : Nat} {w : World} (hs : List RH) (hO : ∀ h ∈ hs, OutOf blk w h) : Array (SR blk w) := (hs.pmap (fun h k => (⟨h, k⟩ : SR blk w)) hO).toArray
theorem toS_map {blk : Nat} {w : World} (hs : List RH) (hO : ∀ h ∈ hs, OutOf blk w h) : (toS hs hO).toList.map (·.1) = hs := by
  unfold toS
  rw [List.toList_toArray, List.map_pmap]
  simp
theorem toS_size {blk : Nat} {w : World} (hs : List RH) (hO : ∀ h ∈ hs, OutOf blk w h) : (toS hs hO).size = hs.length := by unfold toS; simp
theorem getS {blk : Nat} {w : World} {d : Array (SR blk w)} {j : Nat} (hj : j < d.size) : (d.toList.map (·.1)).getD j dH = d[j]!.1 := by
  rw [List.getD_eq_getElem?_getD, List.getElem?_map, Array.getElem?_toList, Array.getElem?_eq_getElem hj, getElem!_pos d j hj]; rfl

/-- What the sort leaves: the same rows, in their order. -/
def Sorted (blk : Nat) (hs : List RH) (w : World) (e : Ending) (w' : World) : Prop :=
  e = .returned (.tuple #[]) ∧ (∃ hs' : List RH, hs'.length = hs.length ∧ rowsOf hs' = sortR (rowsOf hs) ∧ hs'.Perm hs ∧ RowsAt w'.heap.size w' (some ⟨blk, 0, none⟩) hs') ∧ w.grownBy w' (some blk)

theorem sort_any (blk cap : Nat) (hs : List RH) (w : World) (hblk : blk < w.heap.size) (hc : ∀ j, j < hs.length → w.cell? ⟨blk, j, none⟩ = some (hdr (hs.getD j dH)) ∧ w.frozen? ⟨blk, j, none⟩ = false)
    (hO : ∀ h ∈ hs, OutOf blk w h) (hl : hs.length < 4611686018427387904) :
    Calls Tryz.prog 48 #[.slice (some ⟨blk, 0, none⟩) hs.length cap, .func (.func 49) #[] #[]] w (Sorted blk hs w) := by
  have eg : ∀ args w, (callFunc 49 args).run Tryz.prog w = .ok (.enter 49 args) w := enters_of Tryz.func49 (by kernel_rfl) rfl
  have hH : Holds (encS (blk := blk) (w := w)) w blk 0 (toS hs hO) := fun j hj => by
    rw [Nat.zero_add]
    have hj' : j < hs.length := by rwa [toS_size] at hj
    obtain ⟨h1, h2⟩ := hc j hj'
    refine ⟨?_, h2⟩
    rw [h1]
    unfold encS
    rw [← getS hj, toS_map]
  have h := Any.slices_SortFunc Tryz.sortLays (encS (blk := blk) (w := w)) (fun _ => rfl) cfS (swoS blk w) 49 #[] blk 0 cap (toS hs hO) w eg (cmpLays blk 0 _ w) hH hblk (by rw [toS_size]; exact hl)
  rw [toS_size] at h
  refine h.mono ?_
  rintro e w' ⟨rfl, d', n, os, hp, hsd, rfl⟩
  obtain ⟨hsz, -, hperm⟩ := hp
  rw [toS_size] at hsz
  refine ⟨rfl, ⟨d'.toList.map (·.1), by rw [List.length_map, Array.length_toList, hsz], ?_, ?_, ⟨fun j hj => ?_, fun x hx => ?_⟩⟩, grown_sort _ _ _ _ _ _ _⟩
  · have hpm : (d'.toList.map (·.1)).Perm hs := by
      have h1 : (d'.extract 0 hs.length).toList = d'.toList := by simp [← hsz]
      have h2 : ((toS hs hO).extract 0 hs.length).toList = (toS hs hO).toList := by
        have := toS_size hs hO
        simp [← this]
      rw [h1, h2] at hperm
      have := hperm.map (·.1)
      rwa [toS_map] at this
    refine sorted_is ?_ (hpm.map _)
    unfold SortedR rowsOf
    rw [List.pairwise_iff_getElem]
    intro i j hi hj hij
    have hj' : j < d'.size := by simpa using hj
    have := hsd i j (Nat.zero_le _) hij (by omega)
    unfold ltOf cfS at this
    rw [decide_eq_false_iff_not] at this
    rw [getElem!_pos d' j hj', getElem!_pos d' i (by omega)] at this
    have ht := cmpR_turn d'[j].1.2.2 d'[i].1.2.2
    simp only [List.getElem_map, Array.getElem_toList]
    omega
  · have h1 : (d'.extract 0 hs.length).toList = d'.toList := by simp [← hsz]
    have h2 : ((toS hs hO).extract 0 hs.length).toList = (toS hs hO).toList := by
      have := toS_size hs hO
      simp [← this]
    rw [h1, h2] at hperm
    have := hperm.map (·.1)
    rwa [toS_map] at this
  · have hj' : j < d'.size := by simpa using hj
    have := holds_sortWorld (encS (blk := blk) (w := w)) w blk 0 n (toS hs hO) d' os hblk hH (by rw [toS_size]; exact hsz) j hj'
    refine ⟨blk, 0, rfl, ?_, ?_⟩
    · exact lt_sortWorld _ _ _ _ _ _ _ hblk
    · rw [this.1, getS hj']; rfl
  · obtain ⟨y, hy, rfl⟩ := List.mem_map.1 hx
    exact hdrOk_sort y.2
end Go.Proofs.YtfjhdfpdgjjcgaaGreatDoor
