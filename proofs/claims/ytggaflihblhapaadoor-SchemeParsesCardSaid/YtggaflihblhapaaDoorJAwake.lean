/-
  The fixed example.
-/
import Derived.Test.YtggaflihblhapaaDoorJParse
namespace Go.Proofs.YtggaflihblhapaaDoor
open Go.RowKit Go.Sort CM JM

/-- A right scheme's text is read as the scheme. -/
theorem parse_text (k a z : Int) (w : World) (hok : okS k a z = true) (hR : Rs w) : Calls Tryd.prog 29 #[txt (showS k a z)] w fun e w' => e = .returned (.tuple #[vS k a z, .int .i64 0]) ∧ Below w.heap.size w w' := by
  have hbd := ok_bd hok
  have hl : (showS k a z).length ≤ 1000 := by
    have l1 := Lib.itoa_length_le a (by omega) (by omega)
    have l2 := Lib.itoa_length_le z (by omega) (by omega)
    have l3 := (kind_word (ok_kind hok)).2.2
    rw [show_text hok]
    unfold textS
    simp
    omega
  refine (parse_any _ w hl hR).mono ?_
  rintro e w' ⟨h | ⟨h, _⟩, hb⟩
  · obtain ⟨k', a', z', hok', he, rfl⟩ := h
    obtain ⟨h1, h2, h3⟩ := show_back hok
    rw [he] at h1 h2 h3
    obtain ⟨g1, g2, g3⟩ := show_back hok'
    rw [← h1, ← h2, ← h3, g1, g2, g3]
    exact ⟨rfl, hb⟩
  · exact absurd rfl (h k a z hok)
theorem awake_text : showS 3 0 3 = [119, 101, 101, 107, 108, 121, 32, 48, 46, 46, 51] := by
  rw [show_text (by decide)]
  unfold textS
  rw [itoa_dec (by omega), itoa_dec (by omega), show (0 : Int).toNat = 0 from rfl, show (3 : Int).toNat = 3 from rfl, dec_small (by omega), dec_small (by omega)]
  rfl
set_option maxHeartbeats 2000000 in
theorem awake_any (w : World) (hR : Rs w) : Calls Tryd.prog 20 #[] w fun e w' => e = .returned (.bool true) ∧ Below w.heap.size w w' := by
  have hp := parse_text 3 0 3 w (by decide) hR
  rw [awake_text] at hp
  have HP := hide hp
  have HRs := hide hR
  have HWv : Hid (winV 3 0 3 0 = .tuple #[.int .i64 2880, .int .i64 12960, .int .i64 0]) := hide (by rw [winV_yes (by decide) (by decide)]; rfl)
  have HCv : Hid (cntS 3 0 3 = 4) := hide (by decide)
  clear hp hR
  go_enter Tryd.func20, Tryd.ntmps20
  go_wp2_with fail
  refine HP.out.mono ?_
  rintro e w1 ⟨rfl, hb⟩
  have HB1 := hide hb
  have HW := hide (window_any 3 0 3 0 (w1.alloc (.cells #[.int .i64 3, .int .i64 0, .int .i64 3] 41)) ((HRs.out.on hb).mon.on (box_below w1 3 0 3)) (by omega))
  rw [HWv.out] at HW
  clear hb
  go_wp2_with fail
  refine HW.out.mono ?_
  rintro e w2 ⟨rfl, hb⟩
  obtain ⟨⟨c0, c1, c2⟩, hs⟩ := box_stays hb
  have HB2 := hide (HB1.out.trans (((box_below w1 3 0 3).trans (hb.mono (box_below w1 3 0 3).size)).mono HB1.out.size))
  have HC := hide (count_any 3 0 3 w2 (HRs.out.on HB2.out).mon (by omega))
  rw [HCv.out] at HC
  clear hb
  go_wp2_with fail
  refine HC.out.mono ?_
  rintro e w3 ⟨rfl, hb⟩
  have HB3 := hide (HB2.out.trans (hb.mono HB2.out.size))
  clear hb
  go_wp2_with fail
  go_ret
  exact ⟨rfl, HB3.out⟩
end Go.Proofs.YtggaflihblhapaaDoor
