/-
  The walk of FrameNumbers.
-/
import Derived.Test.YtpjibiimakclfaaDoorFLists
import Derived.Test.YtpjibiimakclfaaDoorFText
import Derived.Test.YtpjibiimakclfaaDoorFAwake
namespace Go.Proofs.YtpjibiimakclfaaDoor
open Go.RowKit

theorem intN_enc {n : Int} (hn : Int64 n) (r : List UInt8) : intN (intB n ++ r) = n ∧ intL (intB n ++ r) = r ∧ intX (intB n ++ r) = false := by
  have h := readI_intB hn r
  unfold intN intL intX
  rw [h]
  refine ⟨rfl, ?_, rfl⟩
  show (intB n ++ r).drop (intB n).length = r
  rw [List.drop_left]
theorem txt_enc (s : ByteArray) (r : List UInt8) (hs : s.size ≤ 4294960000) : txtS (textB s.data.toList ++ r) = s.data.toList ∧ txtL (textB s.data.toList ++ r) = r ∧ txtX (textB s.data.toList ++ r) = false := by
  have hz : s.data.toList.length = s.size := by simp
  obtain ⟨h1, h2, h3⟩ := intN_enc (n := (s.data.toList.length : Int)) ⟨by omega, by omega⟩ (s.data.toList ++ r)
  have e : textB s.data.toList ++ r = intB (s.data.toList.length : Int) ++ (s.data.toList ++ r) := by unfold textB; rw [List.append_assoc]
  have ok : TxtOk (textB s.data.toList ++ r) := by
    unfold TxtOk
    rw [e, h1, h2, List.length_append]
    omega
  unfold txtS txtL txtX
  rw [if_pos ok, if_pos ok, if_pos ok, e, h1, h2, h3, Int.toNat_natCast]
  exact ⟨List.take_left, List.drop_left, rfl⟩
set_option maxHeartbeats 12800000 in
set_option maxRecDepth 100000 in
theorem frameNumbers_walk (A : Option Addr) (c : Nat) (ns : List Int) (B : Option Addr) (d : Nat) (ts : List ByteArray) (w : World) (hN : IntsAt w.heap.size w A ns) (hw : WfN ns) (hS : StrsAt w.heap.size w B ts) (hl : ts.length ≤ maxLen) (hT : Tab w) :
    Calls Tryd.prog 3 #[.slice A ns.length c, .slice B ts.length d] w fun e w' => e = .returned (.bool true) ∧ Below w.heap.size w w' := by
  have HAw := hide (fun w' (h : Below w.heap.size w w') => awake_any w' (hT.on h))
  have HN := hide hN
  have HS := hide hS
  have HW := hide hw.2
  have hl2 := hw.1
  unfold maxLen at hl hl2
  clear hN hS hw hT
  have HB1 := hide (fun (w' : World) o => (Below.refl w'.heap.size w').alloc (Nat.le_refl _) o)
  by_cases hsm : ns.length ≤ 60 ∧ ts.length ≤ 30
  · obtain ⟨hn60, ht30⟩ := hsm
    have HO0 := hide (out_new w)
    have HL0 := hide (HB1.out w (.cells #[.slice none 0 0] 27))
    go_enter Tryd.func3, Tryd.ntmps3
    go_wp2_with fail
    go_loopw [29, 6] (fun i v wr => ∃ (k : Nat) (vo : Value), k ≤ ns.length ∧ i = .int .i64 k ∧ OW w.heap.size w.heap.size wr vo v (encN (ns.take k)) (encN (ns.take k)) ∧ Below w.heap.size w wr) (fun i _ _ => ns.length - (intOf i).toNat)
    case atStart => exact ⟨0, _, Nat.zero_le _, rfl, ⟨HO0.out, World.ownsRow_nil _ _ _ _, (fun b e => by cases e), fun b e => by cases e⟩, HL0.out⟩
    case round =>
      obtain ⟨k, vo, hk, rfl, hOW, hbw⟩ := hrel
      have HOW := hide hOW
      have HBw := hide hbw
      clear HO0 HL0
      have hle : (encN (ns.take k)).length ≤ 540 := by have := encN_len (ns.take k); rw [List.length_take] at this; omega
      by_cases hlt : k < ns.length
      · have HK := hide hlt
        obtain ⟨b, off, rfl, hbb, hx⟩ := (HN.out.below hbw) k hlt
        have hi := HW.out k hlt
        have HE := hide (encN_take hlt)
        generalize ns.getD k 0 = n at *
        generalize encN (ns.take k) = l1 at *
        have H1 := hide (outInt_any n wr hi hOW.o (by omega))
        have H2 := hide (fun w' => refInt_any n w' hi)
        have hi9 := (intB_len n).2
        generalize intB n = ib at *
        clear hOW hbw
        go_wp2_with fail
        refine H1.out.mono ?_
        rintro e w2 ⟨rfl, vo2, hv2, ht2⟩
        have HOW2 := hide (HOW.out.out hv2 ht2)
        have HB2 := hide (HBw.out.trans (ht2.below HOW.out.o))
        clear hv2 ht2
        go_wp2_with fail
        refine (H2.out w2).mono ?_
        rintro e w3 ⟨v3, rfl, hr3, hb3⟩
        have HOW3 := hide (HOW2.out.below hb3)
        have HB3 := hide (HB2.out.trans (hb3.mono HOW2.out.size))
        have hs3 := HB3.out.size
        obtain ⟨A3, c3, rfl, hBy3, _, hn3, _⟩ := bytes_of_row hr3
        clear hr3 hb3
        go_wp2_with (at_builtin; go_must (refine append_bytes rfl _ _ rfl w.heap.size u6 l1 ib l1.length rfl HOW3.out.r _ A3 ib.length c3 rfl rfl hBy3 hn3 (by omega) hs3 ?_))
        intro v4 w4 hown4 hgrow4 hat4
        have HF := hide (show OW w.heap.size w.heap.size w4 vo2 v4 (l1 ++ ib) (l1 ++ ib) from HOW3.out.app _ (by rw [List.length_append]) hown4 hgrow4 hat4)
        have HB4 := hide (grow_below0 HB3.out HOW3.out.r hs3 hgrow4)
        obtain ⟨A4, c4, rfl, -⟩ := row_slice hown4
        clear hown4 hgrow4 hat4 hBy3 hn3
        go_wp2_with fail
        go_roundw
        case rel => exact ⟨k + 1, _, HK.out, by go_num, by rw [HE.out]; exact HF.out, HB4.out⟩
        case measure => have := HK.out; simp [intOf]; omega
      · obtain rfl : k = ns.length := by omega
        have hid : ns.take ns.length = ns := List.take_length
        rw [hid] at hOW hle HOW
        clear hid hOW hbw
        go_wp2_with fail
        go_loopw [42, 6] (fun i v wr => ∃ (k : Nat) (vo : Value), k ≤ ts.length ∧ i = .int .i64 k ∧ OW w.heap.size w.heap.size wr vo v (encN ns ++ encT (ts.take k)) (encN ns ++ encT (ts.take k)) ∧ Below w.heap.size w wr ∧ ∀ j, j < k → (ts.getD j ⟨#[]⟩).size ≤ 500) (fun i _ _ => ts.length - (intOf i).toNat)
        case atStart => exact ⟨0, vo, Nat.zero_le _, rfl, by simpa [encT] using HOW.out, HBw.out, fun j hj => by omega⟩
        case round =>
          obtain ⟨k, vo1, hk, rfl, hOW, hbw, h500⟩ := hrel
          clear HOW HBw
          have HOW := hide hOW
          have HBw := hide hbw
          have H500 := hide h500
          have hle2 : (encN ns ++ encT (ts.take k)).length ≤ 16000 := by
            have := encT_len (ts.take k) fun j hj => by
              rw [List.length_take] at hj
              rw [List.getD_eq_getElem?_getD, List.getElem?_take_of_lt (by omega), ← List.getD_eq_getElem?_getD]
              exact h500 j (by omega)
            rw [List.length_take] at this
            rw [List.length_append]; omega
          by_cases hlt : k < ts.length
          · have HK := hide hlt
            obtain ⟨b, off, rfl, hbb, hx⟩ := (HS.out.below hbw) k hlt
            have HE := hide (show encN ns ++ encT (ts.take (k + 1)) = (encN ns ++ encT (ts.take k)) ++ textB (ts.getD k ⟨#[]⟩).data.toList by rw [encT_take hlt, List.append_assoc])
            have H5 := hide (fun (h : (ts.getD k ⟨#[]⟩).size ≤ 500) => (fun j hj => by
              rcases Nat.lt_or_ge j k with h1 | h1
              · exact h500 j h1
              · rw [show j = k by omega]; exact h : ∀ j, j < k + 1 → (ts.getD j ⟨#[]⟩).size ≤ 500))
            generalize ts.getD k ⟨#[]⟩ = s at *
            generalize encN ns ++ encT (ts.take k) = l1 at *
            have HAw2 := hide (HAw.out wr hbw)
            by_cases hs5 : s.size ≤ 500
            · have H1 := hide (outText_any s wr hOW.o (by omega))
              have H2 := hide (fun w' => refText_any s w' (by omega))
              have hb9 := textB_len s
              generalize textB s.data.toList = ib at *
              have HS5 := hide hs5
              have hs5' : (s.size : Int) ≤ 500 := by omega
              clear hOW hbw h500 HAw2
              go_wp2_with fail
              refine H1.out.mono ?_
              rintro e w2 ⟨rfl, vo2, hv2, ht2⟩
              have HOW2 := hide (HOW.out.out hv2 ht2)
              have HB2 := hide (HBw.out.trans (ht2.below HOW.out.o))
              clear hv2 ht2
              go_wp2_with fail
              refine (H2.out w2).mono ?_
              rintro e w3 ⟨v3, rfl, hr3, hb3⟩
              have HOW3 := hide (HOW2.out.below hb3)
              have HB3 := hide (HB2.out.trans (hb3.mono HOW2.out.size))
              have hs3 := HB3.out.size
              obtain ⟨A3, c3, rfl, hBy3, _, hn3, _⟩ := bytes_of_row hr3
              clear hr3 hb3
              go_wp2_with (at_builtin; go_must (refine append_bytes rfl _ _ rfl w.heap.size u6 l1 ib l1.length rfl HOW3.out.r _ A3 ib.length c3 rfl rfl hBy3 hn3 (by omega) hs3 ?_))
              intro v4 w4 hown4 hgrow4 hat4
              have HF := hide (show OW w.heap.size w.heap.size w4 vo2 v4 (l1 ++ ib) (l1 ++ ib) from HOW3.out.app _ (by rw [List.length_append]) hown4 hgrow4 hat4)
              have HB4 := hide (grow_below0 HB3.out HOW3.out.r hs3 hgrow4)
              obtain ⟨A4, c4, rfl, -⟩ := row_slice hown4
              clear hown4 hgrow4 hat4 hBy3 hn3
              go_wp2_with fail
              go_roundw
              case rel => exact ⟨k + 1, _, HK.out, by go_num, by rw [HE.out]; exact HF.out, HB4.out, H5.out HS5.out⟩
              case measure => have := HK.out; simp [intOf]; omega
            · have hs5' : (500 : Int) < (s.size : Int) := by omega
              clear hOW hbw h500 H5
              go_wp2_with fail
              refine HAw2.out.mono ?_
              rintro e w2 ⟨rfl, hb2⟩
              have HF := hide (HBw.out.trans (hb2.mono HOW.out.size))
              clear hb2
              go_wp2_with fail
              go_ret
              exact ⟨rfl, HF.out⟩
          · obtain rfl : k = ts.length := by omega
            have hid : ts.take ts.length = ts := List.take_length
            rw [hid] at hOW hle2 HOW
            clear hid hOW hbw h500
            have HEnc := hide (rfl : encN ns ++ encT ts = encN ns ++ encT ts)
            have H1 := hide (outBytes_any wr HOW.out.o (by omega))
            generalize hall : encN ns ++ encT ts = all at *
            have HAll := hide hall
            clear hall HEnc
            go_wp2_with fail
            refine H1.out.mono ?_
            rintro e w2 ⟨v2, rfl, hr2, hb2⟩
            have HOW2 := hide (HOW.out.below hb2)
            have HB2 := hide (HBw.out.trans (hb2.mono HOW.out.size))
            have HR2 := hide hr2
            obtain ⟨A2, c2, rfl, hBy2, _, _, _⟩ := bytes_of_row hr2
            obtain ⟨Aw, cw, hvw, hByw, _, _, _⟩ := bytes_of_row HOW2.out.r
            subst hvw
            have hc1 := conv_bytes A2 c2 all w2 hBy2
            have hc2 := conv_bytes Aw cw all w2 hByw
            have HNew := hide (newIn_any A2 c2 all w2 hBy2 (by omega))
            clear hr2 hb2 hBy2 hByw
            go_wp2_with fail
            refine HNew.out.mono ?_
            rintro e w3 ⟨g3, rfl, hg3, hI3, hb3⟩
            have hs23 := hb3.size
            have HI3 := hide hI3
            have HB3 := hide (HB2.out.trans (hb3.mono HB2.out.size))
            have HR3 := hide (row_keep HR2.out (w' := w3) fun b e => hb3.block b (HR2.out.lt b e).2)
            have hs2 := HB2.out.size
            have hswr : w.heap.size ≤ wr.heap.size := HBw.out.size
            clear hI3 hb3 hc1 hc2
            go_wp2_with fail
            have h22 : wr.heap.size ≤ w2.heap.size ∨ True := .inr trivial
            have HAt := hide (show ∃ zs : List Int, zs.length = all.length ∧ w3.ownsRow wr.heap.size 5 1 (.slice A2 all.length c2) all.length (zs.map (Value.int .u8)) ∧ InAt (fun b => w2.heap.size ≤ b) g3 w3 all false ∧ Below w.heap.size w w3 from ⟨all.map fun y => (y.toNat : Int), by simp, by rw [map_u8]; exact HR3.out, HI3.out, HB3.out⟩)
            have HBlt := hide (fun b e => (HR2.out.lt b e).2)
            clear HOW HBw HOW2 HR2 HNew H1 HR3 HI3 HB3 HB2 h22
            generalize wr.heap.size = N2 at *
            generalize w2.heap.size = M2 at *
            go_loopw [67] (fun i wr => ∃ k : Nat, k ≤ all.length ∧ i = .int .i64 k ∧ ∃ zs : List Int, zs.length = all.length ∧ wr.ownsRow N2 5 1 (.slice A2 all.length c2) all.length (zs.map (Value.int .u8)) ∧ InAt (fun b => M2 ≤ b) g3 wr all false ∧ Below w.heap.size w wr) (fun i _ => all.length - (intOf i).toNat)
            case atStart => exact ⟨0, Nat.zero_le _, rfl, HAt.out⟩
            case round =>
              obtain ⟨k, hk, rfl, zs, hz, hrow, hin, hbel⟩ := hrel
              have HIn := hide hin
              have HBel := hide hbel
              clear HAt
              by_cases hlt : k < all.length
              · have HK := hide hlt
                obtain ⟨b, rfl⟩ : ∃ b, A2 = some ⟨b, 0, none⟩ := by
                  rcases hrow.2 with ⟨e, h0⟩ | ⟨g', cap, cur, e, _⟩
                  · omega
                  · injection e with e; exact ⟨g', e⟩
                have hc : wr.cell? ⟨b, k, none⟩ = some (.int .u8 (zs.getD k 0)) := by
                  rw [hrow.cellAt k (by omega), List.getElem?_map, List.getElem?_eq_getElem (by omega), List.getD_eq_getElem?_getD, List.getElem?_eq_getElem (by omega)]
                  rfl
                have hf := hrow.frozenAt k
                have hblt := (hrow.lt b rfl).2
                have hbM : b < M2 := HBlt.out b rfl
                have hbN : N2 ≤ b := (hrow.lt b rfl).1
                have HStep := hide (fun u : Int => (⟨by rw [List.length_set]; exact hz, by rw [List.map_set]; exact (hrow.stored k (.int .u8 u)).1, hin.keep (by simp [World.setCell]) (fun c hc _ => Below.heap_setCell _ _ _ _ (show c ≠ b by have hc2 : M2 ≤ c := hc; omega)), hbel.setCell (by simp only; omega) _⟩ : (zs.set k u).length = all.length ∧ (wr.setCell ⟨b, k, none⟩ (.int .u8 u)).ownsRow N2 5 1 (.slice (some ⟨b, 0, none⟩) all.length c2) all.length ((zs.set k u).map (Value.int .u8)) ∧ InAt (fun b => M2 ≤ b) g3 (wr.setCell ⟨b, k, none⟩ (.int .u8 u)) all false ∧ Below w.heap.size w (wr.setCell ⟨b, k, none⟩ (.int .u8 u))))
                generalize zs.getD k 0 = z at *
                clear hz hrow hin hbel
                go_wp2_with fail
                go_roundw
                case rel => exact ⟨k + 1, HK.out, by go_num, _, (HStep.out _).1, (HStep.out _).2.1, (HStep.out _).2.2.1, (HStep.out _).2.2.2⟩
                case measure => have := HK.out; simp only [intOf]; omega
              · clear hz hrow hin hbel
                go_wp2_with fail
                go_loopw [79] (fun i wr => ∃ k : Nat, k ≤ ns.length ∧ i = .int .i64 k ∧ InAt (fun b => M2 ≤ b) g3 wr (encN (ns.drop k) ++ encT ts) false ∧ Below w.heap.size w wr) (fun i _ => ns.length - (intOf i).toNat)
                case atStart => exact ⟨0, Nat.zero_le _, rfl, by rw [List.drop_zero, HAll.out]; exact HIn.out, HBel.out⟩
                case round =>
                  obtain ⟨k, hk, rfl, hin, hbw⟩ := hrel
                  clear HIn HBel
                  have HBw := hide hbw
                  by_cases hlt : k < ns.length
                  · have HK := hide hlt
                    obtain ⟨b, off, rfl, hbb, hx⟩ := (HN.out.below hbw) k hlt
                    have hi := HW.out k hlt
                    rw [encN_drop hlt, List.append_assoc] at hin
                    generalize ns.getD k 0 = n at *
                    obtain ⟨e1, e2, e3⟩ := intN_enc hi (encN (ns.drop (k + 1)) ++ encT ts)
                    have HI := hide (inInt_any wr hin)
                    unfold IntRes at HI
                    rw [e1, e2, e3] at HI
                    have hsw := hbw.size
                    clear hin e1 e2 e3 hbw
                    go_wp2_with fail
                    refine HI.out.mono ?_
                    rintro e w5 ⟨rfl, hI5, ho5⟩
                    have HF := hide (show InAt (fun b => M2 ≤ b) g3 w5 (encN (ns.drop (k + 1)) ++ encT ts) false ∧ Below w.heap.size w w5 from ⟨hI5, HBw.out.trans (ho5.below (by omega) hsw)⟩)
                    clear hI5 ho5
                    go_wp2_with fail
                    go_roundw
                    case rel => exact ⟨k + 1, HK.out, by go_num, HF.out⟩
                    case measure => have := HK.out; simp [intOf]; omega
                  · obtain rfl : k = ns.length := by omega
                    rw [show encN (ns.drop ns.length) ++ encT ts = encT ts by rw [List.drop_length]; rfl] at hin
                    have HIn := hide hin
                    clear hin hbw
                    go_wp2_with fail
                    go_loopw [90] (fun i wr => ∃ k : Nat, k ≤ ts.length ∧ i = .int .i64 k ∧ InAt (fun b => M2 ≤ b) g3 wr (encT (ts.drop k)) false ∧ Below w.heap.size w wr) (fun i _ => ts.length - (intOf i).toNat)
                    case atStart => exact ⟨0, Nat.zero_le _, rfl, by rw [List.drop_zero]; exact HIn.out, HBw.out⟩
                    case round =>
                      obtain ⟨k, hk, rfl, hin, hbw⟩ := hrel
                      clear HIn HBw
                      have HBw := hide hbw
                      by_cases hlt : k < ts.length
                      · have HK := hide hlt
                        obtain ⟨b, off, rfl, hbb, hx⟩ := (HS.out.below hbw) k hlt
                        have h5 := H500.out k hlt
                        rw [encT_drop hlt] at hin
                        generalize ts.getD k ⟨#[]⟩ = s at *
                        obtain ⟨e1, e2, e3⟩ := txt_enc s (encT (ts.drop (k + 1))) (by omega)
                        have HI := hide (inText_any wr hin)
                        unfold TxtRes at HI
                        rw [e1, e2, e3, show (⟨s.data.toList.toArray⟩ : ByteArray) = s from rfl] at HI
                        have hsw := hbw.size
                        clear hin e1 e2 e3 hbw
                        go_wp2_with fail
                        refine HI.out.mono ?_
                        rintro e w5 ⟨rfl, hI5, ho5⟩
                        have HF := hide (show InAt (fun b => M2 ≤ b) g3 w5 (encT (ts.drop (k + 1))) false ∧ Below w.heap.size w w5 from ⟨hI5, HBw.out.trans (ho5.below (by omega) hsw)⟩)
                        clear hI5 ho5
                        go_wp2_with fail
                        go_roundw
                        case rel => exact ⟨k + 1, HK.out, by go_num, HF.out⟩
                        case measure => have := HK.out; simp [intOf]; omega
                      · obtain rfl : k = ts.length := by omega
                        rw [show encT (ts.drop ts.length) = [] by rw [List.drop_length]; rfl] at hin
                        have HD := hide (done_any wr hin)
                        have HBd := hide (bad_any wr hin)
                        have HA2 := hide (HAw.out wr hbw)
                        have hsw := hbw.size
                        clear hin hbw
                        go_wp2_with fail
                        refine HD.out.mono ?_
                        rintro e w5 ⟨rfl, rfl⟩
                        go_wp2_with fail
                        refine HBd.out.mono ?_
                        rintro e w5 ⟨rfl, rfl⟩
                        go_wp2_with fail
                        refine HA2.out.mono ?_
                        rintro e w6 ⟨rfl, hb6⟩
                        have HF := hide (HBw.out.trans (hb6.mono hsw))
                        clear hb6
                        go_wp2_with fail
                        go_ret
                        exact ⟨rfl, HF.out⟩
  · by_cases h60 : ns.length ≤ 60
    · have h30 : (30 : Int) < (ts.length : Int) := by omega
      have h60' : (ns.length : Int) ≤ 60 := by omega
      clear hsm
      have HA2 := hide (HAw.out w (Below.refl _ _))
      go_enter Tryd.func3, Tryd.ntmps3
      go_wp2_with fail
      refine HA2.out.mono ?_
      rintro e w6 ⟨rfl, hb6⟩
      have HF := hide hb6
      clear hb6
      go_wp2_with fail
      go_ret
      exact ⟨rfl, HF.out⟩
    · have h60' : (60 : Int) < (ns.length : Int) := by omega
      clear hsm h60
      have HA2 := hide (HAw.out w (Below.refl _ _))
      go_enter Tryd.func3, Tryd.ntmps3
      go_wp2_with fail
      refine HA2.out.mono ?_
      rintro e w6 ⟨rfl, hb6⟩
      have HF := hide hb6
      clear hb6
      go_wp2_with fail
      go_ret
      exact ⟨rfl, HF.out⟩
end Go.Proofs.YtpjibiimakclfaaDoor
