/-
  The walk of FrameReads.
-/
import Derived.Test.YtpjibiimakclfaaDoorFRead
import Derived.Test.YtpjibiimakclfaaDoorFNumsW
namespace Go.Proofs.YtpjibiimakclfaaDoor
open Go.RowKit

/-- Nothing is read any more. -/
theorem dead_int {rl : List UInt8} (h : readI rl = none) : intN rl = 0 ∧ intL rl = [] ∧ intX rl = true := by unfold intN intL intX; rw [h]; exact ⟨rfl, rfl, rfl⟩
theorem dead_txt {rl : List UInt8} (h : readI rl = none) : txtS rl = [] ∧ txtL rl = [] ∧ txtX rl = true := by
  obtain ⟨h1, h2, h3⟩ := dead_int h
  have ok : TxtOk rl := by unfold TxtOk; rw [h1, h2]; simp
  unfold txtS txtL txtX
  rw [if_pos ok, if_pos ok, if_pos ok, h1, h2, h3]
  exact ⟨rfl, rfl, rfl⟩
theorem dead_cnt {rl : List UInt8} (m : Int) (h : readI rl = none) : cntN rl m = 0 ∧ cntL rl m = [] ∧ cntX rl m = true := by
  obtain ⟨h1, h2, h3⟩ := dead_int h
  unfold cntN cntL cntX
  by_cases ok : CntOk rl m
  · rw [if_pos ok, if_pos ok, if_pos ok, h1, h2, h3]; exact ⟨rfl, rfl, rfl⟩
  · rw [if_neg ok, if_neg ok, if_neg ok]; exact ⟨rfl, rfl, rfl⟩
theorem live_int {rl : List UInt8} {n : Int} {k : Nat} (h : readI rl = some (n, k)) : intN rl = n ∧ intL rl = rl.drop k ∧ intX rl = false := by unfold intN intL intX; rw [h]; exact ⟨rfl, rfl, rfl⟩
/-- What is left at a place. -/
def restB (l : List UInt8) (a : Nat) (bad : Bool) : List UInt8 := if bad = true then [] else l.drop a
theorem rdE_bd (l : List UInt8) (a : Nat) (ha : a ≤ l.length) (hl : l.length ≤ 1073741824) : -1 ≤ rdE l a ∧ rdE l a ≤ 1073741824 := by
  unfold rdE
  cases h : readI (l.drop a) with
  | none => exact ⟨by show (-1 : Int) ≤ -1; omega, by show (-1 : Int) ≤ _; omega⟩
  | some p =>
    obtain ⟨n, k⟩ := p
    have := (readI_le h).2.1
    rw [List.length_drop] at this
    show -1 ≤ ((a + k : Nat) : Int) ∧ ((a + k : Nat) : Int) ≤ 1073741824
    omega
theorem rdN_i64 (l : List UInt8) (a : Nat) : Int64 (rdN l a) := by
  unfold rdN
  cases h : readI (l.drop a) with
  | none => exact ⟨by decide, by decide⟩
  | some p => obtain ⟨n, k⟩ := p; exact readI_i64 h
/-- string(b[p:p+v]). -/
theorem part_str (b off : Nat) (l : List UInt8) (p v n' c' : Nat) (w : World) (hB : BytesAt w.heap.size w (some ⟨b, off, none⟩) l) (h : p + v ≤ l.length) (hn : n' = v) :
    (convert 25 9 (.slice (some ⟨b, off + p, none⟩) n' c')).run Tryd.prog w = .ok (.string ⟨((l.drop p).take v).toArray⟩) w := by
  have hlen : ((l.drop p).take v).length = v := by rw [List.length_take, List.length_drop]; omega
  rw [hn, ← hlen]
  rw [show ((l.drop p).take ((l.drop p).take v).length) = (l.drop p).take v by rw [hlen]]
  refine conv_bytes (some ⟨b, off + p, none⟩) c' ((l.drop p).take v) w fun j hj => ?_
  rw [hlen] at hj
  obtain ⟨b', off', e, hlt, h0⟩ := hB (p + j) (by omega)
  injection e with e; injection e with ea eb
  subst ea; subst eb
  refine ⟨b, off + p, rfl, hlt, ?_⟩
  rw [Nat.add_assoc, h0, List.getD_eq_getElem?_getD, List.getD_eq_getElem?_getD, List.getElem?_take_of_lt hj, List.getElem?_drop]
theorem some_of {B : Nat} {w : World} {A : Option Addr} {l : List UInt8} (hB : BytesAt B w A l) (hq : 0 < l.length) : ∃ b off, A = some ⟨b, off, none⟩ := by
  obtain ⟨b, off, e, _⟩ := hB 0 hq
  exact ⟨b, off, e⟩
set_option maxHeartbeats 25600000 in
set_option maxRecDepth 100000 in
theorem frameReads_walk (A : Option Addr) (c : Nat) (l : List UInt8) (B : Option Addr) (d : Nat) (ks : List UInt8) (most : Int) (w : World) (hB : BytesAt w.heap.size w A l) (hl : l.length ≤ maxLen) (hnil : A = none → c = 0) (hcap : l.length ≤ c) (hK : BytesAt w.heap.size w B ks) (hkl : ks.length ≤ maxLen) (_hkn : B = none → d = 0) (_hkc : ks.length ≤ d) (_m0 : -9223372036854775808 ≤ most) (_m1 : most ≤ 9223372036854775807) (hT : Tab w) :
    Calls Tryd.prog 4 #[.slice A l.length c, .slice B ks.length d, .int .i64 most] w fun e w' => e = .returned (.bool true) ∧ Below w.heap.size w w' := by
  have HAw := hide (fun w' (h : Below w.heap.size w w') => awake_any w' (hT.on h))
  have HB := hide hB
  have HK := hide hK
  have HNew := hide (fun h => newIn_any A c l w hB h)
  unfold maxLen at hl hkl
  have HNil := hide hnil
  clear hB hK hT hnil
  by_cases hsm : l.length ≤ 500 ∧ ks.length ≤ 60
  · obtain ⟨h500, h60⟩ := hsm
    have HNew2 := hide (HNew.out (by omega))
    clear HNew
    have h500' : (l.length : Int) ≤ 500 := by omega
    go_enter Tryd.func4, Tryd.ntmps4
    go_wp2_with fail
    refine HNew2.out.mono ?_
    rintro e w1 ⟨g, rfl, hg, hI1, hb1⟩
    have HI1 := hide hI1
    have HB1 := hide hb1
    clear hI1 hb1 HNew2
    go_wp2_with fail
    go_loopw [28, 8, 9] (fun i at' bd wr => ∃ (k a : Nat) (bad : Bool), k ≤ ks.length ∧ i = .int .i64 k ∧ at' = .int .i64 a ∧ a ≤ l.length ∧ bd = .bool bad ∧ InAt w.heap.size g wr (restB l a bad) bad ∧ Below w.heap.size w wr) (fun i _ _ _ => ks.length - (intOf i).toNat)
    case atStart => exact ⟨0, 0, false, Nat.zero_le _, rfl, rfl, Nat.zero_le _, rfl, HI1.out, HB1.out⟩
    case round =>
      obtain ⟨k, a, bad, hk, rfl, rfl, ha, rfl, hIn, hbw⟩ := hrel
      clear HI1 HB1
      have HBw := hide hbw
      have hsw := hbw.size
      by_cases hlt : k < ks.length
      · have HLt := hide hlt
        obtain ⟨bk, offk, rfl, hbk, hx⟩ := (HK.out.below hbw) k hlt
        have hy : (ks.getD k 0).toNat < 256 := (ks.getD k 0).toNat_lt
        generalize ks.getD k 0 = y at *
        have HRd := hide (refRead_any A c l a wr (HB.out.on hbw) hcap (by omega) ha)
        unfold ReadRes at HRd
        have HRn := hide (rdN_i64 l a)
        have HRe := hide (rdE_bd l a ha (by omega))
        have HIn := hide hIn
        have hy3 : y.toNat % 3 = 0 ∨ y.toNat % 3 = 1 ∨ y.toNat % 3 = 2 := by omega
        clear hIn hbw
        cases bad
        · rcases hr : readI (l.drop a) with _ | ⟨n, q⟩
          · rcases hy3 with y0 | y0 | y0
            · have y1 : (y.toNat : Int) % 3 = 0 := by omega
              clear y0
              have hdd : readI (restB l a false) = none := hr
              obtain ⟨e1, e2, e3⟩ := dead_int hdd
              have HN := hide (rd_none hr)
              rw [HN.out.1, HN.out.2] at HRd
              clear hr
              go_wp2_with fail
              refine HRd.out.mono ?_
              rintro e w2 ⟨rfl, hb2⟩
              have hI2 := HIn.out.below hb2
              have HI := hide (inInt_any w2 hI2)
              unfold IntRes at HI
              rw [e1, e2, e3] at HI
              have HB2 := hide (HBw.out.trans (hb2.mono hsw))
              have hs2 := HB2.out.size
              clear hb2 hI2 HRd HIn
              go_wp2_with fail
              refine HI.out.mono ?_
              rintro e w3 ⟨rfl, hI3, ho3⟩
              have HBd := hide (bad_any w3 hI3)
              have HF := hide (show InAt w.heap.size g w3 (restB l a true) true ∧ Below w.heap.size w w3 from ⟨hI3, HB2.out.trans (ho3.below hg hs2)⟩)
              clear hI3 ho3
              go_wp2_with fail
              refine HBd.out.mono ?_
              rintro e w4 ⟨rfl, rfl⟩
              go_wp2_with fail
              go_roundw
              case rel => exact ⟨k + 1, a, true, HLt.out, by go_num, rfl, by have := ha; omega, rfl, HF.out⟩
              case measure => have := HLt.out; simp [intOf]; omega
            · have y1 : (y.toNat : Int) % 3 = 1 := by omega
              clear y0
              have hdd : readI (restB l a false) = none := hr
              obtain ⟨e1, e2, e3⟩ := dead_txt hdd
              have HN := hide (rd_none hr)
              rw [HN.out.1, HN.out.2] at HRd
              clear hr
              go_wp2_with fail
              refine HRd.out.mono ?_
              rintro e w2 ⟨rfl, hb2⟩
              have hI2 := HIn.out.below hb2
              have HI := hide (inText_any w2 hI2)
              unfold TxtRes at HI
              rw [e1, e2, e3] at HI
              have HB2 := hide (HBw.out.trans (hb2.mono hsw))
              have hs2 := HB2.out.size
              clear hb2 hI2 HRd HIn
              go_wp2_with fail
              refine HI.out.mono ?_
              rintro e w3 ⟨rfl, hI3, ho3⟩
              have HBd := hide (bad_any w3 hI3)
              have HF := hide (show InAt w.heap.size g w3 (restB l a true) true ∧ Below w.heap.size w w3 from ⟨hI3, HB2.out.trans (ho3.below hg hs2)⟩)
              clear hI3 ho3
              go_wp2_with fail
              refine HBd.out.mono ?_
              rintro e w4 ⟨rfl, rfl⟩
              go_wp2_with fail
              go_roundw
              case rel => exact ⟨k + 1, a, true, HLt.out, by go_num, rfl, by have := ha; omega, rfl, HF.out⟩
              case measure => have := HLt.out; simp [intOf]; omega
            · have y1 : (y.toNat : Int) % 3 = 2 := by omega
              clear y0
              have hdd : readI (restB l a false) = none := hr
              obtain ⟨e1, e2, e3⟩ := dead_cnt most hdd
              have HN := hide (rd_none hr)
              rw [HN.out.1, HN.out.2] at HRd
              clear hr
              go_wp2_with fail
              refine HRd.out.mono ?_
              rintro e w2 ⟨rfl, hb2⟩
              have hI2 := HIn.out.below hb2
              have HI := hide (inCount_any most w2 hI2)
              unfold CntRes at HI
              rw [e1, e2, e3] at HI
              have HB2 := hide (HBw.out.trans (hb2.mono hsw))
              have hs2 := HB2.out.size
              clear hb2 hI2 HRd HIn
              go_wp2_with fail
              refine HI.out.mono ?_
              rintro e w3 ⟨rfl, hI3, ho3⟩
              have HBd := hide (bad_any w3 hI3)
              have HF := hide (show InAt w.heap.size g w3 (restB l a true) true ∧ Below w.heap.size w w3 from ⟨hI3, HB2.out.trans (ho3.below hg hs2)⟩)
              clear hI3 ho3
              go_wp2_with fail
              refine HBd.out.mono ?_
              rintro e w4 ⟨rfl, rfl⟩
              go_wp2_with fail
              go_roundw
              case rel => exact ⟨k + 1, a, true, HLt.out, by go_num, rfl, by have := ha; omega, rfl, HF.out⟩
              case measure => have := HLt.out; simp [intOf]; omega
          · rcases hy3 with y0 | y0 | y0
            · have y1 : (y.toNat : Int) % 3 = 0 := by omega
              clear y0
              have hle := readI_le hr
              have hn64 := readI_i64 hr
              rw [List.length_drop] at hle
              have HN := hide (rd_some hr)
              rw [HN.out.1, HN.out.2] at HRd
              have hdd : readI (restB l a false) = some (n, q) := hr
              obtain ⟨i1, i2, i3⟩ := live_int hdd
              have i4 : (restB l a false).drop q = l.drop (a + q) := by show (l.drop a).drop q = _; rw [List.drop_drop]
              rw [i4] at i2
              obtain ⟨n0, n1⟩ := hn64
              obtain ⟨p, hp⟩ : ∃ p, p = a + q := ⟨_, rfl⟩
              have bp : decide ((p : Int) < 0) = false := by simp
              rw [← hp] at HRd i2
              have hpl : p ≤ l.length := by omega
              have hl0 : 0 < l.length := by omega
              clear hr hdd i4 HN hle hp
              go_wp2_with fail
              refine HRd.out.mono ?_
              rintro e w2 ⟨rfl, hb2⟩
              have hI2 := HIn.out.below hb2
              have HI := hide (inInt_any w2 hI2)
              unfold IntRes at HI
              rw [i1, i2, i3] at HI
              have HB2 := hide (HBw.out.trans (hb2.mono hsw))
              have hs2 := HB2.out.size
              clear hb2 hI2 HRd HIn
              go_wp2_with fail
              refine HI.out.mono ?_
              rintro e w3 ⟨rfl, hI3, ho3⟩
              have HBd := hide (bad_any w3 hI3)
              have HF := hide (show InAt w.heap.size g w3 (restB l p false) false ∧ Below w.heap.size w w3 from ⟨hI3, HB2.out.trans (ho3.below hg hs2)⟩)
              clear hI3 ho3
              go_wp2_with fail
              refine HBd.out.mono ?_
              rintro e w4 ⟨rfl, rfl⟩
              go_wp2_with fail
              go_roundw
              case rel => exact ⟨k + 1, p, false, HLt.out, by go_num, rfl, hpl, rfl, HF.out⟩
              case measure => have := HLt.out; simp [intOf]; omega
            · have y1 : (y.toNat : Int) % 3 = 1 := by omega
              clear y0
              by_cases ho : 0 ≤ n ∧ n ≤ (l.length : Int) - ((a + q : Nat) : Int)
              · have hle := readI_le hr
                have hn64 := readI_i64 hr
                rw [List.length_drop] at hle
                have HN := hide (rd_some hr)
                rw [HN.out.1, HN.out.2] at HRd
                have hdd : readI (restB l a false) = some (n, q) := hr
                obtain ⟨i1, i2, i3⟩ := live_int hdd
                have i4 : (restB l a false).drop q = l.drop (a + q) := by show (l.drop a).drop q = _; rw [List.drop_drop]
                rw [i4] at i2
                obtain ⟨n0, n1⟩ := hn64
                obtain ⟨p, hp⟩ : ∃ p, p = a + q := ⟨_, rfl⟩
                have bp : decide ((p : Int) < 0) = false := by simp
                rw [← hp] at HRd i2
                have hpl : p ≤ l.length := by omega
                have hl0 : 0 < l.length := by omega
                clear hr hdd i4 HN hle
                obtain ⟨o1, o2⟩ := ho
                rw [← hp] at o2
                clear hp
                have ok : TxtOk (restB l a false) := by unfold TxtOk; rw [i1, i2, List.length_drop]; omega
                obtain ⟨v, hv⟩ : ∃ v : Nat, n = v := ⟨n.toNat, by omega⟩
                subst hv
                have t1 : txtS (restB l a false) = (l.drop p).take v := by unfold txtS; rw [if_pos ok, i1, i2, Int.toNat_natCast]
                have t2 : txtL (restB l a false) = l.drop (p + v) := by unfold txtL; rw [if_pos ok, i1, i2, Int.toNat_natCast, List.drop_drop]
                have t3 : txtX (restB l a false) = false := by unfold txtX; rw [if_pos ok, i3]
                have hpv : p + v ≤ l.length := by omega
                have o3 : ¬ (l.length : Int) - (p : Int) < (v : Int) := by omega
                have b1 : decide ((v : Int) < 0) = false := by simp
                have b2 : decide ((l.length : Int) - (p : Int) < (v : Int)) = false := by simp; omega
                have k1 : (p : Int) ≤ (p : Int) + (v : Int) := by omega
                have k2 : (p : Int) + (v : Int) ≤ (c : Int) := by omega
                clear i1 i2 i3 ok o1 o2
                by_cases hcp : c = p
                · subst hcp
                  obtain rfl : v = 0 := by omega
                  have b3 : decide ((l.length : Int) - (c : Int) < 0) = false := by simp; omega
                  have HSl := hide (fun (w' : World) => conv_bytes A 0 [] w' (fun j hj => by simp at hj))
                  go_wp2_with fail
                  refine HRd.out.mono ?_
                  rintro e w2 ⟨rfl, hb2⟩
                  have hI2 := HIn.out.below hb2
                  have HI := hide (inText_any w2 hI2)
                  unfold TxtRes at HI
                  rw [t1, t2, t3] at HI
                  have HB2 := hide (HBw.out.trans (hb2.mono hsw))
                  have hs2 := HB2.out.size
                  have hsl : (convert 25 9 (.slice A 0 0)).run Tryd.prog w2 = .ok (.string ⟨#[]⟩) w2 := HSl.out w2
                  clear hb2 hI2 HRd HIn
                  go_wp2_with fail
                  refine HI.out.mono ?_
                  rintro e w3 ⟨rfl, hI3, ho3⟩
                  have HBd := hide (bad_any w3 hI3)
                  have HF := hide (show InAt w.heap.size g w3 (restB l (c + 0) false) false ∧ Below w.heap.size w w3 from ⟨hI3, HB2.out.trans (ho3.below hg hs2)⟩)
                  clear hI3 ho3
                  go_wp2_with fail
                  refine HBd.out.mono ?_
                  rintro e w4 ⟨rfl, rfl⟩
                  go_wp2_with fail
                  go_roundw
                  case rel => exact ⟨k + 1, (c + 0), false, HLt.out, by go_num, by go_num, hpv, rfl, HF.out⟩
                  case measure => have := HLt.out; simp [intOf]; omega
                · obtain ⟨ba, offa, rfl⟩ := some_of HB.out hl0
                  have HSl := hide (fun w' (h : Below w.heap.size w w') => part_str ba offa l p v v (c - p) w' (HB.out.on h) hpv rfl)
                  go_wp2_with fail
                  refine HRd.out.mono ?_
                  rintro e w2 ⟨rfl, hb2⟩
                  have hI2 := HIn.out.below hb2
                  have HI := hide (inText_any w2 hI2)
                  unfold TxtRes at HI
                  rw [t1, t2, t3] at HI
                  have HB2 := hide (HBw.out.trans (hb2.mono hsw))
                  have hs2 := HB2.out.size
                  have hsl := HSl.out w2 HB2.out
                  clear hb2 hI2 HRd HIn
                  go_wp2_with fail
                  refine HI.out.mono ?_
                  rintro e w3 ⟨rfl, hI3, ho3⟩
                  have HBd := hide (bad_any w3 hI3)
                  have HF := hide (show InAt w.heap.size g w3 (restB l (p + v) false) false ∧ Below w.heap.size w w3 from ⟨hI3, HB2.out.trans (ho3.below hg hs2)⟩)
                  clear hI3 ho3
                  go_wp2_with fail
                  refine HBd.out.mono ?_
                  rintro e w4 ⟨rfl, rfl⟩
                  go_wp2_with fail
                  go_roundw
                  case rel => exact ⟨k + 1, (p + v), false, HLt.out, by go_num, by go_num, hpv, rfl, HF.out⟩
                  case measure => have := HLt.out; simp [intOf]; omega
              · by_cases hneg : n < 0
                · clear ho
                  have b1 : decide (n < 0) = true := by simpa using hneg
                  have hle := readI_le hr
                  have hn64 := readI_i64 hr
                  rw [List.length_drop] at hle
                  have HN := hide (rd_some hr)
                  rw [HN.out.1, HN.out.2] at HRd
                  have hdd : readI (restB l a false) = some (n, q) := hr
                  obtain ⟨i1, i2, i3⟩ := live_int hdd
                  have i4 : (restB l a false).drop q = l.drop (a + q) := by show (l.drop a).drop q = _; rw [List.drop_drop]
                  rw [i4] at i2
                  obtain ⟨n0, n1⟩ := hn64
                  obtain ⟨p, hp⟩ : ∃ p, p = a + q := ⟨_, rfl⟩
                  have bp : decide ((p : Int) < 0) = false := by simp
                  rw [← hp] at HRd i2
                  have hpl : p ≤ l.length := by omega
                  have hl0 : 0 < l.length := by omega
                  clear hr hdd i4 HN hle
                  have ok : ¬ TxtOk (restB l a false) := by unfold TxtOk; rw [i1, i2, List.length_drop]; omega
                  have t1 : txtS (restB l a false) = [] := by unfold txtS; rw [if_neg ok]
                  have t2 : txtL (restB l a false) = [] := by unfold txtL; rw [if_neg ok]
                  have t3 : txtX (restB l a false) = true := by unfold txtX; rw [if_neg ok]
                  clear i1 i2 i3 ok hp
                  go_wp2_with fail
                  refine HRd.out.mono ?_
                  rintro e w2 ⟨rfl, hb2⟩
                  have hI2 := HIn.out.below hb2
                  have HI := hide (inText_any w2 hI2)
                  unfold TxtRes at HI
                  rw [t1, t2, t3] at HI
                  have HB2 := hide (HBw.out.trans (hb2.mono hsw))
                  have hs2 := HB2.out.size
                  clear hb2 hI2 HRd HIn
                  go_wp2_with fail
                  refine HI.out.mono ?_
                  rintro e w3 ⟨rfl, hI3, ho3⟩
                  have HBd := hide (bad_any w3 hI3)
                  have HF := hide (show InAt w.heap.size g w3 (restB l a true) true ∧ Below w.heap.size w w3 from ⟨hI3, HB2.out.trans (ho3.below hg hs2)⟩)
                  clear hI3 ho3
                  go_wp2_with fail
                  refine HBd.out.mono ?_
                  rintro e w4 ⟨rfl, rfl⟩
                  go_wp2_with fail
                  go_roundw
                  case rel => exact ⟨k + 1, a, true, HLt.out, by go_num, rfl, by have := ha; omega, rfl, HF.out⟩
                  case measure => have := HLt.out; simp [intOf]; omega
                · have hbig : (l.length : Int) - ((a + q : Nat) : Int) < n := by omega
                  have b1 : decide (n < 0) = false := by simp; omega
                  clear ho
                  have hle := readI_le hr
                  have hn64 := readI_i64 hr
                  rw [List.length_drop] at hle
                  have HN := hide (rd_some hr)
                  rw [HN.out.1, HN.out.2] at HRd
                  have hdd : readI (restB l a false) = some (n, q) := hr
                  obtain ⟨i1, i2, i3⟩ := live_int hdd
                  have i4 : (restB l a false).drop q = l.drop (a + q) := by show (l.drop a).drop q = _; rw [List.drop_drop]
                  rw [i4] at i2
                  obtain ⟨n0, n1⟩ := hn64
                  obtain ⟨p, hp⟩ : ∃ p, p = a + q := ⟨_, rfl⟩
                  have bp : decide ((p : Int) < 0) = false := by simp
                  rw [← hp] at HRd i2
                  have hpl : p ≤ l.length := by omega
                  have hl0 : 0 < l.length := by omega
                  clear hr hdd i4 HN hle
                  have ok : ¬ TxtOk (restB l a false) := by unfold TxtOk; rw [i1, i2, List.length_drop]; omega
                  have t1 : txtS (restB l a false) = [] := by unfold txtS; rw [if_neg ok]
                  have t2 : txtL (restB l a false) = [] := by unfold txtL; rw [if_neg ok]
                  have t3 : txtX (restB l a false) = true := by unfold txtX; rw [if_neg ok]
                  rw [← hp] at hbig
                  have b2 : decide ((l.length : Int) - (p : Int) < n) = true := by simpa using hbig
                  clear i1 i2 i3 ok hp
                  go_wp2_with fail
                  refine HRd.out.mono ?_
                  rintro e w2 ⟨rfl, hb2⟩
                  have hI2 := HIn.out.below hb2
                  have HI := hide (inText_any w2 hI2)
                  unfold TxtRes at HI
                  rw [t1, t2, t3] at HI
                  have HB2 := hide (HBw.out.trans (hb2.mono hsw))
                  have hs2 := HB2.out.size
                  clear hb2 hI2 HRd HIn
                  go_wp2_with fail
                  refine HI.out.mono ?_
                  rintro e w3 ⟨rfl, hI3, ho3⟩
                  have HBd := hide (bad_any w3 hI3)
                  have HF := hide (show InAt w.heap.size g w3 (restB l a true) true ∧ Below w.heap.size w w3 from ⟨hI3, HB2.out.trans (ho3.below hg hs2)⟩)
                  clear hI3 ho3
                  go_wp2_with fail
                  refine HBd.out.mono ?_
                  rintro e w4 ⟨rfl, rfl⟩
                  go_wp2_with fail
                  go_roundw
                  case rel => exact ⟨k + 1, a, true, HLt.out, by go_num, rfl, by have := ha; omega, rfl, HF.out⟩
                  case measure => have := HLt.out; simp [intOf]; omega
            · have y1 : (y.toNat : Int) % 3 = 2 := by omega
              clear y0
              by_cases ho : 0 ≤ n ∧ n ≤ most
              · have hle := readI_le hr
                have hn64 := readI_i64 hr
                rw [List.length_drop] at hle
                have HN := hide (rd_some hr)
                rw [HN.out.1, HN.out.2] at HRd
                have hdd : readI (restB l a false) = some (n, q) := hr
                obtain ⟨i1, i2, i3⟩ := live_int hdd
                have i4 : (restB l a false).drop q = l.drop (a + q) := by show (l.drop a).drop q = _; rw [List.drop_drop]
                rw [i4] at i2
                obtain ⟨n0, n1⟩ := hn64
                obtain ⟨p, hp⟩ : ∃ p, p = a + q := ⟨_, rfl⟩
                have bp : decide ((p : Int) < 0) = false := by simp
                rw [← hp] at HRd i2
                have hpl : p ≤ l.length := by omega
                have hl0 : 0 < l.length := by omega
                clear hr hdd i4 HN hle hp
                obtain ⟨o1, o2⟩ := ho
                have ok : CntOk (restB l a false) most := by unfold CntOk; rw [i1]; exact ⟨o1, o2⟩
                have t1 : cntN (restB l a false) most = n := by unfold cntN; rw [if_pos ok, i1]
                have t2 : cntL (restB l a false) most = l.drop p := by unfold cntL; rw [if_pos ok, i2]
                have t3 : cntX (restB l a false) most = false := by unfold cntX; rw [if_pos ok, i3]
                have b1 : decide (n < 0) = false := by simp; omega
                have b2 : decide (most < n) = false := by simp; omega
                have o3 : ¬ n < 0 := by omega
                have o4 : ¬ most < n := by omega
                clear i1 i2 i3 ok
                go_wp2_with fail
                refine HRd.out.mono ?_
                rintro e w2 ⟨rfl, hb2⟩
                have hI2 := HIn.out.below hb2
                have HI := hide (inCount_any most w2 hI2)
                unfold CntRes at HI
                rw [t1, t2, t3] at HI
                have HB2 := hide (HBw.out.trans (hb2.mono hsw))
                have hs2 := HB2.out.size
                clear hb2 hI2 HRd HIn
                go_wp2_with fail
                refine HI.out.mono ?_
                rintro e w3 ⟨rfl, hI3, ho3⟩
                have HBd := hide (bad_any w3 hI3)
                have HF := hide (show InAt w.heap.size g w3 (restB l p false) false ∧ Below w.heap.size w w3 from ⟨hI3, HB2.out.trans (ho3.below hg hs2)⟩)
                clear hI3 ho3
                go_wp2_with fail
                refine HBd.out.mono ?_
                rintro e w4 ⟨rfl, rfl⟩
                go_wp2_with fail
                go_roundw
                case rel => exact ⟨k + 1, p, false, HLt.out, by go_num, rfl, hpl, rfl, HF.out⟩
                case measure => have := HLt.out; simp [intOf]; omega
              · by_cases hneg : n < 0
                · clear ho
                  have b1 : decide (n < 0) = true := by simpa using hneg
                  have hle := readI_le hr
                  have hn64 := readI_i64 hr
                  rw [List.length_drop] at hle
                  have HN := hide (rd_some hr)
                  rw [HN.out.1, HN.out.2] at HRd
                  have hdd : readI (restB l a false) = some (n, q) := hr
                  obtain ⟨i1, i2, i3⟩ := live_int hdd
                  have i4 : (restB l a false).drop q = l.drop (a + q) := by show (l.drop a).drop q = _; rw [List.drop_drop]
                  rw [i4] at i2
                  obtain ⟨n0, n1⟩ := hn64
                  obtain ⟨p, hp⟩ : ∃ p, p = a + q := ⟨_, rfl⟩
                  have bp : decide ((p : Int) < 0) = false := by simp
                  rw [← hp] at HRd i2
                  have hpl : p ≤ l.length := by omega
                  have hl0 : 0 < l.length := by omega
                  clear hr hdd i4 HN hle hp
                  have ok : ¬ CntOk (restB l a false) most := by unfold CntOk; rw [i1]; omega
                  have t1 : cntN (restB l a false) most = 0 := by unfold cntN; rw [if_neg ok]
                  have t2 : cntL (restB l a false) most = [] := by unfold cntL; rw [if_neg ok]
                  have t3 : cntX (restB l a false) most = true := by unfold cntX; rw [if_neg ok]
                  clear i1 i2 i3 ok
                  go_wp2_with fail
                  refine HRd.out.mono ?_
                  rintro e w2 ⟨rfl, hb2⟩
                  have hI2 := HIn.out.below hb2
                  have HI := hide (inCount_any most w2 hI2)
                  unfold CntRes at HI
                  rw [t1, t2, t3] at HI
                  have HB2 := hide (HBw.out.trans (hb2.mono hsw))
                  have hs2 := HB2.out.size
                  clear hb2 hI2 HRd HIn
                  go_wp2_with fail
                  refine HI.out.mono ?_
                  rintro e w3 ⟨rfl, hI3, ho3⟩
                  have HBd := hide (bad_any w3 hI3)
                  have HF := hide (show InAt w.heap.size g w3 (restB l a true) true ∧ Below w.heap.size w w3 from ⟨hI3, HB2.out.trans (ho3.below hg hs2)⟩)
                  clear hI3 ho3
                  go_wp2_with fail
                  refine HBd.out.mono ?_
                  rintro e w4 ⟨rfl, rfl⟩
                  go_wp2_with fail
                  go_roundw
                  case rel => exact ⟨k + 1, a, true, HLt.out, by go_num, rfl, by have := ha; omega, rfl, HF.out⟩
                  case measure => have := HLt.out; simp [intOf]; omega
                · have hbig : most < n := by omega
                  have b1 : decide (n < 0) = false := by simp; omega
                  have b2 : decide (most < n) = true := by simpa using hbig
                  clear ho
                  have hle := readI_le hr
                  have hn64 := readI_i64 hr
                  rw [List.length_drop] at hle
                  have HN := hide (rd_some hr)
                  rw [HN.out.1, HN.out.2] at HRd
                  have hdd : readI (restB l a false) = some (n, q) := hr
                  obtain ⟨i1, i2, i3⟩ := live_int hdd
                  have i4 : (restB l a false).drop q = l.drop (a + q) := by show (l.drop a).drop q = _; rw [List.drop_drop]
                  rw [i4] at i2
                  obtain ⟨n0, n1⟩ := hn64
                  obtain ⟨p, hp⟩ : ∃ p, p = a + q := ⟨_, rfl⟩
                  have bp : decide ((p : Int) < 0) = false := by simp
                  rw [← hp] at HRd i2
                  have hpl : p ≤ l.length := by omega
                  have hl0 : 0 < l.length := by omega
                  clear hr hdd i4 HN hle hp
                  have ok : ¬ CntOk (restB l a false) most := by unfold CntOk; rw [i1]; omega
                  have t1 : cntN (restB l a false) most = 0 := by unfold cntN; rw [if_neg ok]
                  have t2 : cntL (restB l a false) most = [] := by unfold cntL; rw [if_neg ok]
                  have t3 : cntX (restB l a false) most = true := by unfold cntX; rw [if_neg ok]
                  clear i1 i2 i3 ok
                  go_wp2_with fail
                  refine HRd.out.mono ?_
                  rintro e w2 ⟨rfl, hb2⟩
                  have hI2 := HIn.out.below hb2
                  have HI := hide (inCount_any most w2 hI2)
                  unfold CntRes at HI
                  rw [t1, t2, t3] at HI
                  have HB2 := hide (HBw.out.trans (hb2.mono hsw))
                  have hs2 := HB2.out.size
                  clear hb2 hI2 HRd HIn
                  go_wp2_with fail
                  refine HI.out.mono ?_
                  rintro e w3 ⟨rfl, hI3, ho3⟩
                  have HBd := hide (bad_any w3 hI3)
                  have HF := hide (show InAt w.heap.size g w3 (restB l a true) true ∧ Below w.heap.size w w3 from ⟨hI3, HB2.out.trans (ho3.below hg hs2)⟩)
                  clear hI3 ho3
                  go_wp2_with fail
                  refine HBd.out.mono ?_
                  rintro e w4 ⟨rfl, rfl⟩
                  go_wp2_with fail
                  go_roundw
                  case rel => exact ⟨k + 1, a, true, HLt.out, by go_num, rfl, by have := ha; omega, rfl, HF.out⟩
                  case measure => have := HLt.out; simp [intOf]; omega
        · rcases hy3 with y0 | y0 | y0
          · have y1 : (y.toNat : Int) % 3 = 0 := by omega
            clear y0
            have hdd : readI (restB l a true) = none := rfl
            obtain ⟨e1, e2, e3⟩ := dead_int hdd
            obtain ⟨rn0, rn1⟩ := HRn.out
            obtain ⟨re0, re1⟩ := HRe.out
            generalize rdN l a = rn at *
            generalize rdE l a = re at *
            go_wp2_with fail
            refine HRd.out.mono ?_
            rintro e w2 ⟨rfl, hb2⟩
            have hI2 := HIn.out.below hb2
            have HI := hide (inInt_any w2 hI2)
            unfold IntRes at HI
            rw [e1, e2, e3] at HI
            have HB2 := hide (HBw.out.trans (hb2.mono hsw))
            have hs2 := HB2.out.size
            clear hb2 hI2 HRd HIn
            go_wp2_with fail
            refine HI.out.mono ?_
            rintro e w3 ⟨rfl, hI3, ho3⟩
            have HBd := hide (bad_any w3 hI3)
            have HF := hide (show InAt w.heap.size g w3 (restB l a true) true ∧ Below w.heap.size w w3 from ⟨hI3, HB2.out.trans (ho3.below hg hs2)⟩)
            clear hI3 ho3
            go_wp2_with fail
            refine HBd.out.mono ?_
            rintro e w4 ⟨rfl, rfl⟩
            go_wp2_with fail
            go_roundw
            case rel => exact ⟨k + 1, a, true, HLt.out, by go_num, rfl, by have := ha; omega, rfl, HF.out⟩
            case measure => have := HLt.out; simp [intOf]; omega
          · have y1 : (y.toNat : Int) % 3 = 1 := by omega
            clear y0
            have hdd : readI (restB l a true) = none := rfl
            obtain ⟨e1, e2, e3⟩ := dead_txt hdd
            obtain ⟨rn0, rn1⟩ := HRn.out
            obtain ⟨re0, re1⟩ := HRe.out
            generalize rdN l a = rn at *
            generalize rdE l a = re at *
            go_wp2_with fail
            refine HRd.out.mono ?_
            rintro e w2 ⟨rfl, hb2⟩
            have hI2 := HIn.out.below hb2
            have HI := hide (inText_any w2 hI2)
            unfold TxtRes at HI
            rw [e1, e2, e3] at HI
            have HB2 := hide (HBw.out.trans (hb2.mono hsw))
            have hs2 := HB2.out.size
            clear hb2 hI2 HRd HIn
            go_wp2_with fail
            refine HI.out.mono ?_
            rintro e w3 ⟨rfl, hI3, ho3⟩
            have HBd := hide (bad_any w3 hI3)
            have HF := hide (show InAt w.heap.size g w3 (restB l a true) true ∧ Below w.heap.size w w3 from ⟨hI3, HB2.out.trans (ho3.below hg hs2)⟩)
            clear hI3 ho3
            go_wp2_with fail
            refine HBd.out.mono ?_
            rintro e w4 ⟨rfl, rfl⟩
            go_wp2_with fail
            go_roundw
            case rel => exact ⟨k + 1, a, true, HLt.out, by go_num, rfl, by have := ha; omega, rfl, HF.out⟩
            case measure => have := HLt.out; simp [intOf]; omega
          · have y1 : (y.toNat : Int) % 3 = 2 := by omega
            clear y0
            have hdd : readI (restB l a true) = none := rfl
            obtain ⟨e1, e2, e3⟩ := dead_cnt most hdd
            obtain ⟨rn0, rn1⟩ := HRn.out
            obtain ⟨re0, re1⟩ := HRe.out
            generalize rdN l a = rn at *
            generalize rdE l a = re at *
            go_wp2_with fail
            refine HRd.out.mono ?_
            rintro e w2 ⟨rfl, hb2⟩
            have hI2 := HIn.out.below hb2
            have HI := hide (inCount_any most w2 hI2)
            unfold CntRes at HI
            rw [e1, e2, e3] at HI
            have HB2 := hide (HBw.out.trans (hb2.mono hsw))
            have hs2 := HB2.out.size
            clear hb2 hI2 HRd HIn
            go_wp2_with fail
            refine HI.out.mono ?_
            rintro e w3 ⟨rfl, hI3, ho3⟩
            have HBd := hide (bad_any w3 hI3)
            have HF := hide (show InAt w.heap.size g w3 (restB l a true) true ∧ Below w.heap.size w w3 from ⟨hI3, HB2.out.trans (ho3.below hg hs2)⟩)
            clear hI3 ho3
            go_wp2_with fail
            refine HBd.out.mono ?_
            rintro e w4 ⟨rfl, rfl⟩
            go_wp2_with fail
            go_roundw
            case rel => exact ⟨k + 1, a, true, HLt.out, by go_num, rfl, by have := ha; omega, rfl, HF.out⟩
            case measure => have := HLt.out; simp [intOf]; omega
      · obtain rfl : k = ks.length := by omega
        have HD := hide (done_any wr hIn)
        have HA2 := hide (HAw.out wr hbw)
        have hq : (!bad && (restB l a bad).isEmpty) = (!bad && ((a : Int) == (l.length : Int))) := by
          cases bad
          · unfold restB
            rw [if_neg (by decide)]
            by_cases hal : a = l.length
            · subst hal; simp
            · have h1 : (l.drop a).isEmpty = false := by rw [List.isEmpty_eq_false_iff]; intro h; rw [List.drop_eq_nil_iff] at h; omega
              have h2 : ((a : Int) == (l.length : Int)) = false := by rw [beq_eq_false_iff_ne]; omega
              rw [h1, h2]
          · rfl
        rw [hq] at HD
        clear hq hIn hbw
        cases bad
        · rw [Bool.not_false, Bool.true_and] at HD
          go_wp2_with fail
          refine HD.out.mono ?_
          rintro e w5 ⟨rfl, rfl⟩
          go_wp2_with fail
          refine HA2.out.mono ?_
          rintro e w6 ⟨rfl, hb6⟩
          have HF := hide (HBw.out.trans (hb6.mono hsw))
          clear hb6
          go_wp2_with fail
          go_ret
          exact ⟨rfl, HF.out⟩
        · rw [Bool.not_true, Bool.false_and] at HD
          go_wp2_with fail
          refine HD.out.mono ?_
          rintro e w5 ⟨rfl, rfl⟩
          go_wp2_with fail
          refine HA2.out.mono ?_
          rintro e w6 ⟨rfl, hb6⟩
          have HF := hide (HBw.out.trans (hb6.mono hsw))
          clear hb6
          go_wp2_with fail
          go_ret
          exact ⟨rfl, HF.out⟩
  · have HA2 := hide (HAw.out w (Below.refl _ _))
    by_cases h500 : l.length ≤ 500
    · have h60 : (60 : Int) < (ks.length : Int) := by omega
      have h500' : (l.length : Int) ≤ 500 := by omega
      clear hsm
      go_enter Tryd.func4, Tryd.ntmps4
      go_wp2_with fail
      refine HA2.out.mono ?_
      rintro e w6 ⟨rfl, hb6⟩
      have HF := hide hb6
      clear hb6
      go_wp2_with fail
      go_ret
      exact ⟨rfl, HF.out⟩
    · have h500' : (500 : Int) < (l.length : Int) := by omega
      clear hsm
      go_enter Tryd.func4, Tryd.ntmps4
      go_wp2_with fail
      refine HA2.out.mono ?_
      rintro e w6 ⟨rfl, hb6⟩
      have HF := hide hb6
      clear hb6
      go_wp2_with fail
      go_ret
      exact ⟨rfl, HF.out⟩
end Go.Proofs.YtpjibiimakclfaaDoor
