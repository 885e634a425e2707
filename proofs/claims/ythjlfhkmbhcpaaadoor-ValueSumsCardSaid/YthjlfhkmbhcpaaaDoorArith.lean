/-
  What Arith does: with a sign that is none, with a string, with null, and with two integers by each of the five signs.
-/
import Derived.Test.YthjlfhkmbhcpaaaDoorVal
namespace Go.Proofs.YthjlfhkmbhcpaaaDoor
open Go.RowKit

/-- Where the sign stands among the five; -1 if it is none. -/
def opIx (op : Int) : Int := Lib.indexByte [43, 45, 42, 47, 37] op.toNat.toUInt8

theorem index_any (op : Int) (w : World) : Calls Tryd.prog 40 #[.string ⟨#[43, 45, 42, 47, 37]⟩, .int .u8 op] w fun e w' => e = .returned (.int .i64 (opIx op)) ∧ w = w' := by
  refine (Tryd.strings_IndexByte ⟨#[43, 45, 42, 47, 37]⟩ op w).mono ?_
  rintro e w' ⟨rfl, rfl⟩
  exact ⟨rfl, rfl⟩

theorem opIx_neg {op : Int} (h0 : 0 ≤ op) (h1 : op ≤ 255) (h : ¬ (op = 43 ∨ op = 45 ∨ op = 42 ∨ op = 47 ∨ op = 37)) : opIx op < 0 := by
  have key : ∀ k : Fin 256, ¬ (k.val = 43 ∨ k.val = 45 ∨ k.val = 42 ∨ k.val = 47 ∨ k.val = 37) → opIx k.val < 0 := by decide +kernel
  have := key ⟨op.toNat, by omega⟩ (by simp only []; omega)
  simp only [Int.toNat_of_nonneg h0] at this
  exact this

/-- What Arith tells: the number, or that there is too much of it. -/
def arRes (ok : Bool) (n : Int) : Value := if ok then .tuple #[vInt n, .int .i64 0] else .tuple #[vNull, .int .i64 10]

abbrev vErr (c : Int) : Value := .tuple #[vNull, .int .i64 c]

set_option maxHeartbeats 800000 in
theorem arith_form (op k n l m : Int) (s t : ByteArray) (w : World) (hop : opIx op < 0) :
    Calls Tryd.prog 26 #[.int .u8 op, vVal k n s, vVal l m t] w fun e w' => e = .returned (vErr 20) ∧ Below w.heap.size w w' := by
  go_enter Tryd.func26, Tryd.ntmps26
  go_wp2_with fail
  refine (index_any _ _).mono ?_
  rintro e w1 ⟨rfl, rfl⟩
  go_wp2_with fail
  go_returns
  exact ⟨rfl, by go_grown⟩
set_option maxHeartbeats 800000 in
theorem arith_type1 (op k n l m : Int) (s t : ByteArray) (w : World) (hop : 0 ≤ opIx op) (hk : (k == 2) = true) :
    Calls Tryd.prog 26 #[.int .u8 op, vVal k n s, vVal l m t] w fun e w' => e = .returned (vErr 12) ∧ Below w.heap.size w w' := by
  go_enter Tryd.func26, Tryd.ntmps26
  go_wp2_with fail
  refine (index_any _ _).mono ?_
  rintro e w1 ⟨rfl, rfl⟩
  go_wp2_with fail
  go_returns
  exact ⟨rfl, by go_grown⟩
set_option maxHeartbeats 800000 in
theorem arith_type2 (op k n l m : Int) (s t : ByteArray) (w : World) (hop : 0 ≤ opIx op) (hk : (k == 2) = false) (hl : (l == 2) = true) :
    Calls Tryd.prog 26 #[.int .u8 op, vVal k n s, vVal l m t] w fun e w' => e = .returned (vErr 12) ∧ Below w.heap.size w w' := by
  go_enter Tryd.func26, Tryd.ntmps26
  go_wp2_with fail
  refine (index_any _ _).mono ?_
  rintro e w1 ⟨rfl, rfl⟩
  go_wp2_with fail
  go_returns
  exact ⟨rfl, by go_grown⟩
set_option maxHeartbeats 800000 in
theorem arith_null1 (op k n l m : Int) (s t : ByteArray) (w : World) (hop : 0 ≤ opIx op) (hk : (k == 2) = false) (hl : (l == 2) = false) (hk0 : (k == 0) = true) :
    Calls Tryd.prog 26 #[.int .u8 op, vVal k n s, vVal l m t] w fun e w' => e = .returned (.tuple #[vNull, .int .i64 0]) ∧ Below w.heap.size w w' := by
  go_enter Tryd.func26, Tryd.ntmps26
  go_wp2_with fail
  refine (index_any _ _).mono ?_
  rintro e w1 ⟨rfl, rfl⟩
  go_wp2_with fail
  refine (null_any _).mono ?_
  rintro e w2 ⟨rfl, hb⟩
  obtain ⟨hc, hf⟩ := bcell hb
  have hb0 : Below w.heap.size w w2 := (by go_grown : Below w.heap.size w _).trans (hb.mono (by simp; omega))
  clear hb
  go_wp2_with fail
  refine bodyPost_ret (v := .tuple #[vNull, .int .i64 0]) (by simp [results, Tryd.results26, go_sem, hc]) rfl ⟨rfl, ?_⟩
  go_grown
set_option maxHeartbeats 800000 in
theorem arith_null2 (op k n l m : Int) (s t : ByteArray) (w : World) (hop : 0 ≤ opIx op) (hk : (k == 2) = false) (hl : (l == 2) = false) (hk0 : (k == 0) = false) (hl0 : (l == 0) = true) :
    Calls Tryd.prog 26 #[.int .u8 op, vVal k n s, vVal l m t] w fun e w' => e = .returned (.tuple #[vNull, .int .i64 0]) ∧ Below w.heap.size w w' := by
  go_enter Tryd.func26, Tryd.ntmps26
  go_wp2_with fail
  refine (index_any _ _).mono ?_
  rintro e w1 ⟨rfl, rfl⟩
  go_wp2_with fail
  refine (null_any _).mono ?_
  rintro e w2 ⟨rfl, hb⟩
  obtain ⟨hc, hf⟩ := bcell hb
  have hb0 : Below w.heap.size w w2 := (by go_grown : Below w.heap.size w _).trans (hb.mono (by simp; omega))
  clear hb
  go_wp2_with fail
  refine bodyPost_ret (v := .tuple #[vNull, .int .i64 0]) (by simp [results, Tryd.results26, go_sem, hc]) rfl ⟨rfl, ?_⟩
  go_grown
set_option maxHeartbeats 800000 in
theorem arith_yes (op a b n : Int) (w : World) (hop : 0 ≤ opIx op) (h47 : (op == 47) = false) (h37 : (op == 37) = false) (hr : ∀ w, Calls Tryd.prog 41 #[.int .u8 op, .int .i64 a, .int .i64 b] w fun e w' => e = .returned (.tuple #[.int .i64 n, .bool true]) ∧ Below w.heap.size w w') :
    Calls Tryd.prog 26 #[.int .u8 op, vInt a, vInt b] w fun e w' => e = .returned (.tuple #[vInt n, .int .i64 0]) ∧ Below w.heap.size w w' := by
  have HR := Lib.hid hr; clear hr
  go_enter Tryd.func26, Tryd.ntmps26
  go_wp2_with fail
  refine (index_any _ _).mono ?_
  rintro e w1 ⟨rfl, rfl⟩
  go_wp2_with fail
  refine (HR.out _).mono ?_
  rintro e w2 ⟨rfl, hb⟩
  obtain ⟨hc, hf⟩ := bcell hb
  have hb0 : Below w.heap.size w w2 := (by go_grown : Below w.heap.size w _).trans (hb.mono (by simp; omega))
  have hz : w.heap.size + 2 < w2.heap.size := by have := hb.size; simp at this; omega
  clear hb
  go_wp2_with fail
  refine (of_any n _).mono ?_
  rintro e w3 ⟨rfl, hb3⟩
  obtain ⟨hc3, hf3⟩ := bcell hb3
  have hb4 : Below w.heap.size w w3 := hb0.trans (hb3.mono (by omega))
  clear hb3 hb0
  go_wp2_with fail
  refine bodyPost_ret (v := .tuple #[vInt n, .int .i64 0]) (by simp [results, Tryd.results26, go_sem, hc3, hc, hz]) rfl ⟨rfl, ?_⟩
  go_grown
set_option maxHeartbeats 800000 in
theorem arith_no (op a b n : Int) (w : World) (hop : 0 ≤ opIx op) (h47 : (op == 47) = false) (h37 : (op == 37) = false) (hr : ∀ w, Calls Tryd.prog 41 #[.int .u8 op, .int .i64 a, .int .i64 b] w fun e w' => e = .returned (.tuple #[.int .i64 n, .bool false]) ∧ Below w.heap.size w w') :
    Calls Tryd.prog 26 #[.int .u8 op, vInt a, vInt b] w fun e w' => e = .returned (vErr 10) ∧ Below w.heap.size w w' := by
  have HR := Lib.hid hr; clear hr
  go_enter Tryd.func26, Tryd.ntmps26
  go_wp2_with fail
  refine (index_any _ _).mono ?_
  rintro e w1 ⟨rfl, rfl⟩
  go_wp2_with fail
  refine (HR.out _).mono ?_
  rintro e w2 ⟨rfl, hb⟩
  obtain ⟨hc, hf⟩ := bcell hb
  have hb0 : Below w.heap.size w w2 := (by go_grown : Below w.heap.size w _).trans (hb.mono (by simp; omega))
  clear hb
  go_wp2_with fail
  refine bodyPost_ret (v := .tuple #[vNull, .int .i64 10]) (by simp [results, Tryd.results26, go_sem, hc]) rfl ⟨rfl, ?_⟩
  go_grown
set_option maxHeartbeats 800000 in
theorem arith_quo_yes (op a b n : Int) (w : World) (hop : 0 ≤ opIx op) (h47 : (op == 47) = true) (hb0 : (b == 0) = false) (hr : ∀ w, Calls Tryd.prog 41 #[.int .u8 op, .int .i64 a, .int .i64 b] w fun e w' => e = .returned (.tuple #[.int .i64 n, .bool true]) ∧ Below w.heap.size w w') :
    Calls Tryd.prog 26 #[.int .u8 op, vInt a, vInt b] w fun e w' => e = .returned (.tuple #[vInt n, .int .i64 0]) ∧ Below w.heap.size w w' := by
  have HR := Lib.hid hr; clear hr
  go_enter Tryd.func26, Tryd.ntmps26
  go_wp2_with fail
  refine (index_any _ _).mono ?_
  rintro e w1 ⟨rfl, rfl⟩
  go_wp2_with fail
  refine (HR.out _).mono ?_
  rintro e w2 ⟨rfl, hb⟩
  obtain ⟨hc, hf⟩ := bcell hb
  have hbz : Below w.heap.size w w2 := (by go_grown : Below w.heap.size w _).trans (hb.mono (by simp; omega))
  have hz : w.heap.size + 2 < w2.heap.size := by have := hb.size; simp at this; omega
  clear hb
  go_wp2_with fail
  refine (of_any n _).mono ?_
  rintro e w3 ⟨rfl, hb3⟩
  obtain ⟨hc3, hf3⟩ := bcell hb3
  have hb4 : Below w.heap.size w w3 := hbz.trans (hb3.mono (by omega))
  clear hb3 hbz
  go_wp2_with fail
  refine bodyPost_ret (v := .tuple #[vInt n, .int .i64 0]) (by simp [results, Tryd.results26, go_sem, hc3, hc, hz]) rfl ⟨rfl, ?_⟩
  go_grown
set_option maxHeartbeats 800000 in
theorem arith_quo_no (op a b n : Int) (w : World) (hop : 0 ≤ opIx op) (h47 : (op == 47) = true) (hb0 : (b == 0) = false) (hr : ∀ w, Calls Tryd.prog 41 #[.int .u8 op, .int .i64 a, .int .i64 b] w fun e w' => e = .returned (.tuple #[.int .i64 n, .bool false]) ∧ Below w.heap.size w w') :
    Calls Tryd.prog 26 #[.int .u8 op, vInt a, vInt b] w fun e w' => e = .returned (vErr 10) ∧ Below w.heap.size w w' := by
  have HR := Lib.hid hr; clear hr
  go_enter Tryd.func26, Tryd.ntmps26
  go_wp2_with fail
  refine (index_any _ _).mono ?_
  rintro e w1 ⟨rfl, rfl⟩
  go_wp2_with fail
  refine (HR.out _).mono ?_
  rintro e w2 ⟨rfl, hb⟩
  obtain ⟨hc, hf⟩ := bcell hb
  have hbz : Below w.heap.size w w2 := (by go_grown : Below w.heap.size w _).trans (hb.mono (by simp; omega))
  clear hb
  go_wp2_with fail
  refine bodyPost_ret (v := .tuple #[vNull, .int .i64 10]) (by simp [results, Tryd.results26, go_sem, hc]) rfl ⟨rfl, ?_⟩
  go_grown
set_option maxHeartbeats 800000 in
theorem arith_rem_yes (op a b n : Int) (w : World) (hop : 0 ≤ opIx op) (h47 : (op == 47) = false) (h37 : (op == 37) = true) (hb0 : (b == 0) = false) (hr : ∀ w, Calls Tryd.prog 41 #[.int .u8 op, .int .i64 a, .int .i64 b] w fun e w' => e = .returned (.tuple #[.int .i64 n, .bool true]) ∧ Below w.heap.size w w') :
    Calls Tryd.prog 26 #[.int .u8 op, vInt a, vInt b] w fun e w' => e = .returned (.tuple #[vInt n, .int .i64 0]) ∧ Below w.heap.size w w' := by
  have HR := Lib.hid hr; clear hr
  go_enter Tryd.func26, Tryd.ntmps26
  go_wp2_with fail
  refine (index_any _ _).mono ?_
  rintro e w1 ⟨rfl, rfl⟩
  go_wp2_with fail
  refine (HR.out _).mono ?_
  rintro e w2 ⟨rfl, hb⟩
  obtain ⟨hc, hf⟩ := bcell hb
  have hbz : Below w.heap.size w w2 := (by go_grown : Below w.heap.size w _).trans (hb.mono (by simp; omega))
  have hz : w.heap.size + 2 < w2.heap.size := by have := hb.size; simp at this; omega
  clear hb
  go_wp2_with fail
  refine (of_any n _).mono ?_
  rintro e w3 ⟨rfl, hb3⟩
  obtain ⟨hc3, hf3⟩ := bcell hb3
  have hb4 : Below w.heap.size w w3 := hbz.trans (hb3.mono (by omega))
  clear hb3 hbz
  go_wp2_with fail
  refine bodyPost_ret (v := .tuple #[vInt n, .int .i64 0]) (by simp [results, Tryd.results26, go_sem, hc3, hc, hz]) rfl ⟨rfl, ?_⟩
  go_grown
set_option maxHeartbeats 800000 in
theorem arith_quo_zero (op a b : Int) (w : World) (hop : 0 ≤ opIx op) (h47 : (op == 47) = true) (hb0 : (b == 0) = true) :
    Calls Tryd.prog 26 #[.int .u8 op, vInt a, vInt b] w fun e w' => e = .returned (vErr 11) ∧ Below w.heap.size w w' := by
  go_enter Tryd.func26, Tryd.ntmps26
  go_wp2_with fail
  refine (index_any _ _).mono ?_
  rintro e w1 ⟨rfl, rfl⟩
  go_wp2_with fail
  go_returns
  exact ⟨rfl, by go_grown⟩
set_option maxHeartbeats 800000 in
theorem arith_rem_zero (op a b : Int) (w : World) (hop : 0 ≤ opIx op) (h47 : (op == 47) = false) (h37 : (op == 37) = true) (hb0 : (b == 0) = true) :
    Calls Tryd.prog 26 #[.int .u8 op, vInt a, vInt b] w fun e w' => e = .returned (vErr 11) ∧ Below w.heap.size w w' := by
  go_enter Tryd.func26, Tryd.ntmps26
  go_wp2_with fail
  refine (index_any _ _).mono ?_
  rintro e w1 ⟨rfl, rfl⟩
  go_wp2_with fail
  go_returns
  exact ⟨rfl, by go_grown⟩
end Go.Proofs.YthjlfhkmbhcpaaaDoor
