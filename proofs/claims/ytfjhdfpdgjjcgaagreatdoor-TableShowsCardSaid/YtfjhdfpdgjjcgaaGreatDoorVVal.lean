/-
  Values made: of a number, of a text; 64-bit numbers; a Builder's WriteByte without what it keeps.
-/
import Derived.Test.YtfjhdfpdgjjcgaaGreatDoorSText
import Derived.Test.YtfjhdfpdgjjcgaaGreatDoorSBuild
import Derived.Test.YtfjhdfpdgjjcgaaGreatDoorSHolds
namespace Go.Proofs.YtfjhdfpdgjjcgaaGreatDoor
open Go.RowKit

/-- x is an int of 64 bits. -/
def I64 (x : Int) : Prop := -9223372036854775808 ≤ x ∧ x ≤ 9223372036854775807
instance I64.dec (x : Int) : Decidable (I64 x) := by unfold I64; infer_instance
abbrev vInt (n : Int) : Value := .agg #[.int .i64 1, .int .i64 n, .string ⟨#[]⟩]
abbrev vNull : Value := .agg #[.int .i64 0, .int .i64 0, .string ⟨#[]⟩]
theorem of_any (n : Int) (w : World) : Calls Tryz.prog 25 #[.int .i64 n] w fun e w' => e = .returned (vInt n) ∧ Below w.heap.size w w' := by
  go_enter Tryz.func25, Tryz.ntmps25
  go_wp2
  go_returns
  exact ⟨rfl, by go_grown⟩
theorem writeByteV_any (B b : Nat) (l : List UInt8) (c : UInt8) (w : World) (h : Holds B b l w) (hlen : l.length + 1 ≤ 140737488355328) (hBw : B ≤ w.heap.size) :
    Calls Tryz.prog 59 #[.pointer (some ⟨b, 0, none⟩), .int .u8 c.toNat] w fun e w' => e = .returned .nilIface ∧ Holds B b (l ++ [c]) w' ∧ Below B w w' :=
  (writeByte_any B b l c w h hlen hBw).mono fun _ _ ⟨a, b, c, _⟩ => ⟨a, b, c⟩
theorem toList_of (l : List UInt8) : (⟨l.toArray⟩ : ByteArray).toList = l := by rw [Lib.toList_data, list_of]
end Go.Proofs.YtfjhdfpdgjjcgaaGreatDoor
