/-
  The fixed example's expressions, and what they come to.
-/
import Derived.Test.YtpohofcfmllghaaDoorEStrip
namespace Go.Proofs.YtpohofcfmllghaaDoor
open Go.RowKit

def csA : List (ByteArray × Int) := [(⟨#[97]⟩, 1)]
def colA : XT := .mk 1 ⟨#[97]⟩ (0, 0, ⟨#[]⟩) ⟨#[]⟩ none 0 []
def cstX (n : Int) : XT := .mk 2 ⟨#[]⟩ (1, n, ⟨#[]⟩) ⟨#[]⟩ none 0 []
def binX (o : ByteArray) (x y : XT) : XT := .mk 4 ⟨#[]⟩ (0, 0, ⟨#[]⟩) o none 0 [x, y]
def awX1 : XT := binX ⟨#[43]⟩ colA (cstX 1)
def awX2 : XT := .mk 5 ⟨#[105, 102]⟩ (0, 0, ⟨#[]⟩) ⟨#[]⟩ none 0 [binX ⟨#[62]⟩ colA (cstX 1), binX ⟨#[47]⟩ (cstX 1) (cstX 0), cstX 5]
theorem aw1 : evalTop csA [(1, 2, ⟨#[]⟩)] awX1 = ((1, 3, ⟨#[]⟩), 0) := by kernel_rfl
theorem aw2 : evalTop csA [(1, 1, ⟨#[]⟩)] awX2 = ((1, 5, ⟨#[]⟩), 0) := by kernel_rfl
end Go.Proofs.YtpohofcfmllghaaDoor
