import Derived.Test.YtcckhngbdoiikaaN12
import Derived.Test.YtcckhngbdoiikaaN03
import Derived.Laws.IdiomStrings

namespace Go.Proofs.Ytcckhngbdoiikaa
open Go.RowKit Go.Deep
set_option linter.unusedVariables false

/-- A list of numbers as a string's bytes. -/
def bytesOf (l : List Nat) : ByteArray := ⟨(l.map UInt8.ofNat).toArray⟩
theorem bytesOf_size (l : List Nat) : (bytesOf l).size = l.length := by simp [bytesOf, ByteArray.size]

end Go.Proofs.Ytcckhngbdoiikaa
