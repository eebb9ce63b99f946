/-
  The bits of a symbol: plain mathematics, no program (for a seat without the reference's PutCode).
-/
import Derived.Test.YtclfbdfgmeliaaaRCodes
import Derived.Test.YtclfbdfgmeliaaaBRefPut
import Derived.Test.YtclfbdfgmeliaaaTree
namespace Go.Proofs.Ytclfbdfgmeliaaa
open Go.RowKit

/-- Has a code. -/
def hasCode (l : List Nat) (s : Int) : Bool := decide (0 ≤ s ∧ 0 < ln l s.toNat)
/-- The bits of a symbol; none of one without a code. -/
def codeBits (l : List Nat) (s : Int) : List Bool := if hasCode l s = true then putBits (codeOf l s.toNat) (ln l s.toNat) else []

end Go.Proofs.Ytclfbdfgmeliaaa
