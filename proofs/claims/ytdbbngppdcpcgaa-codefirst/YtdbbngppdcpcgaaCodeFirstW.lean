/-
  The walk of the law CodeFirst: called with whatever arguments, it returns true and touches nothing that was there. No condition.
-/
import Derived.Test.YtdbbngppdcpcgaaRows
import Derived.Test.YtdbbngppdcpcgaaKProof
import Derived.Test.YtdbbngppdcpcgaaCodeFirstM
namespace Go.Proofs.Ytdbbngppdcpcgaa.codeFirst
open Go.ChangeShapes Go.WideShapes Go.ChangeAt Go.RowKit

theorem walk (a0 : Option Addr) (len0 cap0 : Nat) (z0 : List Int) (w : World) (w0 : IsRow .u16 w a0 len0 cap0 z0) :
    Calls Try.prog 7 #[.slice a0 len0 cap0] w fun e w' => e = .returned (.bool true) ∧ Below w.heap.size w w' := by
  exact walkM kc a0 len0 cap0 z0 w w0

end Go.Proofs.Ytdbbngppdcpcgaa.codeFirst
