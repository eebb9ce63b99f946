/-
  The walk of the law EdgeNames: called with whatever arguments, it returns true and touches nothing that was there. No condition.
-/
import Derived.Test.YtgmancekamfinaaRows
import Derived.Test.YtgmancekamfinaaEdgeNamesM
import Derived.Test.YtgmancekamfinaaEProof
namespace Go.Proofs.Ytgmancekamfinaa.edgeNames
open Go.ChangeShapes Go.WideShapes Go.ChangeAt Go.RowKit

theorem walk (a0 : Int) (a1 : Int) (a2 : Int) (w0 : (Lit.int .u32 a0).wf = true) (w1 : (Lit.int .u32 a1).wf = true) (w2 : (Lit.int .u64 a2).wf = true) (w : World) :
    Calls Try.prog 6 #[.int .u32 a0, .int .u32 a1, .int .u64 a2] w fun e w' => e = .returned (.bool true) ∧ Below w.heap.size w w' := by
  exact walkM ec a0 a1 a2 w0 w1 w2 w

end Go.Proofs.Ytgmancekamfinaa.edgeNames
