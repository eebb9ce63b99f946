/-
  The walk of the law EdgeTells: called with whatever arguments, it returns true and touches nothing that was there. No condition.
-/
import Derived.Test.YtgmancekamfinaaRows
import Derived.Test.YtgmancekamfinaaEdgeTellsM
import Derived.Test.YtgmancekamfinaaEProof
namespace Go.Proofs.Ytgmancekamfinaa.edgeTells
open Go.ChangeShapes Go.WideShapes Go.ChangeAt Go.RowKit

theorem walk (a0 : Int) (a1 : Int) (a2 : Int) (a3 : Int) (a4 : Int) (a5 : Bool) (w0 : (Lit.int .u32 a0).wf = true) (w1 : (Lit.int .u32 a1).wf = true) (w2 : (Lit.int .u32 a2).wf = true) (w3 : (Lit.int .u32 a3).wf = true) (w4 : (Lit.int .u64 a4).wf = true) (w : World) :
    Calls Try.prog 3 #[.int .u32 a0, .int .u32 a1, .int .u32 a2, .int .u32 a3, .int .u64 a4, .bool a5] w fun e w' => e = .returned (.bool true) ∧ Below w.heap.size w w' := by
  exact walkM ec a0 a1 a2 a3 a4 a5 w0 w1 w2 w3 w4 w

end Go.Proofs.Ytgmancekamfinaa.edgeTells
