/-
  The walk of the law LifeTouch: called with whatever arguments, it returns true and touches nothing that was there. No condition.
-/
import Derived.Test.YtanimgfhabkmcaaRows
import Derived.Test.YtanimgfhabkmcaaLPOf
import Derived.Test.YtanimgfhabkmcaaLifeTouchM
import Derived.Test.YtanimgfhabkmcaaLArg
namespace Go.Proofs.Ytanimgfhabkmcaa.lifeTouch
open Go.ChangeShapes Go.WideShapes Go.ChangeAt Go.RowKit

theorem walk (a0 : Int) (a1 : Int) (a2 : Int) (a3 : Int) (a4 : Bool) (w : World) (w0 : (Lit.int .u8 a0).wf = true) (w1 : (Lit.int .u8 a1).wf = true) (w2 : (Lit.int .u8 a2).wf = true) (w3 : (Lit.int .u8 a3).wf = true) :
    Calls Try.prog 7 #[.int .u8 a0, .int .u8 a1, .int .u8 a2, .int .u8 a3, .bool a4] w fun e w' => e = .returned (.bool true) ∧ Below w.heap.size w w' := by
  exact walkM li a0 a1 a2 a3 a4 w w0 w1 w2 w3

end Go.Proofs.Ytanimgfhabkmcaa.lifeTouch
