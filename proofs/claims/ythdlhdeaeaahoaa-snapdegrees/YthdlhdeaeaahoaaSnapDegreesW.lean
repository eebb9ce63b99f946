/-
  The walk of the law SnapDegrees: called with whatever arguments, it returns true and touches nothing that was there. No condition.
-/
import Derived.Test.YthdlhdeaeaahoaaRows
import Derived.Test.YthdlhdeaeaahoaaSIProof
import Derived.Test.YthdlhdeaeaahoaaSnapDegreesM
import Derived.Test.YthdlhdeaeaahoaaXArg
import Derived.Test.YthdlhdeaeaahoaaEArg
namespace Go.Proofs.Ythdlhdeaeaahoaa.snapDegrees
open Go.ChangeShapes Go.WideShapes Go.ChangeAt Go.RowKit

theorem walk (a0 : Int) (a1 : Option Addr) (len1 cap1 : Nat) (z1 : List Int) (a2 : Int) (w : World) (w0 : (Lit.int .u8 a0).wf = true) (w1 : IsRow .u8 w a1 len1 cap1 z1) (w2 : (Lit.int .u8 a2).wf = true) :
    Calls Try.prog 6 #[.int .u8 a0, .slice a1 len1 cap1, .int .u8 a2] w fun e w' => e = .returned (.bool true) ∧ Below w.heap.size w w' := by
  exact walkM si a0 a1 len1 cap1 z1 a2 w w0 w1 w2

end Go.Proofs.Ythdlhdeaeaahoaa.snapDegrees
