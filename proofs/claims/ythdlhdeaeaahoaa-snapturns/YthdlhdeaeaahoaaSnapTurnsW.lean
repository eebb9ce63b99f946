/-
  The walk of the law SnapTurns: called with whatever arguments, it returns true and touches nothing that was there. No condition.
-/
import Derived.Test.YthdlhdeaeaahoaaRows
import Derived.Test.YthdlhdeaeaahoaaSIProof
import Derived.Test.YthdlhdeaeaahoaaSnapTurnsM
import Derived.Test.YthdlhdeaeaahoaaXArg
import Derived.Test.YthdlhdeaeaahoaaEArg
namespace Go.Proofs.Ythdlhdeaeaahoaa.snapTurns
open Go.ChangeShapes Go.WideShapes Go.ChangeAt Go.RowKit

theorem walk (a0 : Option Addr) (len0 cap0 : Nat) (a1 : Int) (a2 : Option Addr) (len2 cap2 : Nat) (z2 : List Int) (a3 : Int) (a4 : Int) (a5 : Int) (a6 : Bool) (a7 : Int) (w : World) (w0 : IsEdges w a0 len0 cap0) (w1 : (Lit.int .u8 a1).wf = true) (w2 : IsRow .u8 w a2 len2 cap2 z2) (w3 : (Lit.int .u8 a3).wf = true) (w4 : (Lit.int .u8 a4).wf = true) (w5 : (Lit.int .u8 a5).wf = true) (w7 : (Lit.int .u32 a7).wf = true) :
    Calls Try.prog 4 #[.slice a0 len0 cap0, .int .u8 a1, .slice a2 len2 cap2, .int .u8 a3, .int .u8 a4, .int .u8 a5, .bool a6, .int .u32 a7] w fun e w' => e = .returned (.bool true) ∧ Below w.heap.size w w' := by
  exact walkM si a0 len0 cap0 a1 a2 len2 cap2 z2 a3 a4 a5 a6 a7 w w0 w1 w2 w3 w4 w5 w7

end Go.Proofs.Ythdlhdeaeaahoaa.snapTurns
