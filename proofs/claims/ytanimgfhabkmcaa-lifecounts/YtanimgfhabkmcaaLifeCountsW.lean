/-
  The walk of the law LifeCounts: called with whatever arguments, it returns true and touches nothing that was there. No condition.
-/
import Derived.Test.YtanimgfhabkmcaaRows
import Derived.Test.YtanimgfhabkmcaaLPOf
import Derived.Test.YtanimgfhabkmcaaLifeCountsM
import Derived.Test.YtanimgfhabkmcaaLArg
namespace Go.Proofs.Ytanimgfhabkmcaa.lifeCounts
open Go.ChangeShapes Go.WideShapes Go.ChangeAt Go.RowKit

theorem walk (a0 : Int) (a1 : Option Addr) (len1 cap1 : Nat) (z1 : List Int) (w : World) (w0 : (Lit.int .u8 a0).wf = true) (w1 : IsRow .u8 w a1 len1 cap1 z1) :
    Calls Try.prog 6 #[.int .u8 a0, .slice a1 len1 cap1] w fun e w' => e = .returned (.bool true) ∧ Below w.heap.size w w' := by
  exact walkM li a0 a1 len1 cap1 z1 w w0 w1

end Go.Proofs.Ytanimgfhabkmcaa.lifeCounts
