/-
  The walk of the law LifeThere: called with whatever arguments, it returns true and touches nothing that was there. No condition.
-/
import Derived.Test.YtanimgfhabkmcaaRows
import Derived.Test.YtanimgfhabkmcaaLPOf
import Derived.Test.YtanimgfhabkmcaaLifeThereM
import Derived.Test.YtanimgfhabkmcaaLArg
namespace Go.Proofs.Ytanimgfhabkmcaa.lifeThere
open Go.ChangeShapes Go.WideShapes Go.ChangeAt Go.RowKit

theorem walk (a0 : Int) (a1 : Option Addr) (len1 cap1 : Nat) (z1 : List Int) (a2 : Int) (u3 y3 : Nat) (f3 g3 : Int) (a4 : Int) (w : World) (w0 : (Lit.int .u8 a0).wf = true) (w1 : IsRow .u8 w a1 len1 cap1 z1) (w2 : (Lit.int .u8 a2).wf = true) (w3 : LfFit ((u3, y3), f3, g3)) (w4 : (Lit.int .i64 a4).wf = true) :
    Calls Try.prog 5 #[.int .u8 a0, .slice a1 len1 cap1, .int .u8 a2, lifeV ((u3, y3), f3, g3), .int .i64 a4] w fun e w' => e = .returned (.bool true) ∧ Below w.heap.size w w' := by
  exact walkM li a0 a1 len1 cap1 z1 a2 u3 y3 f3 g3 a4 w w0 w1 w2 w3 w4

end Go.Proofs.Ytanimgfhabkmcaa.lifeThere
