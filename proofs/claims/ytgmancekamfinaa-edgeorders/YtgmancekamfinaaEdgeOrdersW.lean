/-
  The walk of the law EdgeOrders: called with whatever arguments, it returns true and touches nothing that was there. No condition.
-/
import Derived.Test.YtgmancekamfinaaRows
import Derived.Test.YtgmancekamfinaaEdgeOrdersM
import Derived.Test.YtgmancekamfinaaEProof
namespace Go.Proofs.Ytgmancekamfinaa.edgeOrders
open Go.ChangeShapes Go.WideShapes Go.ChangeAt Go.RowKit

theorem walk (a0 : Option Addr) (len0 cap0 : Nat) (a1 : Option Addr) (len1 cap1 : Nat) (z1 : List Int) (a2 : Int) (a3 : Int) (a4 : Int) (w : World) (w0 : IsEdges w a0 len0 cap0) (w1 : IsRow .i64 w a1 len1 cap1 z1) (w2 : (Lit.int .u8 a2).wf = true) (w3 : (Lit.int .u8 a3).wf = true) (w4 : (Lit.int .u8 a4).wf = true) :
    Calls Try.prog 5 #[.slice a0 len0 cap0, .slice a1 len1 cap1, .int .u8 a2, .int .u8 a3, .int .u8 a4] w fun e w' => e = .returned (.bool true) ∧ Below w.heap.size w w' := by
  exact walkM ec a0 len0 cap0 a1 len1 cap1 z1 a2 a3 a4 w w0 w1 w2 w3 w4

end Go.Proofs.Ytgmancekamfinaa.edgeOrders
