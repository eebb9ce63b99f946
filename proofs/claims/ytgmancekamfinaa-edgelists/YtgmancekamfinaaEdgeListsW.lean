/-
  The walk of the law EdgeLists: called with whatever arguments, it returns true and touches nothing that was there. No condition.
-/
import Derived.Test.YtgmancekamfinaaRows
import Derived.Test.YtgmancekamfinaaEdgeListsM
import Derived.Test.YtgmancekamfinaaEProof
namespace Go.Proofs.Ytgmancekamfinaa.edgeLists
open Go.ChangeShapes Go.WideShapes Go.ChangeAt Go.RowKit

theorem walk (a0 : Option Addr) (len0 cap0 : Nat) (t1 : Int) (u1 y1 : Nat) (b1 : Bool) (t2 : Int) (u2 y2 : Nat) (b2 : Bool) (a3 : Int) (w : World) (w0 : IsEdges w a0 len0 cap0) (w1 : (Lit.int .i64 t1).wf = true ∧ u1 < 4294967296 ∧ y1 < 4294967296) (w2 : (Lit.int .i64 t2).wf = true ∧ u2 < 4294967296 ∧ y2 < 4294967296) (w3 : (Lit.int .u8 a3).wf = true) :
    Calls Try.prog 4 #[.slice a0 len0 cap0, eventV t1 (u1, y1) b1, eventV t2 (u2, y2) b2, .int .u8 a3] w fun e w' => e = .returned (.bool true) ∧ Below w.heap.size w w' := by
  exact walkM ec a0 len0 cap0 t1 u1 y1 b1 t2 u2 y2 b2 a3 w w0 w1 w2 w3

end Go.Proofs.Ytgmancekamfinaa.edgeLists
