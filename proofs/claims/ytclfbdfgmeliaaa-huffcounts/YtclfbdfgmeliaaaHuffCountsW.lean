/-
  The walk of the law HuffCounts: called with whatever arguments, it returns true and touches nothing that was there. No condition.
-/
import Derived.Test.YtclfbdfgmeliaaaRows
import Derived.Test.YtclfbdfgmeliaaaHuffCountsM
import Derived.Test.YtclfbdfgmeliaaaJ9
namespace Go.Proofs.Ytclfbdfgmeliaaa.huffCounts
open Go.ChangeShapes Go.WideShapes Go.ChangeAt Go.RowKit

theorem walk (a0 : Option Addr) (len0 cap0 : Nat) (z0 : List Int) (a1 : Int) (a2 : Int) (w : World) (w0 : IsRow .u8 w a0 len0 cap0 z0) (w1 : (Lit.int .u8 a1).wf = true) (w2 : (Lit.int .u8 a2).wf = true) :
    Calls Try.prog 6 #[.slice a0 len0 cap0, .int .u8 a1, .int .u8 a2] w fun e w' => e = .returned (.bool true) ∧ Below w.heap.size w w' := by
  exact walkM hc a0 len0 cap0 z0 a1 a2 w w0 w1 w2

end Go.Proofs.Ytclfbdfgmeliaaa.huffCounts
