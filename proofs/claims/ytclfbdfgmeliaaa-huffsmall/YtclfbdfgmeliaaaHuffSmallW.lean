/-
  The walk of the law HuffSmall: called with whatever arguments, it returns true and touches nothing that was there. No condition.
-/
import Derived.Test.YtclfbdfgmeliaaaRows
import Derived.Test.YtclfbdfgmeliaaaHuffSmallM
import Derived.Test.YtclfbdfgmeliaaaJ9
namespace Go.Proofs.Ytclfbdfgmeliaaa.huffSmall
open Go.ChangeShapes Go.WideShapes Go.ChangeAt Go.RowKit

theorem walk (a0 : Int) (a1 : Int) (a2 : Int) (w0 : (Lit.int .u16 a0).wf = true) (w1 : (Lit.int .u8 a1).wf = true) (w2 : (Lit.int .u8 a2).wf = true) (w : World) :
    Calls Try.prog 5 #[.int .u16 a0, .int .u8 a1, .int .u8 a2] w fun e w' => e = .returned (.bool true) ∧ Below w.heap.size w w' := by
  exact walkM hc a0 a1 a2 w0 w1 w2 w

end Go.Proofs.Ytclfbdfgmeliaaa.huffSmall
