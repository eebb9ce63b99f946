/-
  The walk of the law HuffAll: called with whatever arguments, it returns true and touches nothing that was there. No condition.
-/
import Derived.Test.YtclfbdfgmeliaaaRows
import Derived.Test.YtclfbdfgmeliaaaHuffAllM
import Derived.Test.YtclfbdfgmeliaaaJ9
namespace Go.Proofs.Ytclfbdfgmeliaaa.huffAll
open Go.ChangeShapes Go.WideShapes Go.ChangeAt Go.RowKit

theorem walk (a0 : Int) (a1 : Int) (w0 : (Lit.int .u8 a0).wf = true) (w1 : (Lit.int .u8 a1).wf = true) (w : World) :
    Calls Try.prog 7 #[.int .u8 a0, .int .u8 a1] w fun e w' => e = .returned (.bool true) ∧ Below w.heap.size w w' := by
  exact walkM hc a0 a1 w0 w1 w

end Go.Proofs.Ytclfbdfgmeliaaa.huffAll
