/-
  The walk of the law HuffBack: called with whatever arguments, it returns true and touches nothing that was there. No condition.
-/
import Derived.Test.YtclfbdfgmeliaaaRows
import Derived.Test.YtclfbdfgmeliaaaHuffBackM
import Derived.Test.YtclfbdfgmeliaaaJ9
namespace Go.Proofs.Ytclfbdfgmeliaaa.huffBack
open Go.ChangeShapes Go.WideShapes Go.ChangeAt Go.RowKit

theorem walk (a0 : Option Addr) (len0 cap0 : Nat) (z0 : List Int) (a1 : Int) (a2 : Int) (a3 : Option Addr) (len3 cap3 : Nat) (z3 : List Int) (w : World) (w0 : IsRow .u8 w a0 len0 cap0 z0) (w1 : (Lit.int .u8 a1).wf = true) (w2 : (Lit.int .u16 a2).wf = true) (w3 : IsRow .u8 w a3 len3 cap3 z3) :
    Calls Try.prog 4 #[.slice a0 len0 cap0, .int .u8 a1, .int .u16 a2, .slice a3 len3 cap3] w fun e w' => e = .returned (.bool true) ∧ Below w.heap.size w w' := by
  exact walkM hc a0 len0 cap0 z0 a1 a2 a3 len3 cap3 z3 w w0 w1 w2 w3

end Go.Proofs.Ytclfbdfgmeliaaa.huffBack
