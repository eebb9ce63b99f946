/-
  The walk of the law HuffTells: called with whatever arguments, it returns true and touches nothing that was there. No condition.
-/
import Derived.Test.YtclfbdfgmeliaaaRows
import Derived.Test.YtclfbdfgmeliaaaHuffTellsM
import Derived.Test.YtclfbdfgmeliaaaJ9
namespace Go.Proofs.Ytclfbdfgmeliaaa.huffTells
open Go.ChangeShapes Go.WideShapes Go.ChangeAt Go.RowKit

theorem walk (a0 : Option Addr) (len0 cap0 : Nat) (z0 : List Int) (a1 : Option Addr) (len1 cap1 : Nat) (z1 : List Int) (a2 : Int) (a3 : Int) (a4 : Int) (a5 : Int) (w : World) (w0 : IsRow .u8 w a0 len0 cap0 z0) (w1 : IsRow .u8 w a1 len1 cap1 z1) (w2 : (Lit.int .u8 a2).wf = true) (w3 : (Lit.int .u8 a3).wf = true) (w4 : (Lit.int .u16 a4).wf = true) (w5 : (Lit.int .u8 a5).wf = true) :
    Calls Try.prog 3 #[.slice a0 len0 cap0, .slice a1 len1 cap1, .int .u8 a2, .int .u8 a3, .int .u16 a4, .int .u8 a5] w fun e w' => e = .returned (.bool true) ∧ Below w.heap.size w w' := by
  exact walkM hc a0 len0 cap0 z0 a1 len1 cap1 z1 a2 a3 a4 a5 w w0 w1 w2 w3 w4 w5

end Go.Proofs.Ytclfbdfgmeliaaa.huffTells
