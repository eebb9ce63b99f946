/-
  The walk of the law LogTies: called with whatever arguments, it returns true and touches nothing that was there. Its condition: the package-level variable strconv.ErrRange holds an error, and the table of powers of ten what its text says (hK).
-/
import Derived.Test.YtpeibameegjefaaDoorRows
import Derived.Test.YtpeibameegjefaaDoorFProof
import Derived.Test.YtpeibameegjefaaDoorLogTiesM
namespace Go.Proofs.YtpeibameegjefaaDoor.logTies
open Go.ChangeShapes Go.WideShapes Go.ChangeAt Go.RowKit

theorem walk (a0 : Int) (a1 : Int) (a2 : Int) (a3 : Int) (a4 : Int) (w : World) (w0 : (Lit.int .u8 a0).wf = true) (w1 : (Lit.int .u8 a1).wf = true) (w2 : (Lit.int .u8 a2).wf = true) (w3 : (Lit.int .u8 a3).wf = true) (w4 : (Lit.int .u8 a4).wf = true) (hK : KBoth w) :
    Calls Tryd.prog 7 #[.int .u8 a0, .int .u8 a1, .int .u8 a2, .int .u8 a3, .int .u8 a4] w fun e w' => e = .returned (.bool true) ∧ Below w.heap.size w w' := by
  exact walkM fi a0 a1 a2 a3 a4 w w0 w1 w2 w3 w4 hK

end Go.Proofs.YtpeibameegjefaaDoor.logTies
