/-
  The walk of the law ScanNumbers: called with whatever arguments, it returns true and touches nothing that was there. Its condition: the package-level variable strconv.ErrRange holds an error (hK).
-/
import Derived.Test.YtchkojdpnbecoaaDoorRows
import Derived.Test.YtchkojdpnbecoaaDoorQProof
import Derived.Test.YtchkojdpnbecoaaDoorScanNumbersM
namespace Go.Proofs.YtchkojdpnbecoaaDoor.scanNumbers
open Go.ChangeShapes Go.WideShapes Go.ChangeAt Go.RowKit

theorem walk (a0 : Int) (a1 : Int) (m2 : ByteArray) (w : World) (w0 : (Lit.int .u64 a0).wf = true) (w1 : (Lit.int .u8 a1).wf = true) (hK : KVar w) :
    Calls Tryd.prog 4 #[.int .u64 a0, .int .u8 a1, .string m2] w fun e w' => e = .returned (.bool true) ∧ Below w.heap.size w w' := by
  exact walkM ci a0 a1 m2 w w0 w1 hK

end Go.Proofs.YtchkojdpnbecoaaDoor.scanNumbers
