/-
  The walk of the law ScanPlaces: called with whatever arguments, it returns true and touches nothing that was there. Its condition: the package-level variable strconv.ErrRange holds an error (hK).
-/
import Derived.Test.YtchkojdpnbecoaaDoorRows
import Derived.Test.YtchkojdpnbecoaaDoorQProof
import Derived.Test.YtchkojdpnbecoaaDoorScanPlacesM
namespace Go.Proofs.YtchkojdpnbecoaaDoor.scanPlaces
open Go.ChangeShapes Go.WideShapes Go.ChangeAt Go.RowKit

theorem walk (a0 : Option Addr) (len0 cap0 : Nat) (z0 : List Int) (w : World) (w0 : IsRow .u8 w a0 len0 cap0 z0) (hK : KVar w) :
    Calls Tryd.prog 5 #[.slice a0 len0 cap0] w fun e w' => e = .returned (.bool true) ∧ Below w.heap.size w w' := by
  exact walkM ci a0 len0 cap0 z0 w w0 hK

end Go.Proofs.YtchkojdpnbecoaaDoor.scanPlaces
