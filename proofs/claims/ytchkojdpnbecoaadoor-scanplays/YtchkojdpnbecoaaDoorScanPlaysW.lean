/-
  The walk of the law ScanPlays: called with whatever arguments, it returns true and touches nothing that was there. Its condition: the package-level variable strconv.ErrRange holds an error (hK).
-/
import Derived.Test.YtchkojdpnbecoaaDoorRows
import Derived.Test.YtchkojdpnbecoaaDoorQProof
import Derived.Test.YtchkojdpnbecoaaDoorScanPlaysM
namespace Go.Proofs.YtchkojdpnbecoaaDoor.scanPlays
open Go.ChangeShapes Go.WideShapes Go.ChangeAt Go.RowKit

theorem walk (m0 : ByteArray) (a1 : Option Addr) (len1 cap1 : Nat) (z1 : List Int) (a2 : Option Addr) (len2 cap2 : Nat) (w : World) (w1 : IsRow .u8 w a1 len1 cap1 z1) (w2 : IsActs w a2 len2 cap2) (hK : KVar w) :
    Calls Tryd.prog 3 #[.string m0, .slice a1 len1 cap1, .slice a2 len2 cap2] w fun e w' => e = .returned (.bool true) ∧ Below w.heap.size w w' := by
  exact walkM ci m0 a1 len1 cap1 z1 a2 len2 cap2 w w1 w2 hK

end Go.Proofs.YtchkojdpnbecoaaDoor.scanPlays
