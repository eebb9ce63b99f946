/-
  The walk of the law CodeTexts: called with whatever arguments, it returns true and touches nothing that was there. No condition.
-/
import Derived.Test.YtdbbngppdcpcgaaRows
import Derived.Test.YtdbbngppdcpcgaaKProof
import Derived.Test.YtdbbngppdcpcgaaCodeTextsM
namespace Go.Proofs.Ytdbbngppdcpcgaa.codeTexts
open Go.ChangeShapes Go.WideShapes Go.ChangeAt Go.RowKit

theorem walk (a0 : Option Addr) (len0 cap0 : Nat) (z0 : List Int) (a1 : Option Addr) (len1 cap1 : Nat) (z1 : List Int) (w : World) (w0 : IsRow .u16 w a0 len0 cap0 z0) (w1 : IsRow .u8 w a1 len1 cap1 z1) :
    Calls Try.prog 6 #[.slice a0 len0 cap0, .slice a1 len1 cap1] w fun e w' => e = .returned (.bool true) ∧ Below w.heap.size w w' := by
  exact walkM kc a0 len0 cap0 z0 a1 len1 cap1 z1 w w0 w1

end Go.Proofs.Ytdbbngppdcpcgaa.codeTexts
