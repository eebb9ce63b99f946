/-
  The walk of the law CodePlays: called with whatever arguments, it returns true and touches nothing that was there. No condition.
-/
import Derived.Test.YtdbbngppdcpcgaaRows
import Derived.Test.YtdbbngppdcpcgaaKProof
import Derived.Test.YtdbbngppdcpcgaaCodePlaysM
namespace Go.Proofs.Ytdbbngppdcpcgaa.codePlays
open Go.ChangeShapes Go.WideShapes Go.ChangeAt Go.RowKit

theorem walk (a0 : Option Addr) (len0 cap0 : Nat) (z0 : List Int) (a1 : Option Addr) (len1 cap1 : Nat) (z1 : List Int) (a2 : Option Addr) (len2 cap2 : Nat) (z2 : List Int) (a3 : Int) (w : World) (w0 : IsRow .u16 w a0 len0 cap0 z0) (w1 : IsRow .i64 w a1 len1 cap1 z1) (w2 : IsRow .u8 w a2 len2 cap2 z2) (w3 : (Lit.int .u8 a3).wf = true) :
    Calls Try.prog 4 #[.slice a0 len0 cap0, .slice a1 len1 cap1, .slice a2 len2 cap2, .int .u8 a3] w fun e w' => e = .returned (.bool true) ∧ Below w.heap.size w w' := by
  exact walkM kc a0 len0 cap0 z0 a1 len1 cap1 z1 a2 len2 cap2 z2 a3 w w0 w1 w2 w3

end Go.Proofs.Ytdbbngppdcpcgaa.codePlays
