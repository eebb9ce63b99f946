/-
  The walk of the law TablePrints: called with whatever arguments, it returns true and touches nothing that was there. Its condition: the package-level variable strconv.ErrRange holds an error, and the table of powers of ten what its text says (hK).
-/
import Derived.Test.YtnffjafddbbjaaaGreatDoorRows
import Derived.Test.YtnffjafddbbjaaaGreatDoorTbProof
import Derived.Test.YtnffjafddbbjaaaGreatDoorTablePrintsM
import Derived.Test.YtnffjafddbbjaaaGreatDoorJ10
namespace Go.Proofs.YtnffjafddbbjaaaGreatDoor.tablePrints
open Go.ChangeShapes Go.WideShapes Go.ChangeAt Go.RowKit

theorem walk (n0 : Nat) (a0 : Option Addr) (len0 cap0 : Nat) (a1 : Int) (a2 : Option Addr) (len2 cap2 : Nat) (z2 : List Int) (a3 : Int) (a4 : Int) (a5 : Int) (w : World) (w0 : n0 < 18446744073709551616 ∧ IsEvents w a0 len0 cap0) (w1 : (Lit.int .u8 a1).wf = true) (w2 : IsRow .u8 w a2 len2 cap2 z2) (w3 : (Lit.int .u8 a3).wf = true) (w4 : (Lit.int .u8 a4).wf = true) (w5 : (Lit.int .i64 a5).wf = true) (hK : KBoth w) :
    Calls Tryz.prog 3 #[histV n0 (.slice a0 len0 cap0), .int .u8 a1, .slice a2 len2 cap2, .int .u8 a3, .int .u8 a4, .int .i64 a5] w fun e w' => e = .returned (.bool true) ∧ Below w.heap.size w w' := by
  exact walkM ti n0 a0 len0 cap0 a1 a2 len2 cap2 z2 a3 a4 a5 w w0 w1 w2 w3 w4 w5 hK

end Go.Proofs.YtnffjafddbbjaaaGreatDoor.tablePrints
