/-
  The walk of the law TableLines: called with whatever arguments, it returns true and touches nothing that was there. Its condition: the package-level variable strconv.ErrRange holds an error, and the table of powers of ten what its text says (hK).
-/
import Derived.Test.YtnffjafddbbjaaaGreatDoorRows
import Derived.Test.YtnffjafddbbjaaaGreatDoorTbProof
import Derived.Test.YtnffjafddbbjaaaGreatDoorTableLinesM
namespace Go.Proofs.YtnffjafddbbjaaaGreatDoor.tableLines
open Go.ChangeShapes Go.WideShapes Go.ChangeAt Go.RowKit

theorem walk (a0 : Int) (a1 : Option Addr) (len1 cap1 : Nat) (z1 : List Int) (a2 : Int) (a3 : Int) (w : World) (w0 : (Lit.int .u8 a0).wf = true) (w1 : IsRow .u8 w a1 len1 cap1 z1) (w2 : (Lit.int .u8 a2).wf = true) (w3 : (Lit.int .u8 a3).wf = true) (hK : KBoth w) :
    Calls Tryz.prog 6 #[.int .u8 a0, .slice a1 len1 cap1, .int .u8 a2, .int .u8 a3] w fun e w' => e = .returned (.bool true) ∧ Below w.heap.size w w' := by
  exact walkM ti a0 a1 len1 cap1 z1 a2 a3 w w0 w1 w2 w3 hK

end Go.Proofs.YtnffjafddbbjaaaGreatDoor.tableLines
