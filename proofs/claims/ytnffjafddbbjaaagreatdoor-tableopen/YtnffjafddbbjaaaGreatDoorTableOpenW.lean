/-
  The walk of the law TableOpen: called with whatever arguments, it returns true and touches nothing that was there. Its condition: the package-level variable strconv.ErrRange holds an error, and the table of powers of ten what its text says (hK).
-/
import Derived.Test.YtnffjafddbbjaaaGreatDoorRows
import Derived.Test.YtnffjafddbbjaaaGreatDoorTbProof
import Derived.Test.YtnffjafddbbjaaaGreatDoorTableOpenM
namespace Go.Proofs.YtnffjafddbbjaaaGreatDoor.tableOpen
open Go.ChangeShapes Go.WideShapes Go.ChangeAt Go.RowKit

theorem walk (a0 : Int) (a1 : Int) (a2 : Int) (a3 : Bool) (w : World) (w0 : (Lit.int .u8 a0).wf = true) (w1 : (Lit.int .u8 a1).wf = true) (w2 : (Lit.int .u8 a2).wf = true) (hK : KBoth w) :
    Calls Tryz.prog 7 #[.int .u8 a0, .int .u8 a1, .int .u8 a2, .bool a3] w fun e w' => e = .returned (.bool true) ∧ Below w.heap.size w w' := by
  exact walkM ti a0 a1 a2 a3 w w0 w1 w2 hK

end Go.Proofs.YtnffjafddbbjaaaGreatDoor.tableOpen
