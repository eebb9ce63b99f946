/-
  The walk of the law TableCuts: called with whatever arguments, it returns true and touches nothing that was there. Its condition: the package-level variable strconv.ErrRange holds an error, and the table of powers of ten what its text says (hK).
-/
import Derived.Test.YtnffjafddbbjaaaGreatDoorRows
import Derived.Test.YtnffjafddbbjaaaGreatDoorTbProof
import Derived.Test.YtnffjafddbbjaaaGreatDoorTableCutsM
namespace Go.Proofs.YtnffjafddbbjaaaGreatDoor.tableCuts
open Go.ChangeShapes Go.WideShapes Go.ChangeAt Go.RowKit

theorem walk (a0 : Int) (a1 : Option Addr) (len1 cap1 : Nat) (z1 : List Int) (a2 : Int) (w : World) (w0 : (Lit.int .u8 a0).wf = true) (w1 : IsRow .u8 w a1 len1 cap1 z1) (w2 : (Lit.int .u16 a2).wf = true) (hK : KBoth w) :
    Calls Tryz.prog 5 #[.int .u8 a0, .slice a1 len1 cap1, .int .u16 a2] w fun e w' => e = .returned (.bool true) ∧ Below w.heap.size w w' := by
  exact walkM ti a0 a1 len1 cap1 z1 a2 w w0 w1 w2 hK

end Go.Proofs.YtnffjafddbbjaaaGreatDoor.tableCuts
