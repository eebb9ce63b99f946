/-
  The walk of the law TableReads: called with whatever arguments, it returns true and touches nothing that was there. Its condition: the package-level variable strconv.ErrRange holds an error, and the table of powers of ten what its text says (hK).
-/
import Derived.Test.YtnffjafddbbjaaaGreatDoorRows
import Derived.Test.YtnffjafddbbjaaaGreatDoorTbProof
import Derived.Test.YtnffjafddbbjaaaGreatDoorTableReadsM
namespace Go.Proofs.YtnffjafddbbjaaaGreatDoor.tableReads
open Go.ChangeShapes Go.WideShapes Go.ChangeAt Go.RowKit

theorem walk (m0 : ByteArray) (a1 : Option Addr) (len1 cap1 : Nat) (z1 : List Int) (a2 : Int) (a3 : Option Addr) (len3 cap3 : Nat) (z3 : List Int) (a4 : Int) (a5 : Int) (a6 : Int) (m7 : ByteArray) (w : World) (w1 : IsRow .u8 w a1 len1 cap1 z1) (w2 : (Lit.int .u8 a2).wf = true) (w3 : IsRow .u8 w a3 len3 cap3 z3) (w4 : (Lit.int .u8 a4).wf = true) (w5 : (Lit.int .u16 a5).wf = true) (w6 : (Lit.int .u8 a6).wf = true) (hK : KBoth w) :
    Calls Tryz.prog 4 #[.string m0, .slice a1 len1 cap1, .int .u8 a2, .slice a3 len3 cap3, .int .u8 a4, .int .u16 a5, .int .u8 a6, .string m7] w fun e w' => e = .returned (.bool true) ∧ Below w.heap.size w w' := by
  exact walkM ti m0 a1 len1 cap1 z1 a2 a3 len3 cap3 z3 a4 a5 a6 m7 w w1 w2 w3 w4 w5 w6 hK

end Go.Proofs.YtnffjafddbbjaaaGreatDoor.tableReads
