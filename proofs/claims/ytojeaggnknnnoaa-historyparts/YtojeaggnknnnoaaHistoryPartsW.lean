/-
  The walk of the law HistoryParts: called with whatever arguments, it returns true and touches nothing that was there. No condition.
-/
import Derived.Test.YtojeaggnknnnoaaRows
import Derived.Test.YtojeaggnknnnoaaHiProof
import Derived.Test.YtojeaggnknnnoaaHistoryPartsM
namespace Go.Proofs.Ytojeaggnknnnoaa.historyParts
open Go.ChangeShapes Go.WideShapes Go.ChangeAt Go.RowKit

theorem walk (a0 : Int) (a1 : Option Addr) (len1 cap1 : Nat) (z1 : List Int) (a2 : Int) (a3 : Int) (a4 : Int) (a5 : Int) (a6 : Option Addr) (len6 cap6 : Nat) (w : World) (w0 : (Lit.int .u8 a0).wf = true) (w1 : IsRow .u8 w a1 len1 cap1 z1) (w2 : (Lit.int .u8 a2).wf = true) (w3 : (Lit.int .u8 a3).wf = true) (w4 : (Lit.int .u8 a4).wf = true) (w5 : (Lit.int .i64 a5).wf = true) (w6 : IsEvents w a6 len6 cap6) :
    Calls Try.prog 5 #[.int .u8 a0, .slice a1 len1 cap1, .int .u8 a2, .int .u8 a3, .int .u8 a4, .int .i64 a5, .slice a6 len6 cap6] w fun e w' => e = .returned (.bool true) ∧ Below w.heap.size w w' := by
  exact walkM hi a0 a1 len1 cap1 z1 a2 a3 a4 a5 a6 len6 cap6 w w0 w1 w2 w3 w4 w5 w6

end Go.Proofs.Ytojeaggnknnnoaa.historyParts
