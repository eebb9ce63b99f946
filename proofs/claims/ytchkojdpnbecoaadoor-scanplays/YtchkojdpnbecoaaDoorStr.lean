/-
  A slice of bytes as a string.
-/
import Derived.Test.YtchkojdpnbecoaaDoorRows
import Derived.Test.YtchkojdpnbecoaaDoorMem
import Derived.WalkLawsBesides
namespace Go.Proofs.YtchkojdpnbecoaaDoor
open Go.RowKit

/-- Bytes as a string. -/
def strOf (bs : List Nat) : ByteArray := strOfNums (bs.map fun (b : Nat) => (b : Int))

theorem conv_reads {w : World} {v : Value} {bs : List Nat} (h : Reads .u8 w v bs) : (convert 22 9 v).run Tryd.prog w = .ok (.string (strOf bs)) w := by
  obtain ⟨ao, cap, rfl, hlc, hc⟩ := h
  rw [length_row] at hlc hc ⊢
  by_cases h0 : 0 < bs.length
  · obtain ⟨b, off, rfl, hcell⟩ := hc h0
    refine run_convert_bytes_arg w 22 5 Tryd.underlying22 Tryd.underlying5 b off bs.length cap _ (by simp) (fun i hi => ?_) 9 Tryd.underlying9
    rw [hcell i _ (row_get .u8 bs i hi)]
    simp [List.getD_eq_getElem?_getD, hi]
  · have e : bs = [] := List.eq_nil_of_length_eq_zero (by omega)
    subst e
    rw [run_convert_bytes_string w 22 9 5 _ _ cap Tryd.underlying22 Tryd.underlying5 Tryd.underlying9]
    cases ao with
    | none => simp [Conv.bytesToString, strOf, strOfNums]; rfl
    | some a =>
      have := run_bytesToString (P := Tryd.prog) w a 0 cap [] (by simp [loadCells, loadCellsFrom])
      exact this

end Go.Proofs.YtchkojdpnbecoaaDoor
