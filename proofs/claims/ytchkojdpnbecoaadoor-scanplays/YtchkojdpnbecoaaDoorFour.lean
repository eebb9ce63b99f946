/-
  A block of four cells, one of them written.
-/
import Derived.Test.YtchkojdpnbecoaaDoorMem
namespace Go.Proofs.YtchkojdpnbecoaaDoor
open Go.RowKit

theorem four_setA {w : World} {b : Nat} {x0 x1 x2 x3 u : Value} {T : TypeId} (h : w.heap[b]? = some (.cells #[x0, x1, x2, x3] T (0, 0))) : (w.setCell ⟨b, 0, none⟩ u).heap[b]? = some (.cells #[u, x1, x2, x3] T (0, 0)) := by
  have := heap_setCell_same w b 0 #[x0, x1, x2, x3] T u h
  simpa using this
theorem four_setB {w : World} {b : Nat} {x0 x1 x2 x3 u : Value} {T : TypeId} (h : w.heap[b]? = some (.cells #[x0, x1, x2, x3] T (0, 0))) : (w.setCell ⟨b, 1, none⟩ u).heap[b]? = some (.cells #[x0, u, x2, x3] T (0, 0)) := by
  have := heap_setCell_same w b 1 #[x0, x1, x2, x3] T u h
  simpa using this
theorem four_setC {w : World} {b : Nat} {x0 x1 x2 x3 u : Value} {T : TypeId} (h : w.heap[b]? = some (.cells #[x0, x1, x2, x3] T (0, 0))) : (w.setCell ⟨b, 2, none⟩ u).heap[b]? = some (.cells #[x0, x1, u, x3] T (0, 0)) := by
  have := heap_setCell_same w b 2 #[x0, x1, x2, x3] T u h
  simpa using this
theorem four_setD {w : World} {b : Nat} {x0 x1 x2 x3 u : Value} {T : TypeId} (h : w.heap[b]? = some (.cells #[x0, x1, x2, x3] T (0, 0))) : (w.setCell ⟨b, 3, none⟩ u).heap[b]? = some (.cells #[x0, x1, x2, u] T (0, 0)) := by
  have := heap_setCell_same w b 3 #[x0, x1, x2, x3] T u h
  simpa using this

end Go.Proofs.YtchkojdpnbecoaaDoor
