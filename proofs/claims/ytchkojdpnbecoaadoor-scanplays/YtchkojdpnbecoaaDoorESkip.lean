/-
  A drawn region walked by a tree: a call under a guard that isn't wanted. No program is named here.
-/
import Derived.Test.YtchkojdpnbecoaaDoorTree
namespace Go.Proofs.YtchkojdpnbecoaaDoor
open Go.RowKit

theorem wpT_skip {P : Program} {Q : Exit → Act → World → Prop} {T : Nat → Prop} {l : List Oper} {k : Nat} {s : Sch} {o : Oper} {a : Act} {w : World} (ho : l[k]? = some o) (hw : Region.wanted o (yielded l.toArray a.tmps) = false)
    (h : wpT P l.toArray Q T s (a.put o.dst undef) w) : wpT P l.toArray Q T (.one k s) a w := by
  have ho' : l.toArray[k]? = some o := by simpa using ho
  show wpOp P l.toArray (NoPanic Q) k (fun a' w' => Fr w w' T ∧ wpT P l.toArray Q T s a' w') a w
  unfold wpOp
  simp only [ho', hw]
  exact ⟨Fr.refl _ _, h⟩

end Go.Proofs.YtchkojdpnbecoaaDoor
