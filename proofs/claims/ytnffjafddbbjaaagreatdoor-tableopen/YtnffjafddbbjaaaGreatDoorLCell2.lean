/-
  A function's two results: one that is read off a block, one told.
-/
import Derived.Test.YtnffjafddbbjaaaGreatDoorJ1
namespace Go.Proofs.YtnffjafddbbjaaaGreatDoor
open Go.RowKit

theorem results_cell2 {fn : Func} {p q : Tmp} {ty : TypeId} (h : fn.results = #[.cell p ty, .tmp q]) {tmps : Array Value} {P : Program} {w : World} {b o : Nat} {v u : Value} (hp : tmps.getD p undef = .pointer (some ⟨b, o, none⟩)) (hu : tmps.getD q undef = u) (hl : (loadVar ty ⟨b, o, none⟩).run P w = .ok v w) :
    (results fn tmps).run P w = .ok (.tuple #[v, u]) w := by
  have hp' : tmps[p]?.getD undef = .pointer (some ⟨b, o, none⟩) := by rw [← hp]; simp
  have hu' : tmps[q]?.getD undef = u := by rw [← hu]; simp
  simp [results, h, asAddr, hp', hu', hl]

end Go.Proofs.YtnffjafddbbjaaaGreatDoor
