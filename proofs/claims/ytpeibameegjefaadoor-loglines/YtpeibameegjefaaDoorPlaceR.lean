/-
  What a parser answers, as values.
-/
import Derived.Test.YtpeibameegjefaaDoorJ2
import Derived.Test.YtpeibameegjefaaDoorXHist
namespace Go.Proofs.YtpeibameegjefaaDoor
open Go.RowKit

theorem results_cct {fn : Func} {p q u : Tmp} {ty ty' : TypeId} (h : fn.results = #[.cell p ty, .cell q ty', .tmp u]) {tmps : Array Value} {P : Program} {w : World} {b b' : Nat} {v v' : Value} (hp : tmps.getD p undef = .pointer (some ⟨b, 0, none⟩)) (hq : tmps.getD q undef = .pointer (some ⟨b', 0, none⟩)) (hl : (loadVar ty ⟨b, 0, none⟩).run P w = .ok v w) (hl' : (loadVar ty' ⟨b', 0, none⟩).run P w = .ok v' w) :
    (results fn tmps).run P w = .ok (.tuple #[v, v', tmps.getD u undef]) w := by
  have hp' : tmps[p]?.getD undef = .pointer (some ⟨b, 0, none⟩) := by rw [← hp]; simp
  have hq' : tmps[q]?.getD undef = .pointer (some ⟨b', 0, none⟩) := by rw [← hq]; simp
  simp only [results, h]
  simp [Sem.run_bind, asAddr, hp', hq', hl, hl', Result.andThen]
theorem placeSize2 : (Tryd.prog.info? 38).map (·.size) = some 2 := by kernel_rfl
/-- A log's answer, as values. -/
def placeR (R : LogR) : Value := .agg #[.int .i64 (R.line : Int), .int .i64 (R.col : Int)]

end Go.Proofs.YtpeibameegjefaaDoor
